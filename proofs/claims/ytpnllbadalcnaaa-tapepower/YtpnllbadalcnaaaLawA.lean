/-
  What the laws share: a read of a tape with power for ever, its length known; a step on one tape and what lies beside it; Is and Long decided.
-/
import Derived.Test.YtpnllbadalcnaaaFree
namespace Go.Proofs.Ytpnllbadalcnaaa
open Go.RowKit
/-- so many bytes in new memory, and an error -/
def GotN (w : World) (n : Nat) (L : List UInt8) (E : Int) (e : Ending) (w' : World) : Prop := ∃ A c, e = .returned (.tuple #[.slice A n c, .int .i64 E]) ∧ Bs w' A n L ∧ n ≤ c ∧ (∀ b off, A = some ⟨b, off, none⟩ → w.heap.size ≤ b) ∧ Below w.heap.size w w'
theorem Got.toN {w w' : World} {n : Nat} {L : List UInt8} {E : Int} {e : Ending} (h : Got w L E e w') (hn : L.length = n) : GotN w n L E e w' := by
  obtain ⟨A, m, c, rfl, ho, hb⟩ := h
  have hm := ho.length
  obtain rfl : m = n := by omega
  obtain ⟨A', c', e, hc⟩ := ho.form
  injection e with q1 q2 q3
  subst q1 q3
  exact ⟨A, c, rfl, ho.bs, hc, fun b off e => ho.fresh b off e, hb⟩
theorem read_N {S : Tp} (g K i n : Nat) (F : Nat → Nat → Prop) (N : List UInt8) (w : World) (h : Tap w g F S) (hok : S.ok K) (hK : K ≤ 100000000) (hf : S.free) (hi : i < 4) (hN : (S.f i).now = N) (hn : N.length = n) :
    Calls Try.prog 22 #[.pointer (some ⟨g, 0, none⟩), .int .i64 (i : Int)] w (GotN w n N 0) := by
  have r := Read_any g K (i : Int) F w h hok hK
  obtain ⟨r1, r2⟩ := read_free hf hi
  rw [r1, r2, hN] at r
  exact r.mono fun _ _ q => q.toN hn
theorem read_Z {S : Tp} (g K n : Nat) (z : Int) (F : Nat → Nat → Prop) (w : World) (h : Tap w g F S) (hok : S.ok K) (hK : K ≤ 100000000) (hn : (S.readL z).length = n) :
    Calls Try.prog 22 #[.pointer (some ⟨g, 0, none⟩), .int .i64 z] w (GotN w n (S.readL z) (S.readE z)) := (Read_any g K z F w h hok hK).mono fun _ _ q => q.toN hn
theorem is_yes {z : Int} (h : isF z) (w : World) : Calls Try.prog 19 #[.int .i64 z] w fun e w' => e = .returned (.bool true) ∧ w = w' := by
  have q := Is_any z w
  rw [show decide (isF z) = true by simp [h]] at q
  exact q
theorem is_no {z : Int} (h : ¬ isF z) (w : World) : Calls Try.prog 19 #[.int .i64 z] w fun e w' => e = .returned (.bool false) ∧ w = w' := by
  have q := Is_any z w
  rw [show decide (isF z) = false by simp [h]] at q
  exact q
theorem long_is (A : Option Addr) (n c : Nat) (L : List Cl) (b : Bool) (w : World) (h : Cls w A n L) (hb : longC L = b) : Calls Try.prog 10 #[.slice A n c] w fun e w' => e = .returned (.bool b) ∧ w = w' := by
  have q := Long_any A n c L w h
  rw [hb] at q
  exact q
theorem crash_f (S : Tp) (kept : List Int) (i : Nat) : (S.crash kept).f i = ⟨(S.f i).after (keepN kept i (S.f i).opn.length), []⟩ := rfl
theorem crash_now (S : Tp) (kept : List Int) (i : Nat) : ((S.crash kept).f i).now = (S.f i).after (keepN kept i (S.f i).opn.length) := rfl
theorem after_all (f : Fl) : f.after f.opn.length = f.now := by unfold Fl.after Fl.now; rw [List.take_length]
theorem after_0 (f : Fl) : f.after 0 = f.sure := by unfold Fl.after; rw [List.take_zero]; rfl
/-- bytes that lie in memory stay where an object that is new is written -/
theorem Off.later {F : Nat → Prop} {w w' : World} (h : Off F w w') {B : Nat} (hF : ∀ b, F b → B ≤ b) (hB : B ≤ w.heap.size) : Below B w w' := h.below hF hB
theorem litI4 (w : World) (z : Int) (h1 : -9223372036854775808 ≤ z) (h2 : z < 9223372036854775808) : Is (w.alloc (.cells #[.int .i64 z, .int .i64 z, .int .i64 z, .int .i64 z] 3)) (some ⟨w.heap.size, 0, none⟩) 4 [z, z, z, z] :=
  litI w _ 4 [z, z, z, z] rfl (by
    intro j u hj
    rcases j with _ | _ | _ | _ | j
    · simp at hj; subst hj; exact ⟨rfl, h1, h2⟩
    · simp at hj; subst hj; exact ⟨rfl, h1, h2⟩
    · simp at hj; subst hj; exact ⟨rfl, h1, h2⟩
    · simp at hj; subst hj; exact ⟨rfl, h1, h2⟩
    · simp at hj)
theorem lit1B (w : World) (x : UInt8) : Bs (w.alloc (.cells #[.int .u8 (x.toNat : Int)] 5)) (some ⟨w.heap.size, 0, none⟩) 1 [x] :=
  litB w _ 1 [x] rfl rfl (by omega) (by
    intro j u hj
    rcases j with _ | j
    · simp at hj; subst hj; rfl
    · simp at hj)
theorem keepN_great {i m : Nat} {z : Int} (hi : i < 4) (hm : (m : Int) ≤ z) : keepN [z, z, z, z] i m = m := by
  have hz : [z, z, z, z][i]? = some z := by rcases i with _ | _ | _ | _ | i <;> first | rfl | omega
  unfold keepN
  rw [hz]
  simp only
  omega
theorem keepN_small {i m : Nat} {z : Int} (hi : i < 4) (hz : z ≤ 0) : keepN [z, z, z, z] i m = 0 := by
  have h : [z, z, z, z][i]? = some z := by rcases i with _ | _ | _ | _ | i <;> first | rfl | omega
  unfold keepN
  rw [h]
  simp only
  omega
end Go.Proofs.Ytpnllbadalcnaaa
