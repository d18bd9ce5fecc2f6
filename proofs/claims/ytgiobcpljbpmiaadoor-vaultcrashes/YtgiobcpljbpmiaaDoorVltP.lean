/-
  What stands in a vault's files, as plain bytes: a frame of a number and a text; a slot; the journal's records; what is opened.
-/
import Derived.Test.YtgiobcpljbpmiaaDoorFrP
namespace Go.Proofs.YtgiobcpljbpmiaaDoor
/-- things that are written one behind the other, and read again -/
structure Code (α : Type) where
  enc : α → List UInt8
  rd : List UInt8 → Bool × α × Nat
  ok : α → Prop
  pos : ∀ a, 0 < (enc a).length
  back : ∀ a r, ok a → rd (enc a ++ r) = (true, a, (enc a).length)
  is : ∀ b a s, rd b = (true, a, s) → b.take s = enc a ∧ s ≤ b.length ∧ ok a
  cut : ∀ a r k, ok a → k < (enc a).length → (rd ((enc a ++ r).take k)).1 = false
namespace Code
variable {α : Type} (C : Code α)
def encs (L : List α) : List UInt8 := (L.map C.enc).flatten
theorem encs_nil : C.encs [] = [] := rfl
theorem encs_cons (t : α) (L : List α) : C.encs (t :: L) = C.enc t ++ C.encs L := by simp [encs]
theorem encs_append (K L : List α) : C.encs (K ++ L) = C.encs K ++ C.encs L := by simp [encs]
theorem encs_snoc (L : List α) (t : α) : C.encs (L ++ [t]) = C.encs L ++ C.enc t := by simp [encs]
/-- these ones are the first n bytes -/
def Part (b : List UInt8) (L : List α) (n : Nat) : Prop := C.encs L = b.take n ∧ n ≤ b.length ∧ ∀ t ∈ L, C.ok t
/-- and none stands behind them -/
def All (b : List UInt8) (L : List α) (n : Nat) : Prop := C.Part b L n ∧ (C.rd (b.drop n)).1 = false
variable {C}
theorem Part.nil (b : List UInt8) : C.Part b [] 0 := ⟨by simp [encs], Nat.zero_le _, fun t h => by simp at h⟩
theorem Part.step {b : List UInt8} {L : List α} {n : Nat} (h : C.Part b L n) (t : α) (s : Nat) (hr : C.rd (b.drop n) = (true, t, s)) : C.Part b (L ++ [t]) (n + s) := by
  obtain ⟨h1, h2, h3⟩ := h
  obtain ⟨k1, k2, k3⟩ := C.is _ _ _ hr
  rw [List.length_drop] at k2
  refine ⟨by rw [encs_snoc, h1, ← k1, List.take_add], by omega, fun x hx => ?_⟩
  rcases List.mem_append.1 hx with hx | hx
  · exact h3 x hx
  · rw [List.mem_singleton.1 hx]; exact k3
theorem Part.size {b : List UInt8} {L : List α} {n : Nat} (h : C.Part b L n) : (C.encs L).length = n := by
  rw [h.1, List.length_take]; exact Nat.min_eq_left h.2.1
theorem Part.count {b : List UInt8} {L : List α} {n : Nat} (h : C.Part b L n) : L.length ≤ n := by
  have h1 := h.size
  have h2 : ∀ K : List α, K.length ≤ (C.encs K).length := fun K => by
    induction K with
    | nil => simp
    | cons t K ih => have := C.pos t; rw [encs_cons, List.length_append, List.length_cons]; omega
  have := h2 L
  omega
theorem All.first : ∀ (L : List α) (r : List UInt8) (K : List α) (n : Nat), (∀ t ∈ L, C.ok t) → C.All (C.encs L ++ r) K n → ∃ K', K = L ++ K' ∧ C.All r K' (n - (C.encs L).length) ∧ (C.encs L).length ≤ n
  | [], r, K, n, _, h => ⟨K, rfl, by simpa [encs] using h, by simp [encs]⟩
  | t :: L, r, [], n, hL, h => by
    exfalso
    have hn : n = 0 := by have := h.1.size; simp [encs] at this; omega
    subst hn
    have h2 := h.2
    rw [List.drop_zero, encs_cons, List.append_assoc, C.back t _ (hL t (by simp))] at h2
    cases h2
  | t :: L, r, u :: K, n, hL, h => by
    have ht := hL t (by simp)
    have hu := h.1.2.2 u (by simp)
    have e1 := h.1.1
    have hsz := h.1.size
    have hnl := h.1.2.1
    have hw : C.encs (t :: L) ++ r = C.enc u ++ (C.encs K ++ (C.encs (t :: L) ++ r).drop n) := by
      rw [← List.append_assoc, ← encs_cons, e1, List.take_append_drop]
    have hb := C.back u (C.encs K ++ (C.encs (t :: L) ++ r).drop n) hu
    rw [← hw, encs_cons, List.append_assoc, C.back t _ ht] at hb
    have hut : t = u := by injection hb with _ hb; injection hb
    subst hut
    rw [encs_cons, List.append_assoc] at hw
    have hw2 := List.append_cancel_left hw
    rw [encs_cons, List.length_append] at hsz
    rw [encs_cons, List.append_assoc] at h hnl
    have hdrop : (C.enc t ++ (C.encs L ++ r)).drop n = (C.encs L ++ r).drop (n - (C.enc t).length) := by
      rw [List.drop_append, List.drop_of_length_le (by omega), List.nil_append]
    have hs : C.All (C.encs L ++ r) K (n - (C.enc t).length) := by
      refine ⟨⟨?_, ?_, fun x hx => h.1.2.2 x (by simp [hx])⟩, ?_⟩
      · have := congrArg (List.take (n - (C.enc t).length)) hw2
        rw [this, List.take_append_of_le_length (by omega), List.take_of_length_le (by omega)]
      · rw [List.length_append] at hnl; omega
      · rw [← hdrop]; exact h.2
    obtain ⟨K', k1, k2, k3⟩ := All.first L r K _ (fun x hx => hL x (by simp [hx])) hs
    refine ⟨K', by rw [k1]; rfl, ?_, ?_⟩
    · rw [encs_cons, List.length_append, ← Nat.sub_sub]; exact k2
    · rw [encs_cons, List.length_append]; omega
theorem All.none {K : List α} {n : Nat} {r : List UInt8} (hr : (C.rd r).1 = false) (h : C.All r K n) : K = [] ∧ n = 0 := by
  cases K with
  | nil => exact ⟨rfl, by have := h.1.size; simp [encs] at this; omega⟩
  | cons u K =>
    exfalso
    have hu := h.1.2.2 u (by simp)
    have hw : r = C.enc u ++ (C.encs K ++ r.drop n) := by
      rw [← List.append_assoc, ← encs_cons, h.1.1, List.take_append_drop]
    rw [hw, C.back u _ hu] at hr
    cases hr
theorem All.one {b : List UInt8} {L K : List α} {n m : Nat} (h : C.All b L n) (k : C.All b K m) : L = K ∧ n = m := by
  have hb : b = C.encs L ++ b.drop n := by rw [h.1.1, List.take_append_drop]
  have hs := h.1.size
  rw [hb] at k
  obtain ⟨K', k1, k2, k3⟩ := All.first L _ K m h.1.2.2 k
  obtain ⟨e1, e2⟩ := All.none h.2 k2
  subst e1
  exact ⟨by rw [k1, List.append_nil], by omega⟩
theorem All.behind {L : List α} {r : List UInt8} (hL : ∀ t ∈ L, C.ok t) (hr : (C.rd r).1 = false) : C.All (C.encs L ++ r) L (C.encs L).length :=
  ⟨⟨by rw [List.take_left], by rw [List.length_append]; omega, hL⟩, by rw [List.drop_left]; exact hr⟩
/-- there is one -/
theorem All.exists (b : List UInt8) : ∃ L n, C.All b L n := by
  have h : ∀ (k : Nat) (L : List α) (n : Nat), C.Part b L n → b.length - n ≤ k → ∃ L n, C.All b L n := fun k => by
    induction k with
    | zero =>
      intro L n hp hk
      have hn : n = b.length := by have := hp.2.1; omega
      refine ⟨L, n, hp, ?_⟩
      cases hq : (C.rd (b.drop n)).1 with
      | false => rfl
      | true =>
        exfalso
        obtain ⟨k1, k2, -⟩ := C.is (b.drop n) (C.rd (b.drop n)).2.1 (C.rd (b.drop n)).2.2 (by rw [← hq])
        have := congrArg List.length k1
        have hp := C.pos (C.rd (b.drop n)).2.1
        rw [List.length_take, List.length_drop] at this
        omega
    | succ k ih =>
      intro L n hp hk
      cases hq : (C.rd (b.drop n)).1 with
      | false => exact ⟨L, n, hp, hq⟩
      | true =>
        have he : C.rd (b.drop n) = (true, (C.rd (b.drop n)).2.1, (C.rd (b.drop n)).2.2) := by rw [← hq]
        obtain ⟨k1, k2, -⟩ := C.is _ _ _ he
        have := congrArg List.length k1
        have hpo := C.pos (C.rd (b.drop n)).2.1
        rw [List.length_take] at this
        exact ih _ _ (hp.step _ _ he) (by omega)
  exact h b.length [] 0 (Part.nil b) (by omega)
/-- mended: the same ones, and nothing behind -/
theorem All.mend {b : List UInt8} {L : List α} {n : Nat} (h : C.All b L n) (hn : (C.rd []).1 = false) : C.All (b.take n) L n := by
  have h1 := All.behind (r := []) h.1.2.2 hn
  rw [List.append_nil, h.1.size, h.1.1] at h1
  exact h1
end Code
end Go.Proofs.YtgiobcpljbpmiaaDoor
