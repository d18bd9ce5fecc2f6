/-
  The document's After: what a file is behind its first open steps.
-/
import Derived.Test.YtpnllbadalcnaaaLawA
namespace Go.Proofs.Ytpnllbadalcnaaa
open Go.RowKit
theorem stpR_app {w : World} {b k : Nat} {x : UInt8} (h : w.rangeAt b (2 * k) (stpR (.app x))) : w.cell? ⟨b, 2 * k, none⟩ = some (.int .u8 (x.toNat : Int)) ∧ w.cell? ⟨b, 2 * k + 1, none⟩ = some (.int .i64 (-1)) := ⟨h 0 _ rfl, h 1 _ rfl⟩
theorem stpR_cut {w : World} {b k n : Nat} (h : w.rangeAt b (2 * k) (stpR (.cut n))) : w.cell? ⟨b, 2 * k, none⟩ = some (.int .u8 0) ∧ w.cell? ⟨b, 2 * k + 1, none⟩ = some (.int .i64 (n : Int)) := ⟨h 0 _ rfl, h 1 _ rfl⟩
abbrev filR (A1 : Option Addr) (n1 c1 : Nat) (A2 : Option Addr) (m c2 : Nat) : Array Value := #[.slice A1 n1 c1, .slice A2 m c2]
set_option maxRecDepth 100000 in
set_option maxHeartbeats 2000000 in
theorem RAfter_any (A1 A2 : Option Addr) (n1 c1 m c2 k : Nat) (l : List UInt8) (S : List Stp) (w : World) (hB : Bs w A1 n1 l) (hS : Ss 2 stpR w A2 m S) (hok : okp l S) (hk : k ≤ m) (hm : m ≤ 1000000000) :
    Calls Try.prog 30 #[.agg (filR A1 n1 c1 A2 m c2), .int .i64 (k : Int)] w fun e w' => ∃ A' n' c', e = .returned (.slice A' n' c') ∧ Own w' w.heap.size 5 (.slice A' n' c') n' (play l (S.take k)) ∧ Below w.heap.size w w' := by
  have HOK := Lib.hid hok
  have HB := Lib.hid hB
  have HS := Lib.hid hS
  have hn1 : n1 ≤ 1048576 := by have := okp_sure hok; have := hB.1; omega
  have HX := Lib.hid (Row.new w 38 (filR A1 n1 c1 A2 m c2))
  have hb0 := (Below.refl w.heap.size w).alloc (Nat.le_refl _) (.cells (filR A1 n1 c1 A2 m c2) 38)
  have hgz : w.heap.size < (w.alloc (.cells (filR A1 n1 c1 A2 m c2) 38)).heap.size := by simp
  have B1 := (Below.refl (w.alloc (.cells (filR A1 n1 c1 A2 m c2) 38)).heap.size (w.alloc (.cells (filR A1 n1 c1 A2 m c2) 38))).alloc (Nat.le_refl _) (.cells #[] 5)
  have hd0 : ((w.alloc (.cells (filR A1 n1 c1 A2 m c2) 38)).alloc (.cells #[] 5)).cell? ⟨w.heap.size, 0, none⟩ = some (.slice A1 n1 c1) := ((HX.out.below B1 hgz).cell 0)
  have HE := Lib.hid (show Own ((w.alloc (.cells (filR A1 n1 c1 A2 m c2) 38)).alloc (.cells #[] 5)) w.heap.size 5 (.slice (some ⟨w.heap.size + 1, 0, none⟩) 0 0) 0 [] from by
    have h := (empty_new (w.alloc (.cells (filR A1 n1 c1 A2 m c2) 38)) 5).mono (Nat.le_of_lt hgz)
    rw [show (w.alloc (.cells (filR A1 n1 c1 A2 m c2) 38)).heap.size = w.heap.size + 1 by simp] at h
    exact h)
  have HBz := Lib.hid ((HB.out.below hb0).below B1)
  have HRz := Lib.hid (HX.out.below B1 hgz)
  have HB0 := Lib.hid (hb0.trans (B1.mono (Nat.le_of_lt hgz)))
  clear hok hB hS hb0 B1 hgz
  go_enter Try.func30, Try.ntmps30
  go_wp2_with (at_builtin; refine wpList_app Try.byteTypes rfl (.tmp 7) (.tmp 9) rfl w.heap.size (.slice (some ⟨w.heap.size + 1, 0, none⟩) 0 0) 0 [] rfl HE.out A1 n1 c1 l rfl HBz.out (by omega) HB0.out.size ?_; intro A3 c3 w3 ho3 hb3 hg3; have HO3 := Lib.hid ho3; have HG3 := Lib.hid hg3; clear ho3 hg3)
  rw [Nat.zero_add, List.nil_append] at HO3
  have b3 : Below w.heap.size w w3 := HB0.out.trans hb3
  have HR3 := Lib.hid (show Row w3 w.heap.size 38 (filR A1 n1 c1 A2 m c2) from (HG3.out.block _ HRz.out.lt (fun e => by
    have e2 : some w.heap.size = some (w.heap.size + 1) := e
    injection e2 with e2
    omega)).trans HRz.out)
  clear hd0
  obtain ⟨g, hg⟩ : ∃ g, w.heap.size = g := ⟨_, rfl⟩
  rw [hg] at HR3 HO3 b3
  have HW := Lib.hid hg
  rw [hg]
  clear HE HBz HRz HB0 HG3 HX hb3 hg
  go_loopw [5, 6] (fun x i wr => ∃ j A' n' c', j ≤ k ∧ i = .int .i64 ((j : Nat) : Int) ∧ x = .slice A' n' c' ∧ Hid (Own wr g 5 (.slice A' n' c') n' (play l (S.take j))) ∧ Hid (Row wr g 38 (filR A1 n1 c1 A2 m c2)) ∧ Hid (∀ b, OB (.slice A' n' c') b → b ≠ g) ∧ Below g w wr) (fun _ i _ => k - (intOf i).toNat)
  case atStart => exact ⟨0, A3, n1, c3, Nat.zero_le _, rfl, rfl, HO3, HR3, Lib.hid (fun b q e => ownsRow_far HO3.out HR3.out (by decide) (by rw [← e]; exact q)), b3⟩
  case round =>
    obtain ⟨j, A', n', c', hj, rfl, rfl, HO', HR', HN', hb⟩ := hrel
    have c1' : wr.cell? ⟨g, 1, none⟩ = some (.slice A2 m c2) := HR'.out.cell 1
    by_cases hlt : j < k
    · have hjm : j < m := by omega
      obtain ⟨b, s, rfl, hbl, hs, hr⟩ := (HS.out.below (by rw [HW.out]; exact hb)).get hjm
      have HSk := Lib.hid (play_take l hs)
      have HLN := Lib.hid HO'.out.length
      have hn' : n' ≤ 1048576 := by have := (HOK.out j).1; have := HLN.out; omega
      have HC := Lib.hid (fun q (e : S[j]? = some (.cut q)) => (HOK.out j).2 q e)
      have HXs := Lib.hid hs
      have hjI : (j : Int) < (k : Int) := by omega
      have hgr : g < wr.heap.size := HR'.out.lt
      clear hs
      cases s with
      | app x =>
        obtain ⟨d0, d1⟩ := stpR_app hr
        clear hr
        go_wp2_with (first
          | (with_reducible refine Try.stR.wpList_index rfl (.tmp 17) (.tmp 18) rfl b m c2 j _ rfl rfl rfl hjm ?_)
          | (with_reducible refine Try.stR.wpList_index rfl (.tmp 25) (.tmp 26) rfl b m c2 j _ rfl rfl rfl hjm ?_)
          | (at_builtin; refine wpList_app1 rfl (.tmp 23) (.tmp 30) rfl g _ n' _ rfl (HO'.out.below ((Below.refl _ _).alloc (Nat.le_refl _) _)) _ 0 1 x rfl (lit1 wr x) (by omega) (by simp; omega) ?_; intro A5 c5 w5 ho5 hg5 hb5; have HO5 := Lib.hid ho5; have HG5 := Lib.hid hg5; have HB5 := Lib.hid hb5; clear ho5 hg5 hb5))
        go_roundw
        case rel =>
          have b4 : Below wr.heap.size wr (wr.alloc (.cells #[.int .u8 (x.toNat : Int)] 5)) := (Below.refl _ _).alloc (Nat.le_refl _) _
          have hne : ∀ q, OB (.slice A' n' c') q → q ≠ g := HN'.out
          refine ⟨j + 1, A5, n' + 1, c5, by omega, by go_num, rfl, Lib.hid (by rw [HSk.out]; exact HO5.out), Lib.hid ((HG5.out.block g (Nat.lt_of_lt_of_le hgr b4.size) (fun e => hne g e.symm rfl)).trans (HR'.out.below b4 hgr)), Lib.hid (fun q hq => ?_), ?_⟩
          · rcases HB5.out with q5 | q5
            · exact hne q (q5.symm.trans hq)
            · have e : some _ = some q := q5.symm.trans hq
              injection e with e
              have := b4.size
              omega
          · exact (hb.trans (b4.mono (Nat.le_of_lt hgr))).trans ((Below.refl g _).grown HG5.out (by simp; omega) (fun q hq => (HO'.out.lt q hq).1))
        case measure => simp [intOf]; omega
      | cut q =>
        obtain ⟨d0, d1⟩ := stpR_cut hr
        have hq : q ≤ n' := by have := HC.out q HXs.out; have := HLN.out; omega
        have hcc : n' ≤ c' := by
          obtain ⟨A9, c9, e9, h9⟩ := HO'.out.form
          injection e9 with e1 e2 e3
          omega
        clear hr
        go_wp2_with (first
          | (with_reducible refine Try.stR.wpList_index rfl (.tmp 17) (.tmp 18) rfl b m c2 j _ rfl rfl rfl hjm ?_)
          | (with_reducible refine Try.stR.wpList_index rfl (.tmp 34) (.tmp 35) rfl b m c2 j _ rfl rfl rfl hjm ?_)
          | (with_reducible refine wpList_headV Try.underlying29 Try.sizeB rfl (.tmp 32) (.tmp 38) rfl A' n' c' q .i64 _ rfl rfl rfl (by omega) ?_))
        go_roundw
        case rel => exact ⟨j + 1, A', q, c', by omega, by go_num, rfl, Lib.hid (by rw [HSk.out]; exact HO'.out.cut hq), HR', Lib.hid (fun b' q' => HN'.out b' (ob_len q')), hb⟩
        case measure => simp [intOf]; omega
    · obtain rfl : j = k := by omega
      go_wp2
      go_ret
      rw [HW.out]
      exact ⟨A', n', c', rfl, HO'.out, hb⟩
end Go.Proofs.Ytpnllbadalcnaaa
