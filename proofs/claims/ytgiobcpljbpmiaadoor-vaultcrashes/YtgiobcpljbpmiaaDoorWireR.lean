/-
  WireR: ported texts, joined.
-/
import Derived.Test.YtgiobcpljbpmiaaDoorWireA
import Derived.Deep.Matrix
import Derived.ChangeKeysEq
import Derived.Test.YtgiobcpljbpmiaaDoorSha
namespace Go.Proofs.YtgiobcpljbpmiaaDoor
section
open Go.RowKit
theorem cutU_head (A : Option Addr) (n c m : Nat) (hm : m ≤ n) (hnc : n ≤ c) :
    ∃ A', (∀ w, (Instr.sliceAt 32 (.slice A n c) none (some (.int .u64 (m : Int))) none).run Tryd.prog w = .ok (.slice A' m c) w) ∧ (∀ w l, Bs w A n l → Bs w A' m (l.take m)) := by
  refine ⟨if c = 0 then A else A.map (·.add (0 * 1)), fun w => ?_, fun w l hb => ?_⟩
  · have h2 : (m : Int) ≤ c := by omega
    simp [Instr.sliceAt, Instr.slice, run_underlying Tryd.byteTypes.ht, Instr.sliceBounds, run_sliceBound, h2]
  · by_cases hc : c = 0
    · rw [if_pos hc]; exact hb.take hm
    · rw [if_neg hc]
      by_cases hn : n = 0
      · rw [show m = 0 by omega, List.take_zero]; exact Bs.nil _ _
      · obtain ⟨b, off, x, hA, _⟩ := hb.get (k := 0) (by omega)
        subst hA
        rw [Option.map_some, Addr.add_mid]
        exact hb.take hm
theorem cutU_from (K : IntKind) (A : Option Addr) (n c k : Nat) (hk : k ≤ n) (hnc : n ≤ c) :
    ∃ A', (∀ w, (Instr.sliceAt 32 (.slice A n c) (some (.int K (k : Int))) none none).run Tryd.prog w = .ok (.slice A' (n - k) (c - k)) w) ∧ (∀ w l, Bs w A n l → Bs w A' (n - k) (l.drop k)) ∧ (∀ b, InB A n b → InB A' (n - k) b) := by
  refine ⟨if c = k then A else A.map (·.add (k * 1)), fun w => ?_, fun w l hb => ?_, fun b hb => ?_⟩
  · have h1 : (k : Int) ≤ n := by omega
    simp [Instr.sliceAt, Instr.slice, run_underlying Tryd.byteTypes.ht, Instr.sliceBounds, run_sliceBound, h1]
  · by_cases hck : c = k
    · obtain rfl : n = k := by omega
      rw [List.drop_eq_nil_of_le (by rw [hb.1]; exact Nat.le_refl _), Nat.sub_self]
      exact Bs.nil _ _
    · rw [if_neg hck]
      by_cases hn : n = 0
      · subst hn
        obtain rfl : k = 0 := by omega
        rw [hb.empty rfl]; exact Bs.nil _ _
      · obtain ⟨b, off, x, hA, _⟩ := hb.get (k := 0) (by omega)
        subst hA
        rw [Nat.mul_one, Option.map_some, Addr.add_mid]
        exact hb.drop
  · rcases hb with h0 | ⟨off, rfl⟩
    · exact .inl (by omega)
    · by_cases hck : c = k
      · exact .inl (by omega)
      · rw [if_neg hck, Option.map_some, Addr.add_mid]
        exact .inr ⟨_, rfl⟩
/-- an error is met, nothing else changes -/
theorem met {w : World} {g b : Nat} {A : Option Addr} {n c : Nat} {l : List UInt8} {x : Value} (E : Int) (hr : Row w g 101 #[.slice A n c, x]) (hB : Bs w A n l) (hnc : n ≤ c) (hI : InB A n b) (hbg : b ≠ g) :
    Rdr (w.setCell ⟨g, 1, none⟩ (.int .i64 E)) 101 g b E l :=
  ⟨A, n, c, row2_set1 hr _, hB.only (hI.apart hbg) (Only.setCell g 1 w _), hnc, hI, hbg⟩
set_option maxHeartbeats 2000000 in
theorem RefRNum_any (g b : Nat) (E : Int) (l : List UInt8) (most : Int) (w : World) (h : Rdr w 101 g b E l) (hl : l.length ≤ 1000000000) :
    Calls Tryd.prog 62 #[.pointer (some ⟨g, 0, none⟩), .int .u64 most] w (RNum w 101 g b l (sNum E l most)) := by
  have H := Lib.hid h
  obtain ⟨A, n, c, hr, hB, hnc, hI, hbg⟩ := h
  have c0 : w.cell? ⟨g, 0, none⟩ = some (.slice A n c) := hr.cell 0
  have c1 : w.cell? ⟨g, 1, none⟩ = some (.int .i64 E) := hr.cell 1
  have f0 := hr.frozen 0
  have f1 := hr.frozen 1
  have HR := Lib.hid hr
  have HB := Lib.hid hB
  have HI := Lib.hid hI
  have hn := hB.1
  clear hI hr
  by_cases hE : E ≠ 0
  · have HQ := Lib.hid (show sNum E l most = (E, 0, 0) by unfold sNum; rw [if_neg hE])
    have hE2 := bne0 hE
    generalize sNum E l most = q at *
    clear hB
    go_enter Tryd.func62, Tryd.ntmps62
    go_wp2
    go_ret
    rw [HQ.out]
    exact ⟨rfl, H.out, Only.refl _ _⟩
  obtain rfl : E = 0 := Decidable.not_not.1 hE
  clear hE
  have HS := Lib.hid (show sNum 0 l most = rdLen l most from rfl)
  have HME := Lib.hid (fun E => met (b := b) E HR.out HB.out hnc HI.out hbg)
  rcases l with _ | ⟨x, r⟩
  · obtain rfl : n = 0 := hn.symm
    have HQ := Lib.hid (show sNum 0 [] most = (40, 0, 0) from rfl)
    generalize sNum 0 [] most = q at *
    clear hB HS
    go_enter Tryd.func62, Tryd.ntmps62
    go_wp2
    go_ret
    rw [HQ.out]
    exact ⟨rfl, HME.out 40, Only.setCell g 1 w _⟩
  have hn1 : r.length + 1 = n := hn
  have hnb : n ≤ 1000000000 := by have : r.length + 1 ≤ 1000000000 := hl; omega
  obtain ⟨bk, off, x', rfl, hb, hx, hcx⟩ := hB.get (k := 0) (by omega)
  obtain rfl : x' = x := by simpa using hx.symm
  rw [Nat.add_zero] at hcx
  have hx256 := byte_lt x'
  have hnpos : (0 : Int) < (n : Int) := by omega
  have hz : ((n : Int) == 0) = false := by simp; omega
  have hq1 : ∀ E, (rdNum (x' :: r)) = (E, 0, 0) → E ≠ 0 → rdLen (x' :: r) most = (E, 0, 0) := fun E h h1 => by unfold rdLen; rw [h, if_neg h1]
  clear hx hn
  by_cases h8 : 8 < x'.toNat
  · have HQ := Lib.hid (show sNum 0 (x' :: r) most = (41, 0, 0) by rw [HS.out]; exact hq1 41 (by simp only [rdNum, if_pos h8]) (by omega))
    generalize sNum 0 (x' :: r) most = q at *
    clear hB HS hq1
    go_enter Tryd.func62, Tryd.ntmps62
    go_wp2
    go_ret
    rw [HQ.out]
    exact ⟨rfl, HME.out 41, Only.setCell g 1 w _⟩
  by_cases hs : r.length < x'.toNat
  · have HQ := Lib.hid (show sNum 0 (x' :: r) most = (40, 0, 0) by rw [HS.out]; exact hq1 40 (by simp only [rdNum, if_neg h8, if_pos hs]) (by omega))
    have hs' : (n : Int) - 1 < (x'.toNat : Int) := by omega
    generalize sNum 0 (x' :: r) most = q at *
    clear hB HS hq1
    go_enter Tryd.func62, Tryd.ntmps62
    go_wp2
    go_ret
    rw [HQ.out]
    exact ⟨rfl, HME.out 40, Only.setCell g 1 w _⟩
  have hs' : (x'.toNat : Int) ≤ (n : Int) - 1 := by omega
  obtain ⟨k, hk⟩ : ∃ k, x'.toNat = k := ⟨_, rfl⟩
  rw [hk] at hcx hs' h8
  have hs3 : (k : Int) < (n : Int) := by omega
  obtain ⟨A1, hsl, hA1, hI1⟩ := cutU_from .i64 (some ⟨bk, off, none⟩) n c (1 + k) (by omega) hnc
  rw [show ((1 + k : Nat) : Int) = 1 + (k : Int) by omega] at hsl
  have HA1 := Lib.hid hA1
  have HI1 := Lib.hid hI1
  have HNum := Lib.hid (fun A c h => RefNumber_ok A k c (r.take k) w h (by omega))
  have hNlt : num (r.take k) < 18446744073709551616 := num_lt' _ 8 (by rw [List.length_take]; omega)
  have e9 : ((x' :: r).drop 1).take k = r.take k := rfl
  have hkn : 1 + k ≤ n := by omega
  by_cases hk0 : k = 0
  · have HOk := Lib.hid (show rdNum (x' :: r) = (0, num (r.take k), 1 + k) by rw [hk0] at hk ⊢; simp [rdNum, hk])
    have hk1 : (k : Int) ≤ 0 := by omega
    clear hk hs hk0
    obtain ⟨V, hV⟩ : ∃ V, num (r.take k) = V := ⟨_, rfl⟩
    rw [hV] at HNum hNlt HOk
    by_cases hmo : most < (V : Int)
    · have HQ := Lib.hid (show sNum 0 (x' :: r) most = (42, 0, 0) by rw [HS.out]; unfold rdLen; rw [HOk.out, if_pos rfl, if_pos hmo])
      generalize sNum 0 (x' :: r) most = q at *
      clear hB HS hq1 HOk hV hn1
      go_enter Tryd.func62, Tryd.ntmps62
      go_wp2_with (first
        | ((with_reducible refine wpList_mid Tryd.byteTypes rfl (.tmp 63) (.const (.int .i64 1)) (.tmp 65) rfl (some ⟨bk, off, none⟩) n c 1 (1 + k) rfl rfl _ rfl (by omega) (by omega) (by omega) (by omega) ?_); intro A2 hA2; rw [show 1 + k - 1 = k by omega] at *)
        | (go_at_call 75; refine (HNum.out _ _ (hA2 _ _ HB.out)).mono ?_; rintro e w1 ⟨rfl, rfl⟩))
      go_ret
      rw [HQ.out]
      exact ⟨rfl, HME.out 42, Only.setCell g 1 w _⟩
    · have HQ := Lib.hid (show sNum 0 (x' :: r) most = (0, V, 1 + k) by rw [HS.out]; unfold rdLen; rw [HOk.out, if_pos rfl, if_neg hmo])
      generalize sNum 0 (x' :: r) most = q at *
      clear hB HS hq1 HOk hV hn1
      go_enter Tryd.func62, Tryd.ntmps62
      go_wp2_with (first
        | ((with_reducible refine wpList_mid Tryd.byteTypes rfl (.tmp 63) (.const (.int .i64 1)) (.tmp 65) rfl (some ⟨bk, off, none⟩) n c 1 (1 + k) rfl rfl _ rfl (by omega) (by omega) (by omega) (by omega) ?_); intro A2 hA2; rw [show 1 + k - 1 = k by omega] at *)
        | (go_at_call 75; refine (HNum.out _ _ (hA2 _ _ HB.out)).mono ?_; rintro e w1 ⟨rfl, rfl⟩))
      go_ret
      rw [HQ.out]
      have ho := Only.setCell g 0 w (.slice A1 (n - (1 + k)) (c - (1 + k)))
      exact ⟨rfl, ⟨A1, n - (1 + k), c - (1 + k), row2_set0 HR.out _, (HA1.out _ _ HB.out).only ((HI1.out b HI.out).apart hbg) ho, by omega, HI1.out b HI.out, hbg⟩, ho⟩
  · obtain ⟨y, r', rfl⟩ : ∃ y r', r = y :: r' := by
      rcases r with _ | ⟨y, r'⟩
      · simp at hs; omega
      · exact ⟨y, r', rfl⟩
    obtain ⟨b', off', y', e', hb', hy, hcy⟩ := hB.get (k := 1) (by omega)
    simp only [Option.some.injEq, Addr.mk.injEq, and_true] at e'
    obtain ⟨rfl, rfl⟩ := e'
    obtain rfl : y' = y := by simpa using hy.symm
    have hxp : (0 : Int) < (k : Int) := by omega
    have h1n : (1 : Int) < (n : Int) := by omega
    clear hy
    by_cases hy0 : y' = 0
    · subst hy0
      have HQ := Lib.hid (show sNum 0 (x' :: 0 :: r') most = (41, 0, 0) by rw [HS.out]; exact hq1 41 (by simp only [rdNum, if_neg (show ¬ 8 < x'.toNat by omega), if_neg hs]; rw [if_pos ⟨by omega, rfl⟩]) (by omega))
      generalize sNum 0 (x' :: 0 :: r') most = q at *
      simp only [show (0 : UInt8).toNat = 0 from rfl] at hcy
      clear hB HS hq1 hs hk hn1
      go_enter Tryd.func62, Tryd.ntmps62
      go_wp2
      go_ret
      rw [HQ.out]
      exact ⟨rfl, HME.out 41, Only.setCell g 1 w _⟩
    · have hy1 : ((y'.toNat : Int) == 0) = false := by
        simp only [beq_eq_false_iff_ne, ne_eq]
        intro e
        exact hy0 (UInt8.toNat_inj.1 (by show y'.toNat = 0; omega))
      have HOk := Lib.hid (show rdNum (x' :: y' :: r') = (0, num ((y' :: r').take k), 1 + k) by
        simp only [rdNum, if_neg (show ¬ 8 < x'.toNat by omega), if_neg hs]
        rw [if_neg, hk]
        rintro ⟨_, h⟩
        exact hy0 (by simpa using h))
      clear hk hs
      obtain ⟨V, hV⟩ : ∃ V, num ((y' :: r').take k) = V := ⟨_, rfl⟩
      rw [hV] at HNum hNlt HOk
      by_cases hmo : most < (V : Int)
      · have HQ := Lib.hid (show sNum 0 (x' :: y' :: r') most = (42, 0, 0) by rw [HS.out]; unfold rdLen; rw [HOk.out, if_pos rfl, if_pos hmo])
        generalize sNum 0 (x' :: y' :: r') most = q at *
        clear hB HS hq1 HOk hV hn1
        go_enter Tryd.func62, Tryd.ntmps62
        go_wp2_with (first
          | ((with_reducible refine wpList_mid Tryd.byteTypes rfl (.tmp 63) (.const (.int .i64 1)) (.tmp 65) rfl (some ⟨bk, off, none⟩) n c 1 (1 + k) rfl rfl _ rfl (by omega) (by omega) (by omega) (by omega) ?_); intro A2 hA2; rw [show 1 + k - 1 = k by omega] at *)
          | (go_at_call 75; refine (HNum.out _ _ (hA2 _ _ HB.out)).mono ?_; rintro e w1 ⟨rfl, rfl⟩))
        go_ret
        rw [HQ.out]
        exact ⟨rfl, HME.out 42, Only.setCell g 1 w _⟩
      · have HQ := Lib.hid (show sNum 0 (x' :: y' :: r') most = (0, V, 1 + k) by rw [HS.out]; unfold rdLen; rw [HOk.out, if_pos rfl, if_neg hmo])
        generalize sNum 0 (x' :: y' :: r') most = q at *
        clear hB HS hq1 HOk hV hn1
        go_enter Tryd.func62, Tryd.ntmps62
        go_wp2_with (first
          | ((with_reducible refine wpList_mid Tryd.byteTypes rfl (.tmp 63) (.const (.int .i64 1)) (.tmp 65) rfl (some ⟨bk, off, none⟩) n c 1 (1 + k) rfl rfl _ rfl (by omega) (by omega) (by omega) (by omega) ?_); intro A2 hA2; rw [show 1 + k - 1 = k by omega] at *)
          | (go_at_call 75; refine (HNum.out _ _ (hA2 _ _ HB.out)).mono ?_; rintro e w1 ⟨rfl, rfl⟩))
        go_ret
        rw [HQ.out]
        have ho := Only.setCell g 0 w (.slice A1 (n - (1 + k)) (c - (1 + k)))
        exact ⟨rfl, ⟨A1, n - (1 + k), c - (1 + k), row2_set0 HR.out _, (HA1.out _ _ HB.out).only ((HI1.out b HI.out).apart hbg) ho, by omega, HI1.out b HI.out, hbg⟩, ho⟩
end
section
open Go.RowKit
set_option maxHeartbeats 1000000 in
theorem RefEnd_any (g b : Nat) (E : Int) (l : List UInt8) (w : World) (h : Rdr w 101 g b E l) :
    Calls Tryd.prog 63 #[.pointer (some ⟨g, 0, none⟩)] w (REnd w 101 g b l (sEnd E l)) := by
  have H := Lib.hid h
  obtain ⟨A, n, c, hr, hB, hnc, hI, hbg⟩ := h
  have c0 : w.cell? ⟨g, 0, none⟩ = some (.slice A n c) := hr.cell 0
  have c1 : w.cell? ⟨g, 1, none⟩ = some (.int .i64 E) := hr.cell 1
  have f1 := hr.frozen 1
  have hn := hB.1
  have HME := Lib.hid (fun E => met (b := b) E hr hB hnc hI hbg)
  have HC := Lib.hid (show (w.setCell ⟨g, 1, none⟩ (.int .i64 43)).cell? ⟨g, 1, none⟩ = some (.int .i64 43) from (row2_set1 hr (.int .i64 43)).cell 1)
  by_cases hE : E = 0
  · subst hE
    by_cases hz : n = 0
    · have HQ := Lib.hid (show sEnd 0 l = 0 by unfold sEnd; rw [if_neg]; rintro ⟨_, h⟩; exact h (hB.empty hz))
      subst hz
      generalize sEnd 0 l = q at *
      clear hr hB hI
      go_enter Tryd.func63, Tryd.ntmps63
      go_wp2
      go_ret
      rw [HQ.out]
      exact ⟨rfl, H.out, Only.refl _ _⟩
    · have HQ := Lib.hid (show sEnd 0 l = 43 by unfold sEnd; rw [if_pos]; exact ⟨rfl, fun h => hz (by rw [← hn, h]; rfl)⟩)
      have hz2 : (0 : Int) < (n : Int) := by omega
      have hc2 := HC.out
      generalize sEnd 0 l = q at *
      clear hr hB hI hn hz
      go_enter Tryd.func63, Tryd.ntmps63
      go_wp2
      go_ret
      rw [HQ.out]
      exact ⟨rfl, HME.out 43, Only.setCell g 1 w _⟩
  · have HQ := Lib.hid (show sEnd E l = E by unfold sEnd; rw [if_neg]; rintro ⟨h, _⟩; exact hE h)
    have hE2 : (E == 0) = false := by simp [hE]
    generalize sEnd E l = q at *
    clear hr hB hI
    go_enter Tryd.func63, Tryd.ntmps63
    go_wp2
    go_ret
    rw [HQ.out]
    exact ⟨rfl, H.out, Only.refl _ _⟩
theorem sNum_max (E : Int) (l : List UInt8) : sNum E l 18446744073709551615 = if E = 0 then rdNum l else (E, 0, 0) := by
  unfold sNum; rw [rdLen_max]
/-- the old bytes are put back -/
theorem back {w : World} {g b : Nat} {A : Option Addr} {n c : Nat} {l : List UInt8} {x : Value} {E : Int} (hr : Row w g 101 #[x, .int .i64 E]) (hB : Bs w A n l) (hnc : n ≤ c) (hI : InB A n b) (hbg : b ≠ g) :
    Rdr (w.setCell ⟨g, 0, none⟩ (.slice A n c)) 101 g b E l :=
  ⟨A, n, c, row2_set0 hr _, hB.only (hI.apart hbg) (Only.setCell g 0 w _), hnc, hI, hbg⟩
end
section
open Go.RowKit
theorem Rdr.belowB {w w' : World} {t : TypeId} {g b B : Nat} {E : Int} {l : List UInt8} (h : Rdr w t g b E l) (hb : Below B w w') (hg : g < B) (hbB : l ≠ [] → b < B) : Rdr w' t g b E l := by
  obtain ⟨A, n, c, h1, h2, h3, h4, h5⟩ := h
  refine ⟨A, n, c, h1.below hb hg, ⟨h2.1, fun k x hx => ?_⟩, h3, h4, h5⟩
  obtain ⟨b', off, hA, hlt, hc⟩ := h2.2 k x hx
  have hne : l ≠ [] := by rintro rfl; simp at hx
  have hbb := hbB hne
  rcases h4 with h0 | ⟨off', hA'⟩
  · exact absurd (h2.empty h0) hne
  · rw [hA] at hA'
    injection hA' with q
    injection q with q _
    subst q
    exact ⟨b', off, hA, Nat.lt_of_lt_of_le hlt hb.size, (hb.cell (p := ⟨b', off + k, none⟩) hbb).trans hc⟩
end
section
open Go.RowKit
def Z32 : Array Value := bcells (List.replicate 32 0)
theorem Z32_size : Z32.size = 32 := by rw [Z32, bcells_size, List.length_replicate]
theorem Z32_one : Z32.all (·.oneCell') = true := bcells_one _
theorem info45 : (Tryd.prog.info? 104).map (fun i => (i.zero, i.size)) = some (some (.agg Z32), 32) := by kernel_rfl
theorem run_alloc45 (w : World) : (Instr.alloc 104 true (.tuple #[])).run Tryd.prog w = .ok (.pointer (some ⟨w.heap.size, 0, none⟩)) (w.alloc (.cells Z32 104)) := by
  have h := (zero_of_info info45).1 w
  simp [Instr.alloc, h, newVar, Value.cells]
  rfl
theorem wpList_alloc45 {w : World} {ops : Array Oper} {rest : List Oper} {o : Oper} {a : Act} {Q : Exit → Act → World → Prop} (hgd : o.guard = none) (ho : o.op = .alloc 104)
    (h : ∀ w', w'.heap.size = w.heap.size + 1 → Row w' w.heap.size 104 Z32 → Below w.heap.size w w' → wpList Tryd.prog ops Q rest (a.put o.dst (.pointer (some ⟨w.heap.size, 0, none⟩))) w') : wpList Tryd.prog ops Q (o :: rest) a w := by
  refine wpList_plain hgd fun K hK => ?_
  unfold Oper.wp execOp
  simp [ho, run_alloc45, Result.andThen]
  exact hK _ _ (h _ (by simp) (Row.new w 104 Z32) ((Below.refl _ _).alloc (Nat.le_refl _) _))
theorem take_cells {cs : Array Value} {l : List UInt8} (h : cs.size = 32) (hl : 32 ≤ l.length) (hc : ∀ (j : Nat) (x : UInt8), j < 32 → l[j]? = some x → cs[j]? = some (bcell x)) : cs = bcells (l.take 32) := by
  apply Array.ext_getElem?
  intro j
  rw [bcells_get?]
  by_cases hj : j < 32
  · rw [List.getElem?_take, if_pos hj, List.getElem?_eq_getElem (by omega), hc j _ hj (List.getElem?_eq_getElem (by omega))]; rfl
  · rw [Array.getElem?_eq_none (by omega), List.getElem?_eq_none (by rw [List.length_take]; omega)]; rfl
end
section
open Go.RowKit
theorem rdTexts_le (each : Int) : ∀ k b, (rdTexts each k b).1 = 0 → k ≤ b.length
  | 0, b, _ => Nat.zero_le _
  | k + 1, b, h => by
    unfold rdTexts at h
    split at h
    · rename_i h1
      split at h
      · rename_i h2
        have h3 := rdTexts_le each k _ h2
        have h4 := (rdText_ok b each).1 h1
        have h5 := rdText_size b each
        rw [List.length_drop] at h3
        omega
      · rename_i h2
        exact absurd h h2
    · rename_i h1
      exact absurd h h1
theorem sList_le (E : Int) (l : List UInt8) (most each : Int) : (sList E l most each).2.1.length ≤ l.length ∧ ∀ t ∈ (sList E l most each).2.1, t.length ≤ l.length := by
  unfold sList
  split
  · rcases rdList_cases l most each with ⟨_, h⟩ | ⟨h1, h2, h⟩
    · rw [h]; simp
    · rw [h]
      simp only
      obtain ⟨k1, k2⟩ := rdTexts_count each _ _ h2
      have k3 := rdTexts_le each _ _ h2
      rw [List.length_drop] at k3
      refine ⟨by omega, fun t ht => ?_⟩
      have := k2 t ht
      rw [List.length_drop] at this
      omega
  · simp
theorem drop_le {l : List UInt8} (h : l.length ≤ 2000) (s : Nat) : (l.drop s).length ≤ 2000 := by rw [List.length_drop]; omega
theorem num_pair (g1 b1 g2 b2 : Nat) (E : Int) (l : List UInt8) (M : Int) (hl : l.length ≤ 2000) (h0 : 0 ≤ M) (hM : M < 18446744073709551616) : ∃ (V : Nat) (E2 : Int) (l2 : List UInt8), l2.length ≤ 2000 ∧
    (∀ w, Rdr w 123 g1 b1 E l → Calls Tryd.prog 66 #[.pointer (some ⟨g1, 0, none⟩), .int .u64 M] w fun e w' => e = .returned (.int .u64 (V : Int)) ∧ Rdr w' 123 g1 b1 E2 l2 ∧ Only g1 w w') ∧
    (∀ w, Rdr w 101 g2 b2 E l → Calls Tryd.prog 62 #[.pointer (some ⟨g2, 0, none⟩), .int .u64 M] w fun e w' => e = .returned (.int .u64 (V : Int)) ∧ Rdr w' 101 g2 b2 E2 l2 ∧ Only g2 w w') :=
  ⟨_, _, _, drop_le hl (sNum E l M).2.2, fun w h => RNum_any g1 b1 E l M w h (by omega) h0 hM, fun w h => RefRNum_any g2 b2 E l M w h (by omega)⟩
theorem end_pair (g1 b1 g2 b2 : Nat) (E : Int) (l : List UInt8) : ∃ (E2 : Int),
    (∀ w, Rdr w 123 g1 b1 E l → Calls Tryd.prog 68 #[.pointer (some ⟨g1, 0, none⟩)] w fun e w' => e = .returned (.int .i64 E2) ∧ Rdr w' 123 g1 b1 E2 l ∧ Only g1 w w') ∧
    (∀ w, Rdr w 101 g2 b2 E l → Calls Tryd.prog 63 #[.pointer (some ⟨g2, 0, none⟩)] w fun e w' => e = .returned (.int .i64 E2) ∧ Rdr w' 101 g2 b2 E2 l ∧ Only g2 w w') :=
  ⟨_, fun w h => REnd_any g1 b1 E l w h, fun w h => RefEnd_any g2 b2 E l w h⟩
end
end Go.Proofs.YtgiobcpljbpmiaaDoor
