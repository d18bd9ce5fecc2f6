/-
  What the document's own reader (juratref04.Reader) answers: Byte, Digest.
-/
import Derived.Test.YtjifahocfbbicaaRefRdl
namespace Go.Proofs.Ytjifahocfbbicaa
open Go.RowKit
def Z32 : Array Value := bcells (List.replicate 32 0)
theorem Z32_size : Z32.size = 32 := by rw [Z32, bcells_size, List.length_replicate]
theorem Z32_one : Z32.all (·.oneCell') = true := bcells_one _
theorem info45 : (Try.prog.info? 45).map (fun i => (i.zero, i.size)) = some (some (.agg Z32), 32) := by kernel_rfl
theorem run_alloc45 (w : World) : (Instr.alloc 45 true (.tuple #[])).run Try.prog w = .ok (.pointer (some ⟨w.heap.size, 0, none⟩)) (w.alloc (.cells Z32 45)) := by
  have h := (zero_of_info info45).1 w
  simp [Instr.alloc, h, newVar, Value.cells]
  rfl
theorem wpList_alloc45 {w : World} {ops : Array Oper} {rest : List Oper} {o : Oper} {a : Act} {Q : Exit → Act → World → Prop} (hgd : o.guard = none) (ho : o.op = .alloc 45)
    (h : ∀ w', w'.heap.size = w.heap.size + 1 → Row w' w.heap.size 45 Z32 → Below w.heap.size w w' → wpList Try.prog ops Q rest (a.put o.dst (.pointer (some ⟨w.heap.size, 0, none⟩))) w') : wpList Try.prog ops Q (o :: rest) a w := by
  refine wpList_plain hgd fun K hK => ?_
  unfold Oper.wp execOp
  simp [ho, run_alloc45, Result.andThen]
  exact hK _ _ (h _ (by simp) (Row.new w 45 Z32) ((Below.refl _ _).alloc (Nat.le_refl _) _))
set_option maxHeartbeats 1000000 in
theorem RefByte_any (g b : Nat) (E : Int) (l : List UInt8) (w : World) (h : Rdr w 38 g b E l) (hl : l.length ≤ 1000000000) :
    Calls Try.prog 30 #[.pointer (some ⟨g, 0, none⟩)] w fun e w' => e = .returned (.int .u8 (((sFill E l 1).2.1.getD 0 0).toNat : Int)) ∧ Rdr w' 38 g b (sFill E l 1).1 (l.drop (sFill E l 1).2.2) ∧ Only g w w' := by
  have H := Lib.hid h
  obtain ⟨A, n, c, hr, hB, hnc, hI, hbg⟩ := h
  have c0 : w.cell? ⟨g, 0, none⟩ = some (.slice A n c) := hr.cell 0
  have c1 : w.cell? ⟨g, 1, none⟩ = some (.int .i64 E) := hr.cell 1
  have f0 := hr.frozen 0
  have f1 := hr.frozen 1
  have HR := Lib.hid hr
  have HB := Lib.hid hB
  have HI := Lib.hid hI
  have hn := hB.1
  have HME := Lib.hid (fun E => met (b := b) E hr hB hnc hI hbg)
  clear hr hI
  by_cases hE : E ≠ 0
  · have HQ := Lib.hid (show sFill E l 1 = (E, [0], 0) by unfold sFill; rw [if_neg hE]; rfl)
    have hE2 := bne0 hE
    generalize sFill E l 1 = q at *
    clear hB
    go_enter Try.func30, Try.ntmps30
    go_wp2
    go_ret
    rw [HQ.out]
    exact ⟨rfl, H.out, Only.refl _ _⟩
  obtain rfl : E = 0 := Decidable.not_not.1 hE
  clear hE
  rcases l with _ | ⟨x, r⟩
  · have HQ := Lib.hid (show sFill 0 [] 1 = (40, [0], 0) from rfl)
    obtain rfl : n = 0 := hn.symm
    generalize sFill 0 [] 1 = q at *
    clear hB
    go_enter Try.func30, Try.ntmps30
    go_wp2
    go_ret
    rw [HQ.out]
    exact ⟨rfl, HME.out 40, Only.setCell g 1 w _⟩
  · have HQ := Lib.hid (show sFill 0 (x :: r) 1 = (0, [x], 1) by unfold sFill; rw [if_pos rfl, if_neg (by simp)]; simp)
    have hn1 : r.length + 1 = n := hn
    have hnb : n ≤ 1000000000 := by have : r.length + 1 ≤ 1000000000 := hl; omega
    obtain ⟨bk, off, x', rfl, hb, hx, hcx⟩ := hB.get (k := 0) (by omega)
    obtain rfl : x' = x := by simpa using hx.symm
    rw [Nat.add_zero] at hcx
    have hnpos : (0 : Int) < (n : Int) := by omega
    have hz : ((n : Int) == 0) = false := by simp; omega
    obtain ⟨A1, hsl, hA1, hI1⟩ := cutU_from .i64 (some ⟨bk, off, none⟩) n c 1 (by omega) hnc
    rw [show ((1 : Nat) : Int) = 1 from rfl] at hsl
    have HA1 := Lib.hid hA1
    have HI1 := Lib.hid hI1
    generalize sFill 0 (x' :: r) 1 = q at *
    clear hB hx hn hn1 hA1 hI1
    go_enter Try.func30, Try.ntmps30
    go_wp2
    go_ret
    rw [HQ.out]
    have ho := Only.setCell g 0 w (.slice A1 (n - 1) (c - 1))
    exact ⟨rfl, ⟨A1, n - 1, c - 1, row2_set0 HR.out _, (HA1.out _ _ HB.out).only ((HI1.out b HI.out).apart hbg) ho, by omega, HI1.out b HI.out, hbg⟩, ho⟩
theorem take_cells {cs : Array Value} {l : List UInt8} (h : cs.size = 32) (hl : 32 ≤ l.length) (hc : ∀ (j : Nat) (x : UInt8), j < 32 → l[j]? = some x → cs[j]? = some (bcell x)) : cs = bcells (l.take 32) := by
  apply Array.ext_getElem?
  intro j
  rw [bcells_get?]
  by_cases hj : j < 32
  · rw [List.getElem?_take, if_pos hj, List.getElem?_eq_getElem (by omega), hc j _ hj (List.getElem?_eq_getElem (by omega))]; rfl
  · rw [Array.getElem?_eq_none (by omega), List.getElem?_eq_none (by rw [List.length_take]; omega)]; rfl
set_option maxRecDepth 100000 in
set_option maxHeartbeats 2000000 in
theorem RefDigest_any (g b : Nat) (E : Int) (l : List UInt8) (w : World) (h : Rdr w 38 g b E l) (hl : l.length ≤ 1000000000) :
    Calls Try.prog 32 #[.pointer (some ⟨g, 0, none⟩)] w fun e w' => e = .returned (.agg (bcells (sFill E l 32).2.1)) ∧ Rdr w' 38 g b (sFill E l 32).1 (l.drop (sFill E l 32).2.2) ∧ Only g w w' := by
  obtain ⟨b', hb1, hb2, h', hback⟩ := h.fresh
  have hgw := h.lt
  have HK := Lib.hid hback
  clear h hback
  have H := Lib.hid h'
  have HZ := Lib.hid Z32_size
  obtain ⟨A, n, c, hr, hB, hnc, hI, hbg⟩ := h'
  have HR := Lib.hid hr
  have HB := Lib.hid hB
  have HI := Lib.hid hI
  have hn := hB.1
  have hnb : n ≤ 1000000000 := by omega
  clear hr hI hB
  by_cases hE : E ≠ 0
  · have HQ := Lib.hid (show sFill E l 32 = (E, List.replicate 32 0, 0) by unfold sFill; rw [if_neg hE])
    have hE2 := bne0 hE
    generalize sFill E l 32 = q at *
    go_enter Try.func32, Try.ntmps32
    go_wp2_with (first
      | ((with_reducible refine wpList_alloc45 (w := w) rfl rfl ?_); intro w1 hs1 hr1 hb1'; have H1 := Lib.hid hr1; clear hr1)
      | ((with_reducible refine wpList_alloc45 (w := w1) rfl rfl ?_); intro w2 hs2 hr2 hb2'; rw [hs1] at *; have H2 := Lib.hid hr2; have k2 : w2.cell? ⟨g, 1, none⟩ = some (.int .i64 E) := (((HR.out.below hb1' hgw).below hb2' (by omega)).cell 1); clear hr2)
      | (with_reducible refine wpList_load_row Try.agg45 rfl (.tmp 3) rfl (w.heap.size + 1) rfl 45 Z32 H2.out HZ.out ?_)
      | ((with_reducible refine wpList_store_row Try.agg45 rfl (.tmp 2) (.tmp 10) rfl w.heap.size Z32 rfl rfl 45 Z32 (H1.out.below hb2' (by omega)) HZ.out HZ.out Z32_one ?_); intro w9 hr9 ho9))
    have p2 : Below w.heap.size w w2 := hb1'.trans (hb2'.mono (by omega))
    refine bodyPost_ret (v := .agg Z32) (results_row1 Try.agg45 Try.results32 rfl hr9 HZ.out) rfl ?_
    rw [HQ.out]
    exact ⟨rfl, HK.out w9 E 0 ((H.out.below p2).only ho9 (by omega) hb1), Only.of_below (p2.trans (ho9.below (Nat.le_refl _) p2.size))⟩
  obtain rfl : E = 0 := Decidable.not_not.1 hE
  clear hE
  by_cases hlt : n < 32
  · have HQ := Lib.hid (show sFill 0 l 32 = (40, List.replicate 32 0, 0) by unfold sFill; rw [if_pos rfl, if_pos (by omega)])
    generalize sFill 0 l 32 = q at *
    have hlt2 : (n : Int) < 32 := by omega
    go_enter Try.func32, Try.ntmps32
    go_wp2_with (first
      | ((with_reducible refine wpList_alloc45 (w := w) rfl rfl ?_); intro w1 hs1 hr1 hb1'; have H1 := Lib.hid hr1; clear hr1)
      | ((with_reducible refine wpList_alloc45 (w := w1) rfl rfl ?_); intro w2 hs2 hr2 hb2'; rw [hs1] at *; have H2 := Lib.hid (hr2.only (Only.setCell g 1 w2 (.int .i64 40)) (by omega)); have H1' := Lib.hid ((H1.out.below hb2' (by omega)).only (Only.setCell g 1 w2 (.int .i64 40)) (by omega)); have hg2 := (HR.out.below hb1' hgw).below hb2' (by omega); have HG2 := Lib.hid hg2; have k2 : w2.cell? ⟨g, 1, none⟩ = some (.int .i64 0) := hg2.cell 1; have f2 := hg2.frozen 1; have k20 : w2.cell? ⟨g, 0, none⟩ = some (.slice A n c) := hg2.cell 0; clear hr2 hg2)
      | (with_reducible refine wpList_load_row Try.agg45 rfl (.tmp 3) rfl (w.heap.size + 1) rfl 45 Z32 H2.out HZ.out ?_)
      | ((with_reducible refine wpList_store_row Try.agg45 rfl (.tmp 2) (.tmp 20) rfl w.heap.size Z32 rfl rfl 45 Z32 H1'.out HZ.out HZ.out Z32_one ?_); intro w9 hr9 ho9))
    have p2 : Below w.heap.size w w2 := hb1'.trans (hb2'.mono (by omega))
    refine bodyPost_ret (v := .agg Z32) (results_row1 Try.agg45 Try.results32 rfl hr9 HZ.out) rfl ?_
    rw [HQ.out]
    have hmet := met (b := b') 40 HG2.out (HB.out.below p2) hnc HI.out hbg
    have ho2 : Only g w (w2.setCell ⟨g, 1, none⟩ (.int .i64 40)) := (Only.of_below p2).trans (Only.setCell g 1 w2 _)
    exact ⟨rfl, HK.out w9 40 0 (hmet.only ho9 (by omega) hb1), ho2.then_below (ho9.below (Nat.le_refl _) ho2.size)⟩
  · have HQ := Lib.hid (show sFill 0 l 32 = (0, l.take 32, 32) by unfold sFill; rw [if_pos rfl, if_neg (by omega)])
    have hlt2 : (32 : Int) ≤ (n : Int) := by omega
    have HTK := Lib.hid (show (bcells (l.take 32)).size = 32 by rw [bcells_size, List.length_take]; omega)
    have HL32 := Lib.hid (show 32 ≤ l.length by omega)
    obtain ⟨A1, hsl, hA1, hI1⟩ := cutU_from .i64 A n c 32 (by omega) hnc
    rw [show ((32 : Nat) : Int) = 32 from rfl] at hsl
    have HA1 := Lib.hid hA1
    have HI1 := Lib.hid hI1
    generalize sFill 0 l 32 = q at *
    clear hA1 hI1
    go_enter Try.func32, Try.ntmps32
    go_wp2_with (first
      | ((with_reducible refine wpList_alloc45 (w := w) rfl rfl ?_); intro w1 hs1 hr1 hb1'; have H1 := Lib.hid hr1; clear hr1)
      | ((with_reducible refine wpList_alloc45 (w := w1) rfl rfl ?_); intro w2 hs2 hr2 hb2'; rw [hs1] at *; have H2 := Lib.hid hr2; have H1' := Lib.hid (H1.out.below hb2' (by omega)); have hg2 := (HR.out.below hb1' hgw).below hb2' (by omega); have HG2 := Lib.hid hg2; have k2 : w2.cell? ⟨g, 1, none⟩ = some (.int .i64 0) := hg2.cell 1; have k20 : w2.cell? ⟨g, 0, none⟩ = some (.slice A n c) := hg2.cell 0; clear hr2 hg2))
    have p2 : Below w.heap.size w w2 := hb1'.trans (hb2'.mono (by omega))
    go_loopw [4] (fun i wr => ∃ (k : Nat) (cs : Array Value), k ≤ 32 ∧ i = .int .i64 k ∧ Below w.heap.size w wr ∧ Row wr (w.heap.size + 1) 45 cs ∧ Hid (cs.size = 32) ∧ Hid (∀ (j : Nat) (x : UInt8), j < k → l[j]? = some x → cs[j]? = some (bcell x)) ∧ Row wr w.heap.size 45 Z32 ∧ Row wr g 38 #[.slice A n c, .int .i64 0]) (fun i _ => 32 - (intOf i).toNat)
    case atStart => exact ⟨0, Z32, Nat.zero_le _, rfl, p2, H2.out, HZ, Lib.hid (fun j x h => by omega), H1'.out, HG2.out⟩
    case round =>
      obtain ⟨k, cs, hk, rfl, pk, hrow, HSz, HCs, hres, hrd⟩ := hrel
      have j0 : wr.cell? ⟨g, 0, none⟩ = some (.slice A n c) := hrd.cell 0
      have HRow := Lib.hid hrow
      have HRes := Lib.hid hres
      have HRd := Lib.hid hrd
      by_cases hk2 : k < 32
      · obtain ⟨bk, off, x, rfl, hbl, hx, hcx⟩ := HB.out.get (k := k) (by omega)
        have hcx2 : wr.cell? ⟨bk, off + k, none⟩ = some (.int .u8 (x.toNat : Int)) := (pk.cell (p := ⟨bk, off + k, none⟩) hbl).trans hcx
        have hkin : k < cs.size := by have := HSz.out; omega
        have hdc := (hrow.cell k).trans (Array.getElem?_eq_getElem hkin)
        have hdf := hrow.frozen k
        have hin : (k : Int) < (n : Int) := by omega
        have hi32 : (k : Int) < 32 := by omega
        have HX := Lib.hid hx
        clear hrow hres hrd hx hcx
        go_wp2
        go_roundw
        case rel =>
          have ho := Only.setCell (w.heap.size + 1) k wr (.int .u8 (x.toNat : Int))
          refine ⟨k + 1, _, by omega, by go_num, pk.setCell (by simp) _, HRow.out.set k _, Lib.hid (by rw [Array.size_setIfInBounds]; exact HSz.out), Lib.hid (fun j y hj hy => ?_), HRes.out.only ho (by omega), HRd.out.only ho (by omega)⟩
          rw [Array.getElem?_setIfInBounds]
          by_cases hjk : k = j
          · subst hjk
            rw [HX.out] at hy
            injection hy with hy
            subst hy
            rw [if_pos rfl, if_pos hkin]; rfl
          · rw [if_neg hjk]; exact HCs.out j y (by omega) hy
        case measure => simp [intOf]; omega
      · obtain rfl : k = 32 := by omega
        have hcs : cs = bcells (l.take 32) := take_cells HSz.out HL32.out (fun j x hj hx => HCs.out j x hj hx)
        subst hcs
        have j0f := hrd.frozen 0
        have ho := Only.setCell g 0 wr (.slice A1 (n - 32) (c - 32))
        have HRow2 := Lib.hid (HRow.out.only ho (by omega))
        have HRes2 := Lib.hid (HRes.out.only ho (by omega))
        have HO := Lib.hid ho
        clear hrow hres hrd ho
        have HON := Lib.hid (bcells_one (l.take 32))
        obtain ⟨D, hD⟩ : ∃ D, bcells (l.take 32) = D := ⟨_, rfl⟩
        rw [hD] at HRow2 HTK HON
        have HDD := Lib.hid hD
        clear HRow hD
        go_wp2_with (first
          | (with_reducible refine wpList_load_row Try.agg45 rfl (.tmp 3) rfl (w.heap.size + 1) rfl 45 D HRow2.out HTK.out ?_)
          | ((with_reducible refine wpList_store_row Try.agg45 rfl (.tmp 2) (.tmp 42) rfl w.heap.size D rfl rfl 45 Z32 HRes2.out HTK.out HZ.out HON.out ?_); intro w9 hr9 ho9))
        refine bodyPost_ret (v := .agg D) (results_row1 Try.agg45 Try.results32 rfl hr9 HTK.out) rfl ?_
        rw [HQ.out]
        refine ⟨by rw [← HDD.out], HK.out w9 0 32 ?_, ?_⟩
        · have hr : Rdr (wr.setCell ⟨g, 0, none⟩ (.slice A1 (n - 32) (c - 32))) 38 g b' 0 (l.drop 32) := back HRd.out ((HA1.out _ _ HB.out).below pk) (by omega) (HI1.out b' HI.out) hbg
          exact hr.only ho9 (by omega) hb1
        · have h1 := (Only.of_below pk).trans HO.out
          exact h1.then_below (ho9.below (Nat.le_refl _) h1.size)
end Go.Proofs.Ytjifahocfbbicaa
