/-
  TapePlays, whole (Rows.TapePlaysSaid): behind each call of any list the tape and the document's own answer alike, crashes among them. No conditions.
  The frame is the shell of the proof by program (proof-skeleton); the walk is mine.
-/
import Derived.Test.YtpnllbadalcnaaaRows
import Derived.WalkKit
import Derived.ProofKit
import Derived.OpenShut
import Derived.ShutString
import Derived.ChangeOld
import Derived.Below
import Derived.SizedLaws
import Derived.Test.YtpnllbadalcnaaaPlayA
namespace Go.Proofs.Ytpnllbadalcnaaa.tapePlays
open Go.ChangeShapes Go.WideShapes Go.ChangeAt Go.RowKit
set_option linter.unusedVariables false
theorem own : ownKnob Try.prog.godebug = none := by kernel_rfl
theorem laidOut : laidOutB Try.prog = true := by kernel_rfl
theorem yields_fld41 {ops : Array Oper} {S : World → Prop} {o : Oper} {a : Act} (hw : Region.wanted o (yielded ops a.tmps) = true) (x : Operand) (ho : o.op = .fieldAddr 41 x 2) (g : Nat)
    (hx : a.eval x = .pointer (some ⟨g, 0, none⟩)) : YieldsIf Try.prog ops S o (.pointer (some ⟨g, 9, none⟩)) a :=
  .inl ⟨hw, fun w _ => by
    unfold execOp
    simp only [ho, hx]
    go_simp⟩
theorem yields_neD {ops : Array Oper} {S : World → Prop} {o : Oper} {a : Act} (hw : Region.wanted o (yielded ops a.tmps) = true) (x y : Operand) (ho : o.op = .binOp .neq 4 x y 4) (p : Bool)
    (hx : a.eval x = .bool p) (hy : a.eval y = .bool p) : YieldsIf Try.prog ops S o (.bool false) a :=
  .inl ⟨hw, fun w _ => by
    unfold execOp
    simp only [ho, hx, hy]
    cases p <;> go_simp⟩
theorem wp_loadD {o : Oper} {a : Act} {w : World} {K : Act → World → Prop} {Q : Exit → Act → World → Prop} (x : Operand) (ho : o.op = .load 4 x) (g k : Nat) (v : Bool)
    (hx : a.eval x = .pointer (some ⟨g, k, none⟩)) (hc : w.cell? ⟨g, k, none⟩ = some (.bool v)) (h : K (a.put o.dst (.bool v)) w) : o.wp Try.prog a w K Q := by
  unfold Oper.wp execOp
  simp only [ho, hx]
  go_simp
  exact h
set_option maxRecDepth 100000 in
set_option maxHeartbeats 16000000 in
theorem walk (w : World) (a0 : Option Addr) (len0 cap0 : Nat) (l0 : List Cl) (w0 : Cls w a0 len0 l0) :
    Calls Try.prog 3 #[.slice a0 len0 cap0] w fun e w' => e = .returned (.bool true) ∧ Below w.heap.size w w' := by
  have HC := Lib.hid w0
  by_cases hl : longC l0 = true
  · have HLo := Lib.hid (fun w h => long_is a0 len0 cap0 l0 true w h hl)
    clear w0 hl
    go_enter Try.func3, Try.ntmps3
    go_wp2_with (first
      | (go_at_call 10; refine (HLo.out _ HC.out).mono ?_; rintro e1 w1 ⟨rfl, rfl⟩)
      | (go_at_call 11; refine (awake_any _).mono ?_; rintro e2 w2 ⟨rfl, hb2⟩))
    go_ret
    exact ⟨rfl, hb2⟩
  have hl' : longC l0 = false := by simpa using hl
  have HLo := Lib.hid (fun w h => long_is a0 len0 cap0 l0 false w h hl')
  obtain ⟨hl60, hlb⟩ := longC_no hl'
  have HM5 := Lib.hid hlb
  have hm1 : len0 ≤ 60 := by have := w0.1; omega
  clear w0 hl hl' hl60 hlb
  go_enter Try.func3, Try.ntmps3
  go_wp2_with (first
    | (go_at_call 10; refine (HLo.out _ HC.out).mono ?_; rintro e1 w1 ⟨rfl, rfl⟩)
    | (go_at_call 12; refine (New_any _).mono ?_; rintro e2 w2 ⟨g, rfl, hg, ht2, hb2⟩; have HT2 := Lib.hid ht2; clear ht2)
    | (go_at_call 13; refine (MNew_any _).mono ?_; rintro e3 w3 ⟨gm, rfl, hgm, ht3, hb3⟩; have HT3 := Lib.hid ht3; clear ht3))
  have HTs := Lib.hid (HT2.out.below hb3)
  have hgl := HT2.out.glt
  have HD3 := Lib.hid (fun b (q : Foot g (fun _ _ => False) b) (q2 : Foot gm (fun _ _ => False) b) => show False from by
    rcases q with q | ⟨_, q⟩
    · rcases q2 with q2 | ⟨_, q2⟩
      · omega
      · exact q2
    · exact q)
  have HFa := Lib.hid (fun b (q : Foot g (fun _ _ => False) b) => show w.heap.size ≤ b from q.elim (fun q => by rw [q]; exact hg) (fun ⟨_, q⟩ => q.elim))
  have HFb := Lib.hid (fun b (q : Foot gm (fun _ _ => False) b) => show w.heap.size ≤ b from q.elim (fun q => by rw [q]; exact Nat.le_trans hb2.size hgm) (fun ⟨_, q⟩ => q.elim))
  have b3 := hb2.trans (hb3.mono hb2.size)
  go_loopw [3, 4, 5] (fun t m x wr => ∃ (k g gm : Nat) (S : Tp) (F FM : Nat → Nat → Prop), k ≤ len0 ∧ x = .int .i64 (k : Int) ∧ t = .pointer (some ⟨g, 0, none⟩) ∧ m = .pointer (some ⟨gm, 0, none⟩) ∧ Hid (Tap wr g F S) ∧ Hid (TapM wr gm FM S) ∧ Hid (S.ok (501 * k)) ∧ Hid (∀ b, Foot g F b → w.heap.size ≤ b) ∧ Hid (∀ b, Foot gm FM b → w.heap.size ≤ b) ∧ Hid (∀ b, Foot g F b → Foot gm FM b → False) ∧ Below w.heap.size w wr) (fun _ _ x _ => len0 - (intOf x).toNat)
  case atStart => exact ⟨0, g, gm, Tp.new, _, _, Nat.zero_le _, rfl, rfl, rfl, HTs, HT3, Lib.hid (ok_new _), HFa, HFb, HD3, b3⟩
  case round =>
    clear HT2 HT3 HTs HD3 HFa HFb hb2 hb3 b3 hg hgm hgl
    obtain ⟨k, g, gm, S, F, FM, hk, rfl, rfl, rfl, HT, HM, HOK, HF, HFM, HD, hb⟩ := hrel
    by_cases hlt : k < len0
    · obtain ⟨x, b, off, T, m, c1, I, p, d, hx, rfl, hbw, hr0, hB0, hmc, hI0, hni0⟩ := HC.out.get hlt
      have hx5 := HM5.out x (List.mem_of_getElem? hx)
      obtain ⟨ki, fi, ni, l, kept⟩ := x
      simp only at hr0 hB0 hI0 hni0 hx5
      have hni : ni < 9223372036854775808 := hni0.2
      have HNI := Lib.hid hni
      have HR := Lib.hid (show wr.rangeAt b (off + 5 * k) (clC ki fi ni T m c1 I p d).toList from fun j v hv => (hb.cell (p := ⟨b, off + 5 * k + j, none⟩) hbw).trans (hr0 j v hv))
      have HB := Lib.hid (hB0.below hb)
      have HA0 := Lib.hid (fun (h0 : m ≠ 0) b off (e : T = some ⟨b, off, none⟩) => show b < w.heap.size from by
        obtain ⟨b', off', x, e', hlt, _⟩ := hB0.get (show 0 < m by omega)
        rw [e'] at e
        injection e with e
        injection e with e
        subst e
        exact hlt)
      have HIw := Lib.hid (fun w' (hb' : Below wr.heap.size wr w') => (hI0.below hb).below hb')
      have hm5 : m ≤ 500 := by have := hB0.1; omega
      have hp10 : p ≤ 10 := by have := hI0.1; omega
      have hK : 501 * k + 501 ≤ 100000000 := by omega
      have HLK := Lib.hid hx5.1
      clear hr0 hB0 hI0 hni0 hx5 hx hni
      by_cases h0 : ki < 0
      · go_wp2_with (first
          | (with_reducible refine wpList_indexK (by with_unfolding_all rfl) (.tmp 19) (.tmp 20) rfl b off len0 cap0 k _ _ rfl rfl rfl hlt rfl ?_)
          | (with_reducible refine wpList_loadK rfl (.tmp 21) rfl b (off + 5 * k) ki fi ni T m c1 I p d rfl HR.out ?_)
          | (with_reducible refine wpList_allocK rfl rfl ?_; intro gc w2 hgc hrc hbc; have HRc := Lib.hid hrc; clear hrc)
          | (with_reducible refine wpList_store_row Try.agg32 rfl (.tmp 6) (.tmp 22) rfl _ (clC ki fi ni T m c1 I p d) rfl rfl 32 cl0 HRc.out (clC_size _ _ _ _ _ _ _ _ _) cl0_size (clC_one _ _ _ _ _ _ _ _ _) ?_; intro w3 hr3 ho3; obtain ⟨q0, q1, q2, q3, q4⟩ := cl_cells hr3; have b3 : Below wr.heap.size wr w3 := hbc.trans (ho3.below hgc hbc.size); have HR3 := Lib.hid hr3; have HT3 := Lib.hid (HT.out.below b3); have HM3 := Lib.hid (HM.out.below b3); have HI3 := Lib.hid (HIw.out _ b3); have q4a : (w3.alloc (.cells #[] 3)).cell? ⟨gc, 4, none⟩ = some (.slice I p d) := (World.cell?_of_block (a := ⟨gc, 4, none⟩) (((Below.refl w3.heap.size w3).alloc (Nat.le_refl _) (.cells #[] 3)).block gc hr3.lt)).trans q4; clear hr3)
          | (with_reducible refine wpList_copyI rfl (.tmp 32) (.tmp 34) rfl rfl I p d kept rfl HI3.out (by omega) ?_; intro A4 c4 w4 hI4 hb4; have HI4 := Lib.hid hI4; clear hI4)
          | (go_at_call 14; refine (Crash_any g (501 * k) p c4 A4 kept F w4 (HT3.out.below hb4) HOK.out (by omega) HI4.out).mono ?_; rintro e5 w5 ⟨g5, F5, rfl, ht5, hf5, hb5⟩; have HT5 := Lib.hid ht5; have HF5 := Lib.hid hf5; have k5 : Below w3.heap.size w3 w5 := hb4.trans (hb5.mono hb4.size); have q5 : w5.cell? ⟨gc, 4, none⟩ = some (.slice I p d) := (World.cell?_of_block (a := ⟨gc, 4, none⟩) (k5.block gc HR3.out.lt)).trans q4; have HI5 := Lib.hid (HIw.out w5 (b3.trans (k5.mono b3.size))); clear ht5 hf5)
          | (go_at_call 15; refine (MCrash_any gm (501 * k) p d I kept FM w5 (HM3.out.below k5) HOK.out (by omega) HI5.out).mono ?_; rintro e6 w6 ⟨g6, F6, rfl, ht6, hf6, hb6⟩; have HT6 := Lib.hid ht6; have HF6 := Lib.hid hf6; clear ht6 hf6))
        have z3 := hb.trans (b3.mono hb.size)
        have z5 := z3.trans (k5.mono z3.size)
        have hbx := z5.trans (hb6.mono z5.size)
        have k6 := k5.trans (hb6.mono k5.size)
        have HBx := Lib.hid (HB.out.below (b3.trans (k6.mono b3.size)))
        have HR6 := Lib.hid (HR3.out.below k6 HR3.out.lt)
        have HT7 := Lib.hid (HT5.out.below hb6)
        have HOK7 := Lib.hid (crash_ok kept (501 * k) HOK.out)
        have HF7 := Lib.hid (fun b (q : Foot g5 F5 b) => show w.heap.size ≤ b from by have := HF5.out b q; have := z3.size; have := hb4.size; omega)
        have HF8 := Lib.hid (fun b (q : Foot g6 F6 b) => show w.heap.size ≤ b from by have := HF6.out b q; have := z5.size; omega)
        have HD7 := Lib.hid (fun b (q : Foot g5 F5 b) (q2 : Foot g6 F6 b) => show False from by have := HT5.out.foot q; have := HF6.out b q2; omega)
        have hgc6 : gc < w5.heap.size := Nat.lt_of_lt_of_le HR3.out.lt k5.size
        have HG7 := Lib.hid (fun b (q : Foot g5 F5 b) => show b ≠ gc from by have := HF5.out b q; have := HR3.out.lt; have := hb4.size; omega)
        have HG8 := Lib.hid (fun b (q : Foot g6 F6 b) => show b ≠ gc from by have := HF6.out b q; omega)
        generalize S.crash kept = SX at *
        clear HT3 HM3 HI3 HR3 q0 q1 q2 q3 q4 q4a HI4 HT5 HF5 q5 HI5 HF6 HT HM HOK HF HFM HD HB HIw HR HRc
        obtain ⟨S5, hS5⟩ : ∃ S5, doesT SX ki fi ni l = S5 := ⟨_, rfl⟩
        have HDo := Lib.hid (fun wq (hq : Below w6.heap.size w6 wq) => show Calls Try.prog 16 #[.pointer (some ⟨g5, 0, none⟩), .pointer (some ⟨g6, 0, none⟩), .agg (clC ki fi ni T m c1 I p d)] wq fun e w' => e = .returned (.bool true) ∧ Both wq g5 g6 F5 F6 S5 w' from by
          rw [← hS5]
          exact Does_any g5 g6 (501 * k) ki fi ni T m c1 I p d l F5 F6 wq (HT7.out.below hq) (HT6.out.below hq) HD7.out HOK7.out hK (HBx.out.below hq) hm5 (fun h0 b off e => ⟨fun q => by have := HA0.out h0 b off e; have := HF7.out b q; omega, fun q => by have := HA0.out h0 b off e; have := HF8.out b q; omega⟩) HNI.out)
        have HOK5 : Hid (S5.ok (501 * (k + 1))) := Lib.hid (by rw [← hS5]; exact (doesT_ok ki fi ni l HOK7.out HLK.out).mono (by omega))
        obtain ⟨D, hD⟩ : ∃ D, S5.down = D := ⟨_, rfl⟩
        have HDn := Lib.hid hD
        clear hS5 hD HLK HNI
        refine cutR (fun a a' w' => a' = ((((((((((((((a.put (some 41) (.pointer (some ⟨g5, 0, none⟩))).put (some 42) (.pointer (some ⟨g6, 0, none⟩))).put (some 43) (.agg (clC ki fi ni T m c1 I p d))).put (some 44) (.bool true)).put (some 45) (.bool false)).put (some 46) (.bool false)).put (some 47) (.pointer (some ⟨g5, 0, none⟩))).put (some 48) (.bool D)).put (some 49) (.pointer (some ⟨g6, 0, none⟩))).put (some 50) (.pointer (some ⟨g6, 0, none⟩))).put (some 51) (.pointer (some ⟨g6, 9, none⟩))).put (some 52) (.bool D)).put (some 53) (.bool false)).put (some 54) (.bool false)) ∧ Both w6.drew g5 g6 F5 F6 S5 w') ?_ ?_
        · have D0 : Below w6.heap.size w6 w6.drew := (Below.refl w6.heap.size w6).drew
          refine wp_region_noPanic ?_
          refine wp_region_held_drew (S := fun w' => Row w' gc 32 (clC ki fi ni T m c1 I p d)) (by kernel_rfl) (HR6.out.below D0 HR6.out.lt) (fun hHeld => ?_)
          refine takeD (i := 0) (some 41) (.pointer (some ⟨g5, 0, none⟩)) rfl rfl (by kernel_rfl) (by kernel_rfl) (by kernel_rfl) (fun _ _ _ h => h) (Or.inl ⟨by rfl, fun _ _ => rfl⟩) hHeld ?_
          simp only [Act.put, List.setIfInBounds_toArray, List.set_cons_zero, List.set_cons_succ]
          refine takeD (i := 1) (some 42) (.pointer (some ⟨g6, 0, none⟩)) rfl rfl (by kernel_rfl) (by kernel_rfl) (by kernel_rfl) (fun _ _ _ h => h) (Or.inl ⟨by rfl, fun _ _ => rfl⟩) hHeld ?_
          simp only [Act.put, List.setIfInBounds_toArray, List.set_cons_zero, List.set_cons_succ]
          refine takeD (i := 2) (some 43) (.agg (clC ki fi ni T m c1 I p d)) rfl rfl (by kernel_rfl) (by kernel_rfl) (by kernel_rfl) (fun _ _ _ h => h) (yieldsIf_load_mid (by rfl) 32 (.tmp 6) rfl gc 0 rfl (clC ki fi ni T m c1 I p d).toList _ (fun _ h => rangeAt_row h) Try.underlying32 rfl (by show (Try.prog.info? 32).map (·.size) = some 5; kernel_rfl)) hHeld ?_
          simp only [Act.put, List.setIfInBounds_toArray, List.set_cons_zero, List.set_cons_succ]
          refine wpAnyH_ready (rs := [3]) (by kernel_rfl) (by decide) ?_
          refine AllReadyH.cons rfl (fun K' hK => ?_) AllReadyH.nil
          go_simp
          refine (HDo.out w6.drew D0).mono ?_
          rintro e9 w9 ⟨rfl, hg9⟩
          have HG9 := Lib.hid hg9
          obtain ⟨F9, FM9, _, _, ht9, htm9, _, ho9⟩ := hg9
          have HT9 := Lib.hid ht9
          have c9 : w9.cell? ⟨g6, 9, none⟩ = some (.bool D) := by rw [htm9.cell.2, HDn.out]
          have HX := Lib.hid (show Row w9 gc 32 (clC ki fi ni T m c1 I p d) from (ho9.block gc (Nat.lt_of_lt_of_le HR6.out.lt D0.size) (fun q => q.elim (fun q => HG7.out gc q rfl) (fun q => HG8.out gc q rfl))).trans (HR6.out.below D0 HR6.out.lt))
          clear ht9 htm9 ho9
          refine hK.out _ _ HX.out (fun hHeld1 => ?_)
          clear hK
          (try simp only [Act.put, List.setIfInBounds_toArray, List.set_cons_zero, List.set_cons_succ])
          refine takeD (i := 4) (some 45) (.bool false) rfl rfl (by kernel_rfl) (by kernel_rfl) (by kernel_rfl) (fun _ _ _ h => h) (Or.inl ⟨by rfl, fun _ _ => rfl⟩) hHeld1 ?_
          simp only [Act.put, List.setIfInBounds_toArray, List.set_cons_zero, List.set_cons_succ]
          refine takeD (i := 5) (some 46) (.bool false) rfl rfl (by kernel_rfl) (by kernel_rfl) (by kernel_rfl) (fun _ _ _ h => h) (Or.inl ⟨by rfl, fun _ _ => rfl⟩) hHeld1 ?_
          simp only [Act.put, List.setIfInBounds_toArray, List.set_cons_zero, List.set_cons_succ]
          refine takeD (i := 6) (some 47) (.pointer (some ⟨g5, 0, none⟩)) rfl rfl (by kernel_rfl) (by kernel_rfl) (by kernel_rfl) (fun _ _ _ h => h) (Or.inl ⟨by rfl, fun _ _ => rfl⟩) hHeld1 ?_
          simp only [Act.put, List.setIfInBounds_toArray, List.set_cons_zero, List.set_cons_succ]
          refine takeD (i := 8) (some 49) (.pointer (some ⟨g6, 0, none⟩)) rfl rfl (by kernel_rfl) (by kernel_rfl) (by kernel_rfl) (fun _ _ _ h => h) (Or.inl ⟨by rfl, fun _ _ => rfl⟩) hHeld1 ?_
          simp only [Act.put, List.setIfInBounds_toArray, List.set_cons_zero, List.set_cons_succ]
          refine takeD (i := 9) (some 50) (.pointer (some ⟨g6, 0, none⟩)) rfl rfl (by kernel_rfl) (by kernel_rfl) (by kernel_rfl) (fun _ _ _ h => h) (yields_nil (by rfl) (.tmp 49) rfl _ rfl) hHeld1 ?_
          simp only [Act.put, List.setIfInBounds_toArray, List.set_cons_zero, List.set_cons_succ]
          refine takeD (i := 10) (some 51) (.pointer (some ⟨g6, 9, none⟩)) rfl rfl (by kernel_rfl) (by kernel_rfl) (by kernel_rfl) (fun _ _ _ h => h) (yields_fld41 (by rfl) (.tmp 50) rfl g6 rfl) hHeld1 ?_
          simp only [Act.put, List.setIfInBounds_toArray, List.set_cons_zero, List.set_cons_succ]
          refine wpAnyH_ready (rs := [7, 11]) (by kernel_rfl) (by decide) ?_
          refine AllReadyH.cons rfl (fun K' hK => ?_) (AllReadyH.cons rfl (fun K' hK => ?_) AllReadyH.nil)
          · skip
            go_simp
            refine (Down_any g5 F9 w9 HT9.out).mono ?_
            rintro e7 w7 ⟨rfl, rfl⟩
            rw [HDn.out]
            refine hK.out _ _ HX.out (fun hHeld2 => ?_)
            clear hK
            (try simp only [Act.put, List.setIfInBounds_toArray, List.set_cons_zero, List.set_cons_succ])
            refine wpAnyH_ready (rs := [11]) (by kernel_rfl) (by decide) ?_
            refine AllReadyH.cons rfl (fun K' hK => ?_) AllReadyH.nil
            refine step_ofG (by rfl) (wp_loadD (.tmp 51) rfl g6 9 D rfl c9 ?_)
            refine hK.out _ _ HX.out (fun hHeld3 => ?_)
            clear hK
            simp only [List.getElem_toArray, List.getElem_cons_succ, List.getElem_cons_zero, Act.put, List.setIfInBounds_toArray, List.set_cons_zero, List.set_cons_succ]
            refine takeD (i := 12) (some 53) (.bool false) rfl rfl (by kernel_rfl) (by kernel_rfl) (by kernel_rfl) (fun _ _ _ h => h) (yields_neD (by rfl) (.tmp 48) (.tmp 52) rfl D rfl rfl) hHeld3 ?_
            simp only [Act.put, List.setIfInBounds_toArray, List.set_cons_zero, List.set_cons_succ]
            refine takeD (i := 13) (some 54) (.bool false) rfl rfl (by kernel_rfl) (by kernel_rfl) (by kernel_rfl) (fun _ _ _ h => h) (Or.inl ⟨by rfl, fun _ _ => rfl⟩) hHeld3 ?_
            (try simp only [Act.put, List.setIfInBounds_toArray, List.set_cons_zero, List.set_cons_succ])
            refine wpAnyH_done (by kernel_rfl) ?_ _
            refine NoPanic.normal ?_
            exact ⟨rfl, rfl, HG9.out⟩
          · skip
            refine step_ofG (by rfl) (wp_loadD (.tmp 51) rfl g6 9 D rfl c9 ?_)
            refine hK.out _ _ HX.out (fun hHeld2 => ?_)
            clear hK
            simp only [List.getElem_toArray, List.getElem_cons_succ, List.getElem_cons_zero, Act.put, List.setIfInBounds_toArray, List.set_cons_zero, List.set_cons_succ]
            refine wpAnyH_ready (rs := [7]) (by kernel_rfl) (by decide) ?_
            refine AllReadyH.cons rfl (fun K' hK => ?_) AllReadyH.nil
            go_simp
            refine (Down_any g5 F9 w9 HT9.out).mono ?_
            rintro e7 w7 ⟨rfl, rfl⟩
            rw [HDn.out]
            refine hK.out _ _ HX.out (fun hHeld3 => ?_)
            clear hK
            (try simp only [Act.put, List.setIfInBounds_toArray, List.set_cons_zero, List.set_cons_succ])
            refine takeD (i := 12) (some 53) (.bool false) rfl rfl (by kernel_rfl) (by kernel_rfl) (by kernel_rfl) (fun _ _ _ h => h) (yields_neD (by rfl) (.tmp 48) (.tmp 52) rfl D rfl rfl) hHeld3 ?_
            simp only [Act.put, List.setIfInBounds_toArray, List.set_cons_zero, List.set_cons_succ]
            refine takeD (i := 13) (some 54) (.bool false) rfl rfl (by kernel_rfl) (by kernel_rfl) (by kernel_rfl) (fun _ _ _ h => h) (Or.inl ⟨by rfl, fun _ _ => rfl⟩) hHeld3 ?_
            (try simp only [Act.put, List.setIfInBounds_toArray, List.set_cons_zero, List.set_cons_succ])
            refine wpAnyH_done (by kernel_rfl) ?_ _
            refine NoPanic.normal ?_
            exact ⟨rfl, rfl, HG9.out⟩
        · rintro a' w9 ⟨rfl, hg9⟩
          simp only [Act.put, List.setIfInBounds_toArray, List.set_cons_zero, List.set_cons_succ]
          have HG9 := Lib.hid hg9
          have hbz : Below w.heap.size w w6.drew := hbx.trans ((Below.refl w6.heap.size w6).drew.mono hbx.size)
          clear hg9
          go_wp2
          go_roundw
          case rel =>
            obtain ⟨F9, FM9, hF9, hFM9, ht9, htm9, hd9, ho9⟩ := HG9.out
            exact ⟨k + 1, g5, g6, S5, F9, FM9, by omega, by go_num, rfl, rfl, Lib.hid ht9, Lib.hid htm9, HOK5, Lib.hid (fun b q => (hF9.foot b q).elim (HF7.out b) (fun q2 => Nat.le_trans hbz.size q2)), Lib.hid (fun b q => (hFM9.foot b q).elim (HF8.out b) (fun q2 => Nat.le_trans hbz.size q2)), Lib.hid hd9, hbz.trans (ho9.below (fun b q => q.elim (HF7.out b) (HF8.out b)) hbz.size)⟩
          case measure => simp [intOf]; omega

      · by_cases h4 : 4 < ki
        · go_wp2_with (first
            | (with_reducible refine wpList_indexK (by with_unfolding_all rfl) (.tmp 19) (.tmp 20) rfl b off len0 cap0 k _ _ rfl rfl rfl hlt rfl ?_)
            | (with_reducible refine wpList_loadK rfl (.tmp 21) rfl b (off + 5 * k) ki fi ni T m c1 I p d rfl HR.out ?_)
            | (with_reducible refine wpList_allocK rfl rfl ?_; intro gc w2 hgc hrc hbc; have HRc := Lib.hid hrc; clear hrc)
            | (with_reducible refine wpList_store_row Try.agg32 rfl (.tmp 6) (.tmp 22) rfl _ (clC ki fi ni T m c1 I p d) rfl rfl 32 cl0 HRc.out (clC_size _ _ _ _ _ _ _ _ _) cl0_size (clC_one _ _ _ _ _ _ _ _ _) ?_; intro w3 hr3 ho3; obtain ⟨q0, q1, q2, q3, q4⟩ := cl_cells hr3; have b3 : Below wr.heap.size wr w3 := hbc.trans (ho3.below hgc hbc.size); have HR3 := Lib.hid hr3; have HT3 := Lib.hid (HT.out.below b3); have HM3 := Lib.hid (HM.out.below b3); have HI3 := Lib.hid (HIw.out _ b3); have q4a : (w3.alloc (.cells #[] 3)).cell? ⟨gc, 4, none⟩ = some (.slice I p d) := (World.cell?_of_block (a := ⟨gc, 4, none⟩) (((Below.refl w3.heap.size w3).alloc (Nat.le_refl _) (.cells #[] 3)).block gc hr3.lt)).trans q4; clear hr3)
            | (with_reducible refine wpList_copyI rfl (.tmp 32) (.tmp 34) rfl rfl I p d kept rfl HI3.out (by omega) ?_; intro A4 c4 w4 hI4 hb4; have HI4 := Lib.hid hI4; clear hI4)
            | (go_at_call 14; refine (Crash_any g (501 * k) p c4 A4 kept F w4 (HT3.out.below hb4) HOK.out (by omega) HI4.out).mono ?_; rintro e5 w5 ⟨g5, F5, rfl, ht5, hf5, hb5⟩; have HT5 := Lib.hid ht5; have HF5 := Lib.hid hf5; have k5 : Below w3.heap.size w3 w5 := hb4.trans (hb5.mono hb4.size); have q5 : w5.cell? ⟨gc, 4, none⟩ = some (.slice I p d) := (World.cell?_of_block (a := ⟨gc, 4, none⟩) (k5.block gc HR3.out.lt)).trans q4; have HI5 := Lib.hid (HIw.out w5 (b3.trans (k5.mono b3.size))); clear ht5 hf5)
            | (go_at_call 15; refine (MCrash_any gm (501 * k) p d I kept FM w5 (HM3.out.below k5) HOK.out (by omega) HI5.out).mono ?_; rintro e6 w6 ⟨g6, F6, rfl, ht6, hf6, hb6⟩; have HT6 := Lib.hid ht6; have HF6 := Lib.hid hf6; clear ht6 hf6))
          have z3 := hb.trans (b3.mono hb.size)
          have z5 := z3.trans (k5.mono z3.size)
          have hbx := z5.trans (hb6.mono z5.size)
          have k6 := k5.trans (hb6.mono k5.size)
          have HBx := Lib.hid (HB.out.below (b3.trans (k6.mono b3.size)))
          have HR6 := Lib.hid (HR3.out.below k6 HR3.out.lt)
          have HT7 := Lib.hid (HT5.out.below hb6)
          have HOK7 := Lib.hid (crash_ok kept (501 * k) HOK.out)
          have HF7 := Lib.hid (fun b (q : Foot g5 F5 b) => show w.heap.size ≤ b from by have := HF5.out b q; have := z3.size; have := hb4.size; omega)
          have HF8 := Lib.hid (fun b (q : Foot g6 F6 b) => show w.heap.size ≤ b from by have := HF6.out b q; have := z5.size; omega)
          have HD7 := Lib.hid (fun b (q : Foot g5 F5 b) (q2 : Foot g6 F6 b) => show False from by have := HT5.out.foot q; have := HF6.out b q2; omega)
          have hgc6 : gc < w5.heap.size := Nat.lt_of_lt_of_le HR3.out.lt k5.size
          have HG7 := Lib.hid (fun b (q : Foot g5 F5 b) => show b ≠ gc from by have := HF5.out b q; have := HR3.out.lt; have := hb4.size; omega)
          have HG8 := Lib.hid (fun b (q : Foot g6 F6 b) => show b ≠ gc from by have := HF6.out b q; omega)
          generalize S.crash kept = SX at *
          clear HT3 HM3 HI3 HR3 q0 q1 q2 q3 q4 q4a HI4 HT5 HF5 q5 HI5 HF6 HT HM HOK HF HFM HD HB HIw HR HRc
          obtain ⟨S5, hS5⟩ : ∃ S5, doesT SX ki fi ni l = S5 := ⟨_, rfl⟩
          have HDo := Lib.hid (fun wq (hq : Below w6.heap.size w6 wq) => show Calls Try.prog 16 #[.pointer (some ⟨g5, 0, none⟩), .pointer (some ⟨g6, 0, none⟩), .agg (clC ki fi ni T m c1 I p d)] wq fun e w' => e = .returned (.bool true) ∧ Both wq g5 g6 F5 F6 S5 w' from by
            rw [← hS5]
            exact Does_any g5 g6 (501 * k) ki fi ni T m c1 I p d l F5 F6 wq (HT7.out.below hq) (HT6.out.below hq) HD7.out HOK7.out hK (HBx.out.below hq) hm5 (fun h0 b off e => ⟨fun q => by have := HA0.out h0 b off e; have := HF7.out b q; omega, fun q => by have := HA0.out h0 b off e; have := HF8.out b q; omega⟩) HNI.out)
          have HOK5 : Hid (S5.ok (501 * (k + 1))) := Lib.hid (by rw [← hS5]; exact (doesT_ok ki fi ni l HOK7.out HLK.out).mono (by omega))
          obtain ⟨D, hD⟩ : ∃ D, S5.down = D := ⟨_, rfl⟩
          have HDn := Lib.hid hD
          clear hS5 hD HLK HNI
          refine cutR (fun a a' w' => a' = ((((((((((((((a.put (some 41) (.pointer (some ⟨g5, 0, none⟩))).put (some 42) (.pointer (some ⟨g6, 0, none⟩))).put (some 43) (.agg (clC ki fi ni T m c1 I p d))).put (some 44) (.bool true)).put (some 45) (.bool false)).put (some 46) (.bool false)).put (some 47) (.pointer (some ⟨g5, 0, none⟩))).put (some 48) (.bool D)).put (some 49) (.pointer (some ⟨g6, 0, none⟩))).put (some 50) (.pointer (some ⟨g6, 0, none⟩))).put (some 51) (.pointer (some ⟨g6, 9, none⟩))).put (some 52) (.bool D)).put (some 53) (.bool false)).put (some 54) (.bool false)) ∧ Both w6.drew g5 g6 F5 F6 S5 w') ?_ ?_
          · have D0 : Below w6.heap.size w6 w6.drew := (Below.refl w6.heap.size w6).drew
            refine wp_region_noPanic ?_
            refine wp_region_held_drew (S := fun w' => Row w' gc 32 (clC ki fi ni T m c1 I p d)) (by kernel_rfl) (HR6.out.below D0 HR6.out.lt) (fun hHeld => ?_)
            refine takeD (i := 0) (some 41) (.pointer (some ⟨g5, 0, none⟩)) rfl rfl (by kernel_rfl) (by kernel_rfl) (by kernel_rfl) (fun _ _ _ h => h) (Or.inl ⟨by rfl, fun _ _ => rfl⟩) hHeld ?_
            simp only [Act.put, List.setIfInBounds_toArray, List.set_cons_zero, List.set_cons_succ]
            refine takeD (i := 1) (some 42) (.pointer (some ⟨g6, 0, none⟩)) rfl rfl (by kernel_rfl) (by kernel_rfl) (by kernel_rfl) (fun _ _ _ h => h) (Or.inl ⟨by rfl, fun _ _ => rfl⟩) hHeld ?_
            simp only [Act.put, List.setIfInBounds_toArray, List.set_cons_zero, List.set_cons_succ]
            refine takeD (i := 2) (some 43) (.agg (clC ki fi ni T m c1 I p d)) rfl rfl (by kernel_rfl) (by kernel_rfl) (by kernel_rfl) (fun _ _ _ h => h) (yieldsIf_load_mid (by rfl) 32 (.tmp 6) rfl gc 0 rfl (clC ki fi ni T m c1 I p d).toList _ (fun _ h => rangeAt_row h) Try.underlying32 rfl (by show (Try.prog.info? 32).map (·.size) = some 5; kernel_rfl)) hHeld ?_
            simp only [Act.put, List.setIfInBounds_toArray, List.set_cons_zero, List.set_cons_succ]
            refine wpAnyH_ready (rs := [3]) (by kernel_rfl) (by decide) ?_
            refine AllReadyH.cons rfl (fun K' hK => ?_) AllReadyH.nil
            go_simp
            refine (HDo.out w6.drew D0).mono ?_
            rintro e9 w9 ⟨rfl, hg9⟩
            have HG9 := Lib.hid hg9
            obtain ⟨F9, FM9, _, _, ht9, htm9, _, ho9⟩ := hg9
            have HT9 := Lib.hid ht9
            have c9 : w9.cell? ⟨g6, 9, none⟩ = some (.bool D) := by rw [htm9.cell.2, HDn.out]
            have HX := Lib.hid (show Row w9 gc 32 (clC ki fi ni T m c1 I p d) from (ho9.block gc (Nat.lt_of_lt_of_le HR6.out.lt D0.size) (fun q => q.elim (fun q => HG7.out gc q rfl) (fun q => HG8.out gc q rfl))).trans (HR6.out.below D0 HR6.out.lt))
            clear ht9 htm9 ho9
            refine hK.out _ _ HX.out (fun hHeld1 => ?_)
            clear hK
            (try simp only [Act.put, List.setIfInBounds_toArray, List.set_cons_zero, List.set_cons_succ])
            refine takeD (i := 4) (some 45) (.bool false) rfl rfl (by kernel_rfl) (by kernel_rfl) (by kernel_rfl) (fun _ _ _ h => h) (Or.inl ⟨by rfl, fun _ _ => rfl⟩) hHeld1 ?_
            simp only [Act.put, List.setIfInBounds_toArray, List.set_cons_zero, List.set_cons_succ]
            refine takeD (i := 5) (some 46) (.bool false) rfl rfl (by kernel_rfl) (by kernel_rfl) (by kernel_rfl) (fun _ _ _ h => h) (Or.inl ⟨by rfl, fun _ _ => rfl⟩) hHeld1 ?_
            simp only [Act.put, List.setIfInBounds_toArray, List.set_cons_zero, List.set_cons_succ]
            refine takeD (i := 6) (some 47) (.pointer (some ⟨g5, 0, none⟩)) rfl rfl (by kernel_rfl) (by kernel_rfl) (by kernel_rfl) (fun _ _ _ h => h) (Or.inl ⟨by rfl, fun _ _ => rfl⟩) hHeld1 ?_
            simp only [Act.put, List.setIfInBounds_toArray, List.set_cons_zero, List.set_cons_succ]
            refine takeD (i := 8) (some 49) (.pointer (some ⟨g6, 0, none⟩)) rfl rfl (by kernel_rfl) (by kernel_rfl) (by kernel_rfl) (fun _ _ _ h => h) (Or.inl ⟨by rfl, fun _ _ => rfl⟩) hHeld1 ?_
            simp only [Act.put, List.setIfInBounds_toArray, List.set_cons_zero, List.set_cons_succ]
            refine takeD (i := 9) (some 50) (.pointer (some ⟨g6, 0, none⟩)) rfl rfl (by kernel_rfl) (by kernel_rfl) (by kernel_rfl) (fun _ _ _ h => h) (yields_nil (by rfl) (.tmp 49) rfl _ rfl) hHeld1 ?_
            simp only [Act.put, List.setIfInBounds_toArray, List.set_cons_zero, List.set_cons_succ]
            refine takeD (i := 10) (some 51) (.pointer (some ⟨g6, 9, none⟩)) rfl rfl (by kernel_rfl) (by kernel_rfl) (by kernel_rfl) (fun _ _ _ h => h) (yields_fld41 (by rfl) (.tmp 50) rfl g6 rfl) hHeld1 ?_
            simp only [Act.put, List.setIfInBounds_toArray, List.set_cons_zero, List.set_cons_succ]
            refine wpAnyH_ready (rs := [7, 11]) (by kernel_rfl) (by decide) ?_
            refine AllReadyH.cons rfl (fun K' hK => ?_) (AllReadyH.cons rfl (fun K' hK => ?_) AllReadyH.nil)
            · skip
              go_simp
              refine (Down_any g5 F9 w9 HT9.out).mono ?_
              rintro e7 w7 ⟨rfl, rfl⟩
              rw [HDn.out]
              refine hK.out _ _ HX.out (fun hHeld2 => ?_)
              clear hK
              (try simp only [Act.put, List.setIfInBounds_toArray, List.set_cons_zero, List.set_cons_succ])
              refine wpAnyH_ready (rs := [11]) (by kernel_rfl) (by decide) ?_
              refine AllReadyH.cons rfl (fun K' hK => ?_) AllReadyH.nil
              refine step_ofG (by rfl) (wp_loadD (.tmp 51) rfl g6 9 D rfl c9 ?_)
              refine hK.out _ _ HX.out (fun hHeld3 => ?_)
              clear hK
              simp only [List.getElem_toArray, List.getElem_cons_succ, List.getElem_cons_zero, Act.put, List.setIfInBounds_toArray, List.set_cons_zero, List.set_cons_succ]
              refine takeD (i := 12) (some 53) (.bool false) rfl rfl (by kernel_rfl) (by kernel_rfl) (by kernel_rfl) (fun _ _ _ h => h) (yields_neD (by rfl) (.tmp 48) (.tmp 52) rfl D rfl rfl) hHeld3 ?_
              simp only [Act.put, List.setIfInBounds_toArray, List.set_cons_zero, List.set_cons_succ]
              refine takeD (i := 13) (some 54) (.bool false) rfl rfl (by kernel_rfl) (by kernel_rfl) (by kernel_rfl) (fun _ _ _ h => h) (Or.inl ⟨by rfl, fun _ _ => rfl⟩) hHeld3 ?_
              (try simp only [Act.put, List.setIfInBounds_toArray, List.set_cons_zero, List.set_cons_succ])
              refine wpAnyH_done (by kernel_rfl) ?_ _
              refine NoPanic.normal ?_
              exact ⟨rfl, rfl, HG9.out⟩
            · skip
              refine step_ofG (by rfl) (wp_loadD (.tmp 51) rfl g6 9 D rfl c9 ?_)
              refine hK.out _ _ HX.out (fun hHeld2 => ?_)
              clear hK
              simp only [List.getElem_toArray, List.getElem_cons_succ, List.getElem_cons_zero, Act.put, List.setIfInBounds_toArray, List.set_cons_zero, List.set_cons_succ]
              refine wpAnyH_ready (rs := [7]) (by kernel_rfl) (by decide) ?_
              refine AllReadyH.cons rfl (fun K' hK => ?_) AllReadyH.nil
              go_simp
              refine (Down_any g5 F9 w9 HT9.out).mono ?_
              rintro e7 w7 ⟨rfl, rfl⟩
              rw [HDn.out]
              refine hK.out _ _ HX.out (fun hHeld3 => ?_)
              clear hK
              (try simp only [Act.put, List.setIfInBounds_toArray, List.set_cons_zero, List.set_cons_succ])
              refine takeD (i := 12) (some 53) (.bool false) rfl rfl (by kernel_rfl) (by kernel_rfl) (by kernel_rfl) (fun _ _ _ h => h) (yields_neD (by rfl) (.tmp 48) (.tmp 52) rfl D rfl rfl) hHeld3 ?_
              simp only [Act.put, List.setIfInBounds_toArray, List.set_cons_zero, List.set_cons_succ]
              refine takeD (i := 13) (some 54) (.bool false) rfl rfl (by kernel_rfl) (by kernel_rfl) (by kernel_rfl) (fun _ _ _ h => h) (Or.inl ⟨by rfl, fun _ _ => rfl⟩) hHeld3 ?_
              (try simp only [Act.put, List.setIfInBounds_toArray, List.set_cons_zero, List.set_cons_succ])
              refine wpAnyH_done (by kernel_rfl) ?_ _
              refine NoPanic.normal ?_
              exact ⟨rfl, rfl, HG9.out⟩
          · rintro a' w9 ⟨rfl, hg9⟩
            simp only [Act.put, List.setIfInBounds_toArray, List.set_cons_zero, List.set_cons_succ]
            have HG9 := Lib.hid hg9
            have hbz : Below w.heap.size w w6.drew := hbx.trans ((Below.refl w6.heap.size w6).drew.mono hbx.size)
            clear hg9
            go_wp2
            go_roundw
            case rel =>
              obtain ⟨F9, FM9, hF9, hFM9, ht9, htm9, hd9, ho9⟩ := HG9.out
              exact ⟨k + 1, g5, g6, S5, F9, FM9, by omega, by go_num, rfl, rfl, Lib.hid ht9, Lib.hid htm9, HOK5, Lib.hid (fun b q => (hF9.foot b q).elim (HF7.out b) (fun q2 => Nat.le_trans hbz.size q2)), Lib.hid (fun b q => (hFM9.foot b q).elim (HF8.out b) (fun q2 => Nat.le_trans hbz.size q2)), Lib.hid hd9, hbz.trans (ho9.below (fun b q => q.elim (HF7.out b) (HF8.out b)) hbz.size)⟩
            case measure => simp [intOf]; omega

        · go_wp2_with (first
            | (with_reducible refine wpList_indexK (by with_unfolding_all rfl) (.tmp 19) (.tmp 20) rfl b off len0 cap0 k _ _ rfl rfl rfl hlt rfl ?_)
            | (with_reducible refine wpList_loadK rfl (.tmp 21) rfl b (off + 5 * k) ki fi ni T m c1 I p d rfl HR.out ?_)
            | (with_reducible refine wpList_allocK rfl rfl ?_; intro gc w2 hgc hrc hbc; have HRc := Lib.hid hrc; clear hrc)
            | (with_reducible refine wpList_store_row Try.agg32 rfl (.tmp 6) (.tmp 22) rfl _ (clC ki fi ni T m c1 I p d) rfl rfl 32 cl0 HRc.out (clC_size _ _ _ _ _ _ _ _ _) cl0_size (clC_one _ _ _ _ _ _ _ _ _) ?_; intro w3 hr3 ho3; obtain ⟨q0, q1, q2, q3, q4⟩ := cl_cells hr3; have b3 : Below wr.heap.size wr w3 := hbc.trans (ho3.below hgc hbc.size); have HR3 := Lib.hid hr3; have HT3 := Lib.hid (HT.out.below b3); have HM3 := Lib.hid (HM.out.below b3); clear hr3))
          have hbx := hb.trans (b3.mono hb.size)
          have HBx := Lib.hid (HB.out.below b3)
          clear q0 q1 q2 q3 q4 HB HIw
          have HG7 := Lib.hid (fun b (q : Foot g F b) => show b ≠ gc from by have := HT.out.foot q; omega)
          have HG8 := Lib.hid (fun b (q : Foot gm FM b) => show b ≠ gc from by have := HM.out.foot q; omega)
          obtain ⟨S5, hS5⟩ : ∃ S5, doesT S ki fi ni l = S5 := ⟨_, rfl⟩
          have HDo := Lib.hid (fun wq (hq : Below w3.heap.size w3 wq) => show Calls Try.prog 16 #[.pointer (some ⟨g, 0, none⟩), .pointer (some ⟨gm, 0, none⟩), .agg (clC ki fi ni T m c1 I p d)] wq fun e w' => e = .returned (.bool true) ∧ Both wq g gm F FM S5 w' from by
            rw [← hS5]
            exact Does_any g gm (501 * k) ki fi ni T m c1 I p d l F FM wq (HT3.out.below hq) (HM3.out.below hq) HD.out HOK.out hK (HBx.out.below hq) hm5 (fun h0 b off e => ⟨fun q => by have := HA0.out h0 b off e; have := HF.out b q; omega, fun q => by have := HA0.out h0 b off e; have := HFM.out b q; omega⟩) HNI.out)
          have HOK5 : Hid (S5.ok (501 * (k + 1))) := Lib.hid (by rw [← hS5]; exact (doesT_ok ki fi ni l HOK.out HLK.out).mono (by omega))
          obtain ⟨D, hD⟩ : ∃ D, S5.down = D := ⟨_, rfl⟩
          have HDn := Lib.hid hD
          clear hS5 hD HLK HNI
          refine cutR (fun a a' w' => a' = ((((((((((((((a.put (some 41) (.pointer (some ⟨g, 0, none⟩))).put (some 42) (.pointer (some ⟨gm, 0, none⟩))).put (some 43) (.agg (clC ki fi ni T m c1 I p d))).put (some 44) (.bool true)).put (some 45) (.bool false)).put (some 46) (.bool false)).put (some 47) (.pointer (some ⟨g, 0, none⟩))).put (some 48) (.bool D)).put (some 49) (.pointer (some ⟨gm, 0, none⟩))).put (some 50) (.pointer (some ⟨gm, 0, none⟩))).put (some 51) (.pointer (some ⟨gm, 9, none⟩))).put (some 52) (.bool D)).put (some 53) (.bool false)).put (some 54) (.bool false)) ∧ Both w3.drew g gm F FM S5 w') ?_ ?_
          · have D0 : Below w3.heap.size w3 w3.drew := (Below.refl w3.heap.size w3).drew
            refine wp_region_noPanic ?_
            refine wp_region_held_drew (S := fun w' => Row w' gc 32 (clC ki fi ni T m c1 I p d)) (by kernel_rfl) (HR3.out.below D0 HR3.out.lt) (fun hHeld => ?_)
            refine takeD (i := 0) (some 41) (.pointer (some ⟨g, 0, none⟩)) rfl rfl (by kernel_rfl) (by kernel_rfl) (by kernel_rfl) (fun _ _ _ h => h) (Or.inl ⟨by rfl, fun _ _ => rfl⟩) hHeld ?_
            simp only [Act.put, List.setIfInBounds_toArray, List.set_cons_zero, List.set_cons_succ]
            refine takeD (i := 1) (some 42) (.pointer (some ⟨gm, 0, none⟩)) rfl rfl (by kernel_rfl) (by kernel_rfl) (by kernel_rfl) (fun _ _ _ h => h) (Or.inl ⟨by rfl, fun _ _ => rfl⟩) hHeld ?_
            simp only [Act.put, List.setIfInBounds_toArray, List.set_cons_zero, List.set_cons_succ]
            refine takeD (i := 2) (some 43) (.agg (clC ki fi ni T m c1 I p d)) rfl rfl (by kernel_rfl) (by kernel_rfl) (by kernel_rfl) (fun _ _ _ h => h) (yieldsIf_load_mid (by rfl) 32 (.tmp 6) rfl gc 0 rfl (clC ki fi ni T m c1 I p d).toList _ (fun _ h => rangeAt_row h) Try.underlying32 rfl (by show (Try.prog.info? 32).map (·.size) = some 5; kernel_rfl)) hHeld ?_
            simp only [Act.put, List.setIfInBounds_toArray, List.set_cons_zero, List.set_cons_succ]
            refine wpAnyH_ready (rs := [3]) (by kernel_rfl) (by decide) ?_
            refine AllReadyH.cons rfl (fun K' hK => ?_) AllReadyH.nil
            go_simp
            refine (HDo.out w3.drew D0).mono ?_
            rintro e9 w9 ⟨rfl, hg9⟩
            have HG9 := Lib.hid hg9
            obtain ⟨F9, FM9, _, _, ht9, htm9, _, ho9⟩ := hg9
            have HT9 := Lib.hid ht9
            have c9 : w9.cell? ⟨gm, 9, none⟩ = some (.bool D) := by rw [htm9.cell.2, HDn.out]
            have HX := Lib.hid (show Row w9 gc 32 (clC ki fi ni T m c1 I p d) from (ho9.block gc (Nat.lt_of_lt_of_le HR3.out.lt D0.size) (fun q => q.elim (fun q => HG7.out gc q rfl) (fun q => HG8.out gc q rfl))).trans (HR3.out.below D0 HR3.out.lt))
            clear ht9 htm9 ho9
            refine hK.out _ _ HX.out (fun hHeld1 => ?_)
            clear hK
            (try simp only [Act.put, List.setIfInBounds_toArray, List.set_cons_zero, List.set_cons_succ])
            refine takeD (i := 4) (some 45) (.bool false) rfl rfl (by kernel_rfl) (by kernel_rfl) (by kernel_rfl) (fun _ _ _ h => h) (Or.inl ⟨by rfl, fun _ _ => rfl⟩) hHeld1 ?_
            simp only [Act.put, List.setIfInBounds_toArray, List.set_cons_zero, List.set_cons_succ]
            refine takeD (i := 5) (some 46) (.bool false) rfl rfl (by kernel_rfl) (by kernel_rfl) (by kernel_rfl) (fun _ _ _ h => h) (Or.inl ⟨by rfl, fun _ _ => rfl⟩) hHeld1 ?_
            simp only [Act.put, List.setIfInBounds_toArray, List.set_cons_zero, List.set_cons_succ]
            refine takeD (i := 6) (some 47) (.pointer (some ⟨g, 0, none⟩)) rfl rfl (by kernel_rfl) (by kernel_rfl) (by kernel_rfl) (fun _ _ _ h => h) (Or.inl ⟨by rfl, fun _ _ => rfl⟩) hHeld1 ?_
            simp only [Act.put, List.setIfInBounds_toArray, List.set_cons_zero, List.set_cons_succ]
            refine takeD (i := 8) (some 49) (.pointer (some ⟨gm, 0, none⟩)) rfl rfl (by kernel_rfl) (by kernel_rfl) (by kernel_rfl) (fun _ _ _ h => h) (Or.inl ⟨by rfl, fun _ _ => rfl⟩) hHeld1 ?_
            simp only [Act.put, List.setIfInBounds_toArray, List.set_cons_zero, List.set_cons_succ]
            refine takeD (i := 9) (some 50) (.pointer (some ⟨gm, 0, none⟩)) rfl rfl (by kernel_rfl) (by kernel_rfl) (by kernel_rfl) (fun _ _ _ h => h) (yields_nil (by rfl) (.tmp 49) rfl _ rfl) hHeld1 ?_
            simp only [Act.put, List.setIfInBounds_toArray, List.set_cons_zero, List.set_cons_succ]
            refine takeD (i := 10) (some 51) (.pointer (some ⟨gm, 9, none⟩)) rfl rfl (by kernel_rfl) (by kernel_rfl) (by kernel_rfl) (fun _ _ _ h => h) (yields_fld41 (by rfl) (.tmp 50) rfl gm rfl) hHeld1 ?_
            simp only [Act.put, List.setIfInBounds_toArray, List.set_cons_zero, List.set_cons_succ]
            refine wpAnyH_ready (rs := [7, 11]) (by kernel_rfl) (by decide) ?_
            refine AllReadyH.cons rfl (fun K' hK => ?_) (AllReadyH.cons rfl (fun K' hK => ?_) AllReadyH.nil)
            · skip
              go_simp
              refine (Down_any g F9 w9 HT9.out).mono ?_
              rintro e7 w7 ⟨rfl, rfl⟩
              rw [HDn.out]
              refine hK.out _ _ HX.out (fun hHeld2 => ?_)
              clear hK
              (try simp only [Act.put, List.setIfInBounds_toArray, List.set_cons_zero, List.set_cons_succ])
              refine wpAnyH_ready (rs := [11]) (by kernel_rfl) (by decide) ?_
              refine AllReadyH.cons rfl (fun K' hK => ?_) AllReadyH.nil
              refine step_ofG (by rfl) (wp_loadD (.tmp 51) rfl gm 9 D rfl c9 ?_)
              refine hK.out _ _ HX.out (fun hHeld3 => ?_)
              clear hK
              simp only [List.getElem_toArray, List.getElem_cons_succ, List.getElem_cons_zero, Act.put, List.setIfInBounds_toArray, List.set_cons_zero, List.set_cons_succ]
              refine takeD (i := 12) (some 53) (.bool false) rfl rfl (by kernel_rfl) (by kernel_rfl) (by kernel_rfl) (fun _ _ _ h => h) (yields_neD (by rfl) (.tmp 48) (.tmp 52) rfl D rfl rfl) hHeld3 ?_
              simp only [Act.put, List.setIfInBounds_toArray, List.set_cons_zero, List.set_cons_succ]
              refine takeD (i := 13) (some 54) (.bool false) rfl rfl (by kernel_rfl) (by kernel_rfl) (by kernel_rfl) (fun _ _ _ h => h) (Or.inl ⟨by rfl, fun _ _ => rfl⟩) hHeld3 ?_
              (try simp only [Act.put, List.setIfInBounds_toArray, List.set_cons_zero, List.set_cons_succ])
              refine wpAnyH_done (by kernel_rfl) ?_ _
              refine NoPanic.normal ?_
              exact ⟨rfl, rfl, HG9.out⟩
            · skip
              refine step_ofG (by rfl) (wp_loadD (.tmp 51) rfl gm 9 D rfl c9 ?_)
              refine hK.out _ _ HX.out (fun hHeld2 => ?_)
              clear hK
              simp only [List.getElem_toArray, List.getElem_cons_succ, List.getElem_cons_zero, Act.put, List.setIfInBounds_toArray, List.set_cons_zero, List.set_cons_succ]
              refine wpAnyH_ready (rs := [7]) (by kernel_rfl) (by decide) ?_
              refine AllReadyH.cons rfl (fun K' hK => ?_) AllReadyH.nil
              go_simp
              refine (Down_any g F9 w9 HT9.out).mono ?_
              rintro e7 w7 ⟨rfl, rfl⟩
              rw [HDn.out]
              refine hK.out _ _ HX.out (fun hHeld3 => ?_)
              clear hK
              (try simp only [Act.put, List.setIfInBounds_toArray, List.set_cons_zero, List.set_cons_succ])
              refine takeD (i := 12) (some 53) (.bool false) rfl rfl (by kernel_rfl) (by kernel_rfl) (by kernel_rfl) (fun _ _ _ h => h) (yields_neD (by rfl) (.tmp 48) (.tmp 52) rfl D rfl rfl) hHeld3 ?_
              simp only [Act.put, List.setIfInBounds_toArray, List.set_cons_zero, List.set_cons_succ]
              refine takeD (i := 13) (some 54) (.bool false) rfl rfl (by kernel_rfl) (by kernel_rfl) (by kernel_rfl) (fun _ _ _ h => h) (Or.inl ⟨by rfl, fun _ _ => rfl⟩) hHeld3 ?_
              (try simp only [Act.put, List.setIfInBounds_toArray, List.set_cons_zero, List.set_cons_succ])
              refine wpAnyH_done (by kernel_rfl) ?_ _
              refine NoPanic.normal ?_
              exact ⟨rfl, rfl, HG9.out⟩
          · rintro a' w9 ⟨rfl, hg9⟩
            simp only [Act.put, List.setIfInBounds_toArray, List.set_cons_zero, List.set_cons_succ]
            have HG9 := Lib.hid hg9
            have hbz : Below w.heap.size w w3.drew := hbx.trans ((Below.refl w3.heap.size w3).drew.mono hbx.size)
            clear hg9
            go_wp2
            go_roundw
            case rel =>
              obtain ⟨F9, FM9, hF9, hFM9, ht9, htm9, hd9, ho9⟩ := HG9.out
              exact ⟨k + 1, g, gm, S5, F9, FM9, by omega, by go_num, rfl, rfl, Lib.hid ht9, Lib.hid htm9, HOK5, Lib.hid (fun b q => (hF9.foot b q).elim (HF.out b) (fun q2 => Nat.le_trans hbz.size q2)), Lib.hid (fun b q => (hFM9.foot b q).elim (HFM.out b) (fun q2 => Nat.le_trans hbz.size q2)), Lib.hid hd9, hbz.trans (ho9.below (fun b q => q.elim (HF.out b) (HFM.out b)) hbz.size)⟩
            case measure => simp [intOf]; omega

    · obtain rfl : k = len0 := by omega
      go_wp2
      go_loopw [7] (fun x wr => ∃ (i : Nat), i ≤ 4 ∧ x = .int .i64 (i : Int) ∧ Hid (Tap wr g F S) ∧ Hid (TapM wr gm FM S) ∧ Below w.heap.size w wr) (fun x _ => 4 - (intOf x).toNat)
      case atStart => exact ⟨0, by omega, rfl, HT, HM, hb⟩
      case round =>
        clear HT HM hb
        obtain ⟨i, hi4, rfl, HT, HM, hb⟩ := hrel
        by_cases hi : i < 4
        · have hiI : (i : Int) < 4 := by omega
          go_wp2_with (go_at_call 18; refine (same_any g gm (501 * k) (i : Int) F FM _ HT.out HM.out HOK.out (by omega)).mono ?_; rintro e3 w3 ⟨rfl, hb3⟩)
          go_roundw
          case rel => exact ⟨i + 1, by omega, by go_num, Lib.hid (HT.out.below hb3), Lib.hid (HM.out.below hb3), hb.trans (hb3.mono hb.size)⟩
          case measure => simp [intOf]; omega
        · obtain rfl : i = 4 := by omega
          go_wp2_with (go_at_call 11; refine (awake_any _).mono ?_; rintro e4 w4 ⟨rfl, hb4⟩)
          go_ret
          exact ⟨rfl, hb.trans (hb4.mono hb.size)⟩

set_option maxRecDepth 100000 in
theorem lifted (os : Os) (started : os.Started) (H : Type) (enc : TypeId × Value → H) :
    ReturnsInHanded {} Try.checked os 3 .any (Rows.tapePlaysSpec.pre6 enc Try.prog Try.f3 Rows.tapePlaysRow.domain false) (Rows.tapePlaysSpec.post enc Try.prog Try.f3 false true false false) := by
  refine returnsInHanded_of_change_sized (C := Try.checked) own started (by kernel_rfl) Try.func3
    (ChangeSpec.witness6 (enc := enc) (C := Try.checked) false ⟨#[], #[.slice none 0 0], []⟩ 8 (by kernel_rfl) (by kernel_rfl) (by kernel_rfl) (by kernel_rfl)) ?_
  intro W base args ds gs before hval0 hW hcnd hsz0 _
  have hval : ∀ (j : Nat) t v, Try.f3.params[j]? = some t → args[j]? = some v → Value.okWide Try.prog W .any base t v := hval0
  have hW' := hW
  obtain ⟨p, q, hA0, hV, rfl, hfz, hnd⟩ := hW
  have hA : DataW.TrodAll enc Try.prog W 0 (fun _ => true) true Try.f3.params.toList args.toList ds p := hA0
  have hsz : (DataW.weightsEach Try.prog (Try.f3.params.toList ++ Rows.tapePlaysSpec.plain.varTypes Try.prog) (ds ++ gs)).all (· ≤ reachBytes) = true := hsz0
  rw [Try.params3] at hA hval hsz
  obtain ⟨v0, vs0, d0, ds0, p0, q0, hargs, rfl, rfl, h0, r0⟩ := trodAll_cons hA
  obtain ⟨rfl, rfl, rfl⟩ := trodAll_nil r0
  obtain rfl : args = #[v0] := by cases args; simp_all
  obtain ⟨rfl, rfl⟩ := trodVars_none hV
  have k0 := h0
  have lt0 : ∀ x ∈ p0, x.block < W.heap.size := by obtain ⟨m, hm⟩ := k0; exact DataW.trod_lt m _ _ _ hm
  obtain ⟨a0, len0, cap0, l0, rfl, w0⟩ := open_cls (hval 0 22 v0 rfl rfl) h0
  clear hA0 hval0
  refine (walk W a0 len0 cap0 l0 w0).mono fun e W' ⟨he, bel⟩ => ?_
  subst he
  exact ⟨_, rfl, _, _, _, [], _, [], hW', trodAll_mk1 (shut_bool Try.underlying4 _), (trodAll_cons_mk (Below.trod laidOut (by kernel_rfl) (of_decide_eq_true (by kernel_rfl)) k0 bel lt0) trodAll_mk0), rfl, bel.frame _, fun h => by cases h⟩
theorem over : Rows.tapePlaysRow.holds Try.pinned (OpenSpec.ofChange Rows.tapePlaysSpec) :=
  OpenClaim.holds_of_wide 3 Try.f3 rfl rfl rfl rfl rfl rfl rfl ⟨rfl, rfl, rfl, rfl, rfl⟩ rfl rfl rfl rfl rfl (by kernel_rfl) Try.func3 (by kernel_rfl)
    (of_decide_eq_true (by kernel_rfl)) (by unfold Func.isWrapper; first | (rw [if_pos (by decide +kernel)]; kernel_rfl) | (rw [if_neg (by decide +kernel)]; exact ⟨rfl, rfl⟩))
    (fun os started H enc _ => lifted os started H enc)
theorem tapePlays_holds : Rows.TapePlaysSaid := over
#print axioms tapePlays_holds
end Go.Proofs.Ytpnllbadalcnaaa.tapePlays
