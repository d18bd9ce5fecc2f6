/-
  WireOwn, whole (Rows.WireOwnSaid): whoever writes into what a reader was given, or answered, changes nothing that it answers. No conditions.
  The frame is the shell of the proof by program (proof-skeleton); the walk is mine.
-/
import Derived.Test.YtjifahocfbbicaaRows
import Derived.WalkKit
import Derived.ProofKit
import Derived.OpenShut
import Derived.ShutString
import Derived.ChangeOld
import Derived.Below
import Derived.SizedLaws
import Derived.Test.YtjifahocfbbicaaSteps
namespace Go.Proofs.Ytjifahocfbbicaa.wireOwn
open Go.ChangeShapes Go.WideShapes Go.ChangeAt Go.RowKit
set_option linter.unusedVariables false
theorem own : ownKnob Try.prog.godebug = none := by kernel_rfl
theorem laidOut : laidOutB Try.prog = true := by kernel_rfl
/-- the first n cells are bytes -/
def U8s (cs : Array Value) (n : Nat) : Prop := n ≤ cs.size ∧ ∀ j, j < n → ∃ y : Int, cs[j]? = some (.int .u8 y)
theorem U8s.set {cs : Array Value} {n : Nat} (h : U8s cs n) (k : Nat) (y : Int) : U8s (cs.setIfInBounds k (.int .u8 y)) n := by
  refine ⟨by rw [Array.size_setIfInBounds]; exact h.1, fun j hj => ?_⟩
  rw [Array.getElem?_setIfInBounds]
  by_cases hk : k = j
  · rw [if_pos hk, if_pos (by have := h.1; omega)]; exact ⟨y, rfl⟩
  · rw [if_neg hk]; exact h.2 j hj
theorem own_u8 {w : World} {base : Nat} {A : Option Addr} {n c : Nat} {l : List UInt8} (h : Own w base 5 (.slice A n c) n l) : n = 0 ∨ ∃ g cs, A = some ⟨g, 0, none⟩ ∧ base ≤ g ∧ Row w g 5 cs ∧ U8s cs n := by
  have hl := h.length
  rcases h.2 with ⟨_, hn⟩ | ⟨g, cap, cur, hv, hge, hg, hnc, _, hcs, ht⟩
  · exact .inl hn
  · injection hv with h1 _ h3
    subst h1 h3
    refine .inr ⟨g, cur, rfl, hge, hg, by omega, fun j hj => ?_⟩
    have hj2 : j < l.length := by omega
    have e := congrArg (fun m => m[j]?) ht
    simp only [List.getElem?_take, List.getElem?_map] at e
    rw [if_pos (by omega), List.getElem?_eq_getElem hj2] at e
    exact ⟨_, by simpa using e⟩
/-- texts into which one may write -/
def Fst (w : World) (base : Nat) (A : Option Addr) (n : Nat) : Prop :=
  ∀ i, i < n → ∃ gf A' m c cur, A = some ⟨gf, 0, none⟩ ∧ base ≤ gf ∧ w.heap[gf]? = some (.cells cur 27 (0, 0)) ∧ w.cell? ⟨gf, i, none⟩ = some (.slice A' m c) ∧ m ≤ 500 ∧ (m = 0 ∨ ∃ gi cs, A' = some ⟨gi, 0, none⟩ ∧ base ≤ gi ∧ Row w gi 5 cs ∧ U8s cs m)
theorem ownL_fst {w : World} {base : Nat} {A : Option Addr} {n c : Nat} {L : List (List UInt8)} (h : OwnL w base (.slice A n c) n L) (h5 : ∀ l ∈ L, l.length ≤ 500) : Fst w base A n := by
  have hlen := h.length
  obtain ⟨vs, h1, h2, h3⟩ := h
  intro i hi
  have hiv : i < vs.length := by omega
  have hil : i < L.length := by omega
  have ho := h3 i _ _ (List.getElem?_eq_getElem hiv) (List.getElem?_eq_getElem hil)
  have hm := h5 _ (List.getElem_mem hil)
  rcases h1.2 with ⟨_, hn⟩ | ⟨g, cap, cur, hv, hge, hg, hnc, _, hcs, ht⟩
  · omega
  · injection hv with q1 _ q3
    subst q1 q3
    obtain ⟨A', c', hv', hc'⟩ := ho.form
    refine ⟨g, A', L[i].length, c', cur, rfl, hge, hg, ?_, hm, ?_⟩
    · rw [cell_of_row w g i cur 27 (0, 0) hg, ← hv', ← List.getElem?_eq_getElem hiv, ← ht, List.getElem?_take, if_pos (by omega)]; simp
    · rw [hv'] at ho; exact own_u8 ho
theorem Fst.only {w w' : World} {base k : Nat} {A : Option Addr} {n : Nat} (h : Fst w base A n) (ho : Only k w w') (hk : k < base) : Fst w' base A n := by
  intro i hi
  obtain ⟨gf, A', m, c, cur, e, hge, hg, hc, hm, ht⟩ := h i hi
  have hlt := (Array.getElem?_eq_some_iff.1 hg).1
  have hb := ho.block gf hlt (by omega)
  refine ⟨gf, A', m, c, cur, e, hge, hb.trans hg, (World.cell?_of_block (w := w) (a := ⟨gf, i, none⟩) hb).trans hc, hm, ?_⟩
  rcases ht with h0 | ⟨gi, cs, e2, hgi, hr, hu⟩
  · exact .inl h0
  · exact .inr ⟨gi, cs, e2, hgi, hr.only ho (by omega), hu⟩
theorem Fst.write {w : World} {base : Nat} {A : Option Addr} {n g k : Nat} {cs : Array Value} {y : Int} (h : Fst w base A n) (hr : Row w g 5 cs) : Fst (w.setCell ⟨g, k, none⟩ (.int .u8 y)) base A n := by
  intro i hi
  obtain ⟨gf, A', m, c, cur, e, hge, hg, hc, hm, ht⟩ := h i hi
  have hne : gf ≠ g := by
    rintro rfl
    unfold Row at hr
    rw [hr] at hg
    injection hg with q
    injection q with _ q
    cases q
  have ho := Only.setCell g k w (.int .u8 y)
  have hb := ho.block gf ((Array.getElem?_eq_some_iff.1 hg).1) hne
  refine ⟨gf, A', m, c, cur, e, hge, hb.trans hg, (World.cell?_of_block (w := w) (a := ⟨gf, i, none⟩) hb).trans hc, hm, ?_⟩
  rcases ht with h0 | ⟨gi, cs2, e2, hgi, hr2, hu⟩
  · exact .inl h0
  · by_cases hgg : gi = g
    · subst hgg
      exact .inr ⟨gi, _, e2, hgi, hr2.set k _, hu.set k y⟩
    · exact .inr ⟨gi, cs2, e2, hgi, hr2.only ho hgg, hu⟩
set_option maxRecDepth 100000 in
set_option maxHeartbeats 4000000 in
theorem walk (w : World) (a0 : Option Addr) (len0 cap0 : Nat) (L : List (List UInt8)) (w0 : Bss w a0 len0 L) :
    Calls Try.prog 8 #[.slice a0 len0 cap0] w fun e w' => e = .returned (.bool true) ∧ Below w.heap.size w w' := by
  have HB := Lib.hid w0
  have HL := Lib.hid (long_any a0 len0 cap0 L w w0)
  have hlen := w0.1
  clear w0
  by_cases hlong : longL L = true
  · rw [hlong] at HL
    clear hlong hlen
    go_enter Try.func8, Try.ntmps8
    go_wp2_with (first
      | (go_at_call 10; refine HL.out.mono ?_; rintro e w2 ⟨rfl, rfl⟩)
      | (go_at_call 11; refine (awake_any _).mono ?_; rintro e w3 ⟨rfl, hb3⟩))
    go_ret
    exact ⟨rfl, hb3⟩
  have hlong : longL L = false := by simpa using hlong
  obtain ⟨h100, h500⟩ := longL_no hlong
  rw [hlong] at HL
  clear hlong
  have HM := Lib.hid (fun l (h : l ∈ L) => Nat.le_trans (h500 l h) (by omega : 500 ≤ 1000000))
  have H500 := Lib.hid h500
  have hn : len0 ≤ 100 := by omega
  have hLe := lists_le h100 h500
  obtain ⟨ll, hll⟩ : ∃ ll, (listB L).length = ll := ⟨_, rfl⟩
  have hll1 : 0 < ll ∧ ll ≤ 60000 := by
    have : 0 < (listB L).length := by rw [listB, List.length_append, numB_length]; omega
    omega
  have HLA := Lib.hid (fun A c w h => List_any A len0 c L w h (by omega) HM.out)
  have HCO := Lib.hid (fun w h => copies_any a0 len0 cap0 L w h (by omega) HM.out)
  have HOW := Lib.hid (fun A c w h => own_any A ll c (listB L) w h (by omega))
  unfold NewList at HCO
  unfold NewSlice at HLA HOW
  rw [hlen] at HCO
  rw [hll] at HLA HOW
  have HRD := Lib.hid (fun A c w h => Read_any A (ll + ll) c (listB L ++ listB L) w h (by omega))
  have HS1 := Lib.hid (fun g b w h => list_step L len0 hlen hn h500 (listB L) (by simp only [List.length_append]; omega) g b w h 100 (by omega) (by omega))
  have HS2 := Lib.hid (fun g b w (h : Rdr w 61 g b 0 (listB L)) => list_step L len0 hlen hn h500 [] (by simp only [List.length_append, List.length_nil]; omega) g b w (by rw [List.append_nil]; exact h) 100 (by omega) (by omega))
  have HEN : ∀ g b w, Rdr w 61 g b 0 [] → Calls Try.prog 33 #[.pointer (some ⟨g, 0, none⟩)] w fun e w' => e = .returned (.int .i64 0) ∧ Rdr w' 61 g b 0 [] ∧ Only g w w' := fun g b w h => REnd_any g b 0 [] w h
  have HEN := Lib.hid HEN
  have HLS := Lib.hid (fun A c w h1 h2 => LSame_yes A a0 len0 c cap0 L w h1 h2 (by omega) HM.out)
  have HNE := Lib.hid (show listB L ++ listB L ≠ [] by intro h; have := congrArg List.length h; simp only [List.length_append, List.length_nil] at this; omega)
  clear hlen h100 h500 hLe hll
  generalize listB L = lb at *
  go_enter Try.func8, Try.ntmps8
  go_wp2_with (first
    | (go_at_call 10; refine HL.out.mono ?_; rintro e w2 ⟨rfl, rfl⟩)
    | (go_at_call 19; refine (HCO.out _ HB.out).mono ?_; rintro e w2 ⟨A2, c2, rfl, hc2, p2, ho2⟩)
    | (go_at_call 18; refine (HLA.out _ _ _ ho2.bss).mono ?_; rintro e w3 ⟨A3, c3, rfl, hc3, hb3, ho3⟩; have p3 := p2.trans (hb3.mono p2.size))
    | (go_at_call 14; refine (HOW.out _ _ _ ho3.bs).mono ?_; rintro e w4 ⟨A4, c4, rfl, hc4, hb4, ho4⟩; have p4 := p3.trans (hb4.mono p3.size); have HO4 := Lib.hid (ho4.mono p3.size); have HB4 := Lib.hid (ho3.bs.below hb4); clear ho4)
    | (at_builtin; refine wpList_app Try.byteTypes rfl (.tmp 17) (.tmp 18) rfl w.heap.size (.slice A4 ll c4) ll lb rfl HO4.out A3 ll c3 lb rfl HB4.out (by omega) p4.size ?_; intro A5 c5 w5 ho5 hb5 _; have p5 := p4.trans hb5; have HO5 := Lib.hid ho5; clear ho5)
    | (go_at_call 21; refine (HRD.out _ _ _ HO5.out.bs).mono ?_; rintro e w6 ⟨g, b, rfl, hg, hbk, hr6, hb6⟩; have p6 := p5.trans (hb6.mono p5.size); have hgw := Nat.le_trans p5.size hg; have hg6 := hr6.lt; have hb6' := hr6.blt HNE.out; have H6 := Lib.hid hr6; have HO6 := Lib.hid (HO5.out.belowS hb6); clear hr6)
    | (go_at_call 27; have hz := H6.out; clear hz; refine (HS1.out g b _ H6.out).mono ?_; rintro e w7 ⟨A7, c7, rfl, ho7, hr7, hon7⟩; have p7 := p6.trans (hon7.below hgw p6.size); have HF7 := Lib.hid (ownL_fst ho7 H500.out); have H7 := Lib.hid hr7; clear hr7 ho7))
  obtain ⟨gb, cs0, hA5, hgb, hrow6, hu0⟩ := (own_u8 HO6.out).resolve_left (by omega)
  have hgb6 := hrow6.lt
  have hgg : gb ≠ g := by
    have h5 := (own_u8 HO5.out).resolve_left (by omega)
    obtain ⟨gb', _, hA5', _, hrow5, _⟩ := h5
    rw [hA5] at hA5'
    injection hA5' with q
    injection q with q _
    have := hrow5.lt
    omega
  have hgb2 : gb ≠ b := by
    have h5 := (own_u8 HO5.out).resolve_left (by omega)
    obtain ⟨gb', _, hA5', _, hrow5, _⟩ := h5
    rw [hA5] at hA5'
    injection hA5' with q
    injection q with q _
    have := hrow5.lt
    omega
  have hrow7 : Row w7 gb 5 cs0 := hrow6.only hon7 hgg
  subst hA5
  obtain ⟨N2, hN2⟩ : ∃ N2, ll + ll = N2 := ⟨_, rfl⟩
  have hN3 : N2 ≤ 120000 := by omega
  rw [hN2] at hu0
  rw [hN2]
  have HR7 := Lib.hid hrow7
  have HU0 := Lib.hid hu0
  clear hrow6 hrow7 hu0 HO5 HO6 hN2
  go_loopw [7] (fun i wr => ∃ (k : Nat) (cs : Array Value), k ≤ N2 ∧ i = .int .i64 k ∧ Below w.heap.size w wr ∧ Row wr gb 5 cs ∧ U8s cs N2 ∧ Rdr wr 61 g b 0 lb ∧ Fst wr w6.heap.size A7 len0) (fun i _ => N2 - (intOf i).toNat)
  case atStart => exact ⟨0, cs0, Nat.zero_le _, rfl, p7, HR7.out, HU0.out, H7.out, HF7.out⟩
  case round =>
    obtain ⟨k, cs, hk, rfl, pk, hrow, hu, hrd, hf⟩ := hrel
    by_cases hlt : k < N2
    · obtain ⟨y, hy⟩ := hu.2 k hlt
      have hcell := (hrow.cell k).trans hy
      have hfz := hrow.frozen k
      have hi : (k : Int) < (N2 : Int) := by omega
      have HR := Lib.hid hrow
      have HU := Lib.hid hu
      have HD := Lib.hid hrd
      have HF := Lib.hid hf
      clear hrow hu hrd hf hy
      go_wp2
      go_roundw
      case rel => exact ⟨k + 1, _, by omega, by go_num, pk.setCell hgb _, HR.out.set _ _, HU.out.set _ _, HD.out.only (Only.setCell gb k wr _) hgg.symm hgb2.symm, HF.out.only (Only.setCell gb k wr _) hgb6⟩
      case measure => simp [intOf]; omega
    · have HD := Lib.hid hrd
      have HF := Lib.hid hf
      clear hrow hu hrd hf
      go_wp2
      go_loopw [8] (fun i wr => ∃ (j : Nat), j ≤ len0 ∧ i = .int .i64 j ∧ Below w.heap.size w wr ∧ Rdr wr 61 g b 0 lb ∧ Fst wr w6.heap.size A7 len0) (fun i _ => len0 - (intOf i).toNat)
      case atStart => exact ⟨0, Nat.zero_le _, rfl, pk, HD.out, HF.out⟩
      case round =>
        obtain ⟨j, hj, rfl, pj, hrd, hf⟩ := hrel
        by_cases hjl : j < len0
        · obtain ⟨gf, A', m, c, cur, rfl, hge, hgf, hc, hm, ht⟩ := hf j hjl
          have hi : (j : Int) < (len0 : Int) := by omega
          have HD2 := Lib.hid hrd
          have HF2 := Lib.hid hf
          clear hrd hf hgf ht
          go_wp2
          go_loopw [9] (fun i wr => ∃ (t : Nat), t ≤ m ∧ i = .int .i64 t ∧ Below w.heap.size w wr ∧ Rdr wr 61 g b 0 lb ∧ Fst wr w6.heap.size (some ⟨gf, 0, none⟩) len0 ∧ wr.cell? ⟨gf, j, none⟩ = some (.slice A' m c)) (fun i _ => m - (intOf i).toNat)
          case atStart => exact ⟨0, Nat.zero_le _, rfl, pj, HD2.out, HF2.out, hc⟩
          case round =>
            obtain ⟨t, ht, rfl, pt, hrd3, hf3, hc3⟩ := hrel
            by_cases htm : t < m
            · obtain ⟨gf', A'', m', c'', cur', e1, hge', hgf', hc', hm', ht'⟩ := hf3 j hjl
              injection e1 with e1
              injection e1 with e1 _
              subst e1
              rw [hc3] at hc'
              injection hc' with e2
              injection e2 with e2 e3 e4
              subst e2 e3
              obtain ⟨gi, cs, rfl, hgi, hrow, hu⟩ := ht'.resolve_left (by omega)
              obtain ⟨y, hy⟩ := hu.2 t htm
              have hcell := (hrow.cell t).trans hy
              have hfz := hrow.frozen t
              have hit : (t : Int) < (m : Int) := by omega
              have hgfi : gf ≠ gi := by
                rintro rfl
                unfold Row at hrow
                rw [hrow] at hgf'
                injection hgf' with q
                injection q with _ q
                cases q
              have HR := Lib.hid hrow
              have HD3 := Lib.hid hrd3
              have HF3 := Lib.hid hf3
              clear hrow hu hrd3 hf3 hy hgf'
              go_wp2
              go_roundw
              case rel => exact ⟨t + 1, by omega, by go_num, pt.setCell (Nat.le_trans p6.size hgi) _, HD3.out.only (Only.setCell gi t wr _) (by omega) (by omega), HF3.out.write HR.out, (World.cell?_of_block (w := wr) (a := ⟨gf, j, none⟩) (Below.heap_setCell _ _ _ _ hgfi)).trans hc3⟩
              case measure => simp [intOf]; omega
            · have HD3 := Lib.hid hrd3
              have HF3 := Lib.hid hf3
              clear hrd3 hf3
              go_wp2
              go_roundw
              case rel => exact ⟨j + 1, by omega, by go_num, pt, HD3.out, HF3.out⟩
              case measure => simp [intOf]; omega
        · have HD2 := Lib.hid hrd
          clear hrd hf
          go_wp2_with (first
            | (go_at_call 27; refine (HS2.out g b _ HD2.out).mono ?_; rintro e w8 ⟨A8, c8, rfl, ho8, hr8, hon8⟩; have p8 := pj.trans (hon8.below hgw pj.size); have H8 := Lib.hid hr8; clear hr8)
            | (go_at_call 26; refine (HLS.out _ _ _ ho8.bss (HB.out.below p8)).mono ?_; rintro e w9 ⟨rfl, m9, rfl⟩; have H9 := Lib.hid (H8.out.drewN m9); have p9 := below_drewN p8 m9)
            | (go_at_call 33; refine (HEN.out g b _ H9.out).mono ?_; rintro e w10 ⟨rfl, hr10, hon10⟩; have p10 := p9.trans (hon10.below hgw p9.size))
            | (go_at_call 11; refine (awake_any _).mono ?_; rintro e w11 ⟨rfl, hb11⟩))
          go_ret
          exact ⟨rfl, p10.trans (hb11.mono p10.size)⟩

set_option maxRecDepth 100000 in
theorem lifted (os : Os) (started : os.Started) (H : Type) (enc : TypeId × Value → H) :
    ReturnsInHanded {} Try.checked os 8 .any (Rows.wireOwnSpec.pre6 enc Try.prog Try.f8 Rows.wireOwnRow.domain false) (Rows.wireOwnSpec.post enc Try.prog Try.f8 false true false false) := by
  refine returnsInHanded_of_change_sized (C := Try.checked) own started (by kernel_rfl) Try.func8
    (ChangeSpec.witness6 (enc := enc) (C := Try.checked) false ⟨#[], #[.slice none 0 0], []⟩ 8 (by kernel_rfl) (by kernel_rfl) (by kernel_rfl) (by kernel_rfl)) ?_
  intro W base args ds gs before hval0 hW hcnd hsz0 _
  have hval : ∀ (j : Nat) t v, Try.f8.params[j]? = some t → args[j]? = some v → Value.okWide Try.prog W .any base t v := hval0
  have hW' := hW
  obtain ⟨p, q, hA0, hV, rfl, hfz, hnd⟩ := hW
  have hA : DataW.TrodAll enc Try.prog W 0 (fun _ => true) true Try.f8.params.toList args.toList ds p := hA0
  have hsz : (DataW.weightsEach Try.prog (Try.f8.params.toList ++ Rows.wireOwnSpec.plain.varTypes Try.prog) (ds ++ gs)).all (· ≤ reachBytes) = true := hsz0
  rw [Try.params8] at hA hval hsz
  obtain ⟨v0, vs0, d0, ds0, p0, q0, hargs, rfl, rfl, h0, r0⟩ := trodAll_cons hA
  obtain ⟨rfl, rfl, rfl⟩ := trodAll_nil r0
  obtain rfl : args = #[v0] := by cases args; simp_all
  obtain ⟨rfl, rfl⟩ := trodVars_none hV
  have k0 := h0
  have lt0 : ∀ x ∈ p0, x.block < W.heap.size := by obtain ⟨m, hm⟩ := k0; exact DataW.trod_lt m _ _ _ hm
  obtain ⟨a0, len0, cap0, l0, rfl, w0⟩ := open_bss (hval 0 23 v0 rfl rfl) h0
  clear hA0 hval0
  refine (walk W a0 len0 cap0 l0 w0).mono fun e W' ⟨he, bel⟩ => ?_
  subst he
  exact ⟨_, rfl, _, _, _, [], _, [], hW', trodAll_mk1 (shut_bool Try.underlying4 _), (trodAll_cons_mk (Below.trod laidOut (by kernel_rfl) (of_decide_eq_true (by kernel_rfl)) k0 bel lt0) trodAll_mk0), rfl, bel.frame _, fun h => by cases h⟩
theorem over : Rows.wireOwnRow.holds Try.pinned (OpenSpec.ofChange Rows.wireOwnSpec) :=
  OpenClaim.holds_of_wide 8 Try.f8 rfl rfl rfl rfl rfl rfl rfl ⟨rfl, rfl, rfl, rfl, rfl⟩ rfl rfl rfl rfl rfl (by kernel_rfl) Try.func8 (by kernel_rfl)
    (of_decide_eq_true (by kernel_rfl)) (by unfold Func.isWrapper; first | (rw [if_pos (by decide +kernel)]; kernel_rfl) | (rw [if_neg (by decide +kernel)]; exact ⟨rfl, rfl⟩))
    (fun os started H enc _ => lifted os started H enc)
theorem wireOwn_holds : Rows.WireOwnSaid := over
#print axioms wireOwn_holds
end Go.Proofs.Ytjifahocfbbicaa.wireOwn
