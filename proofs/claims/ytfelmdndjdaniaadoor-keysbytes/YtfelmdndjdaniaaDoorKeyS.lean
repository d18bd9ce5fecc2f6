/-
  The document's Decode of a signature.
-/
import Derived.Test.YtfelmdndjdaniaaDoorKeyR
import Derived.Test.YtfelmdndjdaniaaDoorKeyH
namespace Go.Proofs.YtfelmdndjdaniaaDoor
open Go.RowKit
theorem Bs.inB {w : World} {A : Option Addr} {n : Nat} {l : List UInt8} (h : Bs w A n l) (h2 : 1 < w.heap.size) : ∃ b, b < w.heap.size ∧ InB A n b := by
  cases l with
  | nil => exact ⟨0, by omega, .inl h.1.symm⟩
  | cons x t =>
    obtain ⟨b, off, hA, hb, _⟩ := h.2 0 x rfl
    exact ⟨b, hb, .inr ⟨off, hA⟩⟩
theorem Rdr.keeps {w w' : World} {t : TypeId} {g b : Nat} {E : Int} {l : List UInt8} (h : Rdr w t g b E l) (ho : Only g w w') : Keeps w w' := by
  obtain ⟨A, n, c, hr, _⟩ := h
  exact Keeps.only hr (fun i x => by rcases i with _ | _ | i <;> simp) ho
theorem Keeps.thenB {a b c : World} (h : Keeps a b) (k : Below a.heap.size b c) : Keeps a c := fun A n l q =>
  ⟨q.1, fun j x hx => by
    obtain ⟨g, off, hA, hb, _⟩ := q.2 j x hx
    obtain ⟨g', off', hA', hb', hc'⟩ := (h A n l q).2 j x hx
    rw [hA] at hA'
    injection hA' with e
    injection e with e1 e2 e3
    subst e1 e2
    exact ⟨g, off, hA, Nat.lt_of_lt_of_le hb' k.size, (k.cell (p := ⟨g, off + j, none⟩) hb).trans hc'⟩⟩
theorem wp_build1 {o : Oper} {a : Act} {w : World} {K : Act → World → Prop} {Q : Exit → Act → World → Prop} (x : Operand) (ho : o.op = .buildSlice 42 1 #[(0, x)]) (p : List UInt8)
    (hx : a.eval x = .agg (bcells p)) (hp : p.length = 32)
    (h : ∀ g w', g = w.heap.size → Ds w' (some ⟨g, 0, none⟩) 1 [p] → Below w.heap.size w w' → K (a.put o.dst (.slice (some ⟨g, 0, none⟩) 1 1)) w') : o.wp Tryd.prog a w K Q := by
  have hd : Ds (w.alloc (.cells (bcells p) 23)) (some ⟨w.heap.size, 0, none⟩) 1 [p] := by
    refine ⟨rfl, Digs.one hp, ?_⟩
    have e : flat [p] = p := by simp [flat]
    rw [e]
    exact (Row.new w 23 (bcells p)).bsB hp
  unfold Oper.wp execOp
  simp only [ho, List.map_toArray, List.map_cons, List.map_nil, hx, Sem.run_bind, run_build1 p hp, Result.andThen_ok]
  exact h _ _ rfl hd ((Below.refl _ _).alloc (Nat.le_refl _) _)
theorem wp_storeF {o : Oper} {a : Act} {w : World} {K : Act → World → Prop} {Q : Exit → Act → World → Prop} (x y : Operand) (ho : o.op = .store 42 x y) (hd : o.dst = none) (g k : Nat) (A : Option Addr) (n c : Nat) (hx : a.eval x = .pointer (some ⟨g, k, none⟩)) (hy : a.eval y = .slice A n c) (cs : Array Value) (hr : Row w g 44 cs) (hk : k < cs.size)
    (h : K a (w.setCell ⟨g, k, none⟩ (.slice A n c))) : o.wp Tryd.prog a w K Q := by
  have hc : w.cell? ⟨g, k, none⟩ = some cs[k] := (hr.cell k).trans (Array.getElem?_eq_getElem hk)
  have hf := hr.frozen k
  unfold Oper.wp execOp
  simp only [ho, hx, hy]
  go_simp
  exact h
theorem builtR (A : Option Addr) (n c : Nat) : Tryd.prog.built 93 [(0, .slice A n c)] = some #[.slice A n c, .int .i64 0] := by kernel_rfl
theorem wpList_buildR {ops : Array Oper} {rest : List Oper} {o : Oper} {a : Act} {w : World} {Q : Exit → Act → World → Prop} (hgd : o.guard = none) (x : Operand) (ho : o.op = .build 93 #[(0, x)]) (A : Option Addr) (n c : Nat)
    (hx : a.eval x = .slice A n c) (h : wpList Tryd.prog ops Q rest (a.put o.dst (.agg #[.slice A n c, .int .i64 0])) w) : wpList Tryd.prog ops Q (o :: rest) a w := by
  have e : Tryd.prog.built 93 ((#[(0, x)] : Array (Nat × Operand)).map fun (i, x) => (i, a.eval x)).toList = some #[.slice A n c, .int .i64 0] := by
    rw [List.map_toArray]
    simp only [List.map_cons, List.map_nil, hx]
    exact builtR A n c
  refine wpList_build hgd 93 _ ho (by rw [e]; rfl) ?_
  rw [e]
  exact h
theorem row3_set0 {w : World} {g : Nat} {t : TypeId} {a b c : Value} (h : Row w g t #[a, b, c]) (u : Value) : Row (w.setCell ⟨g, 0, none⟩ u) g t #[u, b, c] := h.set 0 u
set_option maxRecDepth 100000 in
set_option maxHeartbeats 1000000 in
theorem mDecode_no (A : Option Addr) (n c : Nat) (b h : Int) (w : World) (k : okK b h = false) : Calls Tryd.prog 29 #[.slice A n c, .int .i64 b, .int .i64 h] w (DecK w (1, 0, [], [])) := by
  obtain ⟨w0, hw0⟩ : ∃ w0, w.alloc (.cells sig0 44) = w0 := ⟨_, rfl⟩
  have hb0 : Below w.heap.size w w0 := by rw [← hw0]; exact (Below.refl w.heap.size w).alloc (Nat.le_refl _) _
  have HZ0 := Lib.hid (show Row w0 w.heap.size 44 sig0 by rw [← hw0]; exact Row.new w 44 sig0)
  have HM := Lib.hid (fun w => show Calls Tryd.prog 14 #[.int .i64 b, .int .i64 h] w fun e w' => e = .returned (.bool false) ∧ w = w' by have q := kRight_any b h w; rw [k] at q; exact q)
  unfold DecK
  clear k
  go_enter Tryd.func29, Tryd.ntmps29
  go_wp2_with (first
    | (go_at_call 14; refine (HM.out _).mono ?_; rintro e1 w1 ⟨rfl, rfl⟩)
    | (with_reducible refine wpList_buildSG (by with_unfolding_all rfl) rfl ?_)
    | (with_reducible refine wpList_store_row Tryd.aggSig rfl (.tmp 6) (.tmp 18) rfl _ sig0 rfl rfl 44 sig0 HZ0.out (sigC_size _ _ _ _ _ _ _) (sigC_size _ _ _ _ _ _ _) (sigC_one _ _ _ _ _ _ _) ?_; intro w9 hr9 ho9; have HR9 := Lib.hid hr9; clear hr9))
  exact bodyPost_ret (results_row2 Tryd.aggSig Tryd.results29 rfl rfl HR9.out (sigC_size _ _ _ _ _ _ _)) rfl ⟨none, 0, 0, none, 0, 0, rfl, Ds.nil _ _, Ds.nil _ _, hb0.trans (ho9.below (Nat.le_refl _) hb0.size)⟩
set_option maxRecDepth 100000 in
set_option maxHeartbeats 8000000 in
theorem mDecode_ok (A : Option Addr) (n c : Nat) (l : List UInt8) (b h : Nat) (w : World) (h1 : 1 ≤ b) (h2 : b ≤ 256) (h3 : h ≤ 6) (hB : Bs w A n l) (hnc : n ≤ c) (hn : n ≤ 1000000) (hw : 1 < w.heap.size) :
    Calls Tryd.prog 29 #[.slice A n c, .int .i64 (b : Int), .int .i64 (h : Int)] w (DecK w (decR b h l)) := by
  obtain ⟨w0, hw0⟩ : ∃ w0, w.alloc (.cells sig0 44) = w0 := ⟨_, rfl⟩
  have hb0 : Below w.heap.size w w0 := by rw [← hw0]; exact (Below.refl w.heap.size w).alloc (Nat.le_refl _) _
  have hs0 : w.heap.size < w0.heap.size := by rw [← hw0]; simp
  have HZ0 := Lib.hid (show Row w0 w.heap.size 44 sig0 by rw [← hw0]; exact Row.new w 44 sig0)
  have HB0 := Lib.hid (hB.below hb0)
  have hll : l.length ≤ 1000000 := by rw [hB.1]; exact hn
  obtain ⟨b0, hb0l, hI0⟩ := hB.inB hw
  have HM := Lib.hid (fun w => show Calls Tryd.prog 14 #[.int .i64 (b : Int), .int .i64 (h : Int)] w fun e w' => e = .returned (.bool true) ∧ w = w' by have q := kRight_any b h w; rw [okK_of h1 h2 h3] at q; exact q)
  have hmin := wrap_u64_pow h3
  have hmin2 : IntKind.u64.wrap ((2 : Int) ^ h) = ((2 ^ h : Nat) : Int) := by have q := wrap_u64_pow h3; rwa [Nat.min_eq_left (by omega)] at q
  have hp6 := pow_le6 h3
  obtain ⟨E1, V, S1, hq⟩ := triple (rdNum l)
  have hV : V < 18446744073709551616 := by have := rdNum_lt l; rw [hq] at this; exact this
  have HNum : Hid (∀ g b w, Rdr w 93 g b 0 l → Calls Tryd.prog 55 #[.pointer (some ⟨g, 0, none⟩), .int .u64 18446744073709551615] w fun e w' => e = .returned (.int .u64 (V : Int)) ∧ Rdr w' 93 g b E1 (l.drop S1) ∧ Only g w w') := Lib.hid (fun g b w hr => by
    have q := RefRNum_any g b 0 l 18446744073709551615 w hr (by omega)
    unfold RNum at q
    rw [sNum_max, if_pos rfl, hq] at q
    exact q)
  obtain ⟨r, hr⟩ : ∃ r, decR b h l = r := ⟨_, rfl⟩
  rw [hr]
  unfold decR at hr
  rw [hq] at hr
  simp only at hr
  unfold DecK
  have hll1 : (l.drop S1).length ≤ 1000000 := by rw [List.length_drop]; omega
  generalize hl1 : l.drop S1 = l1 at *
  obtain ⟨B2, hB2⟩ : ∃ B2, 2 * b = B2 := ⟨_, rfl⟩
  have hB2i : 2 * (b : Int) = (B2 : Int) := by omega
  have hmul : IntKind.i64.wrap (B2 : Int) = (B2 : Int) := wrap_small _ (by omega) (by omega)
  have hmul2 : wrap64 (B2 : Int) = (B2 : Int) := by unfold wrap64; omega
  have hB2l : B2 ≤ 512 := by omega
  rw [hB2] at hr
  have HDg : Hid (∀ g b E l w, Rdr w 93 g b E l → l.length ≤ 1000000 → Calls Tryd.prog 56 #[.pointer (some ⟨g, 0, none⟩)] w fun e w' => e = .returned (.agg (bcells (sFill E l 32).2.1)) ∧ Rdr w' 93 g b (sFill E l 32).1 (l.drop (sFill E l 32).2.2) ∧ Only g w w') := Lib.hid (fun g b E l w hr hl => RefDigest_any g b E l w hr (by omega))
  have HEn : Hid (∀ g b E l w, Rdr w 93 g b E l → Calls Tryd.prog 57 #[.pointer (some ⟨g, 0, none⟩)] w fun e w' => e = .returned (.int .i64 (sEnd E l)) ∧ Rdr w' 93 g b (sEnd E l) l ∧ Only g w w') := Lib.hid (fun g b E l w hr => RefEnd_any g b E l w hr)
  have HLe := Lib.hid rdS_len
  have HOl := Lib.hid (rdD_length B2 (E1, l1))
  have HOd := Lib.hid (rdD_digs B2 (E1, l1))
  clear hq hl1 hB2 hB h1
  obtain ⟨s, hs⟩ : ∃ s, s = (E1, l1) := ⟨_, rfl⟩
  have HS := Lib.hid hs
  have hsl : s.2.length ≤ 1000000 := by rw [hs]; exact hll1
  rw [← hs] at HOl HOd hr
  have Hr := Lib.hid hr
  clear hs hr
  go_enter Tryd.func29, Tryd.ntmps29
  go_wp2_with (first
    | (go_at_call 14; refine (HM.out _).mono ?_; rintro e1 w1 ⟨rfl, rfl⟩)
    | (with_reducible refine wpList_buildR rfl (.tmp 19) rfl A n c rfl ?_)
    | (go_at_call 55; have hr1 : Rdr (w0.alloc (.cells #[.slice A n c, .int .i64 0] 93)) 93 w0.heap.size b0 0 l := ⟨A, n, c, Row.new w0 93 _, HB0.out.below ((Below.refl _ _).alloc (Nat.le_refl _) _), hnc, hI0, by omega⟩; refine (HNum.out _ _ _ hr1).mono ?_; rintro e2 w2 ⟨rfl, hr2, ho2⟩; have HR2 := Lib.hid hr2; have hs2 := ho2.size; simp at hs2; have b2 : Below w.heap.size w w2 := (hb0.alloc hb0.size (.cells #[.slice A n c, .int .i64 0] 93)).trans (ho2.below (by omega) (by simp; omega)); have HZ2 := Lib.hid ((HZ0.out.alloc (.cells #[.slice A n c, .int .i64 0] 93)).only ho2 (by omega)); clear hr2 hr1 ho2))
  obtain ⟨gr, hgr⟩ : ∃ gr, gr = w0.heap.size := ⟨_, rfl⟩
  obtain ⟨gz, hgz⟩ : ∃ gz, gz = w.heap.size := ⟨_, rfl⟩
  obtain ⟨w3, hw3⟩ : ∃ w3, w2.alloc (.cells sig0 44) = w3 := ⟨_, rfl⟩
  have HS3 := Lib.hid (show Row w3 w2.heap.size 44 sig0 by rw [← hw3]; exact Row.new w2 44 _)
  have b3' : Below w2.heap.size w2 w3 := by rw [← hw3]; exact (Below.refl _ _).alloc (Nat.le_refl _) _
  have b3 := b2.trans (b3'.mono b2.size)
  have hs3 : w2.heap.size < w3.heap.size := by rw [← hw3]; simp
  have HR3 := Lib.hid (HR2.out.below b3')
  have HZ3 := Lib.hid (HZ2.out.below b3' (by omega))
  obtain ⟨gs, hgs⟩ : ∃ gs, gs = w2.heap.size := ⟨_, rfl⟩
  obtain ⟨base, hbase⟩ : ∃ base, base = w3.heap.size := ⟨_, rfl⟩
  have d1 : gz < gr := by omega
  have d2 : gr < gs := by omega
  have d3 : gs < base := by omega
  have d4 : b0 < gz := by omega
  rw [hw3]
  rw [← hgr] at HR3 ⊢
  rw [← hgz] at HZ3 ⊢
  rw [← hgs] at HS3 ⊢
  have hbz : gz ≤ w.heap.size ∧ w.heap.size ≤ gz := by omega
  clear hgr hgs hw3 hgz HZ0 HZ2 HB0 hI0
  go_loopw [11] (fun i wr => ∃ (k : Nat) (X : Option Addr) (cx : Nat), k ≤ B2 ∧ i = .int .i64 (k : Int) ∧ Row wr gs 44 (sigC 0 X k cx none 0 0) ∧ OwnD wr base (.slice X k cx) k (rdD k s) ∧ Rdr wr 93 gr b0 (rdS k s).1 (rdS k s).2 ∧ Row wr gz 44 sig0 ∧ Below w.heap.size w wr ∧ base ≤ wr.heap.size) (fun i _ => B2 - (intOf i).toNat)
  case atStart => exact ⟨0, none, 0, Nat.zero_le _, rfl, HS3.out, OwnD.nil _ _, by have q := HR3.out; rw [show (rdS 0 s).1 = E1 by rw [HS.out]; rfl, show (rdS 0 s).2 = l1 by rw [HS.out]; rfl]; exact q, HZ3.out, b3, by omega⟩
  case round =>
    obtain ⟨k, X, cx, hk, rfl, hsg, hown, hrr, hzr, hb, hbl⟩ := hrel
    have hbs := hb.size
    have HSg := Lib.hid hsg
    have HO := Lib.hid hown
    have HRr := Lib.hid hrr
    have HZr := Lib.hid hzr
    clear hsg hown hrr hzr
    by_cases hlt : k < B2
    · have him : (k : Int) < (B2 : Int) := by omega
      have HDl := Lib.hid (sFill_length (rdS k s).1 (rdS k s).2 32)
      have HS1 := Lib.hid (show rdS (k + 1) s = ((sFill (rdS k s).1 (rdS k s).2 32).1, (rdS k s).2.drop (sFill (rdS k s).1 (rdS k s).2 32).2.2) from rfl)
      have HD1 := Lib.hid (show rdD (k + 1) s = rdD k s ++ [(sFill (rdS k s).1 (rdS k s).2 32).2.1] from rfl)
      have HCl : Hid (∀ w, Rdr w 93 gr b0 (rdS k s).1 (rdS k s).2 → Calls Tryd.prog 56 #[.pointer (some ⟨gr, 0, none⟩)] w fun e w' => e = .returned (.agg (bcells (sFill (rdS k s).1 (rdS k s).2 32).2.1)) ∧ Rdr w' 93 gr b0 (sFill (rdS k s).1 (rdS k s).2 32).1 ((rdS k s).2.drop (sFill (rdS k s).1 (rdS k s).2 32).2.2) ∧ Only gr w w') := Lib.hid (fun w hr => HDg.out gr b0 _ _ w hr (Nat.le_trans (HLe.out k s) hsl))
      generalize sFill (rdS k s).1 (rdS k s).2 32 = q at *
      generalize (rdS k s).2.drop q.2.2 = lq at *
      generalize q.2.1 = D at *
      generalize q.1 = Eq at *
      generalize rdD k s = LM at *
      generalize (rdS k s).1 = Ek at *
      generalize (rdS k s).2 = lk at *
      go_wp2_with fail
      have B0 : Below wr.heap.size wr wr.drew := (Below.refl wr.heap.size wr).drew
      refine wp_region_noPanic ?_
      refine wp_region_held_drew (S := fun w' => True) (by kernel_rfl) trivial (fun hHeld => ?_)
      refine takeD (i := 0) (some 30) (.pointer (some ⟨gs, 1, none⟩)) rfl rfl (by kernel_rfl) (by kernel_rfl) (by kernel_rfl) (fun _ _ _ h => h) (yields_fld44 (by rfl) (.tmp 10) 1 rfl (by decide) (gs) rfl) hHeld ?_
      simp only [Act.put, List.setIfInBounds_toArray, List.set_cons_zero, List.set_cons_succ]
      refine takeD (i := 2) (some 32) (.pointer (some ⟨gr, 0, none⟩)) rfl rfl (by kernel_rfl) (by kernel_rfl) (by kernel_rfl) (fun _ _ _ h => h) (Or.inl ⟨by rfl, fun _ _ => rfl⟩) hHeld ?_
      simp only [Act.put, List.setIfInBounds_toArray, List.set_cons_zero, List.set_cons_succ]
      refine wpAnyH_ready (rs := [1, 3]) (by kernel_rfl) (by decide) ?_
      refine AllReadyH.cons rfl (fun K' hK => ?_) (AllReadyH.cons rfl (fun K' hK => ?_) AllReadyH.nil)
      · have q1 : wr.drew.cell? ⟨gs, 1, none⟩ = some (.slice X k cx) := (HSg.out.below B0 (by omega)).cell 1
        go_simp
        refine hK.out _ _ trivial (fun hHeld1 => ?_)
        clear hK
        (try simp only [Act.put, List.setIfInBounds_toArray, List.set_cons_zero, List.set_cons_succ])
        clear q1
        refine wpAnyH_ready (rs := [3]) (by kernel_rfl) (by decide) ?_
        refine AllReadyH.cons rfl (fun K' hK => ?_) AllReadyH.nil
        go_simp
        refine (HCl.out wr.drew (HRr.out.below B0)).mono ?_
        rintro e4 w4 ⟨rfl, hr4, ho4⟩
        have HR4 := Lib.hid hr4
        have HS4 := Lib.hid ((HSg.out.below B0 (by omega)).only ho4 (by omega))
        have HZ4 := Lib.hid ((HZr.out.below B0 (by omega)).only ho4 (by omega))
        have HO4 := Lib.hid ((HO.out.below B0).only ho4 (by omega))
        have hs4 := ho4.size
        simp at hs4
        have b4 : Below w.heap.size w w4 := (hb.trans (B0.mono hbs)).trans (ho4.below (B := w.heap.size) (by omega) (by simp; omega))
        clear hr4
        refine hK.out _ _ trivial (fun hHeld2 => ?_)
        clear hK
        (try simp only [Act.put, List.setIfInBounds_toArray, List.set_cons_zero, List.set_cons_succ])
        refine wpAnyH_ready (rs := [4]) (by kernel_rfl) (by decide) ?_
        refine AllReadyH.cons rfl (fun K' hK => ?_) AllReadyH.nil
        refine step_of rfl (wp_build1 (.tmp 33) rfl D rfl HDl.out ?_)
        intro g5 w5 hg5 hd5 hb5
        have HD5 := Lib.hid hd5
        have hs5 := hb5.size
        have HO5 := Lib.hid (HO4.out.below hb5)
        have HS5 := Lib.hid (HS4.out.below hb5 (by omega))
        have HZ5 := Lib.hid (HZ4.out.below hb5 (by omega))
        have HR5 := Lib.hid (HR4.out.below hb5)
        have b5 : Below w.heap.size w w5 := b4.trans (hb5.mono b4.size)
        clear hd5 hg5
        refine hK.out _ _ trivial (fun hHeld3 => ?_)
        clear hK
        (try simp only [Act.put, List.setIfInBounds_toArray])
        refine wpAnyH_ready (rs := [5]) (by kernel_rfl) (by decide) ?_
        refine AllReadyH.cons rfl (fun K' hK => ?_) AllReadyH.nil
        refine step_of rfl (wp_appD (.tmp 31) (.tmp 34) rfl base _ k LM rfl HO5.out (some ⟨g5, 0, none⟩) 1 1 [D] rfl HD5.out (by omega) (by omega) ?_)
        intro A6 c6 w6 ho6 hb6
        have HO6 := Lib.hid ho6
        have hs6 := hb6.size
        have HS6 := Lib.hid (HS5.out.below hb6 (by omega))
        have HZ6 := Lib.hid (HZ5.out.below hb6 (by omega))
        have HR6 := Lib.hid (HR5.out.belowB hb6 (by omega) (fun _ => by omega))
        have b6 : Below w.heap.size w w6 := b5.trans (hb6.mono (by omega))
        clear ho6
        refine hK.out _ _ trivial (fun hHeld4 => ?_)
        clear hK
        (try simp only [Act.put])
        refine takeD (i := 6) (some 36) (.pointer (some ⟨gs, 1, none⟩)) rfl rfl (by kernel_rfl) (by kernel_rfl) (by kernel_rfl) (fun _ _ _ h => h) (yields_fld44 (by rfl) (.tmp 10) 1 rfl (by decide) (gs) rfl) hHeld4 ?_
        simp only [Act.put]
        refine wpAnyH_ready (rs := [7]) (by kernel_rfl) (by decide) ?_
        refine AllReadyH.cons rfl (fun K' hK => ?_) AllReadyH.nil
        refine step_of rfl (wp_storeF (.tmp 36) (.tmp 35) rfl rfl gs 1 A6 (k + 1) c6 rfl rfl _ HS6.out (by simp) ?_)
        obtain ⟨w7, hw7⟩ : ∃ w7, w6.setCell ⟨gs, 1, none⟩ (.slice A6 (k + 1) c6) = w7 := ⟨_, rfl⟩
        rw [hw7]
        have ho7 : Only gs w6 w7 := by rw [← hw7]; exact Only.setCell _ _ _ _
        have HS7 : Hid (Row w7 gs 44 (sigC 0 A6 (k + 1) c6 none 0 0)) := Lib.hid (by rw [← hw7]; exact row3_set1 HS6.out _)
        have hs7 := ho7.size
        have HZ7 := Lib.hid (HZ6.out.only ho7 (by omega))
        have HR7 := Lib.hid (HR6.out.only ho7 (by omega) (by omega))
        have HO7 := Lib.hid (HO6.out.only ho7 (by omega))
        have b7 : Below w.heap.size w w7 := b6.trans (ho7.below (B := w.heap.size) (by omega) b6.size)
        clear hw7
        refine hK.out _ _ trivial (fun hHeld5 => ?_)
        clear hK
        (try simp only [Act.put, List.setIfInBounds_toArray])
        refine wpAnyH_done (by kernel_rfl) ?_ _
        refine NoPanic.normal ?_
        go_wp2_with fail
        go_roundw
        case rel => exact ⟨k + 1, A6, c6, by omega, by go_num, HS7.out, (by rw [HD1.out]; exact HO7.out), (by rw [HS1.out]; exact HR7.out), HZ7.out, b7, by omega⟩
        case measure => simp [intOf]; omega
      · go_simp
        refine (HCl.out wr.drew (HRr.out.below B0)).mono ?_
        rintro e4 w4 ⟨rfl, hr4, ho4⟩
        have HR4 := Lib.hid hr4
        have HS4 := Lib.hid ((HSg.out.below B0 (by omega)).only ho4 (by omega))
        have HZ4 := Lib.hid ((HZr.out.below B0 (by omega)).only ho4 (by omega))
        have HO4 := Lib.hid ((HO.out.below B0).only ho4 (by omega))
        have hs4 := ho4.size
        simp at hs4
        have b4 : Below w.heap.size w w4 := (hb.trans (B0.mono hbs)).trans (ho4.below (B := w.heap.size) (by omega) (by simp; omega))
        clear hr4
        refine hK.out _ _ trivial (fun hHeld1 => ?_)
        clear hK
        (try simp only [Act.put, List.setIfInBounds_toArray, List.set_cons_zero, List.set_cons_succ])
        refine wpAnyH_ready (rs := [1, 4]) (by kernel_rfl) (by decide) ?_
        refine AllReadyH.cons rfl (fun K' hK => ?_) (AllReadyH.cons rfl (fun K' hK => ?_) AllReadyH.nil)
        · have q1 : w4.cell? ⟨gs, 1, none⟩ = some (.slice X k cx) := (HS4.out).cell 1
          go_simp
          refine hK.out _ _ trivial (fun hHeld2 => ?_)
          clear hK
          (try simp only [Act.put, List.setIfInBounds_toArray, List.set_cons_zero, List.set_cons_succ])
          clear q1
          refine wpAnyH_ready (rs := [4]) (by kernel_rfl) (by decide) ?_
          refine AllReadyH.cons rfl (fun K' hK => ?_) AllReadyH.nil
          refine step_of rfl (wp_build1 (.tmp 33) rfl D rfl HDl.out ?_)
          intro g5 w5 hg5 hd5 hb5
          have HD5 := Lib.hid hd5
          have hs5 := hb5.size
          have HO5 := Lib.hid (HO4.out.below hb5)
          have HS5 := Lib.hid (HS4.out.below hb5 (by omega))
          have HZ5 := Lib.hid (HZ4.out.below hb5 (by omega))
          have HR5 := Lib.hid (HR4.out.below hb5)
          have b5 : Below w.heap.size w w5 := b4.trans (hb5.mono b4.size)
          clear hd5 hg5
          refine hK.out _ _ trivial (fun hHeld3 => ?_)
          clear hK
          (try simp only [Act.put, List.setIfInBounds_toArray])
          refine wpAnyH_ready (rs := [5]) (by kernel_rfl) (by decide) ?_
          refine AllReadyH.cons rfl (fun K' hK => ?_) AllReadyH.nil
          refine step_of rfl (wp_appD (.tmp 31) (.tmp 34) rfl base _ k LM rfl HO5.out (some ⟨g5, 0, none⟩) 1 1 [D] rfl HD5.out (by omega) (by omega) ?_)
          intro A6 c6 w6 ho6 hb6
          have HO6 := Lib.hid ho6
          have hs6 := hb6.size
          have HS6 := Lib.hid (HS5.out.below hb6 (by omega))
          have HZ6 := Lib.hid (HZ5.out.below hb6 (by omega))
          have HR6 := Lib.hid (HR5.out.belowB hb6 (by omega) (fun _ => by omega))
          have b6 : Below w.heap.size w w6 := b5.trans (hb6.mono (by omega))
          clear ho6
          refine hK.out _ _ trivial (fun hHeld4 => ?_)
          clear hK
          (try simp only [Act.put])
          refine takeD (i := 6) (some 36) (.pointer (some ⟨gs, 1, none⟩)) rfl rfl (by kernel_rfl) (by kernel_rfl) (by kernel_rfl) (fun _ _ _ h => h) (yields_fld44 (by rfl) (.tmp 10) 1 rfl (by decide) (gs) rfl) hHeld4 ?_
          simp only [Act.put]
          refine wpAnyH_ready (rs := [7]) (by kernel_rfl) (by decide) ?_
          refine AllReadyH.cons rfl (fun K' hK => ?_) AllReadyH.nil
          refine step_of rfl (wp_storeF (.tmp 36) (.tmp 35) rfl rfl gs 1 A6 (k + 1) c6 rfl rfl _ HS6.out (by simp) ?_)
          obtain ⟨w7, hw7⟩ : ∃ w7, w6.setCell ⟨gs, 1, none⟩ (.slice A6 (k + 1) c6) = w7 := ⟨_, rfl⟩
          rw [hw7]
          have ho7 : Only gs w6 w7 := by rw [← hw7]; exact Only.setCell _ _ _ _
          have HS7 : Hid (Row w7 gs 44 (sigC 0 A6 (k + 1) c6 none 0 0)) := Lib.hid (by rw [← hw7]; exact row3_set1 HS6.out _)
          have hs7 := ho7.size
          have HZ7 := Lib.hid (HZ6.out.only ho7 (by omega))
          have HR7 := Lib.hid (HR6.out.only ho7 (by omega) (by omega))
          have HO7 := Lib.hid (HO6.out.only ho7 (by omega))
          have b7 : Below w.heap.size w w7 := b6.trans (ho7.below (B := w.heap.size) (by omega) b6.size)
          clear hw7
          refine hK.out _ _ trivial (fun hHeld5 => ?_)
          clear hK
          (try simp only [Act.put, List.setIfInBounds_toArray])
          refine wpAnyH_done (by kernel_rfl) ?_ _
          refine NoPanic.normal ?_
          go_wp2_with fail
          go_roundw
          case rel => exact ⟨k + 1, A6, c6, by omega, by go_num, HS7.out, (by rw [HD1.out]; exact HO7.out), (by rw [HS1.out]; exact HR7.out), HZ7.out, b7, by omega⟩
          case measure => simp [intOf]; omega
        · refine step_of rfl (wp_build1 (.tmp 33) rfl D rfl HDl.out ?_)
          intro g5 w5 hg5 hd5 hb5
          have HD5 := Lib.hid hd5
          have hs5 := hb5.size
          have HO5 := Lib.hid (HO4.out.below hb5)
          have HS5 := Lib.hid (HS4.out.below hb5 (by omega))
          have HZ5 := Lib.hid (HZ4.out.below hb5 (by omega))
          have HR5 := Lib.hid (HR4.out.below hb5)
          have b5 : Below w.heap.size w w5 := b4.trans (hb5.mono b4.size)
          clear hd5 hg5
          refine hK.out _ _ trivial (fun hHeld2 => ?_)
          clear hK
          (try simp only [Act.put, List.setIfInBounds_toArray])
          refine wpAnyH_ready (rs := [1]) (by kernel_rfl) (by decide) ?_
          refine AllReadyH.cons rfl (fun K' hK => ?_) AllReadyH.nil
          have q1 : w5.cell? ⟨gs, 1, none⟩ = some (.slice X k cx) := (HS5.out).cell 1
          go_simp
          refine hK.out _ _ trivial (fun hHeld3 => ?_)
          clear hK
          (try simp only [Act.put, List.setIfInBounds_toArray, List.set_cons_zero, List.set_cons_succ])
          clear q1
          refine wpAnyH_ready (rs := [5]) (by kernel_rfl) (by decide) ?_
          refine AllReadyH.cons rfl (fun K' hK => ?_) AllReadyH.nil
          refine step_of rfl (wp_appD (.tmp 31) (.tmp 34) rfl base _ k LM rfl HO5.out (some ⟨g5, 0, none⟩) 1 1 [D] rfl HD5.out (by omega) (by omega) ?_)
          intro A6 c6 w6 ho6 hb6
          have HO6 := Lib.hid ho6
          have hs6 := hb6.size
          have HS6 := Lib.hid (HS5.out.below hb6 (by omega))
          have HZ6 := Lib.hid (HZ5.out.below hb6 (by omega))
          have HR6 := Lib.hid (HR5.out.belowB hb6 (by omega) (fun _ => by omega))
          have b6 : Below w.heap.size w w6 := b5.trans (hb6.mono (by omega))
          clear ho6
          refine hK.out _ _ trivial (fun hHeld4 => ?_)
          clear hK
          (try simp only [Act.put, List.setIfInBounds_toArray])
          refine takeD (i := 6) (some 36) (.pointer (some ⟨gs, 1, none⟩)) rfl rfl (by kernel_rfl) (by kernel_rfl) (by kernel_rfl) (fun _ _ _ h => h) (yields_fld44 (by rfl) (.tmp 10) 1 rfl (by decide) (gs) rfl) hHeld4 ?_
          simp only [Act.put]
          refine wpAnyH_ready (rs := [7]) (by kernel_rfl) (by decide) ?_
          refine AllReadyH.cons rfl (fun K' hK => ?_) AllReadyH.nil
          refine step_of rfl (wp_storeF (.tmp 36) (.tmp 35) rfl rfl gs 1 A6 (k + 1) c6 rfl rfl _ HS6.out (by simp) ?_)
          obtain ⟨w7, hw7⟩ : ∃ w7, w6.setCell ⟨gs, 1, none⟩ (.slice A6 (k + 1) c6) = w7 := ⟨_, rfl⟩
          rw [hw7]
          have ho7 : Only gs w6 w7 := by rw [← hw7]; exact Only.setCell _ _ _ _
          have HS7 : Hid (Row w7 gs 44 (sigC 0 A6 (k + 1) c6 none 0 0)) := Lib.hid (by rw [← hw7]; exact row3_set1 HS6.out _)
          have hs7 := ho7.size
          have HZ7 := Lib.hid (HZ6.out.only ho7 (by omega))
          have HR7 := Lib.hid (HR6.out.only ho7 (by omega) (by omega))
          have HO7 := Lib.hid (HO6.out.only ho7 (by omega))
          have b7 : Below w.heap.size w w7 := b6.trans (ho7.below (B := w.heap.size) (by omega) b6.size)
          clear hw7
          refine hK.out _ _ trivial (fun hHeld5 => ?_)
          clear hK
          (try simp only [Act.put, List.setIfInBounds_toArray])
          refine wpAnyH_done (by kernel_rfl) ?_ _
          refine NoPanic.normal ?_
          go_wp2_with fail
          go_roundw
          case rel => exact ⟨k + 1, A6, c6, by omega, by go_num, HS7.out, (by rw [HD1.out]; exact HO7.out), (by rw [HS1.out]; exact HR7.out), HZ7.out, b7, by omega⟩
          case measure => simp [intOf]; omega
    · obtain rfl : B2 = k := by omega
      obtain ⟨wo, hwo'⟩ : ∃ wo : World, wo = wr := ⟨_, rfl⟩
      have HDs := Lib.hid HO.out.ds
      rw [← hwo'] at HSg HRr HZr hb hbs hbl HDs
      rw [← hwo']
      clear hwo' HO
      obtain ⟨base2, hbase2⟩ : ∃ base2, base2 = wo.heap.size := ⟨_, rfl⟩
      have HPl := Lib.hid (rdD_length h (rdS B2 s))
      have HPd := Lib.hid (rdD_digs h (rdS B2 s))
      have hs2l : (rdS B2 s).2.length ≤ 1000000 := Nat.le_trans (HLe.out B2 s) hsl
      obtain ⟨s2, hs2'⟩ : ∃ s2, s2 = rdS B2 s := ⟨_, rfl⟩
      rw [← hs2'] at HRr HPl HPd hs2l Hr
      clear hs2'
      generalize rdD B2 s = O at *
      go_wp2_with fail
      go_loopw [12] (fun i wr => ∃ (k : Nat) (Y : Option Addr) (cy : Nat), k ≤ h ∧ i = .int .i64 (k : Int) ∧ Row wr gs 44 (sigC 0 X B2 cx Y k cy) ∧ OwnD wr base2 (.slice Y k cy) k (rdD k s2) ∧ Rdr wr 93 gr b0 (rdS k s2).1 (rdS k s2).2 ∧ Row wr gz 44 sig0 ∧ Below w.heap.size w wr ∧ Keeps wo wr ∧ base2 ≤ wr.heap.size) (fun i _ => h - (intOf i).toNat)
      case atStart => exact ⟨0, none, 0, Nat.zero_le _, rfl, HSg.out, OwnD.nil _ _, HRr.out, HZr.out, hb, Keeps.refl _, by omega⟩
      case round =>
        clear HSg HRr HZr hb hbs
        obtain ⟨k, Y, cy, hk, rfl, hsg, hown, hrr, hzr, hb, hkp, hwo⟩ := hrel
        have hbs := hb.size
        have HSg := Lib.hid hsg
        have HO := Lib.hid hown
        have HRr := Lib.hid hrr
        have HZr := Lib.hid hzr
        clear hsg hown hrr hzr
        by_cases hlt : k < h
        · have him : (k : Int) < (h : Int) := by omega
          have HDl := Lib.hid (sFill_length (rdS k s2).1 (rdS k s2).2 32)
          have HS1 := Lib.hid (show rdS (k + 1) s2 = ((sFill (rdS k s2).1 (rdS k s2).2 32).1, (rdS k s2).2.drop (sFill (rdS k s2).1 (rdS k s2).2 32).2.2) from rfl)
          have HD1 := Lib.hid (show rdD (k + 1) s2 = rdD k s2 ++ [(sFill (rdS k s2).1 (rdS k s2).2 32).2.1] from rfl)
          have HCl : Hid (∀ w, Rdr w 93 gr b0 (rdS k s2).1 (rdS k s2).2 → Calls Tryd.prog 56 #[.pointer (some ⟨gr, 0, none⟩)] w fun e w' => e = .returned (.agg (bcells (sFill (rdS k s2).1 (rdS k s2).2 32).2.1)) ∧ Rdr w' 93 gr b0 (sFill (rdS k s2).1 (rdS k s2).2 32).1 ((rdS k s2).2.drop (sFill (rdS k s2).1 (rdS k s2).2 32).2.2) ∧ Only gr w w') := Lib.hid (fun w hr => HDg.out gr b0 _ _ w hr (Nat.le_trans (HLe.out k s2) hs2l))
          generalize sFill (rdS k s2).1 (rdS k s2).2 32 = q at *
          generalize (rdS k s2).2.drop q.2.2 = lq at *
          generalize q.2.1 = D at *
          generalize q.1 = Eq at *
          generalize rdD k s2 = LM at *
          generalize (rdS k s2).1 = Ek at *
          generalize (rdS k s2).2 = lk at *
          go_wp2_with fail
          have B0 : Below wr.heap.size wr wr.drew := (Below.refl wr.heap.size wr).drew
          refine wp_region_noPanic ?_
          refine wp_region_held_drew (S := fun w' => True) (by kernel_rfl) trivial (fun hHeld => ?_)
          refine takeD (i := 0) (some 42) (.pointer (some ⟨gs, 2, none⟩)) rfl rfl (by kernel_rfl) (by kernel_rfl) (by kernel_rfl) (fun _ _ _ h => h) (yields_fld44 (by rfl) (.tmp 10) 2 rfl (by decide) (gs) rfl) hHeld ?_
          simp only [Act.put, List.setIfInBounds_toArray, List.set_cons_zero, List.set_cons_succ]
          refine takeD (i := 2) (some 44) (.pointer (some ⟨gr, 0, none⟩)) rfl rfl (by kernel_rfl) (by kernel_rfl) (by kernel_rfl) (fun _ _ _ h => h) (Or.inl ⟨by rfl, fun _ _ => rfl⟩) hHeld ?_
          simp only [Act.put, List.setIfInBounds_toArray, List.set_cons_zero, List.set_cons_succ]
          refine wpAnyH_ready (rs := [1, 3]) (by kernel_rfl) (by decide) ?_
          refine AllReadyH.cons rfl (fun K' hK => ?_) (AllReadyH.cons rfl (fun K' hK => ?_) AllReadyH.nil)
          · have q1 : wr.drew.cell? ⟨gs, 2, none⟩ = some (.slice Y k cy) := (HSg.out.below B0 (by omega)).cell 2
            go_simp
            refine hK.out _ _ trivial (fun hHeld1 => ?_)
            clear hK
            (try simp only [Act.put, List.setIfInBounds_toArray, List.set_cons_zero, List.set_cons_succ])
            clear q1
            refine wpAnyH_ready (rs := [3]) (by kernel_rfl) (by decide) ?_
            refine AllReadyH.cons rfl (fun K' hK => ?_) AllReadyH.nil
            go_simp
            refine (HCl.out wr.drew (HRr.out.below B0)).mono ?_
            rintro e4 w4 ⟨rfl, hr4, ho4⟩
            have HR4 := Lib.hid hr4
            have HS4 := Lib.hid ((HSg.out.below B0 (by omega)).only ho4 (by omega))
            have HZ4 := Lib.hid ((HZr.out.below B0 (by omega)).only ho4 (by omega))
            have HO4 := Lib.hid ((HO.out.below B0).only ho4 (by omega))
            have hs4 := ho4.size
            simp at hs4
            have b4 : Below w.heap.size w w4 := (hb.trans (B0.mono hbs)).trans (ho4.below (B := w.heap.size) (by omega) (by simp; omega))
            have K4 : Keeps wo w4 := (hkp.thenB (B0.mono (by omega))).trans ((HRr.out.below B0).keeps ho4)
            clear hr4
            refine hK.out _ _ trivial (fun hHeld2 => ?_)
            clear hK
            (try simp only [Act.put, List.setIfInBounds_toArray, List.set_cons_zero, List.set_cons_succ])
            refine wpAnyH_ready (rs := [4]) (by kernel_rfl) (by decide) ?_
            refine AllReadyH.cons rfl (fun K' hK => ?_) AllReadyH.nil
            refine step_of rfl (wp_build1 (.tmp 45) rfl D rfl HDl.out ?_)
            intro g5 w5 hg5 hd5 hb5
            have HD5 := Lib.hid hd5
            have hs5 := hb5.size
            have HO5 := Lib.hid (HO4.out.below hb5)
            have HS5 := Lib.hid (HS4.out.below hb5 (by omega))
            have HZ5 := Lib.hid (HZ4.out.below hb5 (by omega))
            have HR5 := Lib.hid (HR4.out.below hb5)
            have b5 : Below w.heap.size w w5 := b4.trans (hb5.mono b4.size)
            have K5 : Keeps wo w5 := K4.thenB (hb5.mono (by omega))
            clear hd5 hg5
            refine hK.out _ _ trivial (fun hHeld3 => ?_)
            clear hK
            (try simp only [Act.put, List.setIfInBounds_toArray])
            refine wpAnyH_ready (rs := [5]) (by kernel_rfl) (by decide) ?_
            refine AllReadyH.cons rfl (fun K' hK => ?_) AllReadyH.nil
            refine step_of rfl (wp_appD (.tmp 43) (.tmp 46) rfl base2 _ k LM rfl HO5.out (some ⟨g5, 0, none⟩) 1 1 [D] rfl HD5.out (by omega) (by omega) ?_)
            intro A6 c6 w6 ho6 hb6
            have HO6 := Lib.hid ho6
            have hs6 := hb6.size
            have HS6 := Lib.hid (HS5.out.below hb6 (by omega))
            have HZ6 := Lib.hid (HZ5.out.below hb6 (by omega))
            have HR6 := Lib.hid (HR5.out.belowB hb6 (by omega) (fun _ => by omega))
            have b6 : Below w.heap.size w w6 := b5.trans (hb6.mono (by omega))
            have K6 : Keeps wo w6 := K5.thenB (hb6.mono (by omega))
            clear ho6
            refine hK.out _ _ trivial (fun hHeld4 => ?_)
            clear hK
            (try simp only [Act.put])
            refine takeD (i := 6) (some 48) (.pointer (some ⟨gs, 2, none⟩)) rfl rfl (by kernel_rfl) (by kernel_rfl) (by kernel_rfl) (fun _ _ _ h => h) (yields_fld44 (by rfl) (.tmp 10) 2 rfl (by decide) (gs) rfl) hHeld4 ?_
            simp only [Act.put]
            refine wpAnyH_ready (rs := [7]) (by kernel_rfl) (by decide) ?_
            refine AllReadyH.cons rfl (fun K' hK => ?_) AllReadyH.nil
            refine step_of rfl (wp_storeF (.tmp 48) (.tmp 47) rfl rfl gs 2 A6 (k + 1) c6 rfl rfl _ HS6.out (by simp) ?_)
            obtain ⟨w7, hw7⟩ : ∃ w7, w6.setCell ⟨gs, 2, none⟩ (.slice A6 (k + 1) c6) = w7 := ⟨_, rfl⟩
            rw [hw7]
            have ho7 : Only gs w6 w7 := by rw [← hw7]; exact Only.setCell _ _ _ _
            have HS7 : Hid (Row w7 gs 44 (sigC 0 X B2 cx A6 (k + 1) c6)) := Lib.hid (by rw [← hw7]; exact row3_set2 HS6.out _)
            have hs7 := ho7.size
            have HZ7 := Lib.hid (HZ6.out.only ho7 (by omega))
            have HR7 := Lib.hid (HR6.out.only ho7 (by omega) (by omega))
            have HO7 := Lib.hid (HO6.out.only ho7 (by omega))
            have b7 : Below w.heap.size w w7 := b6.trans (ho7.below (B := w.heap.size) (by omega) b6.size)
            have K7 : Keeps wo w7 := K6.trans (Keeps.only HS6.out (sigC_none _ _ _ _ _ _ _) ho7)
            clear hw7
            refine hK.out _ _ trivial (fun hHeld5 => ?_)
            clear hK
            (try simp only [Act.put, List.setIfInBounds_toArray])
            refine wpAnyH_done (by kernel_rfl) ?_ _
            refine NoPanic.normal ?_
            go_wp2_with fail
            go_roundw
            case rel => exact ⟨k + 1, A6, c6, by omega, by go_num, HS7.out, (by rw [HD1.out]; exact HO7.out), (by rw [HS1.out]; exact HR7.out), HZ7.out, b7, K7, by omega⟩
            case measure => simp [intOf]; omega
          · go_simp
            refine (HCl.out wr.drew (HRr.out.below B0)).mono ?_
            rintro e4 w4 ⟨rfl, hr4, ho4⟩
            have HR4 := Lib.hid hr4
            have HS4 := Lib.hid ((HSg.out.below B0 (by omega)).only ho4 (by omega))
            have HZ4 := Lib.hid ((HZr.out.below B0 (by omega)).only ho4 (by omega))
            have HO4 := Lib.hid ((HO.out.below B0).only ho4 (by omega))
            have hs4 := ho4.size
            simp at hs4
            have b4 : Below w.heap.size w w4 := (hb.trans (B0.mono hbs)).trans (ho4.below (B := w.heap.size) (by omega) (by simp; omega))
            have K4 : Keeps wo w4 := (hkp.thenB (B0.mono (by omega))).trans ((HRr.out.below B0).keeps ho4)
            clear hr4
            refine hK.out _ _ trivial (fun hHeld1 => ?_)
            clear hK
            (try simp only [Act.put, List.setIfInBounds_toArray, List.set_cons_zero, List.set_cons_succ])
            refine wpAnyH_ready (rs := [1, 4]) (by kernel_rfl) (by decide) ?_
            refine AllReadyH.cons rfl (fun K' hK => ?_) (AllReadyH.cons rfl (fun K' hK => ?_) AllReadyH.nil)
            · have q1 : w4.cell? ⟨gs, 2, none⟩ = some (.slice Y k cy) := (HS4.out).cell 2
              go_simp
              refine hK.out _ _ trivial (fun hHeld2 => ?_)
              clear hK
              (try simp only [Act.put, List.setIfInBounds_toArray, List.set_cons_zero, List.set_cons_succ])
              clear q1
              refine wpAnyH_ready (rs := [4]) (by kernel_rfl) (by decide) ?_
              refine AllReadyH.cons rfl (fun K' hK => ?_) AllReadyH.nil
              refine step_of rfl (wp_build1 (.tmp 45) rfl D rfl HDl.out ?_)
              intro g5 w5 hg5 hd5 hb5
              have HD5 := Lib.hid hd5
              have hs5 := hb5.size
              have HO5 := Lib.hid (HO4.out.below hb5)
              have HS5 := Lib.hid (HS4.out.below hb5 (by omega))
              have HZ5 := Lib.hid (HZ4.out.below hb5 (by omega))
              have HR5 := Lib.hid (HR4.out.below hb5)
              have b5 : Below w.heap.size w w5 := b4.trans (hb5.mono b4.size)
              have K5 : Keeps wo w5 := K4.thenB (hb5.mono (by omega))
              clear hd5 hg5
              refine hK.out _ _ trivial (fun hHeld3 => ?_)
              clear hK
              (try simp only [Act.put, List.setIfInBounds_toArray])
              refine wpAnyH_ready (rs := [5]) (by kernel_rfl) (by decide) ?_
              refine AllReadyH.cons rfl (fun K' hK => ?_) AllReadyH.nil
              refine step_of rfl (wp_appD (.tmp 43) (.tmp 46) rfl base2 _ k LM rfl HO5.out (some ⟨g5, 0, none⟩) 1 1 [D] rfl HD5.out (by omega) (by omega) ?_)
              intro A6 c6 w6 ho6 hb6
              have HO6 := Lib.hid ho6
              have hs6 := hb6.size
              have HS6 := Lib.hid (HS5.out.below hb6 (by omega))
              have HZ6 := Lib.hid (HZ5.out.below hb6 (by omega))
              have HR6 := Lib.hid (HR5.out.belowB hb6 (by omega) (fun _ => by omega))
              have b6 : Below w.heap.size w w6 := b5.trans (hb6.mono (by omega))
              have K6 : Keeps wo w6 := K5.thenB (hb6.mono (by omega))
              clear ho6
              refine hK.out _ _ trivial (fun hHeld4 => ?_)
              clear hK
              (try simp only [Act.put])
              refine takeD (i := 6) (some 48) (.pointer (some ⟨gs, 2, none⟩)) rfl rfl (by kernel_rfl) (by kernel_rfl) (by kernel_rfl) (fun _ _ _ h => h) (yields_fld44 (by rfl) (.tmp 10) 2 rfl (by decide) (gs) rfl) hHeld4 ?_
              simp only [Act.put]
              refine wpAnyH_ready (rs := [7]) (by kernel_rfl) (by decide) ?_
              refine AllReadyH.cons rfl (fun K' hK => ?_) AllReadyH.nil
              refine step_of rfl (wp_storeF (.tmp 48) (.tmp 47) rfl rfl gs 2 A6 (k + 1) c6 rfl rfl _ HS6.out (by simp) ?_)
              obtain ⟨w7, hw7⟩ : ∃ w7, w6.setCell ⟨gs, 2, none⟩ (.slice A6 (k + 1) c6) = w7 := ⟨_, rfl⟩
              rw [hw7]
              have ho7 : Only gs w6 w7 := by rw [← hw7]; exact Only.setCell _ _ _ _
              have HS7 : Hid (Row w7 gs 44 (sigC 0 X B2 cx A6 (k + 1) c6)) := Lib.hid (by rw [← hw7]; exact row3_set2 HS6.out _)
              have hs7 := ho7.size
              have HZ7 := Lib.hid (HZ6.out.only ho7 (by omega))
              have HR7 := Lib.hid (HR6.out.only ho7 (by omega) (by omega))
              have HO7 := Lib.hid (HO6.out.only ho7 (by omega))
              have b7 : Below w.heap.size w w7 := b6.trans (ho7.below (B := w.heap.size) (by omega) b6.size)
              have K7 : Keeps wo w7 := K6.trans (Keeps.only HS6.out (sigC_none _ _ _ _ _ _ _) ho7)
              clear hw7
              refine hK.out _ _ trivial (fun hHeld5 => ?_)
              clear hK
              (try simp only [Act.put, List.setIfInBounds_toArray])
              refine wpAnyH_done (by kernel_rfl) ?_ _
              refine NoPanic.normal ?_
              go_wp2_with fail
              go_roundw
              case rel => exact ⟨k + 1, A6, c6, by omega, by go_num, HS7.out, (by rw [HD1.out]; exact HO7.out), (by rw [HS1.out]; exact HR7.out), HZ7.out, b7, K7, by omega⟩
              case measure => simp [intOf]; omega
            · refine step_of rfl (wp_build1 (.tmp 45) rfl D rfl HDl.out ?_)
              intro g5 w5 hg5 hd5 hb5
              have HD5 := Lib.hid hd5
              have hs5 := hb5.size
              have HO5 := Lib.hid (HO4.out.below hb5)
              have HS5 := Lib.hid (HS4.out.below hb5 (by omega))
              have HZ5 := Lib.hid (HZ4.out.below hb5 (by omega))
              have HR5 := Lib.hid (HR4.out.below hb5)
              have b5 : Below w.heap.size w w5 := b4.trans (hb5.mono b4.size)
              have K5 : Keeps wo w5 := K4.thenB (hb5.mono (by omega))
              clear hd5 hg5
              refine hK.out _ _ trivial (fun hHeld2 => ?_)
              clear hK
              (try simp only [Act.put, List.setIfInBounds_toArray])
              refine wpAnyH_ready (rs := [1]) (by kernel_rfl) (by decide) ?_
              refine AllReadyH.cons rfl (fun K' hK => ?_) AllReadyH.nil
              have q1 : w5.cell? ⟨gs, 2, none⟩ = some (.slice Y k cy) := (HS5.out).cell 2
              go_simp
              refine hK.out _ _ trivial (fun hHeld3 => ?_)
              clear hK
              (try simp only [Act.put, List.setIfInBounds_toArray, List.set_cons_zero, List.set_cons_succ])
              clear q1
              refine wpAnyH_ready (rs := [5]) (by kernel_rfl) (by decide) ?_
              refine AllReadyH.cons rfl (fun K' hK => ?_) AllReadyH.nil
              refine step_of rfl (wp_appD (.tmp 43) (.tmp 46) rfl base2 _ k LM rfl HO5.out (some ⟨g5, 0, none⟩) 1 1 [D] rfl HD5.out (by omega) (by omega) ?_)
              intro A6 c6 w6 ho6 hb6
              have HO6 := Lib.hid ho6
              have hs6 := hb6.size
              have HS6 := Lib.hid (HS5.out.below hb6 (by omega))
              have HZ6 := Lib.hid (HZ5.out.below hb6 (by omega))
              have HR6 := Lib.hid (HR5.out.belowB hb6 (by omega) (fun _ => by omega))
              have b6 : Below w.heap.size w w6 := b5.trans (hb6.mono (by omega))
              have K6 : Keeps wo w6 := K5.thenB (hb6.mono (by omega))
              clear ho6
              refine hK.out _ _ trivial (fun hHeld4 => ?_)
              clear hK
              (try simp only [Act.put, List.setIfInBounds_toArray])
              refine takeD (i := 6) (some 48) (.pointer (some ⟨gs, 2, none⟩)) rfl rfl (by kernel_rfl) (by kernel_rfl) (by kernel_rfl) (fun _ _ _ h => h) (yields_fld44 (by rfl) (.tmp 10) 2 rfl (by decide) (gs) rfl) hHeld4 ?_
              simp only [Act.put]
              refine wpAnyH_ready (rs := [7]) (by kernel_rfl) (by decide) ?_
              refine AllReadyH.cons rfl (fun K' hK => ?_) AllReadyH.nil
              refine step_of rfl (wp_storeF (.tmp 48) (.tmp 47) rfl rfl gs 2 A6 (k + 1) c6 rfl rfl _ HS6.out (by simp) ?_)
              obtain ⟨w7, hw7⟩ : ∃ w7, w6.setCell ⟨gs, 2, none⟩ (.slice A6 (k + 1) c6) = w7 := ⟨_, rfl⟩
              rw [hw7]
              have ho7 : Only gs w6 w7 := by rw [← hw7]; exact Only.setCell _ _ _ _
              have HS7 : Hid (Row w7 gs 44 (sigC 0 X B2 cx A6 (k + 1) c6)) := Lib.hid (by rw [← hw7]; exact row3_set2 HS6.out _)
              have hs7 := ho7.size
              have HZ7 := Lib.hid (HZ6.out.only ho7 (by omega))
              have HR7 := Lib.hid (HR6.out.only ho7 (by omega) (by omega))
              have HO7 := Lib.hid (HO6.out.only ho7 (by omega))
              have b7 : Below w.heap.size w w7 := b6.trans (ho7.below (B := w.heap.size) (by omega) b6.size)
              have K7 : Keeps wo w7 := K6.trans (Keeps.only HS6.out (sigC_none _ _ _ _ _ _ _) ho7)
              clear hw7
              refine hK.out _ _ trivial (fun hHeld5 => ?_)
              clear hK
              (try simp only [Act.put, List.setIfInBounds_toArray])
              refine wpAnyH_done (by kernel_rfl) ?_ _
              refine NoPanic.normal ?_
              go_wp2_with fail
              go_roundw
              case rel => exact ⟨k + 1, A6, c6, by omega, by go_num, HS7.out, (by rw [HD1.out]; exact HO7.out), (by rw [HS1.out]; exact HR7.out), HZ7.out, b7, K7, by omega⟩
              case measure => simp [intOf]; omega
        · obtain rfl : h = k := by omega
          have HRe := HRr
          obtain ⟨F, hF'⟩ : ∃ F, F = sEnd (rdS h s2).1 (rdS h s2).2 := ⟨_, rfl⟩
          have HEn2 : Hid (∀ w, Rdr w 93 gr b0 (rdS h s2).1 (rdS h s2).2 → Calls Tryd.prog 57 #[.pointer (some ⟨gr, 0, none⟩)] w fun e w' => e = .returned (.int .i64 F) ∧ Rdr w' 93 gr b0 F (rdS h s2).2 ∧ Only gr w w') := Lib.hid (fun w hr => by rw [hF']; exact HEn.out gr b0 _ _ w hr)
          rw [← hF'] at Hr
          generalize rdD h s2 = PP at *
          generalize (rdS h s2).1 = Ee at *
          generalize (rdS h s2).2 = le at *
          generalize 2 ^ h = nn at *
          clear hF' HEn HDg HLe HNum HM HRe
          by_cases hF : F = 0
          · subst hF
            have hr := Hr.out
            rw [if_neg (fun q => q rfl)] at hr
            clear Hr
            by_cases hv : nn ≤ V
            · rw [if_pos hv] at hr
              subst hr
              have hvi : (nn : Int) ≤ (V : Int) := by omega
              go_wp2_with (first
                | (go_at_call 57; refine (HEn2.out wr HRr.out).mono ?_; rintro e5 w5 ⟨rfl, hr5, ho5⟩; have K5 : Keeps wo w5 := hkp.trans (HRr.out.keeps ho5); have hs5 := ho5.size; have HS5 := Lib.hid (HSg.out.only ho5 (by omega)); have HZ5 := Lib.hid (HZr.out.only ho5 (by omega)); have HO5 := Lib.hid (HO.out.only ho5 (by omega)).ds; have b5 : Below w.heap.size w w5 := hb.trans (ho5.below (B := w.heap.size) (by omega) hbs); clear hr5)
                | (with_reducible refine wpList_buildSG (by with_unfolding_all rfl) rfl ?_)
                | (with_reducible refine wpList_store_row Tryd.aggSig rfl (.tmp 6) (.tmp 59) rfl _ (sig0) rfl rfl 44 sig0 HZ5.out (sigC_size _ _ _ _ _ _ _) (sigC_size _ _ _ _ _ _ _) (sigC_one _ _ _ _ _ _ _) ?_; intro w9 hr9 ho9; have HR9 := Lib.hid hr9; clear hr9))
              exact bodyPost_ret (results_row2 Tryd.aggSig Tryd.results29 rfl rfl HR9.out (sigC_size _ _ _ _ _ _ _)) rfl ⟨none, 0, 0, none, 0, ⟨0, rfl⟩, Ds.nil _ _, Ds.nil _ _, b5.trans (ho9.below (B := w.heap.size) (by omega) b5.size)⟩
            · rw [if_neg hv] at hr
              subst hr
              have hvi : ¬ (nn : Int) ≤ (V : Int) := by omega
              have hwV : wrap64 (V : Int) = (V : Int) := by unfold wrap64; omega
              go_wp2_with (first
                | (go_at_call 57; refine (HEn2.out wr HRr.out).mono ?_; rintro e5 w5 ⟨rfl, hr5, ho5⟩; have K5 : Keeps wo w5 := hkp.trans (HRr.out.keeps ho5); have hs5 := ho5.size; have HS5 := Lib.hid (HSg.out.only ho5 (by omega)); have HZ5 := Lib.hid (HZr.out.only ho5 (by omega)); have HO5 := Lib.hid (HO.out.only ho5 (by omega)).ds; have b5 : Below w.heap.size w w5 := hb.trans (ho5.below (B := w.heap.size) (by omega) hbs); have f0 := HS5.out.frozen 0; have q0 : w5.cell? ⟨gs, 0, none⟩ = some (.int .i64 0) := HS5.out.cell 0; have ho6 : Only gs w5 (w5.setCell ⟨gs, 0, none⟩ (.int .i64 (V : Int))) := Only.setCell _ _ _ _; have HS6 := Lib.hid (row3_set0 HS5.out (.int .i64 (V : Int))); have HZ6 := Lib.hid (HZ5.out.only ho6 (by omega)); have kp6 : Keeps w5 (w5.setCell ⟨gs, 0, none⟩ (.int .i64 (V : Int))) := Keeps.only HS5.out (sigC_none _ _ _ _ _ _ _) ho6; have hs6 := ho6.size; have HP6 := Lib.hid (HO5.out.keeps kp6); have HD6 := Lib.hid (HDs.out.keeps (K5.trans kp6)); have b6 := b5.trans (ho6.below (B := w.heap.size) (by omega) b5.size); clear hr5)
                | (with_reducible refine wpList_buildSG (by with_unfolding_all rfl) rfl ?_)
                | (with_reducible refine wpList_load_row Tryd.aggSig rfl (.tmp 10) rfl _ rfl 44 _ HS6.out (sigC_size _ _ _ _ _ _ _) ?_)
                | (with_reducible refine wpList_store_row Tryd.aggSig rfl (.tmp 6) (.tmp 63) rfl _ (sigC (V : Int) X B2 cx Y h cy) rfl rfl 44 sig0 HZ6.out (sigC_size _ _ _ _ _ _ _) (sigC_size _ _ _ _ _ _ _) (sigC_one _ _ _ _ _ _ _) ?_; intro w9 hr9 ho9; have HR9 := Lib.hid hr9; clear hr9))
              have kp9 := Keeps.only HZ6.out (sigC_none _ _ _ _ _ _ _) ho9
              exact bodyPost_ret (results_row2 Tryd.aggSig Tryd.results29 rfl rfl HR9.out (sigC_size _ _ _ _ _ _ _)) rfl ⟨X, B2, cx, Y, h, ⟨cy, rfl⟩, HD6.out.keeps kp9, HP6.out.keeps kp9, b6.trans (ho9.below (B := w.heap.size) (by omega) b6.size)⟩
          · have hr := Hr.out
            rw [if_pos hF] at hr
            clear Hr
            subst hr
            have hFb : (F != 0) = true := by simp [hF]
            clear hF
            go_wp2_with (first
              | (go_at_call 57; refine (HEn2.out wr HRr.out).mono ?_; rintro e5 w5 ⟨rfl, hr5, ho5⟩; have K5 : Keeps wo w5 := hkp.trans (HRr.out.keeps ho5); have hs5 := ho5.size; have HS5 := Lib.hid (HSg.out.only ho5 (by omega)); have HZ5 := Lib.hid (HZr.out.only ho5 (by omega)); have HO5 := Lib.hid (HO.out.only ho5 (by omega)).ds; have b5 : Below w.heap.size w w5 := hb.trans (ho5.below (B := w.heap.size) (by omega) hbs); clear hr5)
              | (with_reducible refine wpList_buildSG (by with_unfolding_all rfl) rfl ?_)
              | (with_reducible refine wpList_store_row Tryd.aggSig rfl (.tmp 6) (.tmp 53) rfl _ (sig0) rfl rfl 44 sig0 HZ5.out (sigC_size _ _ _ _ _ _ _) (sigC_size _ _ _ _ _ _ _) (sigC_one _ _ _ _ _ _ _) ?_; intro w9 hr9 ho9; have HR9 := Lib.hid hr9; clear hr9))
            exact bodyPost_ret (results_row2 Tryd.aggSig Tryd.results29 rfl rfl HR9.out (sigC_size _ _ _ _ _ _ _)) rfl ⟨none, 0, 0, none, 0, ⟨0, rfl⟩, Ds.nil _ _, Ds.nil _ _, b5.trans (ho9.below (B := w.heap.size) (by omega) b5.size)⟩
end Go.Proofs.YtfelmdndjdaniaaDoor
