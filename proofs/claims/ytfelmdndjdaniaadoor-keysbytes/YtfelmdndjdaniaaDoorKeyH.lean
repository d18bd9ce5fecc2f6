/-
  The document's own key: its leaves, Public, Skip, Sign.
-/
import Derived.Test.YtfelmdndjdaniaaDoorKeyF
namespace Go.Proofs.YtfelmdndjdaniaaDoor
open Go.RowKit
theorem yields_shl {ops : Array Oper} {S : World → Prop} {o : Oper} {a : Act} (hw : Region.wanted o (yielded ops a.tmps) = true) (y : Operand) (ho : o.op = .binOp .shl 3 (.const (.int .i64 1)) y 3) (h n : Nat) (hn : (2 : Int) ^ h = (n : Int)) (h6 : n ≤ 64) (hh : h ≤ 6)
    (hy : a.eval y = .int .i64 (h : Int)) : YieldsIf Tryd.prog ops S o (.int .i64 (n : Int)) a :=
  .inl ⟨hw, fun w _ => by
    unfold execOp
    simp only [ho, hy]
    go_simp
    exact wrap_small (n : Int) (by omega) (by omega)⟩
def NewL (w : World) (n : Nat) (L : List (List UInt8)) (e : Ending) (w' : World) : Prop := ∃ A c, e = .returned (.slice A n c) ∧ n ≤ c ∧ Ds w' A n L ∧ Below w.heap.size w w'
set_option maxRecDepth 100000 in
set_option maxHeartbeats 4000000 in
theorem mLeaves_any (g b h nx : Nat) (s : List UInt8) (w : World) (hs : s.length = 32) (h1 : 1 ≤ b) (h2 : b ≤ 256) (h3 : h ≤ 6) (hK : Row w g 32 (rkC s b h nx)) (hF : First w) (hT : Tab 2 w) :
    Calls Tryd.prog 40 #[.pointer (some ⟨g, 0, none⟩)] w (NewL w (2 ^ h) (leavesL s b (2 ^ h))) := by
  have hsh := wrap_pow (n := h) (by omega)
  have hp6 := pow_le6 h3
  have hgl := hK.lt
  unfold NewL
  generalize 2 ^ h = n at *
  have HK := Lib.hid hK
  have HF := Lib.hid hF
  have HT := Lib.hid hT
  have HS := Lib.hid hs
  clear hK hF hT hs
  go_enter Tryd.func40, Tryd.ntmps40
  go_wp2_with fail
  go_loopw [3, 4] (fun t i wr => ∃ (m : Nat) (A : Option Addr) (c : Nat), m ≤ n ∧ i = .int .i64 (m : Int) ∧ t = .slice A m c ∧ Below w.heap.size w wr ∧ OwnD wr w.heap.size (.slice A m c) m (leavesL s b m)) (fun _ i _ => n - (intOf i).toNat)
  case atStart => exact ⟨0, none, 0, Nat.zero_le _, rfl, rfl, Below.refl _ _, OwnD.nil _ _⟩
  case round =>
    obtain ⟨m, A, c, hm, rfl, rfl, hbel, hown⟩ := hrel
    have hbs := hbel.size
    have HKr := Lib.hid (HK.out.below hbel hgl)
    have HFr := Lib.hid (HF.out.below hbel)
    have HTr := Lib.hid (HT.out.below hbel)
    have k33 : wr.cell? ⟨g, 33, none⟩ = some (.int .i64 (h : Int)) := (HKr.out.cell 33).trans (rkC_33 HS.out)
    have HO := Lib.hid hown
    clear hown
    by_cases hlt : m < n
    · have him : (m : Int) < (n : Int) := by omega
      have HSd := Lib.hid (fun w hF hT => show Calls Tryd.prog 44 #[.agg (bcells s), .string ⟨#[107, 101, 121]⟩, .int .i64 (m : Int)] w fun e w' => e = .returned (.agg (bcells (ksL s m))) ∧ Below w.heap.size w w' from RefSeed_any s keyA (m : Int) w HS.out (by decide) hF hT)
      have HP := Lib.hid (fun w hF hT => RefPublic_ok (ksL s m) b w (ksL_length s m) h1 h2 hF hT)
      have HL2 := Lib.hid (pubN_length (ksL s m) b)
      have HM := Lib.hid (fun A c w hD hF hT => show Calls Tryd.prog 73 #[.slice A (pubN (ksL s m) b).length c] w fun e w' => e = .returned (.agg (bcells (leafL s b m))) ∧ Below w.heap.size w w' from RefRoot_any A (pubN (ksL s m) b).length c (pubN (ksL s m) b) w hD hF hT (by rw [pubN_length]; omega))
      have HD := Lib.hid (leafL_length s b m)
      have HLV := Lib.hid (show leavesL s b (m + 1) = leavesL s b m ++ [leafL s b m] from rfl)
      generalize leafL s b m = D at *
      generalize leavesL s b m = LM at *
      generalize ksL s m = Q at *
      generalize pubN Q b = PB at *
      go_wp2_with fail
      have B0 : Below wr.heap.size wr wr.drew := (Below.refl wr.heap.size wr).drew
      have K0 := Lib.hid (HKr.out.below B0 (by omega))
      refine wp_region_noPanic ?_
      refine wp_region_held_drew (S := fun w' => Row w' g 32 (rkC s b h nx)) (by kernel_rfl) K0.out (fun hHeld => ?_)
      refine takeD (i := 0) (some 17) (.pointer (some ⟨g, 0, none⟩)) rfl rfl (by kernel_rfl) (by kernel_rfl) (by kernel_rfl) (fun _ _ _ h => h) (Or.inl ⟨by rfl, fun _ _ => rfl⟩) hHeld ?_
      simp only [Act.put, List.setIfInBounds_toArray, List.set_cons_zero, List.set_cons_succ]
      refine takeD (i := 1) (some 18) (.pointer (some ⟨g, 0, none⟩)) rfl rfl (by kernel_rfl) (by kernel_rfl) (by kernel_rfl) (fun _ _ _ h => h) (yields_nil (by rfl) (.tmp 17) rfl _ rfl) hHeld ?_
      simp only [Act.put, List.setIfInBounds_toArray, List.set_cons_zero, List.set_cons_succ]
      refine takeD (i := 2) (some 19) (.pointer (some ⟨g, 0, none⟩)) rfl rfl (by kernel_rfl) (by kernel_rfl) (by kernel_rfl) (fun _ _ _ h => h) (yields_fld32 (by rfl) (.tmp 18) 0 rfl (by decide) (g) rfl) hHeld ?_
      simp only [Act.put, List.setIfInBounds_toArray, List.set_cons_zero, List.set_cons_succ]
      refine takeD (i := 3) (some 20) (.agg (bcells s)) rfl rfl (by kernel_rfl) (by kernel_rfl) (by kernel_rfl) (fun _ _ _ h => h) (yields_loadW (by rfl) (.tmp 19) rfl (g) (0) s rfl (fun _ h => rk_range h) HS.out) hHeld ?_
      simp only [Act.put, List.setIfInBounds_toArray, List.set_cons_zero, List.set_cons_succ]
      refine takeD (i := 4) (some 21) (.int .i64 (m : Int)) rfl rfl (by kernel_rfl) (by kernel_rfl) (by kernel_rfl) (fun _ _ _ h => h) (Or.inl ⟨by rfl, fun _ _ => rfl⟩) hHeld ?_
      simp only [Act.put, List.setIfInBounds_toArray, List.set_cons_zero, List.set_cons_succ]
      refine takeD (i := 6) (some 23) (.pointer (some ⟨g, 0, none⟩)) rfl rfl (by kernel_rfl) (by kernel_rfl) (by kernel_rfl) (fun _ _ _ h => h) (Or.inl ⟨by rfl, fun _ _ => rfl⟩) hHeld ?_
      simp only [Act.put, List.setIfInBounds_toArray, List.set_cons_zero, List.set_cons_succ]
      refine takeD (i := 7) (some 24) (.pointer (some ⟨g, 0, none⟩)) rfl rfl (by kernel_rfl) (by kernel_rfl) (by kernel_rfl) (fun _ _ _ h => h) (yields_nil (by rfl) (.tmp 23) rfl _ rfl) hHeld ?_
      simp only [Act.put, List.setIfInBounds_toArray, List.set_cons_zero, List.set_cons_succ]
      refine takeD (i := 8) (some 25) (.pointer (some ⟨g, 32, none⟩)) rfl rfl (by kernel_rfl) (by kernel_rfl) (by kernel_rfl) (fun _ _ _ h => h) (yields_fld32 (by rfl) (.tmp 24) 1 rfl (by decide) (g) rfl) hHeld ?_
      simp only [Act.put, List.setIfInBounds_toArray, List.set_cons_zero, List.set_cons_succ]
      refine takeD (i := 9) (some 26) (.int .i64 (b : Int)) rfl rfl (by kernel_rfl) (by kernel_rfl) (by kernel_rfl) (fun _ _ _ h => h) (yields_cell (by rfl) 3 (.tmp 25) rfl (by decide) (g) (32) rfl _ (fun _ h => (h.cell 32).trans (rkC_32 HS.out))) hHeld ?_
      simp only [Act.put, List.setIfInBounds_toArray, List.set_cons_zero, List.set_cons_succ]
      refine wpAnyH_ready (rs := [5]) (by kernel_rfl) (by decide) ?_
      refine AllReadyH.cons rfl (fun K' hK => ?_) AllReadyH.nil
      go_simp
      refine (HSd.out wr.drew (HFr.out.below B0) (HTr.out.below B0)).mono ?_
      rintro e3 w3 ⟨rfl, hb3⟩
      have B3 : Below wr.heap.size wr w3 := B0.trans (hb3.mono B0.size)
      refine hK.out _ _ (HKr.out.below B3 (by omega)) (fun hHeld1 => ?_)
      clear hK
      (try simp only [Act.put, List.setIfInBounds_toArray, List.set_cons_zero, List.set_cons_succ])
      refine wpAnyH_ready (rs := [10]) (by kernel_rfl) (by decide) ?_
      refine AllReadyH.cons rfl (fun K' hK => ?_) AllReadyH.nil
      go_simp
      refine (HP.out w3 (HFr.out.below B3) (HTr.out.below B3)).mono ?_
      rintro e4 w4 ⟨A4, c4, rfl, hc4, hd4, hb4⟩
      have HD4 := Lib.hid hd4
      have B4 : Below wr.heap.size wr w4 := B3.trans (hb4.mono B3.size)
      clear hd4
      refine hK.out _ _ (HKr.out.below B4 (by omega)) (fun hHeld2 => ?_)
      clear hK
      (try simp only [Act.put, List.setIfInBounds_toArray, List.set_cons_zero, List.set_cons_succ])
      refine takeD (i := 11) (some 16) (.tuple #[.slice A4 PB.length c4, .int .i64 0]) rfl rfl (by kernel_rfl) (by kernel_rfl) (by kernel_rfl) (fun _ _ _ h => h) (Or.inl ⟨by rfl, fun _ _ => rfl⟩) hHeld2 ?_
      simp only [Act.put, List.setIfInBounds_toArray, List.set_cons_zero, List.set_cons_succ]
      refine takeD (i := 12) (some 28) (.slice A4 PB.length c4) rfl rfl (by kernel_rfl) (by kernel_rfl) (by kernel_rfl) (fun _ _ _ h => h) (Or.inl ⟨by rfl, fun _ _ => rfl⟩) hHeld2 ?_
      simp only [Act.put, List.setIfInBounds_toArray, List.set_cons_zero, List.set_cons_succ]
      refine takeD (i := 13) (some 29) (.int .i64 0) rfl rfl (by kernel_rfl) (by kernel_rfl) (by kernel_rfl) (fun _ _ _ h => h) (Or.inl ⟨by rfl, fun _ _ => rfl⟩) hHeld2 ?_
      simp only [Act.put, List.setIfInBounds_toArray, List.set_cons_zero, List.set_cons_succ]
      refine takeD (i := 14) (some 5) (.slice A4 PB.length c4) rfl rfl (by kernel_rfl) (by kernel_rfl) (by kernel_rfl) (fun _ _ _ h => h) (Or.inl ⟨by rfl, fun _ _ => rfl⟩) hHeld2 ?_
      simp only [Act.put, List.setIfInBounds_toArray, List.set_cons_zero, List.set_cons_succ]
      refine takeD (i := 15) (some 6) (.int .i64 0) rfl rfl (by kernel_rfl) (by kernel_rfl) (by kernel_rfl) (fun _ _ _ h => h) (Or.inl ⟨by rfl, fun _ _ => rfl⟩) hHeld2 ?_
      simp only [Act.put, List.setIfInBounds_toArray, List.set_cons_zero, List.set_cons_succ]
      (try simp only [Act.put, List.setIfInBounds_toArray])
      refine wpAnyH_done (by kernel_rfl) ?_ _
      refine NoPanic.normal ?_
      have hs4 := B4.size
      have HO4 := Lib.hid (HO.out.below B4)
      go_wp2_with (first
        | (go_at_call 73; refine (HM.out A4 c4 w4 HD4.out (HFr.out.below B4) (HTr.out.below B4)).mono ?_; rintro e5 w5 ⟨rfl, hb5⟩; have hs5 := hb5.size; have B5 := B4.trans (hb5.mono hs4); have HO5 := Lib.hid (HO4.out.below hb5))
        | (with_reducible refine wpList_build1 rfl (.tmp 32) rfl D rfl HD.out ?_; intro g6 w6 hg6 hd6 hb6; have hs6 := hb6.size; have B6 := B5.trans (hb6.mono B5.size); have HD6 := Lib.hid hd6; have HO6 := Lib.hid (HO5.out.below hb6); clear hd6 hg6)
        | (at_builtin; refine wpList_appD rfl (.tmp 30) (.tmp 33) rfl w.heap.size _ m LM rfl HO6.out (some ⟨g6, 0, none⟩) 1 1 [D] rfl HD6.out (by omega) (by omega) ?_; intro A7 c7 w7 ho7 hb7; have HO7 := Lib.hid ho7; have B7 := (hbel.trans (B6.mono hbs)).trans hb7; clear ho7))
      exact ⟨⟨m + 1, A7, c7, by omega, by go_num, rfl, B7, by rw [HLV.out]; exact HO7.out⟩, by simp [intOf]; omega⟩
    · obtain rfl : n = m := by omega
      obtain ⟨Aq, cq, hq1, hq2⟩ := HO.out.form
      injection hq1 with hqa hqb hqc
      subst hqa hqc
      clear hqb
      go_wp2_with fail
      go_ret
      exact ⟨A, c, rfl, hq2, HO.out.ds, hbel⟩
set_option maxRecDepth 100000 in
set_option maxHeartbeats 1000000 in
theorem mPublic_any (g b h nx : Nat) (s : List UInt8) (w : World) (hs : s.length = 32) (h1 : 1 ≤ b) (h2 : b ≤ 256) (h3 : h ≤ 6) (hK : Row w g 32 (rkC s b h nx)) (hF : First w) (hT : Tab 2 w) :
    Calls Tryd.prog 16 #[.pointer (some ⟨g, 0, none⟩)] w fun e w' => e = .returned (.agg (bcells (pubK s b h))) ∧ Below w.heap.size w w' := by
  have hgl := hK.lt
  have hb0 := (Below.refl w.heap.size w).alloc (Nat.le_refl _) (.cells lit32 23)
  have HC := Lib.hid (mLeaves_any g b h nx s _ hs h1 h2 h3 (hK.below hb0 hgl) (hF.below hb0) (hT.below hb0))
  have HM := Lib.hid (fun A c w hc hD hF hT => show Calls Tryd.prog 39 #[.slice A (2 ^ h) c] w (RecD w (pubK s b h) 0) from RefRoot_ok h A (2 ^ h) c (leavesL s b (2 ^ h)) w (by omega) rfl hc hD hF hT)
  have HS := Lib.hid (show (bcells (pubK s b h)).size = 32 by rw [bcells_size, pubK_length])
  have HZ := Lib.hid (Row.new w 23 lit32)
  have HF := Lib.hid hF
  have HT := Lib.hid hT
  unfold NewL at HC
  generalize pubK s b h = R at *
  generalize 2 ^ h = n at *
  clear hK hF hT
  go_enter Tryd.func16, Tryd.ntmps16
  go_wp2_with (first
    | (go_at_call 40; refine HC.out.mono ?_; rintro e0 w0 ⟨A0, c0, rfl, hc0, hd0, hq0⟩; have hb0' := hb0.trans (hq0.mono (by simp)); have HZ0 := Lib.hid (HZ.out.below hq0 (by simp)); have HD0 := Lib.hid hd0; have hs0 := hb0'.size; have hsq := hq0.size; simp at hsq; clear hd0)
    | (go_at_call 39; refine (HM.out A0 c0 w0 hc0 HD0.out (HF.out.below hb0') (HT.out.below hb0')).mono ?_; rintro e1 w1 ⟨rfl, hb1⟩; have hs1 := hb1.size; have HZ1 := Lib.hid (HZ0.out.below hb1 (by omega)); have hb1' := hb0'.trans (hb1.mono (by omega)))
    | (with_reducible refine wpList_store_row Tryd.agg25 rfl (.tmp 3) (.tmp 9) rfl _ _ rfl rfl 23 lit32 (Row.new w1 23 lit32) HS.out lit32_size (bcells_one _) ?_; intro w2 hr2 ho2; have HR2 := Lib.hid hr2; have hs2 := ho2.size; simp at hs2; have HZ2 := Lib.hid ((HZ1.out.alloc _).only ho2 (by omega)); have hb2 := (hb1'.alloc hb1'.size (.cells lit32 23)).trans (ho2.below (B := w.heap.size) (by omega) (by simp; omega)); clear hr2)
    | (with_reducible refine wpList_load_row Tryd.agg25 rfl (.tmp 3) rfl _ rfl 23 _ HR2.out HS.out ?_)
    | (with_reducible refine wpList_store_row Tryd.agg25 rfl (.tmp 2) (.tmp 11) rfl _ _ rfl rfl 23 lit32 HZ2.out HS.out lit32_size (bcells_one _) ?_; intro w9 hr9 ho9; have HR9 := Lib.hid hr9; clear hr9))
  refine bodyPost_ret (results_row1 Tryd.agg25 Tryd.results16 rfl HR9.out HS.out) rfl ⟨rfl, ?_⟩
  exact hb2.trans (ho9.below (by omega) hb2.size)
def SkipM (w : World) (g : Nat) (s : List UInt8) (b h nx : Nat) (to : Int) (e : Ending) (w' : World) : Prop :=
  e = .returned (.int .i64 (skE nx (2 ^ h) to)) ∧ Row w' g 32 (rkC s b h (skN nx (2 ^ h) to)) ∧ Only g w w' ∧ Keeps w w'
set_option maxHeartbeats 1000000 in
theorem mSkip_any (g b h nx : Nat) (to : Int) (s : List UInt8) (w : World) (hs : s.length = 32) (h3 : h ≤ 6) (hK : Row w g 32 (rkC s b h nx)) :
    Calls Tryd.prog 20 #[.pointer (some ⟨g, 0, none⟩), .int .i64 to] w (SkipM w g s b h nx to) := by
  have hsh := wrap_pow (n := h) (by omega)
  unfold SkipM skE skN
  generalize 2 ^ h = n at *
  have k34 : w.cell? ⟨g, 34, none⟩ = some (.int .i64 (nx : Int)) := (hK.cell 34).trans (rkC_34 hs)
  have k33 : w.cell? ⟨g, 33, none⟩ = some (.int .i64 (h : Int)) := (hK.cell 33).trans (rkC_33 hs)
  have f34 := hK.frozen 34
  have HK := Lib.hid hK
  have HS := Lib.hid hs
  clear hK hs
  by_cases q1 : to < (nx : Int)
  · rw [show skB nx n to = true by simp [skB, q1]]
    go_enter Tryd.func20, Tryd.ntmps20
    go_wp2
    go_ret
    exact ⟨rfl, HK.out, Only.refl _ _, Keeps.refl _⟩
  · by_cases q2 : (n : Int) < to
    · rw [show skB nx n to = true by simp [skB, q2]]
      go_enter Tryd.func20, Tryd.ntmps20
      go_wp2
      go_ret
      exact ⟨rfl, HK.out, Only.refl _ _, Keeps.refl _⟩
    · rw [show skB nx n to = false by simp [skB, q1, q2]]
      have HTo := Lib.hid (show ((to.toNat : Nat) : Int) = to by omega)
      go_enter Tryd.func20, Tryd.ntmps20
      go_wp2
      go_ret
      refine ⟨rfl, ?_, Only.setCell _ _ _ _, Keeps.setCell _ k34⟩
      have r := HK.out.set 34 (.int .i64 ((to.toNat : Nat) : Int))
      rw [rkC_set _ HS.out, HTo.out] at r
      exact r
def SigM (w : World) (g : Nat) (s : List UInt8) (b h nx : Nat) (d : List UInt8) (e : Ending) (w' : World) : Prop :=
  ∃ A1 n1 c1 A2 n2 c2, e = .returned (.tuple #[.agg (sigC (nx : Int) A1 n1 c1 A2 n2 c2), .int .i64 0]) ∧ Ds w' A1 n1 (sigN (ksL s nx) d b) ∧ Ds w' A2 n2 (pathD h (leavesL s b (2 ^ h)) nx) ∧ Row w' g 32 (rkC s b h (nx + 1)) ∧ Only g w w' ∧ Keeps w w'
theorem sigC_none (i : Int) (A : Option Addr) (n c : Nat) (B : Option Addr) (m d : Nat) (j : Nat) (x : Int) : (sigC i A n c B m d)[j]? ≠ some (Value.int .u8 x) := by
  rcases j with _ | _ | _ | j <;> simp [sigC]
theorem row3_set1 {w : World} {g : Nat} {t : TypeId} {a b c : Value} (h : Row w g t #[a, b, c]) (u : Value) : Row (w.setCell ⟨g, 1, none⟩ u) g t #[a, u, c] := h.set 1 u
theorem row3_set2 {w : World} {g : Nat} {t : TypeId} {a b c : Value} (h : Row w g t #[a, b, c]) (u : Value) : Row (w.setCell ⟨g, 2, none⟩ u) g t #[a, b, u] := h.set 2 u
theorem builtS1 (i : Int) : Tryd.prog.built 44 [(0, .int .i64 i)] = some (sigC i none 0 0 none 0 0) := by kernel_rfl
theorem wpList_buildS1 {ops : Array Oper} {rest : List Oper} {o : Oper} {a : Act} {w : World} {Q : Exit → Act → World → Prop} (hgd : o.guard = none) (x : Operand) (ho : o.op = .build 44 #[(0, x)]) (i : Int)
    (hx : a.eval x = .int .i64 i) (h : wpList Tryd.prog ops Q rest (a.put o.dst (.agg (sigC i none 0 0 none 0 0))) w) : wpList Tryd.prog ops Q (o :: rest) a w := by
  have e : Tryd.prog.built 44 ((#[(0, x)] : Array (Nat × Operand)).map fun (i, x) => (i, a.eval x)).toList = some (sigC i none 0 0 none 0 0) := by
    rw [List.map_toArray]
    simp only [List.map_cons, List.map_nil, hx]
    exact builtS1 i
  refine wpList_build hgd 44 _ ho (by rw [e]; rfl) ?_
  rw [e]
  exact h
set_option maxRecDepth 100000 in
set_option maxHeartbeats 4000000 in
theorem mSign_spent (g b h nx : Nat) (A : Option Addr) (nt ct : Nat) (s : List UInt8) (w : World) (hs : s.length = 32) (h3 : h ≤ 6) (hn : nx = 2 ^ h) (hK : Row w g 32 (rkC s b h nx)) :
    Calls Tryd.prog 23 #[.pointer (some ⟨g, 0, none⟩), .slice A nt ct] w fun e w' => e = .returned (.tuple #[.agg sig0, .int .i64 70]) ∧ Below w.heap.size w w' := by
  have hsp : (2 : Int) ^ h = ((2 ^ h : Nat) : Int) := by simp
  have hp6 := pow_le6 h3
  have hgl := hK.lt
  obtain ⟨w0, hw0⟩ : ∃ w0, w.alloc (.cells sig0 44) = w0 := ⟨_, rfl⟩
  have hb0 : Below w.heap.size w w0 := by rw [← hw0]; exact (Below.refl w.heap.size w).alloc (Nat.le_refl _) _
  have hs0 : w.heap.size < w0.heap.size := by rw [← hw0]; simp
  have HZ0 := Lib.hid (show Row w0 w.heap.size 44 sig0 by rw [← hw0]; exact Row.new w 44 sig0)
  have HS := Lib.hid hs
  have HK0 := Lib.hid (hK.below hb0 hgl)
  rw [← hn] at hsp hp6
  clear hK hs
  clear hn
  go_enter Tryd.func23, Tryd.ntmps23
  go_wp2_with fail
  have B0 : Below w0.heap.size w0 w0.drew := (Below.refl w0.heap.size w0).drew
  have K0 := Lib.hid (HK0.out.below B0 (by omega))
  refine wp_region_noPanic ?_
  refine wp_region_held_drew (S := fun w' => Row w' g 32 (rkC s b h nx)) (by kernel_rfl) K0.out (fun hHeld => ?_)
  refine takeD (i := 0) (some 11) (.pointer (some ⟨g, 0, none⟩)) rfl rfl (by kernel_rfl) (by kernel_rfl) (by kernel_rfl) (fun _ _ _ h => h) (Or.inl ⟨by rfl, fun _ _ => rfl⟩) hHeld ?_
  simp only [Act.put, List.setIfInBounds_toArray, List.set_cons_zero, List.set_cons_succ]
  refine takeD (i := 1) (some 12) (.pointer (some ⟨g, 0, none⟩)) rfl rfl (by kernel_rfl) (by kernel_rfl) (by kernel_rfl) (fun _ _ _ h => h) (yields_nil (by rfl) (.tmp 11) rfl _ rfl) hHeld ?_
  simp only [Act.put, List.setIfInBounds_toArray, List.set_cons_zero, List.set_cons_succ]
  refine takeD (i := 2) (some 13) (.pointer (some ⟨g, 34, none⟩)) rfl rfl (by kernel_rfl) (by kernel_rfl) (by kernel_rfl) (fun _ _ _ h => h) (yields_fld32 (by rfl) (.tmp 12) 3 rfl (by decide) (g) rfl) hHeld ?_
  simp only [Act.put, List.setIfInBounds_toArray, List.set_cons_zero, List.set_cons_succ]
  refine takeD (i := 3) (some 14) (.int .i64 (nx : Int)) rfl rfl (by kernel_rfl) (by kernel_rfl) (by kernel_rfl) (fun _ _ _ h => h) (yields_cell (by rfl) 3 (.tmp 13) rfl (by decide) (g) (34) rfl _ (fun _ h => (h.cell 34).trans (rkC_34 HS.out))) hHeld ?_
  simp only [Act.put, List.setIfInBounds_toArray, List.set_cons_zero, List.set_cons_succ]
  refine takeD (i := 4) (some 15) (.pointer (some ⟨g, 0, none⟩)) rfl rfl (by kernel_rfl) (by kernel_rfl) (by kernel_rfl) (fun _ _ _ h => h) (Or.inl ⟨by rfl, fun _ _ => rfl⟩) hHeld ?_
  simp only [Act.put, List.setIfInBounds_toArray, List.set_cons_zero, List.set_cons_succ]
  refine takeD (i := 5) (some 16) (.pointer (some ⟨g, 0, none⟩)) rfl rfl (by kernel_rfl) (by kernel_rfl) (by kernel_rfl) (fun _ _ _ h => h) (yields_nil (by rfl) (.tmp 15) rfl _ rfl) hHeld ?_
  simp only [Act.put, List.setIfInBounds_toArray, List.set_cons_zero, List.set_cons_succ]
  refine takeD (i := 6) (some 17) (.pointer (some ⟨g, 33, none⟩)) rfl rfl (by kernel_rfl) (by kernel_rfl) (by kernel_rfl) (fun _ _ _ h => h) (yields_fld32 (by rfl) (.tmp 16) 2 rfl (by decide) (g) rfl) hHeld ?_
  simp only [Act.put, List.setIfInBounds_toArray, List.set_cons_zero, List.set_cons_succ]
  refine takeD (i := 7) (some 18) (.int .i64 (h : Int)) rfl rfl (by kernel_rfl) (by kernel_rfl) (by kernel_rfl) (fun _ _ _ h => h) (yields_cell (by rfl) 3 (.tmp 17) rfl (by decide) (g) (33) rfl _ (fun _ h => (h.cell 33).trans (rkC_33 HS.out))) hHeld ?_
  simp only [Act.put, List.setIfInBounds_toArray, List.set_cons_zero, List.set_cons_succ]
  refine takeD (i := 8) (some 19) (.int .i64 (nx : Int)) rfl rfl (by kernel_rfl) (by kernel_rfl) (by kernel_rfl) (fun _ _ _ h => h) (yields_shl (by rfl) (.tmp 18) rfl h nx hsp hp6 h3 rfl) hHeld ?_
  simp only [Act.put, List.setIfInBounds_toArray, List.set_cons_zero, List.set_cons_succ]
  refine takeD (i := 9) (some 20) (.bool true) rfl rfl (by kernel_rfl) (by kernel_rfl) (by kernel_rfl) (fun _ _ _ h => h) (yields_eqN (by rfl) _ _ rfl _ _ true rfl rfl (by simp)) hHeld ?_
  simp only [Act.put, List.setIfInBounds_toArray, List.set_cons_zero, List.set_cons_succ]
  (try simp only [Act.put, List.setIfInBounds_toArray])
  refine wpAnyH_done (by kernel_rfl) ?_ _
  refine NoPanic.normal ?_
  go_wp2_with (first
    | (with_reducible refine wpList_buildSG (by with_unfolding_all rfl) rfl ?_)
    | (with_reducible refine wpList_store_row Tryd.aggSig rfl (.tmp 4) (.tmp 21) rfl _ sig0 rfl rfl 44 sig0 (HZ0.out.below B0 hs0) (sigC_size _ _ _ _ _ _ _) (sigC_size _ _ _ _ _ _ _) (sigC_one _ _ _ _ _ _ _) ?_; intro w9 hr9 ho9; have HR9 := Lib.hid hr9; clear hr9))
  have b1 := hb0.trans (B0.mono (by omega))
  exact bodyPost_ret (results_row2 Tryd.aggSig Tryd.results23 rfl rfl HR9.out (sigC_size _ _ _ _ _ _ _)) rfl ⟨rfl, b1.trans (ho9.below (Nat.le_refl _) b1.size)⟩
set_option maxRecDepth 100000 in
set_option maxHeartbeats 8000000 in
theorem mSign_ok (g b h nx nt ct : Nat) (s l : List UInt8) (A : Option Addr) (w : World) (hs : s.length = 32) (h1 : 1 ≤ b) (h2 : b ≤ 256) (h3 : h ≤ 6) (hn : nx < 2 ^ h) (hK : Row w g 32 (rkC s b h nx)) (hB : Bs w A nt l) (hnc : nt ≤ ct) (hnt : nt ≤ 1000000) (hF : First w) (hT : Tab 2 w) (hg : 2 < g) :
    Calls Tryd.prog 23 #[.pointer (some ⟨g, 0, none⟩), .slice A nt ct] w (SigM w g s b h nx (sumL l)) := by
  have hsp : (2 : Int) ^ h = ((2 ^ h : Nat) : Int) := by simp
  have hp6 := pow_le6 h3
  have hgl := hK.lt
  obtain ⟨w0, hw0⟩ : ∃ w0, w.alloc (.cells sig0 44) = w0 := ⟨_, rfl⟩
  have hb0 : Below w.heap.size w w0 := by rw [← hw0]; exact (Below.refl w.heap.size w).alloc (Nat.le_refl _) _
  have hs0 : w.heap.size < w0.heap.size := by rw [← hw0]; simp
  have HZ0 := Lib.hid (show Row w0 w.heap.size 44 sig0 by rw [← hw0]; exact Row.new w 44 sig0)
  have HS := Lib.hid hs
  have HK0 := Lib.hid (hK.below hb0 hgl)
  have HSd := Lib.hid (fun w hF hT => show Calls Tryd.prog 44 #[.agg (bcells s), .string ⟨#[107, 101, 121]⟩, .int .i64 (nx : Int)] w fun e w' => e = .returned (.agg (bcells (ksL s nx))) ∧ Below w.heap.size w w' from RefSeed_any s keyA (nx : Int) w hs (by decide) hF hT)
  have HG := Lib.hid (fun w hB hF hT => RefSign_ok (ksL s nx) b A nt ct l w (ksL_length s nx) h1 h2 hB hnc hnt hF hT)
  have HLv := Lib.hid (fun w hK hF hT => mLeaves_any g b h nx s w hs h1 h2 h3 hK hF hT)
  have HP := Lib.hid (fun A c w hc hD hF hT => RefPath_ok h A (2 ^ h) c nx (leavesL s b (2 ^ h)) w (by omega) rfl hc hn hD hF hT)
  have HB0 := Lib.hid (hB.below hb0)
  have HF0 := Lib.hid (hF.below hb0)
  have HT0 := Lib.hid (hT.below hb0)
  unfold SigM
  unfold NewL at HLv
  generalize hn2 : 2 ^ h = n at *
  have hne : ((nx : Int) == (n : Int)) = false := by simp; omega
  have hnx : (nx : Int) < 64 := by omega
  generalize ksL s nx = Q at *
  generalize sumL l = dl at *
  generalize hSN : sigN Q dl b = SN at *
  generalize hPN : pathD h (leavesL s b n) nx = PN at *
  generalize hLN : leavesL s b n = LN at *
  clear hK hT hB hF hs hn2 hSN hPN hLN
  go_enter Tryd.func23, Tryd.ntmps23
  go_wp2_with fail
  have B0 : Below w0.heap.size w0 w0.drew := (Below.refl w0.heap.size w0).drew
  have K0 := Lib.hid (HK0.out.below B0 (by omega))
  refine wp_region_noPanic ?_
  refine wp_region_held_drew (S := fun w' => Row w' g 32 (rkC s b h nx)) (by kernel_rfl) K0.out (fun hHeld => ?_)
  refine takeD (i := 0) (some 11) (.pointer (some ⟨g, 0, none⟩)) rfl rfl (by kernel_rfl) (by kernel_rfl) (by kernel_rfl) (fun _ _ _ h => h) (Or.inl ⟨by rfl, fun _ _ => rfl⟩) hHeld ?_
  simp only [Act.put, List.setIfInBounds_toArray, List.set_cons_zero, List.set_cons_succ]
  refine takeD (i := 1) (some 12) (.pointer (some ⟨g, 0, none⟩)) rfl rfl (by kernel_rfl) (by kernel_rfl) (by kernel_rfl) (fun _ _ _ h => h) (yields_nil (by rfl) (.tmp 11) rfl _ rfl) hHeld ?_
  simp only [Act.put, List.setIfInBounds_toArray, List.set_cons_zero, List.set_cons_succ]
  refine takeD (i := 2) (some 13) (.pointer (some ⟨g, 34, none⟩)) rfl rfl (by kernel_rfl) (by kernel_rfl) (by kernel_rfl) (fun _ _ _ h => h) (yields_fld32 (by rfl) (.tmp 12) 3 rfl (by decide) (g) rfl) hHeld ?_
  simp only [Act.put, List.setIfInBounds_toArray, List.set_cons_zero, List.set_cons_succ]
  refine takeD (i := 3) (some 14) (.int .i64 (nx : Int)) rfl rfl (by kernel_rfl) (by kernel_rfl) (by kernel_rfl) (fun _ _ _ h => h) (yields_cell (by rfl) 3 (.tmp 13) rfl (by decide) (g) (34) rfl _ (fun _ h => (h.cell 34).trans (rkC_34 HS.out))) hHeld ?_
  simp only [Act.put, List.setIfInBounds_toArray, List.set_cons_zero, List.set_cons_succ]
  refine takeD (i := 4) (some 15) (.pointer (some ⟨g, 0, none⟩)) rfl rfl (by kernel_rfl) (by kernel_rfl) (by kernel_rfl) (fun _ _ _ h => h) (Or.inl ⟨by rfl, fun _ _ => rfl⟩) hHeld ?_
  simp only [Act.put, List.setIfInBounds_toArray, List.set_cons_zero, List.set_cons_succ]
  refine takeD (i := 5) (some 16) (.pointer (some ⟨g, 0, none⟩)) rfl rfl (by kernel_rfl) (by kernel_rfl) (by kernel_rfl) (fun _ _ _ h => h) (yields_nil (by rfl) (.tmp 15) rfl _ rfl) hHeld ?_
  simp only [Act.put, List.setIfInBounds_toArray, List.set_cons_zero, List.set_cons_succ]
  refine takeD (i := 6) (some 17) (.pointer (some ⟨g, 33, none⟩)) rfl rfl (by kernel_rfl) (by kernel_rfl) (by kernel_rfl) (fun _ _ _ h => h) (yields_fld32 (by rfl) (.tmp 16) 2 rfl (by decide) (g) rfl) hHeld ?_
  simp only [Act.put, List.setIfInBounds_toArray, List.set_cons_zero, List.set_cons_succ]
  refine takeD (i := 7) (some 18) (.int .i64 (h : Int)) rfl rfl (by kernel_rfl) (by kernel_rfl) (by kernel_rfl) (fun _ _ _ h => h) (yields_cell (by rfl) 3 (.tmp 17) rfl (by decide) (g) (33) rfl _ (fun _ h => (h.cell 33).trans (rkC_33 HS.out))) hHeld ?_
  simp only [Act.put, List.setIfInBounds_toArray, List.set_cons_zero, List.set_cons_succ]
  refine takeD (i := 8) (some 19) (.int .i64 (n : Int)) rfl rfl (by kernel_rfl) (by kernel_rfl) (by kernel_rfl) (fun _ _ _ h => h) (yields_shl (by rfl) (.tmp 18) rfl h n hsp hp6 h3 rfl) hHeld ?_
  simp only [Act.put, List.setIfInBounds_toArray, List.set_cons_zero, List.set_cons_succ]
  refine takeD (i := 9) (some 20) (.bool false) rfl rfl (by kernel_rfl) (by kernel_rfl) (by kernel_rfl) (fun _ _ _ h => h) (yields_eqN (by rfl) _ _ rfl _ _ false rfl rfl hne) hHeld ?_
  simp only [Act.put, List.setIfInBounds_toArray, List.set_cons_zero, List.set_cons_succ]
  (try simp only [Act.put, List.setIfInBounds_toArray])
  refine wpAnyH_done (by kernel_rfl) ?_ _
  refine NoPanic.normal ?_
  obtain ⟨w1, hw1⟩ : ∃ w1, w0.drew = w1 := ⟨_, rfl⟩
  rw [hw1] at B0 ⊢
  have bw1 := hb0.trans (B0.mono (by omega))
  have hs1 := B0.size
  have HK1 := Lib.hid (HK0.out.below B0 (by omega))
  have HZ1 := Lib.hid (HZ0.out.below B0 (by omega))
  have k34 : w1.cell? ⟨g, 34, none⟩ = some (.int .i64 (nx : Int)) := (HK1.out.cell 34).trans (rkC_34 HS.out)
  clear hw1
  go_wp2_with (first
    | (with_reducible refine wpList_buildS1 rfl (.tmp 25) rfl (nx : Int) rfl ?_)
    | (with_reducible refine wpList_store_row Tryd.aggSig rfl (.tmp 6) (.tmp 26) rfl _ (sigC (nx : Int) none 0 0 none 0 0) rfl rfl 44 sig0 (Row.new w1 44 sig0) (sigC_size _ _ _ _ _ _ _) (sigC_size _ _ _ _ _ _ _) (sigC_one _ _ _ _ _ _ _) ?_; intro w2 hr2 ho2; have HR2 := Lib.hid hr2; have b2 : Below w1.heap.size w1 w2 := ((Below.refl _ _).alloc (Nat.le_refl _) _).trans (ho2.below (Nat.le_refl _) (by simp)); have hs2 := ho2.size; simp at hs2; clear hr2))
  obtain ⟨gs, hgs⟩ : ∃ gs, gs = w1.heap.size := ⟨_, rfl⟩
  rw [← hgs] at HR2 ⊢
  have hgsl := HR2.out.lt
  have hgsg : g ≠ gs := by omega
  have hgsz : w.heap.size ≠ gs := by omega
  have HK2 := Lib.hid (HK1.out.below b2 (by omega))
  have HB2 := Lib.hid ((HB0.out.below B0).below b2)
  have HF2 := Lib.hid ((HF0.out.below B0).below b2)
  have HT2 := Lib.hid ((HT0.out.below B0).below b2)
  have HZ2 := Lib.hid (HZ1.out.below b2 (by omega))
  have bw2 := bw1.trans (b2.mono (by omega))
  have h2gs : 2 < gs := by omega
  have hwgs : w.heap.size < gs := by omega
  clear hgs k34
  have C0 : Below w2.heap.size w2 w2.drew := (Below.refl w2.heap.size w2).drew
  have J0 := Lib.hid (HK2.out.below C0 (by omega))
  refine wp_region_noPanic ?_
  refine wp_region_held_drew (S := fun w' => Row w' g 32 (rkC s b h nx)) (by kernel_rfl) J0.out (fun hHeld => ?_)
  refine takeD (i := 0) (some 28) (.pointer (some ⟨g, 0, none⟩)) rfl rfl (by kernel_rfl) (by kernel_rfl) (by kernel_rfl) (fun _ _ _ h => h) (Or.inl ⟨by rfl, fun _ _ => rfl⟩) hHeld ?_
  simp only [Act.put, List.setIfInBounds_toArray, List.set_cons_zero, List.set_cons_succ]
  refine takeD (i := 1) (some 29) (.pointer (some ⟨g, 0, none⟩)) rfl rfl (by kernel_rfl) (by kernel_rfl) (by kernel_rfl) (fun _ _ _ h => h) (yields_nil (by rfl) (.tmp 28) rfl _ rfl) hHeld ?_
  simp only [Act.put, List.setIfInBounds_toArray, List.set_cons_zero, List.set_cons_succ]
  refine takeD (i := 2) (some 30) (.pointer (some ⟨g, 0, none⟩)) rfl rfl (by kernel_rfl) (by kernel_rfl) (by kernel_rfl) (fun _ _ _ h => h) (yields_fld32 (by rfl) (.tmp 29) 0 rfl (by decide) (g) rfl) hHeld ?_
  simp only [Act.put, List.setIfInBounds_toArray, List.set_cons_zero, List.set_cons_succ]
  refine takeD (i := 3) (some 31) (.agg (bcells s)) rfl rfl (by kernel_rfl) (by kernel_rfl) (by kernel_rfl) (fun _ _ _ h => h) (yields_loadW (by rfl) (.tmp 30) rfl (g) (0) s rfl (fun _ h => rk_range h) HS.out) hHeld ?_
  simp only [Act.put, List.setIfInBounds_toArray, List.set_cons_zero, List.set_cons_succ]
  refine takeD (i := 4) (some 32) (.pointer (some ⟨g, 0, none⟩)) rfl rfl (by kernel_rfl) (by kernel_rfl) (by kernel_rfl) (fun _ _ _ h => h) (Or.inl ⟨by rfl, fun _ _ => rfl⟩) hHeld ?_
  simp only [Act.put, List.setIfInBounds_toArray, List.set_cons_zero, List.set_cons_succ]
  refine takeD (i := 5) (some 33) (.pointer (some ⟨g, 0, none⟩)) rfl rfl (by kernel_rfl) (by kernel_rfl) (by kernel_rfl) (fun _ _ _ h => h) (yields_nil (by rfl) (.tmp 32) rfl _ rfl) hHeld ?_
  simp only [Act.put, List.setIfInBounds_toArray, List.set_cons_zero, List.set_cons_succ]
  refine takeD (i := 6) (some 34) (.pointer (some ⟨g, 34, none⟩)) rfl rfl (by kernel_rfl) (by kernel_rfl) (by kernel_rfl) (fun _ _ _ h => h) (yields_fld32 (by rfl) (.tmp 33) 3 rfl (by decide) (g) rfl) hHeld ?_
  simp only [Act.put, List.setIfInBounds_toArray, List.set_cons_zero, List.set_cons_succ]
  refine takeD (i := 7) (some 35) (.int .i64 (nx : Int)) rfl rfl (by kernel_rfl) (by kernel_rfl) (by kernel_rfl) (fun _ _ _ h => h) (yields_cell (by rfl) 3 (.tmp 34) rfl (by decide) (g) (34) rfl _ (fun _ h => (h.cell 34).trans (rkC_34 HS.out))) hHeld ?_
  simp only [Act.put, List.setIfInBounds_toArray, List.set_cons_zero, List.set_cons_succ]
  refine takeD (i := 9) (some 37) (.pointer (some ⟨g, 0, none⟩)) rfl rfl (by kernel_rfl) (by kernel_rfl) (by kernel_rfl) (fun _ _ _ h => h) (Or.inl ⟨by rfl, fun _ _ => rfl⟩) hHeld ?_
  simp only [Act.put, List.setIfInBounds_toArray, List.set_cons_zero, List.set_cons_succ]
  refine takeD (i := 10) (some 38) (.pointer (some ⟨g, 0, none⟩)) rfl rfl (by kernel_rfl) (by kernel_rfl) (by kernel_rfl) (fun _ _ _ h => h) (yields_nil (by rfl) (.tmp 37) rfl _ rfl) hHeld ?_
  simp only [Act.put, List.setIfInBounds_toArray, List.set_cons_zero, List.set_cons_succ]
  refine takeD (i := 11) (some 39) (.pointer (some ⟨g, 32, none⟩)) rfl rfl (by kernel_rfl) (by kernel_rfl) (by kernel_rfl) (fun _ _ _ h => h) (yields_fld32 (by rfl) (.tmp 38) 1 rfl (by decide) (g) rfl) hHeld ?_
  simp only [Act.put, List.setIfInBounds_toArray, List.set_cons_zero, List.set_cons_succ]
  refine takeD (i := 12) (some 40) (.int .i64 (b : Int)) rfl rfl (by kernel_rfl) (by kernel_rfl) (by kernel_rfl) (fun _ _ _ h => h) (yields_cell (by rfl) 3 (.tmp 39) rfl (by decide) (g) (32) rfl _ (fun _ h => (h.cell 32).trans (rkC_32 HS.out))) hHeld ?_
  simp only [Act.put, List.setIfInBounds_toArray, List.set_cons_zero, List.set_cons_succ]
  refine takeD (i := 13) (some 41) (.slice A nt ct) rfl rfl (by kernel_rfl) (by kernel_rfl) (by kernel_rfl) (fun _ _ _ h => h) (Or.inl ⟨by rfl, fun _ _ => rfl⟩) hHeld ?_
  simp only [Act.put, List.setIfInBounds_toArray, List.set_cons_zero, List.set_cons_succ]
  refine wpAnyH_ready (rs := [8]) (by kernel_rfl) (by decide) ?_
  refine AllReadyH.cons rfl (fun K' hK => ?_) AllReadyH.nil
  go_simp
  refine (HSd.out w2.drew (HF2.out.below C0) (HT2.out.below C0)).mono ?_
  rintro e3 w3 ⟨rfl, hb3⟩
  have C3 : Below w2.heap.size w2 w3 := C0.trans (hb3.mono C0.size)
  refine hK.out _ _ (HK2.out.below C3 (by omega)) (fun hHeld1 => ?_)
  clear hK
  (try simp only [Act.put, List.setIfInBounds_toArray, List.set_cons_zero, List.set_cons_succ])
  refine wpAnyH_ready (rs := [14]) (by kernel_rfl) (by decide) ?_
  refine AllReadyH.cons rfl (fun K' hK => ?_) AllReadyH.nil
  go_simp
  refine (HG.out w3 (HB2.out.below C3) (HF2.out.below C3) (HT2.out.below C3)).mono ?_
  rintro e4 w4 ⟨A4, c4, rfl, hc4, hd4, hb4⟩
  have HD4 := Lib.hid hd4
  have C4 : Below w2.heap.size w2 w4 := C3.trans (hb4.mono C3.size)
  clear hd4
  refine hK.out _ _ (HK2.out.below C4 (by omega)) (fun hHeld2 => ?_)
  clear hK
  (try simp only [Act.put, List.setIfInBounds_toArray, List.set_cons_zero, List.set_cons_succ])
  refine takeD (i := 15) (some 27) (.tuple #[.slice A4 SN.length c4, .int .i64 0]) rfl rfl (by kernel_rfl) (by kernel_rfl) (by kernel_rfl) (fun _ _ _ h => h) (Or.inl ⟨by rfl, fun _ _ => rfl⟩) hHeld2 ?_
  simp only [Act.put, List.setIfInBounds_toArray, List.set_cons_zero, List.set_cons_succ]
  refine takeD (i := 16) (some 43) (.slice A4 SN.length c4) rfl rfl (by kernel_rfl) (by kernel_rfl) (by kernel_rfl) (fun _ _ _ h => h) (Or.inl ⟨by rfl, fun _ _ => rfl⟩) hHeld2 ?_
  simp only [Act.put, List.setIfInBounds_toArray, List.set_cons_zero, List.set_cons_succ]
  refine takeD (i := 17) (some 44) (.int .i64 0) rfl rfl (by kernel_rfl) (by kernel_rfl) (by kernel_rfl) (fun _ _ _ h => h) (Or.inl ⟨by rfl, fun _ _ => rfl⟩) hHeld2 ?_
  simp only [Act.put, List.setIfInBounds_toArray, List.set_cons_zero, List.set_cons_succ]
  refine takeD (i := 18) (some 7) (.slice A4 SN.length c4) rfl rfl (by kernel_rfl) (by kernel_rfl) (by kernel_rfl) (fun _ _ _ h => h) (Or.inl ⟨by rfl, fun _ _ => rfl⟩) hHeld2 ?_
  simp only [Act.put, List.setIfInBounds_toArray, List.set_cons_zero, List.set_cons_succ]
  refine takeD (i := 19) (some 8) (.int .i64 0) rfl rfl (by kernel_rfl) (by kernel_rfl) (by kernel_rfl) (fun _ _ _ h => h) (Or.inl ⟨by rfl, fun _ _ => rfl⟩) hHeld2 ?_
  simp only [Act.put, List.setIfInBounds_toArray, List.set_cons_zero, List.set_cons_succ]
  (try simp only [Act.put, List.setIfInBounds_toArray])
  refine wpAnyH_done (by kernel_rfl) ?_ _
  refine NoPanic.normal ?_
  have hs4 := C4.size
  have HR4 := Lib.hid (HR2.out.below C4 hgsl)
  have f1 := HR4.out.frozen 1
  have q1 : w4.cell? ⟨gs, 1, none⟩ = some (.slice none 0 0) := HR4.out.cell 1
  go_wp2_with fail
  obtain ⟨w5, hw5⟩ : ∃ w5, w4.setCell ⟨gs, 1, none⟩ (.slice A4 SN.length c4) = w5 := ⟨_, rfl⟩
  rw [hw5]
  have ho5 : Only gs w4 w5 := by rw [← hw5]; exact Only.setCell _ _ _ _
  have HR5 : Hid (Row w5 gs 44 (sigC (nx : Int) A4 SN.length c4 none 0 0)) := Lib.hid (by rw [← hw5]; exact row3_set1 HR4.out _)
  have kp5 : Keeps w4 w5 := Keeps.only HR4.out (sigC_none _ _ _ _ _ _ _) ho5
  have hs5 := ho5.size
  have HK5 := Lib.hid ((HK2.out.below C4 (by omega)).only ho5 hgsg)
  have HZ5 := Lib.hid ((HZ2.out.below C4 (by omega)).only ho5 hgsz)
  have HF5 : Hid (First w5) := Lib.hid ⟨by omega, fun t ht => (World.cell?_of_block (w := w4) (a := ⟨0, t, none⟩) (ho5.block 0 (by omega) (by omega))).trans ((HF2.out.below C4).2 t ht)⟩
  have HT5 := Lib.hid ((HT2.out.below C4).only ho5 (by omega))
  have HD5 := Lib.hid (HD4.out.keeps kp5)
  have bw5 := (bw2.trans (C4.mono (by omega))).trans (ho5.below (B := w.heap.size) (by omega) (by omega))
  have kw5 : Keeps w w5 := (Keeps.of_below (bw2.trans (C4.mono (by omega)))).trans kp5
  clear hw5 q1 f1
  have E0 : Below w5.heap.size w5 w5.drew := (Below.refl w5.heap.size w5).drew
  have L0 := Lib.hid (HK5.out.below E0 (by omega))
  refine wp_region_noPanic ?_
  refine wp_region_held_drew (S := fun w' => Row w' g 32 (rkC s b h nx)) (by kernel_rfl) L0.out (fun hHeld => ?_)
  refine takeD (i := 0) (some 48) (.pointer (some ⟨g, 0, none⟩)) rfl rfl (by kernel_rfl) (by kernel_rfl) (by kernel_rfl) (fun _ _ _ h => h) (Or.inl ⟨by rfl, fun _ _ => rfl⟩) hHeld ?_
  simp only [Act.put, List.setIfInBounds_toArray, List.set_cons_zero, List.set_cons_succ]
  refine takeD (i := 2) (some 50) (.pointer (some ⟨g, 0, none⟩)) rfl rfl (by kernel_rfl) (by kernel_rfl) (by kernel_rfl) (fun _ _ _ h => h) (Or.inl ⟨by rfl, fun _ _ => rfl⟩) hHeld ?_
  simp only [Act.put, List.setIfInBounds_toArray, List.set_cons_zero, List.set_cons_succ]
  refine takeD (i := 3) (some 51) (.pointer (some ⟨g, 0, none⟩)) rfl rfl (by kernel_rfl) (by kernel_rfl) (by kernel_rfl) (fun _ _ _ h => h) (yields_nil (by rfl) (.tmp 50) rfl _ rfl) hHeld ?_
  simp only [Act.put, List.setIfInBounds_toArray, List.set_cons_zero, List.set_cons_succ]
  refine takeD (i := 4) (some 52) (.pointer (some ⟨g, 34, none⟩)) rfl rfl (by kernel_rfl) (by kernel_rfl) (by kernel_rfl) (fun _ _ _ h => h) (yields_fld32 (by rfl) (.tmp 51) 3 rfl (by decide) (g) rfl) hHeld ?_
  simp only [Act.put, List.setIfInBounds_toArray, List.set_cons_zero, List.set_cons_succ]
  refine takeD (i := 5) (some 53) (.int .i64 (nx : Int)) rfl rfl (by kernel_rfl) (by kernel_rfl) (by kernel_rfl) (fun _ _ _ h => h) (yields_cell (by rfl) 3 (.tmp 52) rfl (by decide) (g) (34) rfl _ (fun _ h => (h.cell 34).trans (rkC_34 HS.out))) hHeld ?_
  simp only [Act.put, List.setIfInBounds_toArray, List.set_cons_zero, List.set_cons_succ]
  refine wpAnyH_ready (rs := [1]) (by kernel_rfl) (by decide) ?_
  refine AllReadyH.cons rfl (fun K' hK => ?_) AllReadyH.nil
  go_simp
  refine (HLv.out w5.drew (HK5.out.below E0 (by omega)) (HF5.out.below E0) (HT5.out.below E0)).mono ?_
  rintro e6 w6 ⟨A6, c6, rfl, hc6, hd6, hb6⟩
  have HD6 := Lib.hid hd6
  have E6 : Below w5.heap.size w5 w6 := E0.trans (hb6.mono E0.size)
  clear hd6
  refine hK.out _ _ (HK5.out.below E6 (by omega)) (fun hHeld1 => ?_)
  clear hK
  (try simp only [Act.put, List.setIfInBounds_toArray, List.set_cons_zero, List.set_cons_succ])
  refine wpAnyH_ready (rs := [6]) (by kernel_rfl) (by decide) ?_
  refine AllReadyH.cons rfl (fun K' hK => ?_) AllReadyH.nil
  go_simp
  refine (HP.out A6 c6 w6 hc6 HD6.out (HF5.out.below E6) (HT5.out.below E6)).mono ?_
  rintro e7 w7 ⟨A7, c7, rfl, hc7, hd7, hb7⟩
  have HD7 := Lib.hid hd7
  have E7 : Below w5.heap.size w5 w7 := E6.trans (hb7.mono E6.size)
  clear hd7
  refine hK.out _ _ (HK5.out.below E7 (by omega)) (fun hHeld2 => ?_)
  clear hK
  (try simp only [Act.put, List.setIfInBounds_toArray, List.set_cons_zero, List.set_cons_succ])
  refine takeD (i := 7) (some 47) (.tuple #[.slice A7 PN.length c7, .int .i64 0]) rfl rfl (by kernel_rfl) (by kernel_rfl) (by kernel_rfl) (fun _ _ _ h => h) (Or.inl ⟨by rfl, fun _ _ => rfl⟩) hHeld2 ?_
  simp only [Act.put, List.setIfInBounds_toArray, List.set_cons_zero, List.set_cons_succ]
  refine takeD (i := 8) (some 55) (.slice A7 PN.length c7) rfl rfl (by kernel_rfl) (by kernel_rfl) (by kernel_rfl) (fun _ _ _ h => h) (Or.inl ⟨by rfl, fun _ _ => rfl⟩) hHeld2 ?_
  simp only [Act.put, List.setIfInBounds_toArray, List.set_cons_zero, List.set_cons_succ]
  refine takeD (i := 9) (some 56) (.int .i64 0) rfl rfl (by kernel_rfl) (by kernel_rfl) (by kernel_rfl) (fun _ _ _ h => h) (Or.inl ⟨by rfl, fun _ _ => rfl⟩) hHeld2 ?_
  simp only [Act.put, List.setIfInBounds_toArray, List.set_cons_zero, List.set_cons_succ]
  refine takeD (i := 10) (some 9) (.slice A7 PN.length c7) rfl rfl (by kernel_rfl) (by kernel_rfl) (by kernel_rfl) (fun _ _ _ h => h) (Or.inl ⟨by rfl, fun _ _ => rfl⟩) hHeld2 ?_
  simp only [Act.put, List.setIfInBounds_toArray, List.set_cons_zero, List.set_cons_succ]
  refine takeD (i := 11) (some 10) (.int .i64 0) rfl rfl (by kernel_rfl) (by kernel_rfl) (by kernel_rfl) (fun _ _ _ h => h) (Or.inl ⟨by rfl, fun _ _ => rfl⟩) hHeld2 ?_
  simp only [Act.put, List.setIfInBounds_toArray, List.set_cons_zero, List.set_cons_succ]
  (try simp only [Act.put, List.setIfInBounds_toArray])
  refine wpAnyH_done (by kernel_rfl) ?_ _
  refine NoPanic.normal ?_
  have hs7 := E7.size
  have HR7 := Lib.hid (HR5.out.below E7 (by omega))
  have HK7 := Lib.hid (HK5.out.below E7 (by omega))
  have HZ7 := Lib.hid (HZ5.out.below E7 (by omega))
  have f2 := HR7.out.frozen 2
  have q2 : w7.cell? ⟨gs, 2, none⟩ = some (.slice none 0 0) := HR7.out.cell 2
  have ho8 : Only gs w7 (w7.setCell ⟨gs, 2, none⟩ (.slice A7 PN.length c7)) := Only.setCell _ _ _ _
  have HR8 : Hid (Row (w7.setCell ⟨gs, 2, none⟩ (.slice A7 PN.length c7)) gs 44 (sigC (nx : Int) A4 SN.length c4 A7 PN.length c7)) := Lib.hid (row3_set2 HR7.out _)
  have kp8 : Keeps w7 (w7.setCell ⟨gs, 2, none⟩ (.slice A7 PN.length c7)) := Keeps.only HR7.out (sigC_none _ _ _ _ _ _ _) ho8
  obtain ⟨w8, hw8⟩ : ∃ w8, w7.setCell ⟨gs, 2, none⟩ (.slice A7 PN.length c7) = w8 := ⟨_, rfl⟩
  rw [hw8] at ho8 HR8 kp8
  have hs8 := ho8.size
  have HK8 := Lib.hid (HK7.out.only ho8 hgsg)
  have HZ8 := Lib.hid (HZ7.out.only ho8 hgsz)
  have g34 : w8.cell? ⟨g, 34, none⟩ = some (.int .i64 (nx : Int)) := (HK8.out.cell 34).trans (rkC_34 HS.out)
  have f34 := HK8.out.frozen 34
  have hwr : wrap64 ((nx : Int) + 1) = (nx : Int) + 1 := by unfold wrap64; omega
  have ho9 : Only g w8 (w8.setCell ⟨g, 34, none⟩ (.int .i64 ((nx : Int) + 1))) := Only.setCell _ _ _ _
  have HK9 : Hid (Row (w8.setCell ⟨g, 34, none⟩ (.int .i64 ((nx : Int) + 1))) g 32 (rkC s b h (nx + 1))) := Lib.hid (by
    have r := HK8.out.set 34 (.int .i64 ((nx + 1 : Nat) : Int))
    rw [rkC_set _ HS.out] at r
    exact r)
  have kp9 : Keeps w8 (w8.setCell ⟨g, 34, none⟩ (.int .i64 ((nx : Int) + 1))) := Keeps.setCell _ g34
  obtain ⟨w9, hw9⟩ : ∃ w9, w8.setCell ⟨g, 34, none⟩ (.int .i64 ((nx : Int) + 1)) = w9 := ⟨_, rfl⟩
  rw [hw9] at ho9 HK9 kp9
  have hs9 := ho9.size
  have HZ9 := Lib.hid (HZ8.out.only ho9 (by omega))
  have HR9 := Lib.hid (HR8.out.only ho9 hgsg.symm)
  have bw8 : Below w.heap.size w w8 := (bw5.trans (E7.mono (by omega))).trans (ho8.below (B := w.heap.size) (by omega) (by omega))
  have o9 : Only g w w9 := (Only.of_below bw8).trans ho9
  have kw9 : Keeps w w9 := ((kw5.trans (Keeps.of_below E7)).trans kp8).trans kp9
  have HD9 := Lib.hid (((HD5.out.below E7).keeps kp8).keeps kp9)
  have HP9 := Lib.hid ((HD7.out.keeps kp8).keeps kp9)
  go_wp2_with (first
    | (with_reducible refine wpList_load_row Tryd.aggSig rfl (.tmp 6) rfl _ rfl 44 _ HR9.out (sigC_size _ _ _ _ _ _ _) ?_)
    | (with_reducible refine wpList_store_row Tryd.aggSig rfl (.tmp 4) (.tmp 66) rfl _ (sigC (nx : Int) A4 SN.length c4 A7 PN.length c7) rfl rfl 44 sig0 HZ9.out (sigC_size _ _ _ _ _ _ _) (sigC_size _ _ _ _ _ _ _) (sigC_one _ _ _ _ _ _ _) ?_; intro wA hrA hoA; have HRA := Lib.hid hrA; clear hrA))
  have kA : Keeps w9 wA := Keeps.only HZ9.out sig0_none hoA
  have oA : Only g w wA := o9.thenB (hoA.below (Nat.le_refl _) (by omega))
  exact bodyPost_ret (results_row2 Tryd.aggSig Tryd.results23 rfl rfl HRA.out (sigC_size _ _ _ _ _ _ _)) rfl ⟨A4, _, c4, A7, _, c7, rfl, HD9.out.keeps kA, HP9.out.keeps kA, HK9.out.only hoA (by omega), oA, kw9.trans kA⟩
end Go.Proofs.YtfelmdndjdaniaaDoor
