/-
  What Next, Left, Skip, Public and Sign of a key answer, and of a nil one.
-/
import Derived.Test.YtfelmdndjdaniaaDoorKeyA
namespace Go.Proofs.YtfelmdndjdaniaaDoor
open Go.RowKit
/-- what reads as bytes reads so behind it -/
def Keeps (w w' : World) : Prop := ∀ A n l, Bs w A n l → Bs w' A n l
theorem Keeps.refl (w : World) : Keeps w w := fun _ _ _ h => h
theorem Keeps.trans {a b c : World} (h : Keeps a b) (k : Keeps b c) : Keeps a c := fun A n l q => k A n l (h A n l q)
theorem Keeps.of_below {w w' : World} (h : Below w.heap.size w w') : Keeps w w' := fun _ _ _ q => q.below h
theorem Ds.keeps {w w' : World} {A : Option Addr} {n : Nat} {L : List (List UInt8)} (h : Ds w A n L) (k : Keeps w w') : Ds w' A n L := ⟨h.1, h.2.1, k _ _ _ h.2.2⟩
theorem Keeps.setCell {w : World} {g o : Nat} {x : Int} (u : Value) (hc : w.cell? ⟨g, o, none⟩ = some (.int .i64 x)) : Keeps w (w.setCell ⟨g, o, none⟩ u) := fun A n l q =>
  ⟨q.1, fun k x hx => by
    obtain ⟨b, off, hA, hb, hc'⟩ := q.2 k x hx
    refine ⟨b, off, hA, by simpa [World.setCell] using hb, ?_⟩
    rw [World.cell?_setCell_other]
    · exact hc'
    · intro e
      rw [e, hc'] at hc
      simp at hc⟩
theorem Tryd.aggSig : AggType Tryd.prog 44 3 := ⟨_, Tryd.underlying44, rfl, by kernel_rfl⟩
abbrev sigC (i : Int) (A : Option Addr) (n c : Nat) (B : Option Addr) (m d : Nat) : Array Value := #[.int .i64 i, .slice A n c, .slice B m d]
theorem sigC_size (i : Int) (A : Option Addr) (n c : Nat) (B : Option Addr) (m d : Nat) : (sigC i A n c B m d).size = 3 := rfl
theorem sigC_one (i : Int) (A : Option Addr) (n c : Nat) (B : Option Addr) (m d : Nat) : (sigC i A n c B m d).all (·.oneCell') = true := by simp [sigC, Value.oneCell']
theorem sig0_none (i : Nat) (x : Int) : (sigC 0 none 0 0 none 0 0)[i]? ≠ some (Value.int .u8 x) := by
  rcases i with _ | _ | _ | i <;> simp [sigC]
theorem Keeps.only {w w' : World} {g : Nat} {t : TypeId} {cs : Array Value} (hr : Row w g t cs) (hc : ∀ (i : Nat) (x : Int), cs[i]? ≠ some (Value.int .u8 x)) (ho : Only g w w') : Keeps w w' := fun A n l q =>
  ⟨q.1, fun k x hx => by
    obtain ⟨b, off, hA, hb, hc'⟩ := q.2 k x hx
    by_cases e : b = g
    · subst e; rw [hr.cell] at hc'; exact absurd hc' (hc _ _)
    · refine ⟨b, off, hA, Nat.lt_of_lt_of_le hb ho.size, ?_⟩
      have hh := ho.block b hb e
      rw [← hc']; simp only [World.cell?, hh]⟩
theorem Only.thenB {g : Nat} {a b c : World} (h : Only g a b) (k : Below a.heap.size b c) : Only g a c :=
  ⟨k.os.trans h.os, k.tape.trans h.tape, k.output.trans h.output, Nat.le_trans h.size k.size, fun i hi hg => (k.block i hi).trans (h.block i hi hg)⟩
set_option maxHeartbeats 400000 in
theorem kNext_any (T g b h nx : Nat) (s : List UInt8) (w : World) (hK : KeyAt w T g s b h nx) :
    Calls Tryd.prog 17 #[.pointer (some ⟨g, 0, none⟩)] w fun e w' => e = .returned (.int .i64 (nx : Int)) ∧ w = w' := by
  obtain ⟨sd, lv, hr, -⟩ := hK
  have h3 : w.cell? ⟨g, 3, none⟩ = some (.int .i64 (nx : Int)) := hr.cell 3
  clear hr
  go_enter Tryd.func17, Tryd.ntmps17
  go_wp2
  go_ret
  exact ⟨rfl, rfl⟩
set_option maxHeartbeats 400000 in
theorem kNext_nil (w : World) : Calls Tryd.prog 17 #[.pointer none] w fun e w' => e = .returned (.int .i64 0) ∧ w = w' := by
  go_enter Tryd.func17, Tryd.ntmps17
  go_wp2
  go_ret
  exact ⟨rfl, rfl⟩
set_option maxHeartbeats 400000 in
theorem kLeft_any (T g b h nx : Nat) (s : List UInt8) (w : World) (h3 : h ≤ 6) (hn : nx ≤ 2 ^ h) (hK : KeyAt w T g s b h nx) :
    Calls Tryd.prog 18 #[.pointer (some ⟨g, 0, none⟩)] w fun e w' => e = .returned (.int .i64 (((2 ^ h : Nat) : Int) - (nx : Int))) ∧ Below w.heap.size w w' := by
  obtain ⟨sd, lv, hr, -⟩ := hK
  have hp6 := pow_le6 h3
  generalize 2 ^ h = n at *
  have k3 : w.cell? ⟨g, 3, none⟩ = some (.int .i64 (nx : Int)) := hr.cell 3
  have k2 : w.cell? ⟨g, 2, none⟩ = some (.slice (some ⟨lv, 0, none⟩) n n) := hr.cell 2
  have hwr : wrap64 ((n : Int) - (nx : Int)) = (n : Int) - (nx : Int) := by unfold wrap64; omega
  clear hr
  go_enter Tryd.func18, Tryd.ntmps18
  go_wp2_with fail
  go_quiet (fail)
  go_wp2
  go_ret
  exact ⟨rfl, below_drewN (Below.refl _ _) _⟩
set_option maxHeartbeats 400000 in
theorem kLeft_nil (w : World) : Calls Tryd.prog 18 #[.pointer none] w fun e w' => e = .returned (.int .i64 0) ∧ w = w' := by
  go_enter Tryd.func18, Tryd.ntmps18
  go_wp2
  go_ret
  exact ⟨rfl, rfl⟩
def skB (nx n : Nat) (to : Int) : Bool := decide (to < (nx : Int)) || decide ((n : Int) < to)
def skE (nx n : Nat) (to : Int) : Int := if skB nx n to then 1 else 0
def skN (nx n : Nat) (to : Int) : Nat := if skB nx n to then nx else to.toNat
theorem skN_le {nx n : Nat} (to : Int) (h : nx ≤ n) : nx ≤ skN nx n to ∧ skN nx n to ≤ n := by
  unfold skN skB
  split
  · omega
  · rename_i q
    simp at q
    omega
def SkipK (w : World) (T g : Nat) (s : List UInt8) (b h nx : Nat) (to : Int) (e : Ending) (w' : World) : Prop :=
  e = .returned (.int .i64 (skE nx (2 ^ h) to)) ∧ KeyAt w' T g s b h (skN nx (2 ^ h) to) ∧ Only g w w' ∧ Keeps w w'
theorem row4_set3 {w : World} {g : Nat} {t : TypeId} {a b c d : Value} (h : Row w g t #[a, b, c, d]) (u : Value) : Row (w.setCell ⟨g, 3, none⟩ u) g t #[a, b, c, u] := h.set 3 u
set_option maxHeartbeats 1000000 in
theorem kSkip_any (T g b h nx : Nat) (to : Int) (s : List UInt8) (w : World) (hK : KeyAt w T g s b h nx) :
    Calls Tryd.prog 19 #[.pointer (some ⟨g, 0, none⟩), .int .i64 to] w (SkipK w T g s b h nx to) := by
  have HK := Lib.hid hK
  unfold SkipK skE skN
  obtain ⟨sd, lv, hr, r2, r3, h4, h5, h6, h7, h8⟩ := hK
  generalize hn : 2 ^ h = n at *
  have HR := Lib.hid hr
  have HR2 := Lib.hid r2
  have HR3 := Lib.hid r3
  have k3 : w.cell? ⟨g, 3, none⟩ = some (.int .i64 (nx : Int)) := hr.cell 3
  have k2 : w.cell? ⟨g, 2, none⟩ = some (.slice (some ⟨lv, 0, none⟩) n n) := hr.cell 2
  have f3 := hr.frozen 3
  have HN := Lib.hid hn
  clear hr r2 r3 hn
  by_cases q1 : to < (nx : Int)
  · rw [show skB nx n to = true by simp [skB, q1]]
    go_enter Tryd.func19, Tryd.ntmps19
    go_wp2
    go_ret
    exact ⟨rfl, HK.out, Only.refl _ _, Keeps.refl _⟩
  · by_cases q2 : (n : Int) < to
    · rw [show skB nx n to = true by simp [skB, q2]]
      go_enter Tryd.func19, Tryd.ntmps19
      go_wp2
      go_ret
      exact ⟨rfl, HK.out, Only.refl _ _, Keeps.refl _⟩
    · rw [show skB nx n to = false by simp [skB, q1, q2]]
      have HT := Lib.hid (show ((to.toNat : Nat) : Int) = to by omega)
      go_enter Tryd.func19, Tryd.ntmps19
      go_wp2
      go_ret
      refine ⟨rfl, ⟨sd, lv, ?_, HR2.out.far h4 _, ?_, h4, h5, h6, h7, h8⟩, Only.setCell _ _ _ _, Keeps.setCell _ k3⟩
      · rw [HN.out]
        have r := row4_set3 HR.out (.int .i64 to)
        simp only [HT.out]
        exact r
      · rw [HN.out]
        exact HR3.out.far h5 _
set_option maxHeartbeats 400000 in
theorem kSkip_nil (to : Int) (w : World) : Calls Tryd.prog 19 #[.pointer none, .int .i64 to] w fun e w' => e = .returned (.int .i64 2) ∧ w = w' := by
  go_enter Tryd.func19, Tryd.ntmps19
  go_wp2
  go_ret
  exact ⟨rfl, rfl⟩
def pubK (s : List UInt8) (b h : Nat) : List UInt8 := rootD h (leavesL s b (2 ^ h))
theorem pubK_length (s : List UInt8) (b h : Nat) : (pubK s b h).length = 32 := rootD_length h _ (leavesL_digs _ _ _) (leavesL_length _ _ _)
set_option maxRecDepth 100000 in
set_option maxHeartbeats 1000000 in
theorem kPublic_any (T g b h nx : Nat) (s : List UInt8) (w : World) (h3 : h ≤ 6) (hK : KeyAt w T g s b h nx) (hT : Tab 1 w) :
    Calls Tryd.prog 15 #[.pointer (some ⟨g, 0, none⟩)] w fun e w' => e = .returned (.agg (bcells (pubK s b h))) ∧ Below w.heap.size w w' := by
  obtain ⟨sd, lv, hr, -, r3, -⟩ := hK
  have hb0 := (Below.refl w.heap.size w).alloc (Nat.le_refl _) (.cells lit32 23)
  have HT0 := Lib.hid (hT.below hb0)
  have HC := Lib.hid (fun w hT hD => show Calls Tryd.prog 38 #[.slice (some ⟨lv, 0, none⟩) (2 ^ h) (2 ^ h)] w (RecD w (pubK s b h) 0) from Root_ok h (some ⟨lv, 0, none⟩) (2 ^ h) (2 ^ h) (leavesL s b (2 ^ h)) w (by omega) rfl hD hT)
  have HD := Lib.hid ((leaves_ds r3).below hb0)
  have HS := Lib.hid (show (bcells (pubK s b h)).size = 32 by rw [bcells_size, pubK_length])
  have HZ := Lib.hid (Row.new w 23 lit32)
  have k2 : (w.alloc (.cells lit32 23)).cell? ⟨g, 2, none⟩ = some (.slice (some ⟨lv, 0, none⟩) (2 ^ h) (2 ^ h)) := (hr.alloc _).cell 2
  generalize pubK s b h = R at *
  generalize 2 ^ h = n at *
  clear hr r3 hT
  go_enter Tryd.func15, Tryd.ntmps15
  go_wp2_with (first
    | (go_at_call 38; refine (HC.out _ HT0.out HD.out).mono ?_; rintro e1 w1 ⟨rfl, hb1⟩; have hs1 := hb1.size; simp at hs1; have HZ1 := Lib.hid (HZ.out.below hb1 (by simp)); have hb1' := hb0.trans (hb1.mono (by simp)))
    | (with_reducible refine wpList_store_row Tryd.agg25 rfl (.tmp 3) (.tmp 14) rfl _ _ rfl rfl 23 lit32 (Row.new w1 23 lit32) HS.out lit32_size (bcells_one _) ?_; intro w2 hr2 ho2; have HR2 := Lib.hid hr2; have hs2 := ho2.size; simp at hs2; have HZ2 := Lib.hid ((HZ1.out.alloc _).only ho2 (by omega)); have hb2 := (hb1'.alloc hb1'.size (.cells lit32 23)).trans (ho2.below (B := w.heap.size) (by omega) (by simp; omega)); clear hr2)
    | (with_reducible refine wpList_load_row Tryd.agg25 rfl (.tmp 3) rfl _ rfl 23 _ HR2.out HS.out ?_)
    | (with_reducible refine wpList_store_row Tryd.agg25 rfl (.tmp 2) (.tmp 16) rfl _ _ rfl rfl 23 lit32 HZ2.out HS.out lit32_size (bcells_one _) ?_; intro w9 hr9 ho9; have HR9 := Lib.hid hr9; clear hr9))
  refine bodyPost_ret (results_row1 Tryd.agg25 Tryd.results15 rfl HR9.out HS.out) rfl ⟨rfl, ?_⟩
  exact hb2.trans (ho9.below (by omega) hb2.size)
def SigK (w : World) (T g : Nat) (s : List UInt8) (b h nx : Nat) (d : List UInt8) (e : Ending) (w' : World) : Prop :=
  ∃ A1 n1 c1 A2 n2 c2, e = .returned (.tuple #[.agg (sigC (nx : Int) A1 n1 c1 A2 n2 c2), .int .i64 0]) ∧ Ds w' A1 n1 (sigN (ksL s nx) d b) ∧ n1 ≤ c1 ∧ Ds w' A2 n2 (pathD h (leavesL s b (2 ^ h)) nx) ∧ n2 ≤ c2 ∧ KeyAt w' T g s b h (nx + 1) ∧ Only g w w' ∧ Keeps w w'
abbrev sig0 : Array Value := sigC 0 none 0 0 none 0 0
set_option maxRecDepth 100000 in
set_option maxHeartbeats 4000000 in
theorem kSign_ok (T g b h nx nt ct : Nat) (s l : List UInt8) (A : Option Addr) (w : World) (hs : s.length = 32) (h1 : 1 ≤ b) (h2 : b ≤ 256) (h3 : h ≤ 6) (hn : nx < 2 ^ h) (hK : KeyAt w T g s b h nx) (hB : Bs w A nt l) (hnc : nt ≤ ct) (hnt : nt ≤ 1000000) (hT : Tab 1 w) (hg : 1 < g) :
    Calls Tryd.prog 21 #[.pointer (some ⟨g, 0, none⟩), .slice A nt ct] w (SigK w T g s b h nx (sumL l)) := by
  obtain ⟨w0, hw0⟩ : ∃ w0, w.alloc (.cells sig0 44) = w0 := ⟨_, rfl⟩
  have hb0 : Below w.heap.size w w0 := by rw [← hw0]; exact (Below.refl w.heap.size w).alloc (Nat.le_refl _) _
  have hs0 : w.heap.size < w0.heap.size := by rw [← hw0]; simp
  have hz0 : Row w0 w.heap.size 44 sig0 := by rw [← hw0]; exact Row.new w 44 sig0
  have HLf := Lib.hid (kLeft_any w.heap.size g b h nx s w0 h3 (by omega) (hK.low.below hb0))
  obtain ⟨sd, lv, hr, r2, r3, h4, h5, h6, h7, h8⟩ := hK
  have hgl := hr.lt
  have hsl := r2.lt
  have hll := r3.lt
  have HS := Lib.hid (fun w hR hT => seedOf_any s nx sd w hs hR hT)
  have HG := Lib.hid (fun w hB hT => Sign_ok (ksL s nx) b A nt ct l w (ksL_length s nx) h1 h2 hB hnc hnt hT)
  have HP := Lib.hid (fun w hD hT => Path_ok h (some ⟨lv, 0, none⟩) (2 ^ h) (2 ^ h) nx (leavesL s b (2 ^ h)) w (by omega) rfl hn hD hT)
  have hp6 := pow_le6 h3
  have HR0 := Lib.hid (hr.below hb0 hgl)
  have HR2 := Lib.hid (r2.below hb0 hsl)
  have HR3 := Lib.hid (r3.below hb0 hll)
  have HB0 := Lib.hid (hB.below hb0)
  have HT0 := Lib.hid (hT.below hb0)
  have HZ0 := Lib.hid hz0
  unfold SigK KeyAt
  generalize hn2 : 2 ^ h = n at *
  have hne : ((n : Int) - (nx : Int) == 0) = false := by simp; omega
  have hnx : (nx : Int) < 64 := by omega
  generalize ksL s nx = Q at *
  generalize sumL l = d at *
  generalize hSN : sigN Q d b = SN at *
  generalize hPN : pathD h (leavesL s b n) nx = PN at *
  generalize hLN : leavesL s b n = LN at *
  clear hr r2 r3 hT hB hz0 hn2 hSN hPN
  go_enter Tryd.func21, Tryd.ntmps21
  go_wp2_with (go_at_call 18; refine HLf.out.mono ?_; rintro e1 w1 ⟨rfl, hb1⟩; have HR1 := Lib.hid (HR0.out.below hb1 (by omega)); have k3 : w1.cell? ⟨g, 3, none⟩ = some (.int .i64 (nx : Int)) := HR1.out.cell 3; have f3 := HR1.out.frozen 3)
  obtain ⟨w2, hw2⟩ : ∃ w2, w1.setCell ⟨g, 3, none⟩ (.int .i64 ((nx : Int) + 1)) = w2 := ⟨_, rfl⟩
  rw [hw2]
  have hs1 := hb1.size
  have ho2 : Only g w1 w2 := by rw [← hw2]; exact Only.setCell _ _ _ _
  have hk2 : Keeps w1 w2 := by rw [← hw2]; exact Keeps.setCell _ k3
  have HK2 : Hid (Row w2 g 67 (keyC sd b (.slice (some ⟨lv, 0, none⟩) n n) (.int .i64 ((nx : Int) + 1)))) := Lib.hid (by rw [← hw2]; exact row4_set3 HR1.out _)
  have hs2 := ho2.size
  have HS2 := Lib.hid ((HR2.out.below hb1 (by omega)).only ho2 h4)
  have HL2 := Lib.hid ((HR3.out.below hb1 (by omega)).only ho2 h5)
  have HB2 := Lib.hid (hk2 _ _ _ (HB0.out.below hb1))
  have HT2 := Lib.hid ((HT0.out.below hb1).only ho2 (by omega))
  have HZ2 := Lib.hid ((HZ0.out.below hb1 (by omega)).only ho2 (by omega))
  clear hw2 k3 f3
  have B0 : Below w2.heap.size w2 w2.drew := (Below.refl w2.heap.size w2).drew
  have K0 := Lib.hid (HK2.out.below B0 (by omega))
  refine wp_region_noPanic ?_
  refine wp_region_held_drew (S := fun w' => Row w' g 67 (keyC sd b (.slice (some ⟨lv, 0, none⟩) n n) (.int .i64 ((nx : Int) + 1)))) (by kernel_rfl) K0.out (fun hHeld => ?_)
  refine takeD (i := 0) (some 30) (.pointer (some ⟨g, 0, none⟩)) rfl rfl (by kernel_rfl) (by kernel_rfl) (by kernel_rfl) (fun _ _ _ h => h) (Or.inl ⟨by rfl, fun _ _ => rfl⟩) hHeld ?_
  simp only [Act.put, List.setIfInBounds_toArray, List.set_cons_zero, List.set_cons_succ]
  refine takeD (i := 1) (some 31) (.pointer (some ⟨g, 0, none⟩)) rfl rfl (by kernel_rfl) (by kernel_rfl) (by kernel_rfl) (fun _ _ _ h => h) (yields_nil (by rfl) (.tmp 30) rfl _ rfl) hHeld ?_
  simp only [Act.put, List.setIfInBounds_toArray, List.set_cons_zero, List.set_cons_succ]
  refine takeD (i := 2) (some 32) (.pointer (some ⟨g, 0, none⟩)) rfl rfl (by kernel_rfl) (by kernel_rfl) (by kernel_rfl) (fun _ _ _ h => h) (yields_fld67 (by rfl) (.tmp 31) 0 rfl (by decide) (g) rfl) hHeld ?_
  simp only [Act.put, List.setIfInBounds_toArray, List.set_cons_zero, List.set_cons_succ]
  refine takeD (i := 3) (some 33) (.func (.func 34) #[] #[.pointer (some ⟨sd, 0, none⟩)]) rfl rfl (by kernel_rfl) (by kernel_rfl) (by kernel_rfl) (fun _ _ _ h => h) (yields_cell (by rfl) 65 (.tmp 32) rfl (by decide) (g) (0) rfl _ (fun _ h => h.cell 0)) hHeld ?_
  simp only [Act.put, List.setIfInBounds_toArray, List.set_cons_zero, List.set_cons_succ]
  refine takeD (i := 4) (some 34) (.int .i64 (nx : Int)) rfl rfl (by kernel_rfl) (by kernel_rfl) (by kernel_rfl) (fun _ _ _ h => h) (Or.inl ⟨by rfl, fun _ _ => rfl⟩) hHeld ?_
  simp only [Act.put, List.setIfInBounds_toArray, List.set_cons_zero, List.set_cons_succ]
  refine takeD (i := 6) (some 36) (.pointer (some ⟨g, 0, none⟩)) rfl rfl (by kernel_rfl) (by kernel_rfl) (by kernel_rfl) (fun _ _ _ h => h) (Or.inl ⟨by rfl, fun _ _ => rfl⟩) hHeld ?_
  simp only [Act.put, List.setIfInBounds_toArray, List.set_cons_zero, List.set_cons_succ]
  refine takeD (i := 7) (some 37) (.pointer (some ⟨g, 0, none⟩)) rfl rfl (by kernel_rfl) (by kernel_rfl) (by kernel_rfl) (fun _ _ _ h => h) (yields_nil (by rfl) (.tmp 36) rfl _ rfl) hHeld ?_
  simp only [Act.put, List.setIfInBounds_toArray, List.set_cons_zero, List.set_cons_succ]
  refine takeD (i := 8) (some 38) (.pointer (some ⟨g, 1, none⟩)) rfl rfl (by kernel_rfl) (by kernel_rfl) (by kernel_rfl) (fun _ _ _ h => h) (yields_fld67 (by rfl) (.tmp 37) 1 rfl (by decide) (g) rfl) hHeld ?_
  simp only [Act.put, List.setIfInBounds_toArray, List.set_cons_zero, List.set_cons_succ]
  refine takeD (i := 9) (some 39) (.int .i64 (b : Int)) rfl rfl (by kernel_rfl) (by kernel_rfl) (by kernel_rfl) (fun _ _ _ h => h) (yields_cell (by rfl) 3 (.tmp 38) rfl (by decide) (g) (1) rfl _ (fun _ h => h.cell 1)) hHeld ?_
  simp only [Act.put, List.setIfInBounds_toArray, List.set_cons_zero, List.set_cons_succ]
  refine takeD (i := 10) (some 40) (.slice A nt ct) rfl rfl (by kernel_rfl) (by kernel_rfl) (by kernel_rfl) (fun _ _ _ h => h) (Or.inl ⟨by rfl, fun _ _ => rfl⟩) hHeld ?_
  simp only [Act.put, List.setIfInBounds_toArray, List.set_cons_zero, List.set_cons_succ]
  refine wpAnyH_ready (rs := [5]) (by kernel_rfl) (by decide) ?_
  refine AllReadyH.cons rfl (fun K' hK => ?_) AllReadyH.nil
  go_simp
  refine (HS.out w2.drew (HS2.out.below B0 (by omega)) (HT2.out.below B0)).mono ?_
  rintro e3 w3 ⟨rfl, hb3⟩
  have B3 : Below w2.heap.size w2 w3 := B0.trans (hb3.mono B0.size)
  refine hK.out _ _ (HK2.out.below B3 (by omega)) (fun hHeld1 => ?_)
  clear hK
  (try simp only [Act.put, List.setIfInBounds_toArray, List.set_cons_zero, List.set_cons_succ])
  refine wpAnyH_ready (rs := [11]) (by kernel_rfl) (by decide) ?_
  refine AllReadyH.cons rfl (fun K' hK => ?_) AllReadyH.nil
  go_simp
  refine (HG.out w3 (HB2.out.below B3) (HT2.out.below B3)).mono ?_
  rintro e4 w4 ⟨A4, c4, rfl, hc4, hd4, hb4⟩
  have HD4 := Lib.hid hd4
  have B4 : Below w2.heap.size w2 w4 := B3.trans (hb4.mono B3.size)
  clear hd4
  refine hK.out _ _ (HK2.out.below B4 (by omega)) (fun hHeld2 => ?_)
  clear hK
  (try simp only [Act.put, List.setIfInBounds_toArray, List.set_cons_zero, List.set_cons_succ])
  refine takeD (i := 12) (some 29) (.tuple #[.slice A4 SN.length c4, .int .i64 0]) rfl rfl (by kernel_rfl) (by kernel_rfl) (by kernel_rfl) (fun _ _ _ h => h) (Or.inl ⟨by rfl, fun _ _ => rfl⟩) hHeld2 ?_
  simp only [Act.put, List.setIfInBounds_toArray, List.set_cons_zero, List.set_cons_succ]
  refine takeD (i := 13) (some 42) (.slice A4 SN.length c4) rfl rfl (by kernel_rfl) (by kernel_rfl) (by kernel_rfl) (fun _ _ _ h => h) (Or.inl ⟨by rfl, fun _ _ => rfl⟩) hHeld2 ?_
  simp only [Act.put, List.setIfInBounds_toArray, List.set_cons_zero, List.set_cons_succ]
  refine takeD (i := 14) (some 43) (.int .i64 0) rfl rfl (by kernel_rfl) (by kernel_rfl) (by kernel_rfl) (fun _ _ _ h => h) (Or.inl ⟨by rfl, fun _ _ => rfl⟩) hHeld2 ?_
  simp only [Act.put, List.setIfInBounds_toArray, List.set_cons_zero, List.set_cons_succ]
  refine takeD (i := 15) (some 7) (.slice A4 SN.length c4) rfl rfl (by kernel_rfl) (by kernel_rfl) (by kernel_rfl) (fun _ _ _ h => h) (Or.inl ⟨by rfl, fun _ _ => rfl⟩) hHeld2 ?_
  simp only [Act.put, List.setIfInBounds_toArray, List.set_cons_zero, List.set_cons_succ]
  refine takeD (i := 16) (some 8) (.int .i64 0) rfl rfl (by kernel_rfl) (by kernel_rfl) (by kernel_rfl) (fun _ _ _ h => h) (Or.inl ⟨by rfl, fun _ _ => rfl⟩) hHeld2 ?_
  simp only [Act.put, List.setIfInBounds_toArray, List.set_cons_zero, List.set_cons_succ]
  (try simp only [Act.put, List.setIfInBounds_toArray])
  refine wpAnyH_done (by kernel_rfl) ?_ _
  refine NoPanic.normal ?_
  have HK4 := Lib.hid (HK2.out.below B4 (by omega))
  have k2 : w4.cell? ⟨g, 2, none⟩ = some (.slice (some ⟨lv, 0, none⟩) n n) := HK4.out.cell 2
  have HL4 := Lib.hid (HL2.out.below B4 (by omega))
  have HT4 := Lib.hid (HT2.out.below B4)
  have HZ4 := Lib.hid (HZ2.out.below B4 (by omega))
  have HS4 := Lib.hid (HS2.out.below B4 (by omega))
  have HDL := Lib.hid (show Ds w4 (some ⟨lv, 0, none⟩) n LN by rw [← hLN]; exact leaves_ds (by rw [hLN]; exact HL4.out))
  have hs4 := B4.size
  go_wp2_with (first
    | (go_at_call 42; refine (HP.out w4 HDL.out HT4.out).mono ?_; rintro e5 w5 ⟨A5, c5, rfl, hc5, hd5, hb5⟩; have hs5 := hb5.size; have HZ5 := Lib.hid (HZ4.out.below hb5 (by omega)))
    | (with_reducible refine wpList_store_row Tryd.aggSig rfl (.tmp 4) (.tmp 56) rfl _ (sigC (nx : Int) A4 SN.length c4 A5 PN.length c5) rfl rfl 44 sig0 HZ5.out (sigC_size _ _ _ _ _ _ _) (sigC_size _ _ _ _ _ _ _) (sigC_one _ _ _ _ _ _ _) ?_; intro w9 hr9 ho9; have HR9 := Lib.hid hr9; clear hr9))
  have b9 : Below w2.heap.size w2 w5 := B4.trans (hb5.mono hs4)
  have o5 : Only g w w5 := (((Only.of_below hb0).trans (Only.of_below hb1)).trans ho2).trans (Only.of_below b9)
  have o9 : Only g w w9 := o5.thenB (ho9.below (Nat.le_refl _) (by omega))
  have k59 : Keeps w5 w9 := Keeps.only HZ5.out sig0_none ho9
  have k9 : Keeps w w9 := (((Keeps.of_below hb0).trans (Keeps.of_below hb1)).trans hk2).trans ((Keeps.of_below b9).trans k59)
  refine bodyPost_ret (results_row2 Tryd.aggSig Tryd.results21 rfl rfl HR9.out (sigC_size _ _ _ _ _ _ _)) rfl ⟨A4, _, c4, A5, _, c5, rfl, (HD4.out.below hb5).keeps k59, hc4, hd5.keeps k59, hc5, ⟨sd, lv, ?_, ?_, ?_, h4, h5, h6, h7, h8⟩, o9, k9⟩
  · rw [show ((nx + 1 : Nat) : Int) = (nx : Int) + 1 by omega]
    exact (HK4.out.below hb5 (by omega)).only ho9 (by omega)
  · exact (HS4.out.below hb5 (by omega)).only ho9 (by omega)
  · exact (HL4.out.below hb5 (by omega)).only ho9 (by omega)
set_option maxRecDepth 100000 in
set_option maxHeartbeats 1000000 in
theorem kSign_spent (T g b h : Nat) (A : Option Addr) (nt ct : Nat) (s : List UInt8) (w : World) (h3 : h ≤ 6) (hK : KeyAt w T g s b h (2 ^ h)) :
    Calls Tryd.prog 21 #[.pointer (some ⟨g, 0, none⟩), .slice A nt ct] w fun e w' => e = .returned (.tuple #[.agg sig0, .int .i64 70]) ∧ Below w.heap.size w w' := by
  obtain ⟨w0, hw0⟩ : ∃ w0, w.alloc (.cells sig0 44) = w0 := ⟨_, rfl⟩
  have hb0 : Below w.heap.size w w0 := by rw [← hw0]; exact (Below.refl w.heap.size w).alloc (Nat.le_refl _) _
  have hs0 : w.heap.size < w0.heap.size := by rw [← hw0]; simp
  have HZ0 := Lib.hid (show Row w0 w.heap.size 44 sig0 by rw [← hw0]; exact Row.new w 44 sig0)
  have HLf := Lib.hid (show Calls Tryd.prog 18 #[.pointer (some ⟨g, 0, none⟩)] w0 fun e w' => e = .returned (.int .i64 0) ∧ Below w0.heap.size w0 w' by
    have q := kLeft_any w.heap.size g b h (2 ^ h) s w0 h3 (Nat.le_refl _) (hK.low.below hb0)
    rw [Int.sub_self] at q; exact q)
  clear hK
  go_enter Tryd.func21, Tryd.ntmps21
  go_wp2_with (first
    | (go_at_call 18; refine HLf.out.mono ?_; rintro e1 w1 ⟨rfl, hb1⟩; have HZ1 := Lib.hid (HZ0.out.below hb1 hs0))
    | (with_reducible refine wpList_store_row Tryd.aggSig rfl (.tmp 4) (.tmp 17) rfl _ sig0 rfl rfl 44 sig0 HZ1.out (sigC_size _ _ _ _ _ _ _) (sigC_size _ _ _ _ _ _ _) (sigC_one _ _ _ _ _ _ _) ?_; intro w9 hr9 ho9; have HR9 := Lib.hid hr9; clear hr9))
  have b1 := hb0.trans (hb1.mono (by omega))
  exact bodyPost_ret (results_row2 Tryd.aggSig Tryd.results21 rfl rfl HR9.out (sigC_size _ _ _ _ _ _ _)) rfl ⟨rfl, b1.trans (ho9.below (Nat.le_refl _) b1.size)⟩
set_option maxRecDepth 100000 in
set_option maxHeartbeats 1000000 in
theorem kSign_nil (A : Option Addr) (nt ct : Nat) (w : World) :
    Calls Tryd.prog 21 #[.pointer none, .slice A nt ct] w fun e w' => e = .returned (.tuple #[.agg sig0, .int .i64 2]) ∧ Below w.heap.size w w' := by
  obtain ⟨w0, hw0⟩ : ∃ w0, w.alloc (.cells sig0 44) = w0 := ⟨_, rfl⟩
  have hb0 : Below w.heap.size w w0 := by rw [← hw0]; exact (Below.refl w.heap.size w).alloc (Nat.le_refl _) _
  have HZ0 := Lib.hid (show Row w0 w.heap.size 44 sig0 by rw [← hw0]; exact Row.new w 44 sig0)
  go_enter Tryd.func21, Tryd.ntmps21
  go_wp2_with (with_reducible refine wpList_store_row Tryd.aggSig rfl (.tmp 4) (.tmp 13) rfl _ sig0 rfl rfl 44 sig0 HZ0.out (sigC_size _ _ _ _ _ _ _) (sigC_size _ _ _ _ _ _ _) (sigC_one _ _ _ _ _ _ _) ?_; intro w9 hr9 ho9; have HR9 := Lib.hid hr9; clear hr9)
  exact bodyPost_ret (results_row2 Tryd.aggSig Tryd.results21 rfl rfl HR9.out (sigC_size _ _ _ _ _ _ _)) rfl ⟨rfl, hb0.trans (ho9.below (Nat.le_refl _) hb0.size)⟩
set_option maxRecDepth 100000 in
set_option maxHeartbeats 1000000 in
theorem kPublic_nil (w : World) : Calls Tryd.prog 15 #[.pointer none] w fun e w' => e = .returned (.agg (bcells zero32)) ∧ Below w.heap.size w w' := by
  have HZ := Lib.hid (Row.new w 23 lit32)
  have HS := Lib.hid (show (bcells zero32).size = 32 by rw [bcells_size, zero32_length])
  have HBu := Lib.hid built25
  go_enter Tryd.func15, Tryd.ntmps15
  go_wp2_with (first
    | (with_reducible refine wpList_build rfl 23 #[] rfl HBu.out ?_)
    | (with_reducible refine wpList_store_row Tryd.agg25 rfl (.tmp 2) (.tmp 7) rfl _ (bcells zero32) rfl rfl 23 lit32 HZ.out HS.out lit32_size (bcells_one _) ?_; intro w9 hr9 ho9; have HR9 := Lib.hid hr9; clear hr9))
  exact bodyPost_ret (results_row1 Tryd.agg25 Tryd.results15 rfl HR9.out HS.out) rfl ⟨rfl, ((Below.refl _ _).alloc (Nat.le_refl _) _).trans (ho9.below (Nat.le_refl _) (by simp))⟩
end Go.Proofs.YtfelmdndjdaniaaDoor
