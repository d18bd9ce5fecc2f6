/-
  A file's own steps: add.
-/
import Derived.Test.YtgiobcpljbpmiaaDoorStepB
namespace Go.Proofs.YtgiobcpljbpmiaaDoor
open Go.RowKit
theorem yields_fld63 {ops : Array Oper} {S : World → Prop} {o : Oper} {a : Act} (hw : Region.wanted o (yielded ops a.tmps) = true) (x : Operand) (k : Nat) (ho : o.op = .fieldAddr 63 x k) (hk : k = 0 ∨ k = 1 ∨ k = 2) (g p q : Nat) (hq : q = p + k)
    (hx : a.eval x = .pointer (some ⟨g, p, none⟩)) : YieldsIf Tryd.prog ops S o (.pointer (some ⟨g, q, none⟩)) a :=
  .inl ⟨hw, fun w _ => by
    unfold execOp
    simp only [ho, hx]
    subst hq
    rcases hk with rfl | rfl | rfl <;> go_simp⟩
theorem rangeAt_row {w : World} {g t : Nat} {l : List Value} (h : Row w g t l.toArray) : w.rangeAt g 0 l := fun j v hv => by
  rw [h.cell (0 + j), Nat.zero_add]; simpa using hv
theorem yields_loadS {ops : Array Oper} {S : World → Prop} {o : Oper} {a : Act} (hw : Region.wanted o (yielded ops a.tmps) = true) (x : Operand) (ho : o.op = .load 83 x) (b off : Nat) (s : Stp)
    (hx : a.eval x = .pointer (some ⟨b, off, none⟩)) (hS : ∀ w, S w → w.rangeAt b off (stpC s)) : YieldsIf Tryd.prog ops S o (.agg (stpC s).toArray) a :=
  yieldsIf_load_mid hw 83 x ho b off hx (stpC s) _ hS Tryd.underlying83 rfl (by rw [Tryd.size77, Tryd.stP.len])
set_option maxRecDepth 100000 in
/-- a slice loaded, stored, in one cell -/
theorem wp_loadC {o : Oper} {a : Act} {w : World} {K : Act → World → Prop} {Q : Exit → Act → World → Prop} (ty : TypeId) (x : Operand) (ho : o.op = .load ty x) (hty : ty = 32 ∨ ty = 61) (g k : Nat) (v : Value)
    (hx : a.eval x = .pointer (some ⟨g, k, none⟩)) (hc : w.cell? ⟨g, k, none⟩ = some v) (h : K (a.put o.dst v) w) : o.wp Tryd.prog a w K Q := by
  unfold Oper.wp execOp
  simp only [ho, hx]
  rcases hty with rfl | rfl <;> (go_simp; exact h)
set_option maxRecDepth 100000 in
theorem wp_storeC {o : Oper} {a : Act} {w : World} {K : Act → World → Prop} {Q : Exit → Act → World → Prop} (ty : TypeId) (x y : Operand) (ho : o.op = .store ty x y) (hty : ty = 32 ∨ ty = 61) (g k : Nat) (A : Option Addr) (n c : Nat) (T : TypeId) (cs : Array Value)
    (hx : a.eval x = .pointer (some ⟨g, k, none⟩)) (hy : a.eval y = .slice A n c) (hr : Row w g T cs) (hk : k < cs.size) (h : K (a.put o.dst undef) (w.setCell ⟨g, k, none⟩ (.slice A n c))) : o.wp Tryd.prog a w K Q := by
  have hc : w.cell? ⟨g, k, none⟩ = some cs[k] := by rw [hr.cell k]; exact Array.getElem?_eq_getElem hk
  have hf := hr.frozen k
  unfold Oper.wp execOp
  simp only [ho, hx, hy]
  rcases hty with rfl | rfl <;> (go_simp; exact h)
set_option maxRecDepth 100000 in
theorem yields_loadV {ops : Array Oper} {S : World → Prop} {o : Oper} {a : Act} (hw : Region.wanted o (yielded ops a.tmps) = true) (ty : TypeId) (x : Operand) (ho : o.op = .load ty x) (hty : ty = 32 ∨ ty = 61) (g k : Nat) (v : Value)
    (hx : a.eval x = .pointer (some ⟨g, k, none⟩)) (hS : ∀ w, S w → w.cell? ⟨g, k, none⟩ = some v) : YieldsIf Tryd.prog ops S o v a :=
  .inl ⟨hw, fun w h => by
    have hc := hS w h
    unfold execOp
    simp only [ho, hx]
    rcases hty with rfl | rfl <;> go_simp⟩
theorem OwnS.keep {t e k y : Nat} {z : Value} {enc : Stp → List Value} {E : StK t e k y z enc} {w w' : World} {v : Value} {n : Nat} {S : List Stp} (h : OwnS E w v n S) (hk : ∀ b, OB v b → w'.heap[b]? = w.heap[b]?) : OwnS E w' v n S := ownsRow_keep h fun b _ hb hr => (hk b hb).trans hr
theorem Own.keep {w w' : World} {base e : Nat} {v : Value} {n : Nat} {l : List UInt8} (h : Own w base e v n l) (hk : ∀ b, OB v b → w'.heap[b]? = w.heap[b]?) : Own w' base e v n l := ownsRow_keep h fun b _ hb hr => (hk b hb).trans hr
/-- what lies in rows of one type is no row of another -/
theorem ownsRow_far {w : World} {base e k g t : Nat} {v : Value} {n : Nat} {xs : List Value} {cs : Array Value} (h : w.ownsRow base e k v n xs) (hr : Row w g t cs) (ht : t ≠ e) : ¬ OB v g := fun hb => by
  obtain ⟨_, cs', q⟩ := ownsRow_block h hb
  exact ht (cells_inj hr q)
theorem ownsRow_apart {w : World} {base e k base' e' k' : Nat} {v v' : Value} {n n' : Nat} {xs xs' : List Value} (h : w.ownsRow base e k v n xs) (h' : w.ownsRow base' e' k' v' n' xs') (ht : e ≠ e') {b : Nat} (q : OB v b) : ¬ OB v' b := fun q' => by
  obtain ⟨_, cs, r⟩ := ownsRow_block h q
  obtain ⟨_, cs', r'⟩ := ownsRow_block h' q'
  exact ht (cells_inj r r')
theorem cutR {P : Program} {id : Nat} {ops : Array Oper} {b : Bool} {Q : Exit → Act → World → Prop} {a : Act} {w : World} (R : Act → Act → World → Prop) (h1 : (Code.region id ops b).wp P (fun e a' w' => e = .normal ∧ R a a' w') a w) (h2 : ∀ a' w', R a a' w' → Q .normal a' w') : (Code.region id ops b).wp P Q a w :=
  Code.wp_mono (fun e a' w' ⟨he, hR⟩ => by rw [he]; exact h2 a' w' hR) h1
set_option maxRecDepth 100000 in
set_option maxHeartbeats 2000000 in
theorem add_ok (g p n c : Nat) (A : Option Addr) (z : Int) (cs : Array Value) (S : List Stp) (s : Stp) (w : World) (hr : Row w g 66 cs) (hp : p + 2 < cs.size) (hc : cs[p + 1]? = some (.slice A n c)) (hS : OwnS Tryd.stP w (.slice A n c) n S) (hn : n + 1 ≤ 1000000000) :
    Calls Tryd.prog 44 #[.pointer (some ⟨g, p, none⟩), .agg (stpC s).toArray, .int .i64 z] w fun e w' => e = .returned (.tuple #[]) ∧ ∃ A' c', Row w' g 66 ((cs.setIfInBounds (p + 1) (.slice A' (n + 1) c')).setIfInBounds (p + 2) (.int .i64 z)) ∧ OwnS Tryd.stP w' (.slice A' (n + 1) c') (n + 1) (S ++ [s]) ∧ (∀ b, OB (.slice A' (n + 1) c') b → OB (.slice A n c) b ∨ w.heap.size ≤ b) ∧ Off (fun b => b = g ∨ OB (.slice A n c) b) w w' := by
  have HR := Lib.hid hr
  have HSt := Lib.hid hS
  have HNF := Lib.hid (ownsRow_far hS hr (by decide))
  have HV := Lib.hid hS.lt
  have hgl := hr.lt
  have HX0 := Lib.hid (Row.new w 83 (stpC s).toArray)
  have hb0 := (Below.refl w.heap.size w).alloc (Nat.le_refl _) (.cells (stpC s).toArray 83)
  obtain ⟨wz, hwz⟩ : ∃ wz, w.alloc (.cells (stpC s).toArray 83) = wz := ⟨_, rfl⟩
  have hltz : w.heap.size < wz.heap.size := by rw [← hwz]; simp
  rw [hwz] at hb0 HX0
  have HC := Lib.hid (fun wq (hb : Below w.heap.size w wq) => show wq.cell? ⟨g, p + 1, none⟩ = some (.slice A n c) from ((HR.out.below hb hgl).cell (p + 1)).trans hc)
  have KP : Hid (∀ wq, Below wz.heap.size wz wq → Row wq w.heap.size 83 (stpC s).toArray) := Lib.hid (fun wq hb => HX0.out.below hb hltz)
  have hp1 : p + 1 < cs.size := by omega
  clear hr hS hc
  go_enter Tryd.func44, Tryd.ntmps44
  go_wp2_with fail
  clear hwz
  refine cutR (fun a a' w' => ∃ (A5 : Option Addr) (c5 : Nat) (g4 : Nat) (w5 : World), a' = ((((((((((a.put (some 6) (.pointer (some ⟨g, p, none⟩))).put (some 7) (.pointer (some ⟨g, p, none⟩))).put (some 8) (.pointer (some ⟨g, p, none⟩))).put (some 9) (.pointer (some ⟨g, p + 1, none⟩))).put (some 10) (.slice A n c)).put (some 11) (.agg (stpC s).toArray)).put (some 12) (.slice (some ⟨g4, 0, none⟩) 1 1)).put (some 13) (.slice A5 (n + 1) c5)).put (some 14) (.pointer (some ⟨g, p, none⟩))).put (some 15) (.pointer (some ⟨g, p + 1, none⟩))) ∧ w' = w5.setCell ⟨g, p + 1, none⟩ (.slice A5 (n + 1) c5) ∧ Row w5 g 66 cs ∧ OwnS Tryd.stP w5 (.slice A5 (n + 1) c5) (n + 1) (S ++ [s]) ∧ (∀ b, OB (.slice A5 (n + 1) c5) b → OB (.slice A n c) b ∨ w.heap.size ≤ b) ∧ Off (OB (.slice A n c)) w w5) ?_ ?_
  · have Z0 : Below wz.heap.size wz wz.drew := (Below.refl wz.heap.size wz).drew
    have B0 : Below w.heap.size w wz.drew := hb0.drew
    refine wp_region_noPanic ?_
    refine wp_region_held_drew (S := fun w' => Row w' w.heap.size 83 (stpC s).toArray) (by kernel_rfl) (KP.out _ Z0) (fun hHeld => ?_)
    refine takeD (i := 0) (some 6) (.pointer (some ⟨g, p, none⟩)) rfl rfl (by kernel_rfl) (by kernel_rfl) (by kernel_rfl) (fun _ _ _ h => h) (Or.inl ⟨by rfl, fun _ _ => rfl⟩) hHeld ?_
    simp only [Act.put, List.setIfInBounds_toArray, List.set_cons_zero, List.set_cons_succ]
    refine takeD (i := 1) (some 7) (.pointer (some ⟨g, p, none⟩)) rfl rfl (by kernel_rfl) (by kernel_rfl) (by kernel_rfl) (fun _ _ _ h => h) (Or.inl ⟨by rfl, fun _ _ => rfl⟩) hHeld ?_
    simp only [Act.put, List.setIfInBounds_toArray, List.set_cons_zero, List.set_cons_succ]
    refine takeD (i := 2) (some 8) (.pointer (some ⟨g, p, none⟩)) rfl rfl (by kernel_rfl) (by kernel_rfl) (by kernel_rfl) (fun _ _ _ h => h) (yields_nil (by rfl) (.tmp 7) rfl _ rfl) hHeld ?_
    simp only [Act.put, List.setIfInBounds_toArray, List.set_cons_zero, List.set_cons_succ]
    refine takeD (i := 3) (some 9) (.pointer (some ⟨g, p + 1, none⟩)) rfl rfl (by kernel_rfl) (by kernel_rfl) (by kernel_rfl) (fun _ _ _ h => h) (yields_fld63 (by rfl) (.tmp 8) 1 rfl (by decide) g p _ rfl rfl) hHeld ?_
    simp only [Act.put, List.setIfInBounds_toArray, List.set_cons_zero, List.set_cons_succ]
    refine takeD (i := 5) (some 11) (.agg (stpC s).toArray) rfl rfl (by kernel_rfl) (by kernel_rfl) (by kernel_rfl) (fun _ _ _ h => h) (yields_loadS (by rfl) (.tmp 4) rfl _ 0 s rfl (fun _ h => rangeAt_row h)) hHeld ?_
    simp only [Act.put, List.setIfInBounds_toArray, List.set_cons_zero, List.set_cons_succ]
    refine wpAnyH_ready (rs := [4, 6]) (by kernel_rfl) (by decide) ?_
    refine AllReadyH.cons rfl (fun K' hK => ?_) (AllReadyH.cons rfl (fun K' hK => ?_) AllReadyH.nil)
    · skip
      refine step_of rfl (wp_loadC 61 (.tmp 9) rfl (.inr rfl) g (p + 1) (.slice A n c) rfl (HC.out _ B0) ?_)
      refine hK.out _ _ (KP.out _ Z0) (fun hHeld1 => ?_)
      clear hK
      simp only [List.getElem_toArray, List.getElem_cons_succ, List.getElem_cons_zero, Act.put, List.setIfInBounds_toArray, List.set_cons_zero, List.set_cons_succ]
      refine wpAnyH_ready (rs := [6]) (by kernel_rfl) (by decide) ?_
      refine AllReadyH.cons rfl (fun K' hK => ?_) AllReadyH.nil
      refine step_of rfl (Tryd.stP.wp_build (.tmp 11) rfl s rfl ?_)
      intro g4 w4 hg4 hr4 hb4
      have HX4 := Lib.hid (rangeAt_row hr4)
      have Z4 : Below wz.heap.size wz w4 := Z0.trans (hb4.mono (Nat.le_refl _))
      have B4 : Below w.heap.size w w4 := B0.trans (hb4.mono B0.size)
      clear hg4 hr4 hb4
      refine hK.out _ _ (KP.out _ Z4) (fun hHeld2 => ?_)
      clear hK
      simp only [List.getElem_toArray, List.getElem_cons_succ, List.getElem_cons_zero, Act.put, List.setIfInBounds_toArray, List.set_cons_zero, List.set_cons_succ]
      refine wpAnyH_ready (rs := [7]) (by kernel_rfl) (by decide) ?_
      refine AllReadyH.cons rfl (fun K' hK => ?_) AllReadyH.nil
      refine step_of rfl (Tryd.stP.wp_app (.tmp 10) (.tmp 12) rfl (.slice A n c) n S rfl (HSt.out.keep (fun b q => B4.block b (HV.out b q).2)) s g4 0 1 rfl HX4.out hn ?_)
      intro A5 c5 w5 h5 hg5 hf5
      have HS5 := Lib.hid h5
      have HF5 : Hid (∀ b, OB (.slice A5 (n + 1) c5) b → OB (.slice A n c) b ∨ w.heap.size ≤ b) := Lib.hid (fun b q => by rcases hf5 with e | e; exact .inl (e.symm.trans q); have e2 : some _ = some b := e.symm.trans q; injection e2 with e2; have := B4.size; right; omega)
      have HO5 := Lib.hid ((Off.of_below (F := OB (.slice A n c)) B4).trans (Off.grown (F := OB (.slice A n c)) hg5 (fun b q => q)) (fun x q => .inl q))
      have HR5 := Lib.hid (show Row w5 g 66 cs from (HO5.out.block g hgl HNF.out).trans HR.out)
      have KZ5 := Lib.hid (show Row w5 w.heap.size 83 (stpC s).toArray from (hg5.block _ (Nat.lt_of_lt_of_le hltz Z4.size) (fun q => absurd (HV.out _ q.symm).2 (Nat.lt_irrefl _))).trans (KP.out _ Z4))
      clear h5 hg5 hf5
      refine hK.out _ _ KZ5.out (fun hHeld3 => ?_)
      clear hK
      simp only [List.getElem_toArray, List.getElem_cons_succ, List.getElem_cons_zero, Act.put, List.setIfInBounds_toArray, List.set_cons_zero, List.set_cons_succ]
      refine takeD (i := 8) (some 14) (.pointer (some ⟨g, p, none⟩)) rfl rfl (by kernel_rfl) (by kernel_rfl) (by kernel_rfl) (fun _ _ _ h => h) (yields_nil (by rfl) (.tmp 6) rfl _ rfl) hHeld3 ?_
      simp only [Act.put, List.setIfInBounds_toArray, List.set_cons_zero, List.set_cons_succ]
      refine takeD (i := 9) (some 15) (.pointer (some ⟨g, p + 1, none⟩)) rfl rfl (by kernel_rfl) (by kernel_rfl) (by kernel_rfl) (fun _ _ _ h => h) (yields_fld63 (by rfl) (.tmp 14) 1 rfl (by decide) g p _ rfl rfl) hHeld3 ?_
      simp only [Act.put, List.setIfInBounds_toArray, List.set_cons_zero, List.set_cons_succ]
      refine wpAnyH_ready (rs := [10]) (by kernel_rfl) (by decide) ?_
      refine AllReadyH.cons rfl (fun K' hK => ?_) AllReadyH.nil
      refine step_of rfl (wp_storeC 61 (.tmp 15) (.tmp 13) rfl (.inr rfl) g (p + 1) A5 (n + 1) c5 66 _ rfl rfl HR5.out hp1 ?_)
      refine hK.out _ _ (KZ5.out.far (by show w.heap.size ≠ g; omega) _) (fun hHeld4 => ?_)
      clear hK
      refine wpAnyH_done (by kernel_rfl) ?_ _
      refine NoPanic.normal ?_
      exact ⟨rfl, A5, c5, g4, w5, rfl, rfl, HR5.out, HS5.out, HF5.out, HO5.out⟩
    · skip
      refine step_of rfl (Tryd.stP.wp_build (.tmp 11) rfl s rfl ?_)
      intro g4 w4 hg4 hr4 hb4
      have HX4 := Lib.hid (rangeAt_row hr4)
      have Z4 : Below wz.heap.size wz w4 := Z0.trans (hb4.mono (Nat.le_refl _))
      have B4 : Below w.heap.size w w4 := B0.trans (hb4.mono B0.size)
      clear hg4 hr4 hb4
      refine hK.out _ _ (KP.out _ Z4) (fun hHeld5 => ?_)
      clear hK
      simp only [List.getElem_toArray, List.getElem_cons_succ, List.getElem_cons_zero, Act.put, List.setIfInBounds_toArray, List.set_cons_zero, List.set_cons_succ]
      refine wpAnyH_ready (rs := [4]) (by kernel_rfl) (by decide) ?_
      refine AllReadyH.cons rfl (fun K' hK => ?_) AllReadyH.nil
      refine step_of rfl (wp_loadC 61 (.tmp 9) rfl (.inr rfl) g (p + 1) (.slice A n c) rfl (HC.out _ B4) ?_)
      refine hK.out _ _ (KP.out _ Z4) (fun hHeld6 => ?_)
      clear hK
      simp only [List.getElem_toArray, List.getElem_cons_succ, List.getElem_cons_zero, Act.put, List.setIfInBounds_toArray, List.set_cons_zero, List.set_cons_succ]
      refine wpAnyH_ready (rs := [7]) (by kernel_rfl) (by decide) ?_
      refine AllReadyH.cons rfl (fun K' hK => ?_) AllReadyH.nil
      refine step_of rfl (Tryd.stP.wp_app (.tmp 10) (.tmp 12) rfl (.slice A n c) n S rfl (HSt.out.keep (fun b q => B4.block b (HV.out b q).2)) s g4 0 1 rfl HX4.out hn ?_)
      intro A5 c5 w5 h5 hg5 hf5
      have HS5 := Lib.hid h5
      have HF5 : Hid (∀ b, OB (.slice A5 (n + 1) c5) b → OB (.slice A n c) b ∨ w.heap.size ≤ b) := Lib.hid (fun b q => by rcases hf5 with e | e; exact .inl (e.symm.trans q); have e2 : some _ = some b := e.symm.trans q; injection e2 with e2; have := B4.size; right; omega)
      have HO5 := Lib.hid ((Off.of_below (F := OB (.slice A n c)) B4).trans (Off.grown (F := OB (.slice A n c)) hg5 (fun b q => q)) (fun x q => .inl q))
      have HR5 := Lib.hid (show Row w5 g 66 cs from (HO5.out.block g hgl HNF.out).trans HR.out)
      have KZ5 := Lib.hid (show Row w5 w.heap.size 83 (stpC s).toArray from (hg5.block _ (Nat.lt_of_lt_of_le hltz Z4.size) (fun q => absurd (HV.out _ q.symm).2 (Nat.lt_irrefl _))).trans (KP.out _ Z4))
      clear h5 hg5 hf5
      refine hK.out _ _ KZ5.out (fun hHeld7 => ?_)
      clear hK
      simp only [List.getElem_toArray, List.getElem_cons_succ, List.getElem_cons_zero, Act.put, List.setIfInBounds_toArray, List.set_cons_zero, List.set_cons_succ]
      refine takeD (i := 8) (some 14) (.pointer (some ⟨g, p, none⟩)) rfl rfl (by kernel_rfl) (by kernel_rfl) (by kernel_rfl) (fun _ _ _ h => h) (yields_nil (by rfl) (.tmp 6) rfl _ rfl) hHeld7 ?_
      simp only [Act.put, List.setIfInBounds_toArray, List.set_cons_zero, List.set_cons_succ]
      refine takeD (i := 9) (some 15) (.pointer (some ⟨g, p + 1, none⟩)) rfl rfl (by kernel_rfl) (by kernel_rfl) (by kernel_rfl) (fun _ _ _ h => h) (yields_fld63 (by rfl) (.tmp 14) 1 rfl (by decide) g p _ rfl rfl) hHeld7 ?_
      simp only [Act.put, List.setIfInBounds_toArray, List.set_cons_zero, List.set_cons_succ]
      refine wpAnyH_ready (rs := [10]) (by kernel_rfl) (by decide) ?_
      refine AllReadyH.cons rfl (fun K' hK => ?_) AllReadyH.nil
      refine step_of rfl (wp_storeC 61 (.tmp 15) (.tmp 13) rfl (.inr rfl) g (p + 1) A5 (n + 1) c5 66 _ rfl rfl HR5.out hp1 ?_)
      refine hK.out _ _ (KZ5.out.far (by show w.heap.size ≠ g; omega) _) (fun hHeld8 => ?_)
      clear hK
      refine wpAnyH_done (by kernel_rfl) ?_ _
      refine NoPanic.normal ?_
      exact ⟨rfl, A5, c5, g4, w5, rfl, rfl, HR5.out, HS5.out, HF5.out, HO5.out⟩
  · rintro a' w' ⟨A5, c5, g4, w5, rfl, rfl, hr5, hs5, hf5, ho5⟩
    have HRx := Lib.hid (hr5.set (p + 1) (.slice A5 (n + 1) c5))
    have HS5 := Lib.hid (hs5.keep (w' := w5.setCell ⟨g, p + 1, none⟩ (.slice A5 (n + 1) c5)) (fun b q => Below.heap_setCell _ _ _ _ (fun e => ownsRow_far hs5 hr5 (by decide) (by have e' : b = g := e; rw [← e']; exact q))))
    have HF5 := Lib.hid hf5
    have HO5 := Lib.hid ((ho5.mono (F' := fun b => b = g ∨ OB (.slice A n c) b) (fun b q => Or.inr q)).trans (Off.setCell (F := fun b => b = g ∨ OB (.slice A n c) b) w5 g (p + 1) (.slice A5 (n + 1) c5) (.inl rfl)) (fun x q => .inl q))
    obtain ⟨wx, hwx⟩ : ∃ wx, w5.setCell ⟨g, p + 1, none⟩ (.slice A5 (n + 1) c5) = wx := ⟨_, rfl⟩
    rw [hwx] at HRx HS5 HO5
    rw [hwx]
    clear hs5 hf5 ho5 hr5 hwx
    have hp2 : p + 2 < (cs.setIfInBounds (p + 1) (.slice A5 (n + 1) c5)).size := by rw [Array.size_setIfInBounds]; exact hp
    have hcell : wx.cell? ⟨g, p + 2, none⟩ = some ((cs.setIfInBounds (p + 1) (.slice A5 (n + 1) c5))[p + 2]) := by rw [HRx.out.cell (p + 2)]; exact Array.getElem?_eq_getElem hp2
    have hfz := HRx.out.frozen (p + 2)
    generalize (cs.setIfInBounds (p + 1) (.slice A5 (n + 1) c5))[p + 2] = vz at hcell
    go_wp2
    refine bodyPost_end (v := .tuple #[]) (by simp [results, Tryd.results44]) rfl ⟨rfl, A5, c5, HRx.out.set _ _, HS5.out.keep (fun b q => Below.heap_setCell _ _ _ _ (fun e => ownsRow_far HS5.out HRx.out (by decide) (by have e' : b = g := e; rw [← e']; exact q))), HF5.out, ?_⟩
    exact HO5.out.trans (Off.setCell (F := fun b => b = g ∨ OB (.slice A n c) b) wx g (p + 2) (.int .i64 z) (.inl rfl)) (fun x q => .inl q)
end Go.Proofs.YtgiobcpljbpmiaaDoor
