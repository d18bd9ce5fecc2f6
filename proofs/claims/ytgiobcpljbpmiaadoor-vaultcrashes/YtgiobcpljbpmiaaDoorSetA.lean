/-
  All steps made sure (settle); power; the file of a number; a new tape.
-/
import Derived.Test.YtgiobcpljbpmiaaDoorAftA
namespace Go.Proofs.YtgiobcpljbpmiaaDoor
open Go.RowKit
theorem wpList_clearS {ops : Array Oper} {rest : List Oper} {o : Oper} {a : Act} {w : World} {Q : Exit → Act → World → Prop} (hgd : o.guard = none) (x : Operand) (ho : o.op = .call { callee := .builtin .clear, args := #[x], argTypes := #[61] })
    (A : Option Addr) (n c : Nat) (S : List Stp) (hx : a.eval x = .slice A n c) (h : OwnS Tryd.stP w (.slice A n c) n S)
    (hk : ∀ w' xs', w'.ownsRow 0 83 3 (.slice A n c) n xs' → Off (OB (.slice A n c)) w w' → wpList Tryd.prog ops Q rest (a.put o.dst (.tuple #[])) w') : wpList Tryd.prog ops Q (o :: rest) a w := by
  obtain ⟨w', xs', hrun, h1, h2, _⟩ := run_clearS Tryd.stP (by intro u hu; simp [Value.cells] at hu; rcases hu with rfl | rfl | rfl <;> rfl) o.type w A n c _ h
  refine wpList_plain hgd fun K hK => ?_
  unfold Oper.wp execOp
  simp only [ho, resolve, invoke, builtin, Sem.run_bind, Sem.run_pure, Result.andThen_ok, List.map_toArray, List.map_cons, List.map_nil, hx, hrun]
  exact hK _ _ (hk w' xs' h1 h2)
theorem wpList_storeC {ops : Array Oper} {rest : List Oper} {o : Oper} {a : Act} {w : World} {Q : Exit → Act → World → Prop} (hgd : o.guard = none) (ty : TypeId) (x y : Operand) (ho : o.op = .store ty x y) (hty : ty = 32 ∨ ty = 61) (g k : Nat) (A : Option Addr) (n c : Nat) (T : TypeId) (cs : Array Value)
    (hx : a.eval x = .pointer (some ⟨g, k, none⟩)) (hy : a.eval y = .slice A n c) (hr : Row w g T cs) (hk : k < cs.size) (h : wpList Tryd.prog ops Q rest (a.put o.dst undef) (w.setCell ⟨g, k, none⟩ (.slice A n c))) : wpList Tryd.prog ops Q (o :: rest) a w :=
  wpList_plain hgd fun _ hK => wp_storeC ty x y ho hty g k A n c T cs hx hy hr hk (hK _ _ h)
set_option maxRecDepth 100000 in
set_option maxHeartbeats 2000000 in
theorem settle_any (g p n1 c1 m c2 : Nat) (A1 A2 : Option Addr) (l : List UInt8) (S : List Stp) (cs : Array Value) (w : World) (hr : Row w g 66 cs) (hp : p + 1 < cs.size) (h1 : cs[p]? = some (.slice A1 n1 c1)) (h2 : cs[p + 1]? = some (.slice A2 m c2)) (hO : Own w 0 5 (.slice A1 n1 c1) n1 l) (hS : OwnS Tryd.stP w (.slice A2 m c2) m S) (hok : okp l S) (hm : m ≤ 1000000000) :
    Calls Tryd.prog 72 #[.pointer (some ⟨g, p, none⟩)] w fun e w' => e = .returned (.tuple #[]) ∧ ∃ A' n' c', Row w' g 66 ((cs.setIfInBounds p (.slice A' n' c')).setIfInBounds (p + 1) (.slice A2 0 c2)) ∧ Own w' 0 5 (.slice A' n' c') n' (play l S) ∧ OwnS Tryd.stP w' (.slice A2 0 c2) 0 [] ∧ (∀ b, OB (.slice A' n' c') b → OB (.slice A1 n1 c1) b ∨ w.heap.size ≤ b) ∧ Off (fun b => b = g ∨ OB (.slice A1 n1 c1) b ∨ OB (.slice A2 m c2) b) w w' := by
  have hgl := hr.lt
  have HR := Lib.hid hr
  have HC1 := Lib.hid (fun wq (hb : Row wq g 66 cs) => show wq.cell? ⟨g, p, none⟩ = some (.slice A1 n1 c1) from (hb.cell p).trans h1)
  have HC2 := Lib.hid (fun wq (hb : Row wq g 66 cs) => show wq.cell? ⟨g, p + 1, none⟩ = some (.slice A2 m c2) from (hb.cell (p + 1)).trans h2)
  have hp0 : p < cs.size := by omega
  have HSt := Lib.hid hS
  have HN1 := Lib.hid (ownsRow_far hO hr (by decide))
  have HN2 := Lib.hid (ownsRow_far hS hr (by decide))
  have HAp := Lib.hid (fun b (q : OB (.slice A2 m c2) b) => ownsRow_apart hS hO (by decide) q)
  have HV2 := Lib.hid hS.lt
  have HPl := Lib.hid (play_any (.slice A1 n1 c1) n1 m c2 A2 l S w.drew hO hS.ss (fun b off e => HAp.out b (by rw [e]; rfl)) hok hm)
  clear hr h1 h2 hO hS hok
  go_enter Tryd.func72, Tryd.ntmps72
  go_wp2_with fail
  refine cutR (fun a a' w' => ∃ (A5 : Option Addr) (n5 c5 : Nat) (w5 : World), a' = ((((((((((((a.put (some 2) (.pointer (some ⟨g, p, none⟩))).put (some 3) (.pointer (some ⟨g, p, none⟩))).put (some 4) (.pointer (some ⟨g, p, none⟩))).put (some 5) (.pointer (some ⟨g, p, none⟩))).put (some 6) (.slice A1 n1 c1)).put (some 7) (.pointer (some ⟨g, p, none⟩))).put (some 8) (.pointer (some ⟨g, p, none⟩))).put (some 9) (.pointer (some ⟨g, p + 1, none⟩))).put (some 10) (.slice A2 m c2)).put (some 11) (.slice A5 n5 c5)).put (some 12) (.pointer (some ⟨g, p, none⟩))).put (some 13) (.pointer (some ⟨g, p, none⟩))) ∧ w' = w5.setCell ⟨g, p, none⟩ (.slice A5 n5 c5) ∧ Row w5 g 66 cs ∧ Own w5 0 5 (.slice A5 n5 c5) n5 (play l S) ∧ (∀ b, OB (.slice A5 n5 c5) b → OB (.slice A1 n1 c1) b ∨ w.heap.size ≤ b) ∧ Off (OB (.slice A1 n1 c1)) w w5) ?_ ?_
  · refine wp_region_noPanic ?_
    refine wp_region_held_drew (S := fun w' => w'.cell? ⟨g, p + 1, none⟩ = some (.slice A2 m c2)) (by kernel_rfl) (HC2.out _ HR.out) (fun hHeld => ?_)
    refine takeD (i := 0) (some 2) (.pointer (some ⟨g, p, none⟩)) rfl rfl (by kernel_rfl) (by kernel_rfl) (by kernel_rfl) (fun _ _ _ h => h) (Or.inl ⟨by rfl, fun _ _ => rfl⟩) hHeld ?_
    simp only [Act.put, List.setIfInBounds_toArray, List.set_cons_zero, List.set_cons_succ]
    refine takeD (i := 1) (some 3) (.pointer (some ⟨g, p, none⟩)) rfl rfl (by kernel_rfl) (by kernel_rfl) (by kernel_rfl) (fun _ _ _ h => h) (Or.inl ⟨by rfl, fun _ _ => rfl⟩) hHeld ?_
    simp only [Act.put, List.setIfInBounds_toArray, List.set_cons_zero, List.set_cons_succ]
    refine takeD (i := 2) (some 4) (.pointer (some ⟨g, p, none⟩)) rfl rfl (by kernel_rfl) (by kernel_rfl) (by kernel_rfl) (fun _ _ _ h => h) (yields_nil (by rfl) (.tmp 3) rfl _ rfl) hHeld ?_
    simp only [Act.put, List.setIfInBounds_toArray, List.set_cons_zero, List.set_cons_succ]
    refine takeD (i := 3) (some 5) (.pointer (some ⟨g, p, none⟩)) rfl rfl (by kernel_rfl) (by kernel_rfl) (by kernel_rfl) (fun _ _ _ h => h) (yields_fld63 (by rfl) (.tmp 4) 0 rfl (by decide) g p _ rfl rfl) hHeld ?_
    simp only [Act.put, List.setIfInBounds_toArray, List.set_cons_zero, List.set_cons_succ]
    refine takeD (i := 5) (some 7) (.pointer (some ⟨g, p, none⟩)) rfl rfl (by kernel_rfl) (by kernel_rfl) (by kernel_rfl) (fun _ _ _ h => h) (Or.inl ⟨by rfl, fun _ _ => rfl⟩) hHeld ?_
    simp only [Act.put, List.setIfInBounds_toArray, List.set_cons_zero, List.set_cons_succ]
    refine takeD (i := 6) (some 8) (.pointer (some ⟨g, p, none⟩)) rfl rfl (by kernel_rfl) (by kernel_rfl) (by kernel_rfl) (fun _ _ _ h => h) (yields_nil (by rfl) (.tmp 7) rfl _ rfl) hHeld ?_
    simp only [Act.put, List.setIfInBounds_toArray, List.set_cons_zero, List.set_cons_succ]
    refine takeD (i := 7) (some 9) (.pointer (some ⟨g, p + 1, none⟩)) rfl rfl (by kernel_rfl) (by kernel_rfl) (by kernel_rfl) (fun _ _ _ h => h) (yields_fld63 (by rfl) (.tmp 8) 1 rfl (by decide) g p _ rfl rfl) hHeld ?_
    simp only [Act.put, List.setIfInBounds_toArray, List.set_cons_zero, List.set_cons_succ]
    refine takeD (i := 8) (some 10) (.slice A2 m c2) rfl rfl (by kernel_rfl) (by kernel_rfl) (by kernel_rfl) (fun _ _ _ h => h) (yields_loadV (by rfl) 61 (.tmp 9) rfl (by decide) g (p + 1) _ rfl (fun _ h => h)) hHeld ?_
    simp only [Act.put, List.setIfInBounds_toArray, List.set_cons_zero, List.set_cons_succ]
    refine wpAnyH_ready (rs := [4]) (by kernel_rfl) (by decide) ?_
    refine AllReadyH.cons rfl (fun K' hK => ?_) AllReadyH.nil
    refine step_of rfl (wp_loadC 32 (.tmp 5) rfl (.inl rfl) g p _ rfl (HC1.out _ (show Row w.drew g 66 cs from HR.out)) ?_)
    refine hK.out _ _ (HC2.out _ (show Row w.drew g 66 cs from HR.out)) (fun hHeld1 => ?_)
    clear hK
    (try simp only [List.getElem_toArray, List.getElem_cons_succ, List.getElem_cons_zero, Act.put, List.setIfInBounds_toArray, List.set_cons_zero, List.set_cons_succ])
    refine wpAnyH_ready (rs := [9]) (by kernel_rfl) (by decide) ?_
    refine AllReadyH.cons rfl (fun K' hK => ?_) AllReadyH.nil
    go_simp
    refine HPl.out.mono ?_
    rintro e4 w4 ⟨A5, n5, c5, rfl, ho5, hf5, hoff5⟩
    have HO5 := Lib.hid ho5
    have HF5 := Lib.hid hf5
    have HOf := Lib.hid (show Off (OB (.slice A1 n1 c1)) w w4 from ⟨hoff5.os, hoff5.tape, hoff5.output, hoff5.size, hoff5.block⟩)
    have HR5 := Lib.hid (show Row w4 g 66 cs from (HOf.out.block g hgl HN1.out).trans HR.out)
    clear ho5 hf5 hoff5
    refine hK.out _ _ (HC2.out _ HR5.out) (fun hHeld2 => ?_)
    clear hK
    (try simp only [List.getElem_toArray, List.getElem_cons_succ, List.getElem_cons_zero, Act.put, List.setIfInBounds_toArray, List.set_cons_zero, List.set_cons_succ])
    refine takeD (i := 10) (some 12) (.pointer (some ⟨g, p, none⟩)) rfl rfl (by kernel_rfl) (by kernel_rfl) (by kernel_rfl) (fun _ _ _ h => h) (yields_nil (by rfl) (.tmp 2) rfl _ rfl) hHeld2 ?_
    simp only [Act.put, List.setIfInBounds_toArray, List.set_cons_zero, List.set_cons_succ]
    refine takeD (i := 11) (some 13) (.pointer (some ⟨g, p, none⟩)) rfl rfl (by kernel_rfl) (by kernel_rfl) (by kernel_rfl) (fun _ _ _ h => h) (yields_fld63 (by rfl) (.tmp 12) 0 rfl (by decide) g p _ rfl rfl) hHeld2 ?_
    simp only [Act.put, List.setIfInBounds_toArray, List.set_cons_zero, List.set_cons_succ]
    refine wpAnyH_ready (rs := [12]) (by kernel_rfl) (by decide) ?_
    refine AllReadyH.cons rfl (fun K' hK => ?_) AllReadyH.nil
    refine step_of rfl (wp_storeC 32 (.tmp 13) (.tmp 11) rfl (.inl rfl) g p A5 n5 c5 66 _ rfl rfl HR5.out hp0 ?_)
    refine hK.out _ _ (show World.cell? _ _ = _ by rw [(HR5.out.set p (.slice A5 n5 c5)).cell (p + 1), Array.getElem?_setIfInBounds, if_neg (by omega), ← HR5.out.cell (p + 1)]; exact HC2.out _ HR5.out) (fun hHeld3 => ?_)
    clear hK
    refine wpAnyH_done (by kernel_rfl) ?_ _
    refine NoPanic.normal ?_
    exact ⟨rfl, A5, n5, c5, w4, rfl, rfl, HR5.out, HO5.out, HF5.out, HOf.out⟩
  · rintro a' w' ⟨A5, n5, c5, w5, rfl, rfl, hr5, ho5, hf5, hoff5⟩
    have hgn : ∀ {b : Nat}, OB (.slice A5 n5 c5) b → b ≠ g := fun q e => ownsRow_far ho5 hr5 (by decide) (by rw [← e]; exact q)
    have HOx := Lib.hid (ho5.keep (w' := w5.setCell ⟨g, p, none⟩ (.slice A5 n5 c5)) (fun b q => Below.heap_setCell _ _ _ _ (hgn q)))
    have HRx := Lib.hid (hr5.set p (.slice A5 n5 c5))
    have HSx := Lib.hid (HSt.out.keep (w' := w5.setCell ⟨g, p, none⟩ (.slice A5 n5 c5)) (fun b q => (Below.heap_setCell _ _ _ _ (fun e => HN2.out (by have e' : b = g := e; rw [← e']; exact q))).trans (hoff5.block b (HV2.out b q).2 (HAp.out b q))))
    have HFx := Lib.hid ((hoff5.mono (F' := fun b => b = g ∨ OB (.slice A1 n1 c1) b ∨ OB (.slice A2 m c2) b) (fun b q => .inr (.inl q))).trans (Off.setCell (F := fun b => b = g ∨ OB (.slice A1 n1 c1) b ∨ OB (.slice A2 m c2) b) w5 g p (.slice A5 n5 c5) (.inl rfl)) (fun x q => .inl q))
    have HF5 := Lib.hid (fun b (q : OB (.slice A5 n5 c5) b) (q2 : OB (.slice A2 m c2) b) => show False from by
      rcases hf5 b q with q3 | q3
      · exact HAp.out b q2 q3
      · have := (HV2.out b q2).2; omega)
    have HG5 := Lib.hid hf5
    clear ho5 hr5 hoff5 hf5 hgn
    obtain ⟨wx, hwx⟩ : ∃ wx, w5.setCell ⟨g, p, none⟩ (.slice A5 n5 c5) = wx := ⟨_, rfl⟩
    rw [hwx] at HOx HRx HSx HFx
    rw [hwx]
    clear hwx
    have hC : wx.cell? ⟨g, p + 1, none⟩ = some (.slice A2 m c2) := by
      have := HR.out.cell (p + 1)
      rw [HRx.out.cell (p + 1), Array.getElem?_setIfInBounds, if_neg (by omega), ← this]; exact HC2.out _ HR.out
    simp only [Act.put, List.setIfInBounds_toArray, List.set_cons_zero, List.set_cons_succ]
    go_wp2_with (first
      | ((with_reducible refine wpList_clearS rfl (.tmp 17) rfl A2 m c2 S rfl HSx.out ?_); intro wc xs hxs hoc; have HXc := Lib.hid hxs; have HRc := Lib.hid (show Row wc g 66 (cs.setIfInBounds p (.slice A5 n5 c5)) from (hoc.block g (HRx.out.lt) HN2.out).trans HRx.out); have hfc := HRc.out.frozen (p + 1); have hCc : wc.cell? ⟨g, p + 1, none⟩ = some (.slice A2 m c2) := (World.cell?_of_block (a := ⟨g, p + 1, none⟩) (hoc.block g (HRx.out.lt) HN2.out)).trans hC; have HOc := Lib.hid hoc; clear hxs hoc)
      | (with_reducible refine wpList_headV Tryd.underlying61 Tryd.stP.run_size rfl (.tmp 22) _ rfl A2 m c2 0 .i64 0 rfl rfl rfl (Nat.zero_le _) ?_)
      | (with_reducible refine wpList_storeC rfl 61 (.tmp 25) (.tmp 23) rfl (by decide) g (p + 1) A2 0 c2 66 _ rfl rfl HRc.out (by rw [Array.size_setIfInBounds]; exact hp) ?_))
    have HNc := Lib.hid (fun b (q : OB (.slice A2 m c2) b) => show b ≠ g from fun e => HN2.out (by rw [← e]; exact q))
    have HZ : ∀ b, OB (.slice A2 0 c2) b → wc.heap[b]? = (wc.setCell ⟨g, p + 1, none⟩ (.slice A2 0 c2)).heap[b]? := fun b q => (Below.heap_setCell _ _ _ _ (HNc.out b (ob_len q))).symm
    refine bodyPost_end (v := .tuple #[]) (by simp [results, Tryd.results72]) rfl ⟨rfl, A5, n5, c5, HRc.out.set _ _, ?_, ?_, HG5.out, ?_⟩
    · refine HOx.out.keep (fun b q => ?_)
      have hb : b ≠ g := fun e => ownsRow_far HOx.out HRx.out (by decide) (by rw [← e]; exact q)
      rw [Below.heap_setCell _ _ _ _ hb]
      exact HOc.out.block b (HOx.out.lt b q).2 (fun q2 => HF5.out b q q2)
    · refine OwnS.keep (w := wc) ?_ (fun b q => (HZ b q).symm)
      have := ownsRow_cut HXc.out (Nat.zero_le m)
      rw [Nat.zero_mul, List.take_zero] at this
      exact this
    · exact (HFx.out.trans (HOc.out.mono (F' := fun b => b = g ∨ OB (.slice A1 n1 c1) b ∨ OB (.slice A2 m c2) b) (fun b q => .inr (.inr q))) (fun x q => .inl q)).trans (Off.setCell (F := fun b => b = g ∨ OB (.slice A1 n1 c1) b ∨ OB (.slice A2 m c2) b) wc g (p + 1) (.slice A2 0 c2) (.inl rfl)) (fun x q => .inl q)
end Go.Proofs.YtgiobcpljbpmiaaDoor
