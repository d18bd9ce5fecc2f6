/-
  The document's Now; the laws for its regions; Is, Open, Read, Fuse.
-/
import Derived.Test.YtpnllbadalcnaaaRefB
namespace Go.Proofs.Ytpnllbadalcnaaa
open Go.RowKit
theorem Try.size38 (w : World) : (sizeOf 38).run Try.prog w = .ok 2 w := by
  obtain ⟨i, hi, hs⟩ : ∃ i, Try.prog.info? 38 = some i ∧ i.size = 2 := by
    have h : (Try.prog.info? 38).map (·.size) = some 2 := by kernel_rfl
    cases hq : Try.prog.info? 38 with
    | none => simp [hq] at h
    | some i => simp [hq] at h; exact ⟨i, rfl, h⟩
  simp [sizeOf, typeInfo, hi, hs]
theorem Try.size38i : (Try.prog.info? 38).map (·.size) = some 2 := by kernel_rfl
theorem run_indexM (g i : Nat) (z : Int) (hz : z = i) (hi : i < 4) (w : World) : (Instr.indexAt 39 (.pointer (some ⟨g, 0, none⟩)) (.int .i64 z)).run Try.prog w = .ok (.pointer (some ⟨g, 2 * i, none⟩)) w := by
  subst hz
  have h1 : (0 : Int) ≤ (i : Int) ∧ (i : Int) < 4 := by omega
  simp [Instr.indexAt, Instr.sureAddr, asIntOf, run_underlying Try.underlying39, h1, Addr.add_mid, hi, Nat.mul_comm]
theorem wpList_indexM {ops : Array Oper} {rest : List Oper} {o : Oper} {a : Act} {w : World} {Q : Exit → Act → World → Prop} (hgd : o.guard = none) (x1 x2 : Operand) (ho : o.op = .indexAddr 39 x1 x2) (g i : Nat) (z : Int)
    (hx : a.eval x1 = .pointer (some ⟨g, 0, none⟩)) (hy : a.eval x2 = .int .i64 z) (hz : z = i) (hi : i < 4)
    (h : wpList Try.prog ops Q rest (a.put o.dst (.pointer (some ⟨g, 2 * i, none⟩))) w) : wpList Try.prog ops Q (o :: rest) a w :=
  wpList_plain hgd fun _ hK => by
    unfold Oper.wp execOp
    simp only [ho, hx, hy, Sem.run_bind, run_indexM g i z hz hi, Result.andThen_ok]
    exact hK _ _ h
theorem yields_indexM {ops : Array Oper} {S : World → Prop} {o : Oper} {a : Act} (hw : Region.wanted o (yielded ops a.tmps) = true) (x y : Operand) (ho : o.op = .indexAddr 39 x y) (g i : Nat)
    (hx : a.eval x = .pointer (some ⟨g, 0, none⟩)) (hy : a.eval y = .int .i64 (i : Int)) (hi : i < 4) : YieldsIf Try.prog ops S o (.pointer (some ⟨g, 2 * i, none⟩)) a :=
  .inl ⟨hw, fun w _ => by
    unfold execOp
    simp only [ho, hx, hy, Sem.run_bind, run_indexM g i _ rfl hi, Result.andThen_ok]
    rfl⟩
theorem yields_fld38 {ops : Array Oper} {S : World → Prop} {o : Oper} {a : Act} (hw : Region.wanted o (yielded ops a.tmps) = true) (x : Operand) (k : Nat) (ho : o.op = .fieldAddr 38 x k) (hk : k = 0 ∨ k = 1) (g p q : Nat) (hq : q = p + k)
    (hx : a.eval x = .pointer (some ⟨g, p, none⟩)) : YieldsIf Try.prog ops S o (.pointer (some ⟨g, q, none⟩)) a :=
  .inl ⟨hw, fun w _ => by
    unfold execOp
    simp only [ho, hx]
    subst hq
    rcases hk with rfl | rfl <;> go_simp⟩
theorem yields_load38 {ops : Array Oper} {S : World → Prop} {o : Oper} {a : Act} (hw : Region.wanted o (yielded ops a.tmps) = true) (x : Operand) (ho : o.op = .load 38 x) (b off : Nat) (A1 : Option Addr) (n1 c1 : Nat) (A2 : Option Addr) (m c2 : Nat)
    (hx : a.eval x = .pointer (some ⟨b, off, none⟩)) (hS : ∀ w, S w → w.rangeAt b off (filR A1 n1 c1 A2 m c2).toList) : YieldsIf Try.prog ops S o (.agg (filR A1 n1 c1 A2 m c2)) a :=
  yieldsIf_load_mid hw 38 x ho b off hx _ _ hS Try.underlying38 rfl Try.size38i
theorem yields_lenR {ops : Array Oper} {S : World → Prop} {o : Oper} {a : Act} (hw : Region.wanted o (yielded ops a.tmps) = true) (x : Operand) (ho : o.op = .call { callee := .builtin .len, args := #[x], argTypes := #[36] }) (A : Option Addr) (n c : Nat)
    (hx : a.eval x = .slice A n c) : YieldsIf Try.prog ops S o (.int .i64 (n : Int)) a :=
  .inl ⟨hw, fun w _ => by
    unfold execOp
    simp [ho, resolve, invoke, builtin, hx, Builtin.len_, run_underlying Try.underlying36]
    rfl⟩
theorem filR_cell {w : World} {g p : Nat} {A1 : Option Addr} {n1 c1 : Nat} {A2 : Option Addr} {m c2 : Nat} (h : w.rangeAt g p (filR A1 n1 c1 A2 m c2).toList) : w.cell? ⟨g, p, none⟩ = some (.slice A1 n1 c1) ∧ w.cell? ⟨g, p + 1, none⟩ = some (.slice A2 m c2) := ⟨h 0 _ rfl, h 1 _ rfl⟩
theorem rangeAt_below {w w' : World} {g p : Nat} {l : List Value} (h : w.rangeAt g p l) (hg : g < w.heap.size) (hb : Below w.heap.size w w') : w'.rangeAt g p l := fun j v hj => (hb.cell (p := ⟨g, p + j, none⟩) hg).trans (h j v hj)
set_option maxRecDepth 100000 in
set_option maxHeartbeats 2000000 in
theorem Now_any {S : Tp} (g i K : Nat) (F : Nat → Nat → Prop) (w : World) (h : TapM w g F S) (hi : i < 4) (hok : S.ok K) (hK : K ≤ 100000000) :
    Calls Try.prog 43 #[.pointer (some ⟨g, 0, none⟩), .int .i64 (i : Int)] w fun e w' => ∃ A' n' c', e = .returned (.slice A' n' c') ∧ Own w' w.heap.size 5 (.slice A' n' c') n' (S.f i).now ∧ Below w.heap.size w w' := by
  have hgl := h.glt
  obtain ⟨A1, n1, c1, A2, c2, hr, hO, hS, _, _⟩ := h.file hi
  have hmm := (hok i).2
  have HAf := Lib.hid (RAfter_any A1 A2 n1 c1 (S.f i).opn.length c2 (S.f i).opn.length (S.f i).sure (S.f i).opn w.drew hO.bs hS.ss (hok i).1 (Nat.le_refl _) (by omega))
  have HE := Lib.hid (show play (S.f i).sure ((S.f i).opn.take (S.f i).opn.length) = (S.f i).now by rw [List.take_length]; rfl)
  rw [HE.out] at HAf
  obtain ⟨m, hm⟩ : ∃ m, (S.f i).opn.length = m := ⟨_, rfl⟩
  rw [hm] at hr HAf
  have hr0 : w.rangeAt g (2 * i) (filR A1 n1 c1 A2 m c2).toList := hr
  have HR := Lib.hid hr0
  clear h hO hS hok hm HE hr hr0 hmm
  generalize (S.f i).now = L at *
  go_enter Try.func43, Try.ntmps43
  go_wp2_with fail
  refine cutR (fun a a' w' => ∃ (A5 : Option Addr) (n5 c5 : Nat), a' = ((((((((((((((((a.put (some 5) (.pointer (some ⟨g, 0, none⟩))).put (some 6) (.int .i64 (i : Int))).put (some 7) (.pointer (some ⟨g, 0, none⟩))).put (some 8) (.pointer (some ⟨g, 0, none⟩))).put (some 9) (.pointer (some ⟨g, 2 * i, none⟩))).put (some 10) (.agg (filR A1 n1 c1 A2 m c2))).put (some 11) (.pointer (some ⟨g, 0, none⟩))).put (some 12) (.int .i64 (i : Int))).put (some 13) (.pointer (some ⟨g, 0, none⟩))).put (some 14) (.pointer (some ⟨g, 0, none⟩))).put (some 15) (.pointer (some ⟨g, 2 * i, none⟩))).put (some 16) (.pointer (some ⟨g, 2 * i + 1, none⟩))).put (some 17) (.slice A2 m c2)).put (some 18) (.int .i64 (m : Int))).put (some 19) (.slice A5 n5 c5)).put (some 4) (.slice A5 n5 c5)) ∧ Own w' w.heap.size 5 (.slice A5 n5 c5) n5 L ∧ Below w.heap.size w w') ?_ ?_
  · refine wp_region_noPanic ?_
    refine wp_region_held_drew (S := fun w' => w'.rangeAt g (2 * i) (filR A1 n1 c1 A2 m c2).toList) (by kernel_rfl) (show World.rangeAt w.drew g (2 * i) _ from HR.out) (fun hHeld => ?_)
    refine takeD (i := 0) (some 5) (.pointer (some ⟨g, 0, none⟩)) rfl rfl (by kernel_rfl) (by kernel_rfl) (by kernel_rfl) (fun _ _ _ h => h) (Or.inl ⟨by rfl, fun _ _ => rfl⟩) hHeld ?_
    simp only [Act.put, List.setIfInBounds_toArray, List.set_cons_zero, List.set_cons_succ]
    refine takeD (i := 1) (some 6) (.int .i64 (i : Int)) rfl rfl (by kernel_rfl) (by kernel_rfl) (by kernel_rfl) (fun _ _ _ h => h) (Or.inl ⟨by rfl, fun _ _ => rfl⟩) hHeld ?_
    simp only [Act.put, List.setIfInBounds_toArray, List.set_cons_zero, List.set_cons_succ]
    refine takeD (i := 2) (some 7) (.pointer (some ⟨g, 0, none⟩)) rfl rfl (by kernel_rfl) (by kernel_rfl) (by kernel_rfl) (fun _ _ _ h => h) (yields_nil (by rfl) (.tmp 5) rfl _ rfl) hHeld ?_
    simp only [Act.put, List.setIfInBounds_toArray, List.set_cons_zero, List.set_cons_succ]
    refine takeD (i := 3) (some 8) (.pointer (some ⟨g, 0, none⟩)) rfl rfl (by kernel_rfl) (by kernel_rfl) (by kernel_rfl) (fun _ _ _ h => h) (yields_fld66 (by rfl) 41 (.tmp 7) rfl (by decide) g rfl) hHeld ?_
    simp only [Act.put, List.setIfInBounds_toArray, List.set_cons_zero, List.set_cons_succ]
    refine takeD (i := 4) (some 9) (.pointer (some ⟨g, 2 * i, none⟩)) rfl rfl (by kernel_rfl) (by kernel_rfl) (by kernel_rfl) (fun _ _ _ h => h) (yields_indexM (by rfl) (.tmp 8) (.tmp 6) rfl g i rfl rfl hi) hHeld ?_
    simp only [Act.put, List.setIfInBounds_toArray, List.set_cons_zero, List.set_cons_succ]
    refine takeD (i := 5) (some 10) (.agg (filR A1 n1 c1 A2 m c2)) rfl rfl (by kernel_rfl) (by kernel_rfl) (by kernel_rfl) (fun _ _ _ h => h) (yields_load38 (by rfl) (.tmp 9) rfl g (2 * i) A1 n1 c1 A2 m c2 rfl (fun _ h => h)) hHeld ?_
    simp only [Act.put, List.setIfInBounds_toArray, List.set_cons_zero, List.set_cons_succ]
    refine takeD (i := 6) (some 11) (.pointer (some ⟨g, 0, none⟩)) rfl rfl (by kernel_rfl) (by kernel_rfl) (by kernel_rfl) (fun _ _ _ h => h) (Or.inl ⟨by rfl, fun _ _ => rfl⟩) hHeld ?_
    simp only [Act.put, List.setIfInBounds_toArray, List.set_cons_zero, List.set_cons_succ]
    refine takeD (i := 7) (some 12) (.int .i64 (i : Int)) rfl rfl (by kernel_rfl) (by kernel_rfl) (by kernel_rfl) (fun _ _ _ h => h) (Or.inl ⟨by rfl, fun _ _ => rfl⟩) hHeld ?_
    simp only [Act.put, List.setIfInBounds_toArray, List.set_cons_zero, List.set_cons_succ]
    refine takeD (i := 8) (some 13) (.pointer (some ⟨g, 0, none⟩)) rfl rfl (by kernel_rfl) (by kernel_rfl) (by kernel_rfl) (fun _ _ _ h => h) (yields_nil (by rfl) (.tmp 11) rfl _ rfl) hHeld ?_
    simp only [Act.put, List.setIfInBounds_toArray, List.set_cons_zero, List.set_cons_succ]
    refine takeD (i := 9) (some 14) (.pointer (some ⟨g, 0, none⟩)) rfl rfl (by kernel_rfl) (by kernel_rfl) (by kernel_rfl) (fun _ _ _ h => h) (yields_fld66 (by rfl) 41 (.tmp 13) rfl (by decide) g rfl) hHeld ?_
    simp only [Act.put, List.setIfInBounds_toArray, List.set_cons_zero, List.set_cons_succ]
    refine takeD (i := 10) (some 15) (.pointer (some ⟨g, 2 * i, none⟩)) rfl rfl (by kernel_rfl) (by kernel_rfl) (by kernel_rfl) (fun _ _ _ h => h) (yields_indexM (by rfl) (.tmp 14) (.tmp 12) rfl g i rfl rfl hi) hHeld ?_
    simp only [Act.put, List.setIfInBounds_toArray, List.set_cons_zero, List.set_cons_succ]
    refine takeD (i := 11) (some 16) (.pointer (some ⟨g, 2 * i + 1, none⟩)) rfl rfl (by kernel_rfl) (by kernel_rfl) (by kernel_rfl) (fun _ _ _ h => h) (yields_fld38 (by rfl) (.tmp 15) 1 rfl (by decide) g (2 * i) _ rfl rfl) hHeld ?_
    simp only [Act.put, List.setIfInBounds_toArray, List.set_cons_zero, List.set_cons_succ]
    refine takeD (i := 12) (some 17) (.slice A2 m c2) rfl rfl (by kernel_rfl) (by kernel_rfl) (by kernel_rfl) (fun _ _ _ h => h) (yields_loadV (by rfl) 36 (.tmp 16) rfl (by decide) g (2 * i + 1) _ rfl (fun _ h => (filR_cell h).2)) hHeld ?_
    simp only [Act.put, List.setIfInBounds_toArray, List.set_cons_zero, List.set_cons_succ]
    refine takeD (i := 13) (some 18) (.int .i64 (m : Int)) rfl rfl (by kernel_rfl) (by kernel_rfl) (by kernel_rfl) (fun _ _ _ h => h) (yields_lenR (by rfl) (.tmp 17) rfl A2 m c2 rfl) hHeld ?_
    simp only [Act.put, List.setIfInBounds_toArray, List.set_cons_zero, List.set_cons_succ]
    refine wpAnyH_ready (rs := [14]) (by kernel_rfl) (by decide) ?_
    refine AllReadyH.cons rfl (fun K' hK => ?_) AllReadyH.nil
    go_simp
    refine HAf.out.mono ?_
    rintro e4 w4 ⟨A5, n5, c5, rfl, ho5, hb5⟩
    have HO5 := Lib.hid (show Own w4 w.heap.size 5 (.slice A5 n5 c5) n5 L from ho5)
    have B5 : Below w.heap.size w w4 := ((Below.refl w.heap.size w).drew).trans hb5
    clear ho5 hb5
    refine hK.out _ _ (rangeAt_below HR.out hgl B5) (fun hHeld2 => ?_)
    clear hK
    (try simp only [Act.put, List.setIfInBounds_toArray, List.set_cons_zero, List.set_cons_succ])
    refine takeD (i := 15) (some 4) (.slice A5 n5 c5) rfl rfl (by kernel_rfl) (by kernel_rfl) (by kernel_rfl) (fun _ _ _ h => h) (Or.inl ⟨by rfl, fun _ _ => rfl⟩) hHeld2 ?_
    (try simp only [Act.put, List.setIfInBounds_toArray, List.set_cons_zero, List.set_cons_succ])
    refine wpAnyH_done (by kernel_rfl) ?_ _
    refine NoPanic.normal ?_
    exact ⟨rfl, A5, n5, c5, rfl, HO5.out, B5⟩
  · rintro a' w' ⟨A5, n5, c5, rfl, ho5, hb5⟩
    simp only [Act.put, List.setIfInBounds_toArray, List.set_cons_zero, List.set_cons_succ]
    go_wp2
    go_ret
    exact ⟨A5, n5, c5, rfl, ho5, hb5⟩
set_option maxRecDepth 100000 in
set_option maxHeartbeats 2000000 in
theorem MRead_any {S : Tp} (g K : Nat) (z : Int) (F : Nat → Nat → Prop) (w : World) (h : TapM w g F S) (hok : S.ok K) (hK : K ≤ 100000000) :
    Calls Try.prog 35 #[.pointer (some ⟨g, 0, none⟩), .int .i64 z] w (Got w (S.readL z) (S.readE z)) := by
  have HT := Lib.hid h
  by_cases hz : isF z
  · obtain ⟨i, rfl, hi, hzi⟩ := isF_nat hz
    have HI := Lib.hid (fun w => is_yes hz w)
    have c13 := h.cell.2
    by_cases hd : S.down = true
    · have HL := Lib.hid (show S.readL (i : Int) = [] by unfold Tp.readL; rw [if_neg (by rw [hd]; exact fun q => by cases q.2)])
      have HE := Lib.hid (show S.readE (i : Int) = 100 by unfold Tp.readE; rw [if_pos hz, if_pos hd])
      rw [hd] at c13
      clear h hok hz hzi hd
      generalize S.readL (i : Int) = L at *
      generalize S.readE (i : Int) = E at *
      go_enter Try.func35, Try.ntmps35
      go_wp2_with (go_at_call 19; refine (HI.out _).mono ?_; rintro e1 w1 ⟨rfl, rfl⟩)
      go_ret2
      rw [HL.out, HE.out]
      exact Got.none _ _
    · have hd' : S.down = false := by simpa using hd
      rw [hd'] at c13
      have HL := Lib.hid (show S.readL (i : Int) = (S.f i).now by unfold Tp.readL Tp.now; rw [if_pos ⟨hz, hd'⟩, hzi])
      have HE := Lib.hid (show S.readE (i : Int) = 0 by unfold Tp.readE; rw [if_pos hz, if_neg hd])
      have HAf := Lib.hid (Now_any g i K F w h hi hok hK)
      clear h hok hz hzi hd hd'
      generalize S.readL (i : Int) = L at *
      generalize S.readE (i : Int) = E at *
      generalize (S.f i).now = L2 at *
      go_enter Try.func35, Try.ntmps35
      go_wp2_with (first
        | (go_at_call 19; refine (HI.out _).mono ?_; rintro e1 w1 ⟨rfl, rfl⟩)
        | (go_at_call 43; refine HAf.out.mono ?_; rintro e2 w2 ⟨A2, n2, c2, rfl, ho2, hb2⟩))
      go_ret2
      rw [HL.out, HE.out]
      exact ⟨A2, n2, c2, rfl, ho2, hb2⟩
  · have HL := Lib.hid (show S.readL z = [] by unfold Tp.readL; rw [if_neg (fun q => hz q.1)])
    have HE := Lib.hid (show S.readE z = 1 by unfold Tp.readE; rw [if_neg hz])
    have HI := Lib.hid (fun w => is_no hz w)
    clear h hok hz
    generalize S.readL z = L at *
    generalize S.readE z = E at *
    go_enter Try.func35, Try.ntmps35
    go_wp2_with (go_at_call 19; refine (HI.out _).mono ?_; rintro e1 w1 ⟨rfl, rfl⟩)
    go_ret2
    rw [HL.out, HE.out]
    exact Got.none _ _
set_option maxRecDepth 100000 in
theorem MOpen_any {S : Tp} (g : Nat) (z : Int) (F : Nat → Nat → Prop) (w : World) (h : TapM w g F S) :
    Calls Try.prog 36 #[.pointer (some ⟨g, 0, none⟩), .int .i64 z] w fun e w' => e = .returned (.int .i64 (S.openN z : Int)) ∧ w = w' := by
  by_cases hz : isF z
  · obtain ⟨i, rfl, hi, hzi⟩ := isF_nat hz
    have HI := Lib.hid (fun w => is_yes hz w)
    have HE := Lib.hid (show S.openN (i : Int) = (S.f i).opn.length by unfold Tp.openN; rw [if_pos hz, hzi])
    obtain ⟨A1, n1, c1, A2, c2, hr, _⟩ := h.file hi
    have cop := (filR_cell hr).2
    clear h hz hzi hr
    generalize S.openN (i : Int) = E at *
    generalize (S.f i).opn.length = M at *
    go_enter Try.func36, Try.ntmps36
    go_wp2_with (first
      | (go_at_call 19; refine (HI.out _).mono ?_; rintro e1 w1 ⟨rfl, rfl⟩)
      | (with_reducible refine wpList_indexM rfl (.tmp 11) (.tmp 9) rfl g i _ rfl rfl rfl hi ?_))
    go_ret
    rw [HE.out]
    exact ⟨rfl, rfl⟩
  · have HE := Lib.hid (show S.openN z = 0 by unfold Tp.openN; rw [if_neg hz])
    have HI := Lib.hid (fun w => is_no hz w)
    clear h hz
    generalize S.openN z = E at *
    go_enter Try.func36, Try.ntmps36
    go_wp2_with (go_at_call 19; refine (HI.out _).mono ?_; rintro e1 w1 ⟨rfl, rfl⟩)
    go_ret
    rw [HE.out]
    exact ⟨rfl, rfl⟩
set_option maxRecDepth 100000 in
set_option maxHeartbeats 1000000 in
theorem MFuse_any {S : Tp} (g : Nat) (n : Int) (F : Nat → Nat → Prop) (w : World) (h : TapM w g F S) (hn : n < 9223372036854775808) :
    Calls Try.prog 34 #[.pointer (some ⟨g, 0, none⟩), .int .i64 n] w fun e w' => e = .returned (.tuple #[]) ∧ TapM w' g F (S.fuseT n) ∧ Off (· = g) w w' := by
  obtain ⟨cs, hr, hs, h12, h13, _⟩ := h.row
  have HT := Lib.hid h
  have HR := Lib.hid hr
  have H13 := Lib.hid h13
  have HS := Lib.hid hs
  have HN := Lib.hid hn
  have c12 : w.cell? ⟨g, 8, none⟩ = some (.int .i64 S.fuse) := (hr.cell 8).trans h12
  have f12 := hr.frozen 8
  clear h hr h12 h13 hs hn
  unfold Tp.fuseT
  by_cases hm : ¬ (-1 : Int) ≤ n
  · have HI := Lib.hid (show max n (-1) = -1 by omega)
    go_enter Try.func34, Try.ntmps34
    go_wp2
    refine bodyPost_end (v := .tuple #[]) (by simp [results, Try.results34]) rfl ⟨rfl, ?_, Off.setCell w g 8 _ rfl⟩
    rw [HI.out]
    refine HT.out.head HR.out (HR.out.set 8 _) (by rw [Array.size_setIfInBounds]; exact HS.out) ?_ ?_ (by decide) ?_ (Off.setCell w g 8 _ rfl)
    · rw [Array.getElem?_setIfInBounds, if_pos rfl, if_pos (by rw [HS.out]; omega)]
    · rw [Array.getElem?_setIfInBounds, if_neg (by omega)]; exact H13.out
    · intro k hk; rw [Array.getElem?_setIfInBounds, if_neg (by omega)]
  · have hm' : (-1 : Int) ≤ n := by omega
    have HI := Lib.hid (show max n (-1) = n by omega)
    clear hm
    go_enter Try.func34, Try.ntmps34
    go_wp2
    refine bodyPost_end (v := .tuple #[]) (by simp [results, Try.results34]) rfl ⟨rfl, ?_, Off.setCell w g 8 _ rfl⟩
    rw [HI.out]
    refine HT.out.head HR.out (HR.out.set 8 _) (by rw [Array.size_setIfInBounds]; exact HS.out) ?_ ?_ HN.out ?_ (Off.setCell w g 8 _ rfl)
    · rw [Array.getElem?_setIfInBounds, if_pos rfl, if_pos (by rw [HS.out]; omega)]
    · rw [Array.getElem?_setIfInBounds, if_neg (by omega)]; exact H13.out
    · intro k hk; rw [Array.getElem?_setIfInBounds, if_neg (by omega)]
end Go.Proofs.Ytpnllbadalcnaaa
