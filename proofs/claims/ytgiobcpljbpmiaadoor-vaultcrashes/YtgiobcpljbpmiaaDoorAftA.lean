/-
  What a file has behind its first open steps (after), and all steps made sure (settle).
-/
import Derived.Test.YtgiobcpljbpmiaaDoorAddA
namespace Go.Proofs.YtgiobcpljbpmiaaDoor
open Go.RowKit
theorem ownsRow_rebase {w : World} {base base' e k : Nat} {v : Value} {n : Nat} {xs : List Value} (h : w.ownsRow base e k v n xs) (hb : ∀ b, OB v b → base' ≤ b) : w.ownsRow base' e k v n xs := by
  refine ⟨h.1, ?_⟩
  rcases h.2 with h0 | ⟨g, cap, cur, hv, hg, hr⟩
  · exact .inl h0
  · exact .inr ⟨g, cap, cur, hv, hb g (by rw [hv]; rfl), hr⟩
theorem ob_some {b off n c : Nat} : OB (.slice (some ⟨b, off, none⟩) n c) b := rfl
theorem yields_headV {t e s : TypeId} (ht : Tryd.prog.underlying t = some (.slice e)) (hs : ∀ w, (sizeOf e).run Tryd.prog w = .ok s w) {ops : Array Oper} {S : World → Prop} {o : Oper} {a : Act} (hw : Region.wanted o (yielded ops a.tmps) = true) (x1 x2 : Operand) (ho : o.op = .slice t x1 none (some x2) none)
    (A : Option Addr) (n c m : Nat) (kd : IntKind) (i : Int) (hx : a.eval x1 = .slice A n c) (hy : a.eval x2 = .int kd i) (hi : i = m) (hm : m ≤ c) : YieldsIf Tryd.prog ops S o (.slice A m c) a :=
  .inl ⟨hw, fun w _ => by
    unfold execOp
    simp [ho, hx, hy, run_headV ht hs A n c m kd i hi hm, Result.andThen]⟩
theorem OwnS.cut {t e k y : Nat} {z : Value} {enc : Stp → List Value} {E : StK t e k y z enc} {w : World} {A : Option Addr} {n c : Nat} {S : List Stp} (h : OwnS E w (.slice A n c) n S) : OwnS E w (.slice A 0 c) 0 [] := by
  have := ownsRow_cut h (Nat.zero_le n)
  rw [Nat.zero_mul, List.take_zero] at this
  exact this
/-- clear(steps) -/
theorem run_clearS {t e k y : Nat} {z : Value} {enc : Stp → List Value} (E : StK t e k y z enc) (hz1 : ∀ u ∈ z.cells.toList, u.oneCell' = true) (ty : TypeId) (w : World) (A : Option Addr) (n c : Nat) (xs : List Value) (h : w.ownsRow 0 e k (.slice A n c) n xs) :
    ∃ w' xs', (Builtin.clear_ #[t] ty #[.slice A n c]).run Tryd.prog w = .ok (.tuple #[]) w' ∧ w'.ownsRow 0 e k (.slice A n c) n xs' ∧ Off (OB (.slice A n c)) w w' ∧ w'.heap.size = w.heap.size := by
  obtain ⟨i, hi, hz, hsize, hby⟩ := info_parts E.hi
  rcases h.2 with ⟨hv, hn⟩ | ⟨g, cap, cur, hv, hb, hg, hnc, hcm, hcs, ht⟩
  · injection hv with q1 q2 q3
    subst q1 q2 q3
    exact ⟨w, xs, by simp [Builtin.clear_, run_underlying E.ht], h, Off.of_below (Below.refl _ _), rfl⟩
  · injection hv with q1 q2 q3
    subst q1 q3
    rcases n with _ | n
    · exact ⟨w, xs, by simp [Builtin.clear_, run_underlying E.ht], h, Off.of_below (Below.refl _ _), rfl⟩
    · have hzl : (Builtin.zeroCells z.cells (n + 1)).toList.length = (n + 1) * k := by rw [Array.length_toList, size_zeroCells, E.hz]
      have hle : (n + 1) * k ≤ cur.size := by rw [hcs]; exact Nat.mul_le_mul_right k hnc
      have hst := storeCells_free Tryd.prog g 0 e (0, 0) (Builtin.zeroCells z.cells (n + 1)).toList 0 cur w hg (fun j _ => by simp) (by rw [hzl]; omega) (fun u hu => by
        simp only [Builtin.zeroCells, Array.toList_map, List.mem_map] at hu
        obtain ⟨j, _, rfl⟩ := hu
        have hp : j % z.cells.size < z.cells.size := Nat.mod_lt _ (by rw [E.hz]; exact E.pos)
        rw [getElem!_pos z.cells (j % z.cells.size) hp]
        exact hz1 _ (Array.getElem_mem_toList hp))
      rw [Nat.add_zero, List.take_zero, List.nil_append, Nat.zero_add, hzl] at hst
      refine ⟨w.setRow g ((Builtin.zeroCells z.cells (n + 1)).toList ++ List.drop ((n + 1) * k) cur.toList).toArray, (Builtin.zeroCells z.cells (n + 1)).toList, ?_, ⟨hzl, .inr ⟨g, c, _, rfl, hb, setRow_heap w g cur _ e _ hg, hnc, hcm, ?_, ?_⟩⟩, (Off.of_below (F := OB (.slice (some ⟨g, 0, none⟩) (n + 1) c)) (Below.refl _ _)).trans ⟨rfl, rfl, rfl, by simp [World.setRow], fun j _ hj => heap_setRow w g _ j (fun e2 => hj (by rw [e2]; rfl))⟩ (fun x q => .inl q), by simp [World.setRow]⟩
      · have hv : (zeroValue e).run Tryd.prog w = .ok z w := by simp [zeroValue, typeInfo, hi, hz]
        simp [Builtin.clear_, run_underlying E.ht, hv, hst]
      · rw [List.size_toArray, List.length_append, hzl, List.length_drop, Array.length_toList]; omega
      · rw [List.take_append_of_le_length (by rw [hzl]; exact Nat.le_refl _), List.take_of_length_le (by rw [hzl]; exact Nat.le_refl _)]
set_option maxRecDepth 100000 in
set_option maxHeartbeats 2000000 in
theorem after_ok (g p n1 c1 m c2 k : Nat) (A1 A2 : Option Addr) (l : List UInt8) (S : List Stp) (cs : Array Value) (w : World) (hr : Row w g 66 cs) (h1 : cs[p]? = some (.slice A1 n1 c1)) (h2 : cs[p + 1]? = some (.slice A2 m c2)) (hO : Own w 0 5 (.slice A1 n1 c1) n1 l) (hS : OwnS Tryd.stP w (.slice A2 m c2) m S) (hok : okp l S) (hk : k ≤ m) (hm : m ≤ 1000000000) :
    Calls Tryd.prog 36 #[.pointer (some ⟨g, p, none⟩), .int .i64 (k : Int)] w fun e w' => ∃ A' n' c', e = .returned (.slice A' n' c') ∧ Own w' w.heap.size 5 (.slice A' n' c') n' (play l (S.take k)) ∧ Below w.heap.size w w' := by
  have hgl := hr.lt
  have HC1 := Lib.hid (fun wq (hb : Row wq g 66 cs) => show wq.cell? ⟨g, p, none⟩ = some (.slice A1 n1 c1) from (hb.cell p).trans h1)
  have HC2 := Lib.hid (fun wq (hb : Row wq g 66 cs) => show wq.cell? ⟨g, p + 1, none⟩ = some (.slice A2 m c2) from (hb.cell (p + 1)).trans h2)
  have hl1 : n1 ≤ 1048576 := by have := okp_sure hok; have := hO.length; omega
  have hkc : k ≤ c2 := by
    obtain ⟨A9, c9, e9, h9⟩ := hS.form
    injection e9 with e1 e2 e3
    omega
  have HB := Lib.hid hO.bs
  have HSt := Lib.hid (hS.ss.take hk)
  have HV := Lib.hid hS.lt
  have HOK := Lib.hid (okp_take hok k)
  have KP : Hid (∀ wq, Below w.heap.size w wq → Row wq g 66 cs) := Lib.hid (fun wq hb => hr.below hb hgl)
  have HCl := Lib.hid (fun wq hB => TClone_any A1 n1 c1 l wq hB (by omega))
  have HPl := Lib.hid (fun v n wq hO hS hne => play_any v n k c2 A2 l (S.take k) wq hO hS hne HOK.out (by omega))
  clear hr h1 h2 hO hS hok
  generalize S.take k = Sk at *
  go_enter Tryd.func36, Tryd.ntmps36
  go_wp2_with fail
  have B0 : Below w.heap.size w w.drew := (Below.refl w.heap.size w).drew
  refine cutR (fun a a' w' => ∃ (A3 : Option Addr) (n3 c3 : Nat) (A5 : Option Addr) (n5 c5 : Nat), a' = (((((((((((((a.put (some 5) (.pointer (some ⟨g, p, none⟩))).put (some 6) (.pointer (some ⟨g, p, none⟩))).put (some 7) (.pointer (some ⟨g, p, none⟩))).put (some 8) (.slice A1 n1 c1)).put (some 9) (.slice A3 n3 c3)).put (some 10) (.pointer (some ⟨g, p, none⟩))).put (some 11) (.pointer (some ⟨g, p, none⟩))).put (some 12) (.pointer (some ⟨g, p + 1, none⟩))).put (some 13) (.slice A2 m c2)).put (some 14) (.int .i64 (k : Int))).put (some 15) (.slice A2 k c2)).put (some 16) (.slice A5 n5 c5)).put (some 4) (.slice A5 n5 c5)) ∧ Own w' w.heap.size 5 (.slice A5 n5 c5) n5 (play l Sk) ∧ Below w.heap.size w w') ?_ ?_
  · refine wp_region_noPanic ?_
    refine wp_region_held_drew (S := fun w' => Row w' g 66 cs) (by kernel_rfl) (KP.out _ B0) (fun hHeld => ?_)
    refine takeD (i := 0) (some 5) (.pointer (some ⟨g, p, none⟩)) rfl rfl (by kernel_rfl) (by kernel_rfl) (by kernel_rfl) (fun _ _ _ h => h) (Or.inl ⟨by rfl, fun _ _ => rfl⟩) hHeld ?_
    simp only [Act.put, List.setIfInBounds_toArray, List.set_cons_zero, List.set_cons_succ]
    refine takeD (i := 1) (some 6) (.pointer (some ⟨g, p, none⟩)) rfl rfl (by kernel_rfl) (by kernel_rfl) (by kernel_rfl) (fun _ _ _ h => h) (yields_nil (by rfl) (.tmp 5) rfl _ rfl) hHeld ?_
    simp only [Act.put, List.setIfInBounds_toArray, List.set_cons_zero, List.set_cons_succ]
    refine takeD (i := 2) (some 7) (.pointer (some ⟨g, p, none⟩)) rfl rfl (by kernel_rfl) (by kernel_rfl) (by kernel_rfl) (fun _ _ _ h => h) (yields_fld63 (by rfl) (.tmp 6) 0 rfl (by decide) g p _ rfl rfl) hHeld ?_
    simp only [Act.put, List.setIfInBounds_toArray, List.set_cons_zero, List.set_cons_succ]
    refine takeD (i := 3) (some 8) (.slice A1 n1 c1) rfl rfl (by kernel_rfl) (by kernel_rfl) (by kernel_rfl) (fun _ _ _ h => h) (yields_loadV (by rfl) 32 (.tmp 7) rfl (by decide) g p _ rfl HC1.out) hHeld ?_
    simp only [Act.put, List.setIfInBounds_toArray, List.set_cons_zero, List.set_cons_succ]
    refine takeD (i := 5) (some 10) (.pointer (some ⟨g, p, none⟩)) rfl rfl (by kernel_rfl) (by kernel_rfl) (by kernel_rfl) (fun _ _ _ h => h) (Or.inl ⟨by rfl, fun _ _ => rfl⟩) hHeld ?_
    simp only [Act.put, List.setIfInBounds_toArray, List.set_cons_zero, List.set_cons_succ]
    refine takeD (i := 6) (some 11) (.pointer (some ⟨g, p, none⟩)) rfl rfl (by kernel_rfl) (by kernel_rfl) (by kernel_rfl) (fun _ _ _ h => h) (yields_nil (by rfl) (.tmp 10) rfl _ rfl) hHeld ?_
    simp only [Act.put, List.setIfInBounds_toArray, List.set_cons_zero, List.set_cons_succ]
    refine takeD (i := 7) (some 12) (.pointer (some ⟨g, p + 1, none⟩)) rfl rfl (by kernel_rfl) (by kernel_rfl) (by kernel_rfl) (fun _ _ _ h => h) (yields_fld63 (by rfl) (.tmp 11) 1 rfl (by decide) g p _ rfl rfl) hHeld ?_
    simp only [Act.put, List.setIfInBounds_toArray, List.set_cons_zero, List.set_cons_succ]
    refine takeD (i := 8) (some 13) (.slice A2 m c2) rfl rfl (by kernel_rfl) (by kernel_rfl) (by kernel_rfl) (fun _ _ _ h => h) (yields_loadV (by rfl) 61 (.tmp 12) rfl (by decide) g (p + 1) _ rfl HC2.out) hHeld ?_
    simp only [Act.put, List.setIfInBounds_toArray, List.set_cons_zero, List.set_cons_succ]
    refine takeD (i := 9) (some 14) (.int .i64 (k : Int)) rfl rfl (by kernel_rfl) (by kernel_rfl) (by kernel_rfl) (fun _ _ _ h => h) (Or.inl ⟨by rfl, fun _ _ => rfl⟩) hHeld ?_
    simp only [Act.put, List.setIfInBounds_toArray, List.set_cons_zero, List.set_cons_succ]
    refine takeD (i := 10) (some 15) (.slice A2 k c2) rfl rfl (by kernel_rfl) (by kernel_rfl) (by kernel_rfl) (fun _ _ _ h => h) (yields_headV Tryd.underlying61 Tryd.stP.run_size (by rfl) (.tmp 13) (.tmp 14) rfl A2 m c2 k .i64 _ rfl rfl rfl hkc) hHeld ?_
    simp only [Act.put, List.setIfInBounds_toArray, List.set_cons_zero, List.set_cons_succ]
    refine wpAnyH_ready (rs := [4]) (by kernel_rfl) (by decide) ?_
    refine AllReadyH.cons rfl (fun K' hK => ?_) AllReadyH.nil
    go_simp
    refine (HCl.out w.drew HB.out).mono ?_
    rintro e3 w3 ⟨A3, c3, rfl, hc3, ho3, hb3⟩
    have B3 : Below w.heap.size w w3 := B0.trans hb3
    have HO3 := Lib.hid ho3
    clear ho3 hb3
    refine hK.out _ _ (KP.out _ B3) (fun hHeld1 => ?_)
    clear hK
    (try simp only [Act.put, List.setIfInBounds_toArray, List.set_cons_zero, List.set_cons_succ])
    refine wpAnyH_ready (rs := [11]) (by kernel_rfl) (by decide) ?_
    refine AllReadyH.cons rfl (fun K' hK => ?_) AllReadyH.nil
    go_simp
    refine (HPl.out _ n1 w3 (ownsRow_base HO3.out (Nat.zero_le _)) (HSt.out.below B3) (fun b off e q => by have q1 := (HO3.out.lt b q).1; have q2 := (HV.out b (by rw [e]; rfl)).2; have q3 : w.drew.heap.size = w.heap.size := rfl; omega)).mono ?_
    rintro e4 w4 ⟨A5, n5, c5, rfl, ho5, hf5, hoff5⟩
    have B5 : Below w.heap.size w w4 := B3.trans (hoff5.below (fun x q => (HO3.out.lt x q).1) B3.size)
    have HO5 := Lib.hid (show Own w4 w.heap.size 5 (.slice A5 n5 c5) n5 (play l Sk) from ownsRow_rebase ho5 (fun b q => by rcases hf5 b q with q | q; exact (HO3.out.lt b q).1; exact Nat.le_trans B3.size q))
    clear ho5 hf5 hoff5
    refine hK.out _ _ (KP.out _ B5) (fun hHeld2 => ?_)
    clear hK
    (try simp only [Act.put, List.setIfInBounds_toArray, List.set_cons_zero, List.set_cons_succ])
    refine takeD (i := 12) (some 4) (.slice A5 n5 c5) rfl rfl (by kernel_rfl) (by kernel_rfl) (by kernel_rfl) (fun _ _ _ h => h) (Or.inl ⟨by rfl, fun _ _ => rfl⟩) hHeld2 ?_
    (try simp only [Act.put, List.setIfInBounds_toArray, List.set_cons_zero, List.set_cons_succ])
    refine wpAnyH_done (by kernel_rfl) ?_ _
    refine NoPanic.normal ?_
    exact ⟨rfl, A3, n1, c3, A5, n5, c5, rfl, HO5.out, B5⟩
  · rintro a' w' ⟨A3, n3, c3, A5, n5, c5, rfl, ho5, hb5⟩
    simp only [Act.put, List.setIfInBounds_toArray, List.set_cons_zero, List.set_cons_succ]
    go_wp2
    go_ret
    exact ⟨A5, n5, c5, rfl, ho5, hb5⟩
end Go.Proofs.YtgiobcpljbpmiaaDoor
