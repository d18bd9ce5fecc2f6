/-
  A slice of numbers that came in; what a crash leaves of the program's tape.
-/
import Derived.Test.YtgiobcpljbpmiaaDoorTapD
import Derived.Test.YtgiobcpljbpmiaaDoorWireA
namespace Go.Proofs.YtgiobcpljbpmiaaDoor
open Go.ChangeShapes Go.WideShapes Go.ChangeAt Go.RowKit
set_option maxRecDepth 100000 in
theorem open_is {H : Type} {enc : TypeId × Value → H} {W : World} {base : Nat} {v : Value} {d : DataW H} {p : List MemPlace} (hv : Value.okWide Tryd.prog W .any base 37 v)
    (h : DataW.Trod enc Tryd.prog W 0 (fun _ => true) true 37 v d p) : ∃ (a0 : Option Addr) (len cap : Nat) (zs : List Int), v = .slice a0 len cap ∧ Is W a0 len zs := by
  obtain ⟨a0, len, cap, rfl⟩ := okWide_slice Tryd.underlying37 hv
  obtain ⟨fuel, hf⟩ := h
  rcases open_ints Tryd.underlying37 Tryd.underlying3 (by kernel_rfl) hf with ⟨hcs, _⟩ | ⟨x, l, c, zs, hcs, _, hl, hm, hz, hx, hcell, hwz⟩
  · simp [Value.cells] at hcs
    obtain ⟨rfl, rfl, rfl⟩ := hcs
    exact ⟨_, _, _, [], rfl, Is.nil _ _⟩
  · simp [Value.cells] at hcs
    obtain ⟨rfl, rfl, rfl⟩ := hcs
    simp only [Prod.mk.injEq] at hx
    obtain ⟨rfl, _⟩ := hx
    have hz' : zs.length = cap := by simpa using hz
    refine ⟨_, _, _, zs.take len, rfl, by rw [List.length_take]; omega, fun k z hk => ?_⟩
    rw [List.getElem?_take] at hk
    split at hk
    · rename_i hkl
      have hkz : k < zs.length := by omega
      have e2 : zs.getD k 0 = z := by rw [List.getD_eq_getElem?_getD, hk]; rfl
      have h0 := hcell 0 (by omega)
      have hc := hcell k hkz
      rw [e2] at hc
      have hw := bounds_i64 (hwz z (List.mem_of_getElem? hk))
      obtain ⟨b, off, spot⟩ := x
      have hspot : spot = none := by simpa [Addr.add] using World.cell?_spot h0
      subst hspot
      rw [Addr.add_mid] at hc
      exact ⟨b, off, rfl, World.block_lt_of_cell? W _ hc, hc, by have := hw.1; omega, by have := hw.2; omega⟩
    · cases hk

theorem yields_indexI {ops : Array Oper} {S : World → Prop} {o : Oper} {a : Act} (hw : Region.wanted o (yielded ops a.tmps) = true) (x y : Operand) (ho : o.op = .indexAddr 37 x y) (b off n c k : Nat)
    (hx : a.eval x = .slice (some ⟨b, off, none⟩) n c) (hy : a.eval y = .int .i64 (k : Int)) (hk : k < n) : YieldsIf Tryd.prog ops S o (.pointer (some ⟨b, off + k, none⟩)) a :=
  .inl ⟨hw, fun w _ => by
    have h1 : (0 : Int) ≤ (k : Int) ∧ (k : Int) < (n : Int) := by omega
    have hs : (sizeOf 3).run Tryd.prog w = .ok 1 w := by
      obtain ⟨i, hi, hz, hsize, hby⟩ := info_parts (show (Tryd.prog.info? 3).map (fun i => (i.zero, i.size, i.bytes)) = some (some (.int .i64 0), 1, 8) by kernel_rfl)
      simp [sizeOf, typeInfo, hi, hsize]
    unfold execOp
    simp [ho, hx, hy, Instr.indexAt, asIntOf, run_underlying Tryd.underlying37, Addr.add_mid, hk]⟩
theorem yields_cell {ops : Array Oper} {S : World → Prop} {o : Oper} {a : Act} (hw : Region.wanted o (yielded ops a.tmps) = true) (ty : TypeId) (x : Operand) (ho : o.op = .load ty x) (hty : ty = 3 ∨ ty = 4) (g k : Nat) (v : Value)
    (hx : a.eval x = .pointer (some ⟨g, k, none⟩)) (hS : ∀ w, S w → w.cell? ⟨g, k, none⟩ = some v) : YieldsIf Tryd.prog ops S o v a :=
  .inl ⟨hw, fun w h => by
    have hc := hS w h
    unfold execOp
    simp only [ho, hx]
    rcases hty with rfl | rfl <;> go_simp⟩
theorem yields_max {ops : Array Oper} {S : World → Prop} {o : Oper} {a : Act} (hw : Region.wanted o (yielded ops a.tmps) = true) (x y : Operand) (ho : o.op = .call { callee := .builtin .max, args := #[x, y], argTypes := #[3, 3] }) (p q r : Int)
    (hx : a.eval x = .int .i64 p) (hy : a.eval y = .int .i64 q) (hr : max p q = r) : YieldsIf Tryd.prog ops S o (.int .i64 r) a :=
  .inl ⟨hw, fun w _ => by
    have e : (if q > p then q else p) = r := by rw [← hr]; omega
    unfold execOp
    simp only [ho, resolve, invoke, builtin, Sem.run_bind, Sem.run_pure, Result.andThen_ok, List.map_toArray, List.map_cons, List.map_nil, hx, hy, run_max_int2, e]⟩
theorem yields_min {ops : Array Oper} {S : World → Prop} {o : Oper} {a : Act} (hw : Region.wanted o (yielded ops a.tmps) = true) (x y : Operand) (ho : o.op = .call { callee := .builtin .min, args := #[x, y], argTypes := #[3, 3] }) (p q r : Int)
    (hx : a.eval x = .int .i64 p) (hy : a.eval y = .int .i64 q) (hr : min p q = r) : YieldsIf Tryd.prog ops S o (.int .i64 r) a :=
  .inl ⟨hw, fun w _ => by
    have e : (if q < p then q else p) = r := by rw [← hr]; omega
    unfold execOp
    simp only [ho, resolve, invoke, builtin, Sem.run_bind, Sem.run_pure, Result.andThen_ok, List.map_toArray, List.map_cons, List.map_nil, hx, hy, run_min_int2, e]⟩
theorem yields_fld66 {ops : Array Oper} {S : World → Prop} {o : Oper} {a : Act} (hw : Region.wanted o (yielded ops a.tmps) = true) (T : TypeId) (x : Operand) (ho : o.op = .fieldAddr T x 0) (hT : T = 66) (g : Nat)
    (hx : a.eval x = .pointer (some ⟨g, 0, none⟩)) : YieldsIf Tryd.prog ops S o (.pointer (some ⟨g, 0, none⟩)) a :=
  .inl ⟨hw, fun w _ => by
    unfold execOp
    simp only [ho, hx]
    subst hT <;> go_simp⟩
theorem yields_indexF {ops : Array Oper} {S : World → Prop} {o : Oper} {a : Act} (hw : Region.wanted o (yielded ops a.tmps) = true) (x y : Operand) (ho : o.op = .indexAddr 64 x y) (g i : Nat)
    (hx : a.eval x = .pointer (some ⟨g, 0, none⟩)) (hy : a.eval y = .int .i64 (i : Int)) (hi : i < 4) : YieldsIf Tryd.prog ops S o (.pointer (some ⟨g, 3 * i, none⟩)) a :=
  .inl ⟨hw, fun w _ => by
    unfold execOp
    simp only [ho, hx, hy, Sem.run_bind, run_indexF g i _ rfl hi, Result.andThen_ok]
    rfl⟩
theorem yields_lenS {ops : Array Oper} {S : World → Prop} {o : Oper} {a : Act} (hw : Region.wanted o (yielded ops a.tmps) = true) (x : Operand) (ho : o.op = .call { callee := .builtin .len, args := #[x], argTypes := #[61] }) (A : Option Addr) (n c : Nat)
    (hx : a.eval x = .slice A n c) : YieldsIf Tryd.prog ops S o (.int .i64 (n : Int)) a :=
  .inl ⟨hw, fun w _ => by
    unfold execOp
    simp [ho, resolve, invoke, builtin, hx, Builtin.len_, run_underlying Tryd.underlying61]
    rfl⟩
/-- a file's three cells, stored -/
theorem Tryd.size63i : (Tryd.prog.info? 63).map (·.size) = some 3 := by kernel_rfl
theorem wpList_storeF {ops : Array Oper} {rest : List Oper} {o : Oper} {a : Act} {w : World} {Q : Exit → Act → World → Prop} (hgd : o.guard = none) (x y : Operand) (ho : o.op = .store 63 x y) (g p n c m d : Nat) (z : Int) (A B : Option Addr) (cs : Array Value)
    (hx : a.eval x = .pointer (some ⟨g, p, none⟩)) (hy : a.eval y = .agg #[.slice A n c, .slice B m d, .int .i64 z]) (hr : Row w g 66 cs) (hp : p + 2 < cs.size)
    (h : ∀ w', Row w' g 66 (((cs.setIfInBounds p (.slice A n c)).setIfInBounds (p + 1) (.slice B m d)).setIfInBounds (p + 2) (.int .i64 z)) → Off (· = g) w w' → wpList Tryd.prog ops Q rest (a.put o.dst undef) w') : wpList Tryd.prog ops Q (o :: rest) a w := by
  have hth : w.there g p 3 := fun j hj => ⟨by rw [hr.cell (p + j), Array.getElem?_eq_getElem (by omega)]; rfl, hr.frozen _⟩
  refine wpList_store_mid hgd 63 x y ho g p _ hx hy hth Tryd.size63i (by simp [Value.oneCell']) (h _ ?_ ?_)
  · exact ((hr.set p (.slice A n c)).set (p + 1) (.slice B m d)).set (p + 2) (.int .i64 z)
  · exact ((Off.setCell (F := fun x => x = g) w g p (.slice A n c) rfl).trans (Off.setCell (F := fun x => x = g) _ g (p + 1) (.slice B m d) rfl) (fun x q => .inl q)).trans (Off.setCell (F := fun x => x = g) _ g (p + 2) (.int .i64 z) rfl) (fun x q => .inl q)
theorem Tap.eqv {w : World} {g : Nat} {F : Nat → Nat → Prop} {S T : Tp} (h : Tap w g F S) (hf : ∀ i, i < 4 → T.f i = S.f i) (h1 : T.fuse = S.fuse) (h2 : T.down = S.down) : Tap w g F T := by
  obtain ⟨cs, hr, hs, h12, h13, h4⟩ := h.row
  exact ⟨h.lt, h.off, h.apart, by rw [h1]; exact h.fz, cs, hr, hs, by rw [h1]; exact h12, by rw [h2]; exact h13, fun i hi => by rw [hf i hi]; exact h4 i hi⟩
theorem Tap.wide {w : World} {g : Nat} {F : Nat → Nat → Prop} {S : Tp} (h : Tap w g F S) (k : Nat) (G : Nat → Prop) (h1 : ∀ b, G b → b < w.heap.size) (h2 : ∀ b, G b → b ≠ g) (h3 : ∀ i b, G b → ¬ F i b) : Tap w g (fun i b => F i b ∨ (i = k ∧ G b)) S := by
  obtain ⟨cs, hr, hs, h12, h13, h4⟩ := h.row
  refine ⟨fun i b q => q.elim (h.lt i b) (fun q => h1 b q.2), fun i b q => q.elim (h.off i b) (fun q => h2 b q.2), fun i j b q1 q2 => ?_, h.fz, cs, hr, hs, h12, h13, fun i hi => (h4 i hi).keep (fun _ _ => rfl) (fun _ _ => rfl) (fun _ q => .inl q)⟩
  rcases q1 with q1 | ⟨e1, q1⟩
  · rcases q2 with q2 | ⟨_, q2⟩
    · exact h.apart i j b q1 q2
    · exact absurd q1 (h3 i b q2)
  · rcases q2 with q2 | ⟨e2, _⟩
    · exact absurd q2 (h3 j b q1)
    · rw [e1, e2]
/-- behind the first k files of a crash -/
def Tp.crashK (S : Tp) (kept : List Int) (k : Nat) : Tp := ⟨fun i => if i < k then (S.crash kept).f i else ⟨[], []⟩, -1, false⟩
theorem crashK_succ (S : Tp) (kept : List Int) (k : Nat) : (⟨upd (S.crashK kept k).f k ⟨(S.f k).after (keepN kept k (S.f k).opn.length), []⟩, (S.crashK kept k).fuse, (S.crashK kept k).down⟩ : Tp) = S.crashK kept (k + 1) := by
  unfold Tp.crashK
  congr 1
  funext j
  unfold upd
  by_cases hj : j = k
  · subst hj; rw [if_pos rfl, if_pos (by omega)]; rfl
  · rw [if_neg hj]
    by_cases h : j < k
    · simp only [if_pos h, if_pos (show j < k + 1 by omega)]
    · simp only [if_neg h, if_neg (show ¬ j < k + 1 by omega)]
/-- a new tape, of the call's own memory -/
def Left (w : World) (S : Tp) (e : Ending) (w' : World) : Prop := ∃ g F, e = .returned (.pointer (some ⟨g, 0, none⟩)) ∧ Tap w' g F S ∧ (∀ b, Foot g F b → w.heap.size ≤ b) ∧ Below w.heap.size w w'
set_option maxRecDepth 100000 in
set_option maxHeartbeats 4000000 in
theorem Crash_any {S : Tp} (g K n c : Nat) (A : Option Addr) (kept : List Int) (F : Nat → Nat → Prop) (w : World) (h : Tap w g F S) (hok : S.ok K) (hK : K ≤ 100000000) (hI : Is w A n kept) :
    Calls Tryd.prog 15 #[.pointer (some ⟨g, 0, none⟩), .slice A n c] w (Left w (S.crash kept)) := by
  have HT := Lib.hid h
  have HOK := Lib.hid hok
  have HI := Lib.hid hI
  have HIl := Lib.hid hI.1
  clear h hok hI
  unfold Left
  go_enter Tryd.func15, Tryd.ntmps15
  go_wp2_with (go_at_call 12; refine (TNew_any _).mono ?_; rintro e1 w1 ⟨g2, rfl, hg2, ht2, hb1⟩; have HT2 := Lib.hid ht2; clear ht2)
  go_loopw [12] (fun x wr => ∃ (k : Nat) (F2 : Nat → Nat → Prop), k ≤ 4 ∧ x = .int .i64 (k : Int) ∧ Hid (Tap wr g2 F2 (S.crashK kept k)) ∧ Hid (∀ b, Foot g2 F2 b → w.heap.size ≤ b) ∧ Below w.heap.size w wr) (fun x _ => 4 - (intOf x).toNat)
  case atStart =>
    refine ⟨0, fun _ _ => False, by omega, rfl, Lib.hid (HT2.out.eqv (fun i _ => ?_) rfl rfl), Lib.hid (fun b q => ?_), hb1⟩
    · show (if i < 0 then (S.crash kept).f i else (⟨[], []⟩ : Fl)) = _
      rw [if_neg (Nat.not_lt_zero i)]; rfl
    · rcases q with rfl | ⟨_, q⟩
      · exact hg2
      · exact q.elim
  case round =>
    obtain ⟨k, F2, hk, rfl, HTk, HFk, hb⟩ := hrel
    by_cases hk4 : k < 4
    · obtain ⟨M, hM⟩ : ∃ M, (S.f k).opn.length = M := ⟨_, rfl⟩
      have HTS := Lib.hid (HT.out.below hb)
      obtain ⟨Ao, co, cop⟩ := HTS.out.steps hk4
      rw [hM] at cop
      have hgl := HTS.out.glt
      obtain ⟨N, hN⟩ : ∃ N, keepN kept k M = N := ⟨_, rfl⟩
      have hNM : N ≤ M := by rw [← hN]; exact keepN_le _ _ _
      have HAf := Lib.hid (fun wq (hq : Below wr.heap.size wr wq) => after_tap g k N K F wq (HTS.out.below hq) hk4 HOK.out hK (by omega))
      have HSu := Lib.hid (crashK_succ S kept k)
      rw [hM, hN] at HSu
      have HN := Lib.hid hN
      have hkI : (k : Int) < 4 := by omega
      clear hM
      by_cases hkn : k < n
      · obtain ⟨b, off, z, rfl, hbl, hz, hc, hz1, hz2⟩ := (HI.out.below hb).get hkn
        have hNz : (N : Int) = min (max z 0) M := by rw [← hN]; unfold keepN; rw [hz]; simp only; omega
        have HNz := Lib.hid hNz
        have HZ2 := Lib.hid (And.intro hz1 hz2)
        have hknI : (k : Int) < (n : Int) := by omega
        clear hN hNz hz hz1 hz2
        go_wp2_with fail
        refine cutR (fun a a' w' => a' = (((((((((((((((a.put (some 19) (.slice (some ⟨b, off, none⟩) n c)).put (some 20) (.int .i64 (k : Int))).put (some 21) (.pointer (some ⟨b, off + k, none⟩))).put (some 22) (.int .i64 z)).put (some 23) (.int .i64 (max z 0))).put (some 24) (.pointer (some ⟨g, 0, none⟩))).put (some 25) (.int .i64 (k : Int))).put (some 26) (.pointer (some ⟨g, 0, none⟩))).put (some 27) (.pointer (some ⟨g, 0, none⟩))).put (some 28) (.pointer (some ⟨g, 3 * k, none⟩))).put (some 29) (.pointer (some ⟨g, 3 * k + 1, none⟩))).put (some 30) (.slice Ao M co)).put (some 31) (.int .i64 (M : Int))).put (some 32) (.int .i64 (N : Int))).put (some 7) (.int .i64 (N : Int))) ∧ w' = wr.drew) ?_ ?_
        · have B0 : Below wr.heap.size wr wr.drew := (Below.refl wr.heap.size wr).drew
          refine wp_region_noPanic ?_
          refine wp_region_held_drew (S := fun w' => w'.cell? ⟨b, off + k, none⟩ = some (.int .i64 z) ∧ w'.cell? ⟨g, 3 * k + 1, none⟩ = some (.slice Ao M co)) (by kernel_rfl) ⟨hc, cop⟩ (fun hHeld => ?_)
          refine takeD (i := 0) (some 19) (.slice (some ⟨b, off, none⟩) n c) rfl rfl (by kernel_rfl) (by kernel_rfl) (by kernel_rfl) (fun _ _ _ h => h) (Or.inl ⟨by rfl, fun _ _ => rfl⟩) hHeld ?_
          simp only [Act.put, List.setIfInBounds_toArray, List.set_cons_zero, List.set_cons_succ]
          refine takeD (i := 1) (some 20) (.int .i64 (k : Int)) rfl rfl (by kernel_rfl) (by kernel_rfl) (by kernel_rfl) (fun _ _ _ h => h) (Or.inl ⟨by rfl, fun _ _ => rfl⟩) hHeld ?_
          simp only [Act.put, List.setIfInBounds_toArray, List.set_cons_zero, List.set_cons_succ]
          refine takeD (i := 2) (some 21) (.pointer (some ⟨b, off + k, none⟩)) rfl rfl (by kernel_rfl) (by kernel_rfl) (by kernel_rfl) (fun _ _ _ h => h) (yields_indexI (by rfl) (.tmp 19) (.tmp 20) rfl b off n c k rfl rfl hkn) hHeld ?_
          simp only [Act.put, List.setIfInBounds_toArray, List.set_cons_zero, List.set_cons_succ]
          refine takeD (i := 3) (some 22) (.int .i64 z) rfl rfl (by kernel_rfl) (by kernel_rfl) (by kernel_rfl) (fun _ _ _ h => h) (yields_cell (by rfl) 3 (.tmp 21) rfl (by decide) b (off + k) _ rfl (fun _ h => h.1)) hHeld ?_
          simp only [Act.put, List.setIfInBounds_toArray, List.set_cons_zero, List.set_cons_succ]
          refine takeD (i := 4) (some 23) (.int .i64 (max z 0)) rfl rfl (by kernel_rfl) (by kernel_rfl) (by kernel_rfl) (fun _ _ _ h => h) (yields_max (by rfl) (.tmp 22) _ rfl z 0 _ rfl rfl rfl) hHeld ?_
          simp only [Act.put, List.setIfInBounds_toArray, List.set_cons_zero, List.set_cons_succ]
          refine takeD (i := 5) (some 24) (.pointer (some ⟨g, 0, none⟩)) rfl rfl (by kernel_rfl) (by kernel_rfl) (by kernel_rfl) (fun _ _ _ h => h) (Or.inl ⟨by rfl, fun _ _ => rfl⟩) hHeld ?_
          simp only [Act.put, List.setIfInBounds_toArray, List.set_cons_zero, List.set_cons_succ]
          refine takeD (i := 6) (some 25) (.int .i64 (k : Int)) rfl rfl (by kernel_rfl) (by kernel_rfl) (by kernel_rfl) (fun _ _ _ h => h) (Or.inl ⟨by rfl, fun _ _ => rfl⟩) hHeld ?_
          simp only [Act.put, List.setIfInBounds_toArray, List.set_cons_zero, List.set_cons_succ]
          refine takeD (i := 7) (some 26) (.pointer (some ⟨g, 0, none⟩)) rfl rfl (by kernel_rfl) (by kernel_rfl) (by kernel_rfl) (fun _ _ _ h => h) (yields_nil (by rfl) (.tmp 24) rfl _ rfl) hHeld ?_
          simp only [Act.put, List.setIfInBounds_toArray, List.set_cons_zero, List.set_cons_succ]
          refine takeD (i := 8) (some 27) (.pointer (some ⟨g, 0, none⟩)) rfl rfl (by kernel_rfl) (by kernel_rfl) (by kernel_rfl) (fun _ _ _ h => h) (yields_fld66 (by rfl) 66 (.tmp 26) rfl (by decide) g rfl) hHeld ?_
          simp only [Act.put, List.setIfInBounds_toArray, List.set_cons_zero, List.set_cons_succ]
          refine takeD (i := 9) (some 28) (.pointer (some ⟨g, 3 * k, none⟩)) rfl rfl (by kernel_rfl) (by kernel_rfl) (by kernel_rfl) (fun _ _ _ h => h) (yields_indexF (by rfl) (.tmp 27) (.tmp 25) rfl g k rfl rfl hk4) hHeld ?_
          simp only [Act.put, List.setIfInBounds_toArray, List.set_cons_zero, List.set_cons_succ]
          refine takeD (i := 10) (some 29) (.pointer (some ⟨g, 3 * k + 1, none⟩)) rfl rfl (by kernel_rfl) (by kernel_rfl) (by kernel_rfl) (fun _ _ _ h => h) (yields_fld63 (by rfl) (.tmp 28) 1 rfl (by decide) g (3 * k) _ rfl rfl) hHeld ?_
          simp only [Act.put, List.setIfInBounds_toArray, List.set_cons_zero, List.set_cons_succ]
          refine takeD (i := 11) (some 30) (.slice Ao M co) rfl rfl (by kernel_rfl) (by kernel_rfl) (by kernel_rfl) (fun _ _ _ h => h) (yields_loadV (by rfl) 61 (.tmp 29) rfl (by decide) g (3 * k + 1) _ rfl (fun _ h => h.2)) hHeld ?_
          simp only [Act.put, List.setIfInBounds_toArray, List.set_cons_zero, List.set_cons_succ]
          refine takeD (i := 12) (some 31) (.int .i64 (M : Int)) rfl rfl (by kernel_rfl) (by kernel_rfl) (by kernel_rfl) (fun _ _ _ h => h) (yields_lenS (by rfl) (.tmp 30) rfl Ao M co rfl) hHeld ?_
          simp only [Act.put, List.setIfInBounds_toArray, List.set_cons_zero, List.set_cons_succ]
          refine takeD (i := 13) (some 32) (.int .i64 (N : Int)) rfl rfl (by kernel_rfl) (by kernel_rfl) (by kernel_rfl) (fun _ _ _ h => h) (yields_min (by rfl) (.tmp 23) (.tmp 31) rfl (max z 0) M _ rfl rfl HNz.out.symm) hHeld ?_
          simp only [Act.put, List.setIfInBounds_toArray, List.set_cons_zero, List.set_cons_succ]
          refine takeD (i := 14) (some 7) (.int .i64 (N : Int)) rfl rfl (by kernel_rfl) (by kernel_rfl) (by kernel_rfl) (fun _ _ _ h => h) (Or.inl ⟨by rfl, fun _ _ => rfl⟩) hHeld ?_
          (try simp only [Act.put, List.setIfInBounds_toArray, List.set_cons_zero, List.set_cons_succ])
          refine wpAnyH_done (by kernel_rfl) ?_ _
          refine NoPanic.normal ?_
          exact ⟨rfl, rfl, rfl⟩
        · rintro a' w' ⟨rfl, rfl⟩
          simp only [Act.put, List.setIfInBounds_toArray, List.set_cons_zero, List.set_cons_succ]
          have hTd := Lib.hid (show Tap wr.drew g2 F2 (S.crashK kept k) from HTk.out.below ((Below.refl wr.heap.size wr).drew))
          go_wp2_with (first
            | (with_reducible refine wpList_indexF rfl (.tmp 36) (.tmp 34) rfl g k _ rfl rfl rfl hk4 ?_)
            | (go_at_call 36; refine (HAf.out _ ((Below.refl wr.heap.size wr).drew)).mono ?_; rintro e3 w3 ⟨A3, n3, c3, rfl, ho3, hb3⟩; have HO3 := Lib.hid ho3; have HT3 := Lib.hid (hTd.out.below hb3); obtain ⟨cs, hr3, hs3, h12, h13, h4⟩ := HT3.out.row; have HR3 := Lib.hid hr3; have HS3 := Lib.hid (And.intro hs3 (And.intro h12 h13)); clear ho3 hr3 hs3 h12 h13 h4)
            | (with_reducible refine wpList_indexF rfl (.tmp 47) (.tmp 41) rfl g2 k _ rfl rfl rfl hk4 ?_)
            | ((with_reducible refine wpList_storeF rfl (.tmp 48) (.tmp 45) rfl g2 (3 * k) n3 c3 0 0 _ A3 none cs rfl rfl HR3.out (by have := HS3.out.1; omega) ?_); intro w4 hr4 ho4; have HR4 := Lib.hid hr4; have HO4 := Lib.hid ho4; clear hr4 ho4))
          go_roundw
          case rel =>
            have hsz := HS3.out.1
            have hbw : wr.heap.size ≤ w3.heap.size := hb3.size
            have hgw : g2 < wr.heap.size := HTk.out.glt
            have hTw := HT3.out.wide k (OB (.slice A3 n3 c3)) (fun b q => (HO3.out.lt b q).2) (fun b q => by have q1 : wr.heap.size ≤ b := (HO3.out.lt b q).1; omega) (fun i b q q2 => by have q1 : wr.heap.size ≤ b := (HO3.out.lt b q).1; have := HTk.out.lt i b q2; omega)
            have hL := HO3.out.length
            have hp := hTw.put (i := k) (f' := ⟨(S.f k).after N, []⟩) HR3.out HR4.out (by rw [Array.size_setIfInBounds, Array.size_setIfInBounds, Array.size_setIfInBounds]; exact hsz) (by rw [set2 12 (by omega) (by omega), Array.getElem?_setIfInBounds, if_neg (by omega)]; exact HS3.out.2.1) (by rw [set2 13 (by omega) (by omega), Array.getElem?_setIfInBounds, if_neg (by omega)]; exact HS3.out.2.2) hTw.fz hk4
              (fun j hj hjk q hq => by rw [set2 _ (by omega) (by omega), Array.getElem?_setIfInBounds, if_neg (by omega)]) (HO4.out.mono (fun b (q : b = g2) => .inl q)) ⟨A3, n3, c3, none, 0, 0, ?_, ?_, ?_, ?_, OwnS.nil _ _, fun b q => .inl (.inr ⟨rfl, q⟩), (fun b (q : none = some b) => by cases q)⟩
            · obtain ⟨⟨F4, hF4, hT4⟩, _⟩ := hp
              have hT5 : Tap w4 g2 F4 (S.crashK kept (k + 1)) := by rw [← HSu.out]; exact hT4
              refine ⟨k + 1, F4, by omega, by go_num, Lib.hid hT5, Lib.hid (fun b q => ?_), ?_⟩
              · have hbs := hb.size
                rcases q with rfl | ⟨i, q⟩
                · exact HFk.out _ (.inl rfl)
                · rcases hF4 i b q with (q | ⟨_, q⟩) | q
                  · exact HFk.out b (.inr ⟨i, q⟩)
                  · have q1 : wr.heap.size ≤ b := (HO3.out.lt b q).1
                    omega
                  · omega
              · have b3 : Below w.heap.size w w3 := hb.trans (Below.mono (show Below wr.heap.size wr w3 from ((Below.refl wr.heap.size wr).drew).trans hb3) hb.size)
                exact b3.trans (HO4.out.below (fun x (q : x = g2) => by rw [q]; exact HFk.out _ (.inl rfl)) b3.size)
            · rw [set2 _ (by omega) (by omega), Array.getElem?_setIfInBounds, if_pos rfl, if_pos (by omega)]
            · rw [Array.getElem?_setIfInBounds, if_neg (by omega), Array.getElem?_setIfInBounds, if_pos rfl, if_pos (by rw [Array.size_setIfInBounds]; omega)]
            · rw [Array.getElem?_setIfInBounds, if_pos rfl, if_pos (by rw [Array.size_setIfInBounds, Array.size_setIfInBounds]; omega)]
              show some (Value.int .i64 (n3 : Int)) = some (Value.int .i64 (((S.f k).after N).length : Int))
              rw [hL]
            · exact ownsRow_base (HO3.out.keep (fun b q => HO4.out.block b (HO3.out.lt b q).2 (fun (q2 : b = g2) => by have q1 : wr.heap.size ≤ b := (HO3.out.lt b q).1; omega))) (Nat.zero_le _)
          case measure => simp [intOf]; omega
      · have hN0 : N = 0 := by rw [← hN]; unfold keepN; rw [List.getElem?_eq_none (by rw [HIl.out]; omega)]
        have hknI : ¬ (k : Int) < (n : Int) := by omega
        subst hN0
        clear hN
        have hTd := HTk
        go_wp2_with (first
          | (with_reducible refine wpList_indexF rfl (.tmp 36) (.tmp 34) rfl g k _ rfl rfl rfl hk4 ?_)
          | (go_at_call 36; refine (HAf.out _ (Below.refl _ _)).mono ?_; rintro e3 w3 ⟨A3, n3, c3, rfl, ho3, hb3⟩; have HO3 := Lib.hid ho3; have HT3 := Lib.hid (hTd.out.below hb3); obtain ⟨cs, hr3, hs3, h12, h13, h4⟩ := HT3.out.row; have HR3 := Lib.hid hr3; have HS3 := Lib.hid (And.intro hs3 (And.intro h12 h13)); clear ho3 hr3 hs3 h12 h13 h4)
          | (with_reducible refine wpList_indexF rfl (.tmp 47) (.tmp 41) rfl g2 k _ rfl rfl rfl hk4 ?_)
          | ((with_reducible refine wpList_storeF rfl (.tmp 48) (.tmp 45) rfl g2 (3 * k) n3 c3 0 0 _ A3 none cs rfl rfl HR3.out (by have := HS3.out.1; omega) ?_); intro w4 hr4 ho4; have HR4 := Lib.hid hr4; have HO4 := Lib.hid ho4; clear hr4 ho4))
        go_roundw
        case rel =>
          have hsz := HS3.out.1
          have hbw : wr.heap.size ≤ w3.heap.size := hb3.size
          have hgw : g2 < wr.heap.size := HTk.out.glt
          have hTw := HT3.out.wide k (OB (.slice A3 n3 c3)) (fun b q => (HO3.out.lt b q).2) (fun b q => by have q1 : wr.heap.size ≤ b := (HO3.out.lt b q).1; omega) (fun i b q q2 => by have q1 : wr.heap.size ≤ b := (HO3.out.lt b q).1; have := HTk.out.lt i b q2; omega)
          have hL := HO3.out.length
          have hp := hTw.put (i := k) (f' := ⟨(S.f k).after 0, []⟩) HR3.out HR4.out (by rw [Array.size_setIfInBounds, Array.size_setIfInBounds, Array.size_setIfInBounds]; exact hsz) (by rw [set2 12 (by omega) (by omega), Array.getElem?_setIfInBounds, if_neg (by omega)]; exact HS3.out.2.1) (by rw [set2 13 (by omega) (by omega), Array.getElem?_setIfInBounds, if_neg (by omega)]; exact HS3.out.2.2) hTw.fz hk4
            (fun j hj hjk q hq => by rw [set2 _ (by omega) (by omega), Array.getElem?_setIfInBounds, if_neg (by omega)]) (HO4.out.mono (fun b (q : b = g2) => .inl q)) ⟨A3, n3, c3, none, 0, 0, ?_, ?_, ?_, ?_, OwnS.nil _ _, fun b q => .inl (.inr ⟨rfl, q⟩), (fun b (q : none = some b) => by cases q)⟩
          · obtain ⟨⟨F4, hF4, hT4⟩, _⟩ := hp
            have hT5 : Tap w4 g2 F4 (S.crashK kept (k + 1)) := by rw [← HSu.out]; exact hT4
            refine ⟨k + 1, F4, by omega, by go_num, Lib.hid hT5, Lib.hid (fun b q => ?_), ?_⟩
            · have hbs := hb.size
              rcases q with rfl | ⟨i, q⟩
              · exact HFk.out _ (.inl rfl)
              · rcases hF4 i b q with (q | ⟨_, q⟩) | q
                · exact HFk.out b (.inr ⟨i, q⟩)
                · have q1 : wr.heap.size ≤ b := (HO3.out.lt b q).1
                  omega
                · omega
            · have b3 : Below w.heap.size w w3 := hb.trans (Below.mono (show Below wr.heap.size wr w3 from hb3) hb.size)
              exact b3.trans (HO4.out.below (fun x (q : x = g2) => by rw [q]; exact HFk.out _ (.inl rfl)) b3.size)
          · rw [set2 _ (by omega) (by omega), Array.getElem?_setIfInBounds, if_pos rfl, if_pos (by omega)]
          · rw [Array.getElem?_setIfInBounds, if_neg (by omega), Array.getElem?_setIfInBounds, if_pos rfl, if_pos (by rw [Array.size_setIfInBounds]; omega)]
          · rw [Array.getElem?_setIfInBounds, if_pos rfl, if_pos (by rw [Array.size_setIfInBounds, Array.size_setIfInBounds]; omega)]
            show some (Value.int .i64 (n3 : Int)) = some (Value.int .i64 (((S.f k).after 0).length : Int))
            rw [hL]
          · exact ownsRow_base (HO3.out.keep (fun b q => HO4.out.block b (HO3.out.lt b q).2 (fun (q2 : b = g2) => by have q1 : wr.heap.size ≤ b := (HO3.out.lt b q).1; omega))) (Nat.zero_le _)
        case measure => simp [intOf]; omega
    · obtain rfl : k = 4 := by omega
      have HQ := Lib.hid (HTk.out.eqv (T := S.crash kept) (fun i hi => by unfold Tp.crashK; exact (if_pos hi).symm) rfl rfl)
      go_wp2
      go_ret
      exact ⟨g2, F2, rfl, HQ.out, HFk.out, hb⟩
end Go.Proofs.YtgiobcpljbpmiaaDoor
