/-
  play: steps that are made in the bytes' own room.
-/
import Derived.Test.YtgiobcpljbpmiaaDoorStepA
namespace Go.Proofs.YtgiobcpljbpmiaaDoor
open Go.RowKit
theorem Tryd.agg77 : AggType Tryd.prog 83 3 := ⟨_, Tryd.underlying83, rfl, by kernel_rfl⟩
theorem Tryd.size77 : (Tryd.prog.info? 83).map (·.size) = some 3 := by kernel_rfl
abbrev stp0 : Array Value := #[.int .i32 0, .bool false, .int .u8 0]
theorem stp0_size : stp0.size = 3 := rfl
theorem stpC_size (s : Stp) : (stpC s).toArray.size = 3 := by cases s <;> rfl
theorem stpC_one (s : Stp) : (stpC s).toArray.all (·.oneCell') = true := by cases s <;> simp [stpC, Value.oneCell']
theorem stp_app {w : World} {g : Nat} {b : UInt8} (h : Row w g 83 (stpC (.app b)).toArray) : w.cell? ⟨g, 0, none⟩ = some (.int .i32 0) ∧ w.cell? ⟨g, 1, none⟩ = some (.bool false) ∧ w.cell? ⟨g, 2, none⟩ = some (.int .u8 (b.toNat : Int)) := ⟨h.cell 0, h.cell 1, h.cell 2⟩
theorem stp_cut {w : World} {g n : Nat} (h : Row w g 83 (stpC (.cut n)).toArray) : w.cell? ⟨g, 0, none⟩ = some (.int .i32 (n : Int)) ∧ w.cell? ⟨g, 1, none⟩ = some (.bool true) ∧ w.cell? ⟨g, 2, none⟩ = some (.int .u8 0) := ⟨h.cell 0, h.cell 1, h.cell 2⟩
theorem zeroS : (Tryd.prog.info? 83).map (fun i => (i.zero, i.size)) = some (some (.agg stp0), 3) := by kernel_rfl
theorem run_allocS (w : World) : (Instr.alloc 83 true (.tuple #[])).run Tryd.prog w = .ok (.pointer (some ⟨w.heap.size, 0, none⟩)) (w.alloc (.cells stp0 83)) := by
  have hz := (zero_of_info zeroS).1 w
  simp [Instr.alloc, hz, newVar, newRow, Value.cells]
theorem wpList_allocS {ops : Array Oper} {rest : List Oper} {o : Oper} {a : Act} {w : World} {Q : Exit → Act → World → Prop} (hgd : o.guard = none) (ho : o.op = .alloc 83)
    (h : ∀ g w', w.heap.size ≤ g → Row w' g 83 stp0 → Below w.heap.size w w' → wpList Tryd.prog ops Q rest (a.put o.dst (.pointer (some ⟨g, 0, none⟩))) w') : wpList Tryd.prog ops Q (o :: rest) a w := by
  refine wpList_plain hgd fun K hK => ?_
  unfold Oper.wp execOp
  simp only [ho, Sem.run_bind, run_allocS, Result.andThen_ok]
  exact hK _ _ (h _ _ (Nat.le_refl _) (Row.new w 83 stp0) ((Below.refl _ _).alloc (Nat.le_refl _) _))
theorem wpList_loadS {ops : Array Oper} {rest : List Oper} {o : Oper} {a : Act} {w : World} {Q : Exit → Act → World → Prop} (hgd : o.guard = none) (x : Operand) (ho : o.op = .load 83 x) (b off : Nat) (s : Stp)
    (hx : a.eval x = .pointer (some ⟨b, off, none⟩)) (hc : w.rangeAt b off (stpC s))
    (h : wpList Tryd.prog ops Q rest (a.put o.dst (.agg (stpC s).toArray)) w) : wpList Tryd.prog ops Q (o :: rest) a w :=
  wpList_load_mid hgd 83 x ho b off hx (stpC s) _ hc Tryd.underlying83 rfl (by rw [Tryd.size77, Tryd.stP.len]) h
/-- append(v, x), one byte: where the slice lies then -/
theorem run_app1 (ty : TypeId) (w : World) (base : Nat) (v : Value) (n : Nat) (xs : List UInt8) (hown : Own w base 5 v n xs) (b off c : Nat) (x : UInt8) (hc : w.cell? ⟨b, off, none⟩ = some (.int .u8 (x.toNat : Int))) (hn : n + 1 ≤ 1000000000) (hbase : base ≤ w.heap.size) :
    ∃ A' c' w', (Builtin.append_ #[32, 32] ty #[v, .slice (some ⟨b, off, none⟩) 1 c]).run Tryd.prog w = .ok (.slice A' (n + 1) c') w' ∧ Own w' base 5 (.slice A' (n + 1) c') (n + 1) (xs ++ [x]) ∧ w.grownBy w' v.ownBlock ∧ ((Value.slice A' (n + 1) c').ownBlock = v.ownBlock ∨ (Value.slice A' (n + 1) c').ownBlock = some w.heap.size) := by
  obtain ⟨i, hi, hz, hsize, hby⟩ := info_parts Tryd.byteTypes.hi
  obtain ⟨v', w', hrun, h2, h3, _, h5⟩ := run_append_own_at (P := Tryd.prog) w base 32 ty 5 i (.int .u8 0) 1 1 Tryd.underlying32 hi hz hsize hby rfl (by omega) v n _ hown ⟨b, off, none⟩ 1 c [.int .u8 (x.toNat : Int)] rfl
    (fun j u hu => by
      rcases j with _ | j
      · simp at hu; subst hu; rw [Addr.add_mid, Nat.add_zero]; exact hc
      · simp at hu)
    (fun u hu => by simp at hu; subst hu; rfl) (by simp only [maxLen]; omega) (by omega) hbase
  have h2' : Own w' base 5 v' (n + 1) (xs ++ [x]) := by unfold Own; rw [List.map_append]; exact h2
  obtain ⟨A', c', rfl, _⟩ := h2'.form
  exact ⟨A', c', w', hrun, h2', h3, h5⟩
theorem wpList_app1 {ops : Array Oper} {rest : List Oper} {o : Oper} {a : Act} {w : World} {Q : Exit → Act → World → Prop} (hgd : o.guard = none) (s x2 : Operand) (ho : o.op = .call { callee := .builtin .append, args := #[s, x2], argTypes := #[32, 32] })
    (base : Nat) (v : Value) (n : Nat) (xs : List UInt8) (hs : a.eval s = v) (hown : Own w base 5 v n xs) (b off c : Nat) (x : UInt8) (hx : a.eval x2 = .slice (some ⟨b, off, none⟩) 1 c) (hc : w.cell? ⟨b, off, none⟩ = some (.int .u8 (x.toNat : Int))) (hn : n + 1 ≤ 1000000000) (hbase : base ≤ w.heap.size)
    (h : ∀ A' c' w', Own w' base 5 (.slice A' (n + 1) c') (n + 1) (xs ++ [x]) → w.grownBy w' v.ownBlock → ((Value.slice A' (n + 1) c').ownBlock = v.ownBlock ∨ (Value.slice A' (n + 1) c').ownBlock = some w.heap.size) → wpList Tryd.prog ops Q rest (a.put o.dst (.slice A' (n + 1) c')) w') : wpList Tryd.prog ops Q (o :: rest) a w := by
  refine wpList_plain hgd fun K hK => ?_
  obtain ⟨A', c', w', hrun, h2, h3, h4⟩ := run_app1 o.type w base v n xs hown b off c x hc hn hbase
  unfold Oper.wp execOp
  simp only [ho, resolve, invoke, builtin, Sem.run_bind, Sem.run_pure, Result.andThen_ok, List.map_toArray, List.map_cons, List.map_nil, hs, hx, hrun]
  exact hK _ _ (h A' c' w' h2 h3 h4)
/-- the block of a slice's own -/
abbrev OB (v : Value) : Nat → Prop := fun b => v.ownBlock = some b
theorem ob_len {A : Option Addr} {n c m d b : Nat} (h : OB (.slice A n c) b) : OB (.slice A m d) b := by cases A <;> exact h
/-- bytes in the old room or in new memory; all else is as it was -/
def Played (w : World) (v : Value) (L : List UInt8) (e : Ending) (w' : World) : Prop :=
  ∃ A' n' c', e = .returned (.slice A' n' c') ∧ Own w' 0 5 (.slice A' n' c') n' L ∧ (∀ b, OB (.slice A' n' c') b → OB v b ∨ w.heap.size ≤ b) ∧ Off (OB v) w w'
theorem lit1 (w : World) (x : UInt8) : (w.alloc (.cells #[.int .u8 (x.toNat : Int)] 5)).cell? ⟨w.heap.size, 0, none⟩ = some (.int .u8 (x.toNat : Int)) := (Row.new w 5 _).cell 0
set_option maxRecDepth 100000 in
set_option maxHeartbeats 1000000 in
theorem play_any (v : Value) (n m c2 : Nat) (A2 : Option Addr) (l : List UInt8) (S : List Stp) (w : World) (hO : Own w 0 5 v n l) (hS : Ss 3 stpC w A2 m S) (hne : ∀ b off, A2 = some ⟨b, off, none⟩ → ¬ OB v b) (hok : okp l S) (hm : m ≤ 1000000000) :
    Calls Tryd.prog 56 #[v, .slice A2 m c2] w (Played w v (play l S)) := by
  obtain ⟨A0, c0, rfl, _⟩ := hO.form
  have HOK := Lib.hid hok
  have HO := Lib.hid hO
  have HS := Lib.hid hS
  have HNE := Lib.hid hne
  have HV := Lib.hid (fun b (q : OB (.slice A0 n c0) b) => (hO.lt b q).2)
  clear hO hS hne hok
  unfold Played
  go_enter Tryd.func56, Tryd.ntmps56
  go_wp2
  go_loopw [0, 9] (fun x i wr => ∃ k A' n' c', k ≤ m ∧ i = .int .i64 ((k : Nat) : Int) ∧ x = .slice A' n' c' ∧ Hid (Own wr 0 5 (.slice A' n' c') n' (play l (S.take k))) ∧ Hid (∀ b, OB (.slice A' n' c') b → OB (.slice A0 n c0) b ∨ w.heap.size ≤ b) ∧ Off (OB (.slice A0 n c0)) w wr) (fun _ i _ => m - (intOf i).toNat)
  case atStart => exact ⟨0, A0, n, c0, Nat.zero_le _, rfl, rfl, Lib.hid HO.out, Lib.hid (fun b q => .inl q), Off.of_below (Below.refl _ _)⟩
  case round =>
    obtain ⟨k, A', n', c', hk, rfl, rfl, HO', HF', hoff⟩ := hrel
    by_cases hlt : k < m
    · obtain ⟨b, s, rfl, hb, hs, hr⟩ := HS.out.get hlt
      have HSk := Lib.hid (play_take l hs)
      have HR := Lib.hid (show wr.rangeAt b (3 * k) (stpC s) from fun j u hj => (World.cell?_of_block (a := ⟨b, 3 * k + j, none⟩) (hoff.block b hb (HNE.out b 0 rfl))).trans (hr j u hj))
      have HLN := Lib.hid HO'.out.length
      have hn' : n' ≤ 1048576 := by have := (HOK.out k).1; have := HLN.out; omega
      have HC := Lib.hid (fun q (e : S[k]? = some (.cut q)) => (HOK.out k).2 q e)
      have HX := Lib.hid hs
      have hsw := hoff.size
      have hkm : k < m := hlt
      clear hr hs
      cases s with
      | app x =>
        go_wp2_with (first
          | (with_reducible refine Tryd.stP.wpList_index rfl (.tmp 7) (.tmp 9) rfl b m c2 k _ rfl rfl rfl hkm ?_)
          | (with_reducible refine wpList_loadS rfl (.tmp 11) rfl b (3 * k) (.app x) rfl HR.out ?_)
          | (with_reducible refine wpList_allocS rfl rfl ?_; intro gs w2 hgs hrs hbs; have HRs := Lib.hid hrs; clear hrs)
          | (with_reducible refine wpList_store_row Tryd.agg77 rfl (.tmp 6) (.tmp 12) rfl _ (stpC (.app x)).toArray rfl rfl 83 stp0 HRs.out (stpC_size _) stp0_size (stpC_one _) ?_; intro w3 hr3 ho3; obtain ⟨q0, q1, q2⟩ := stp_app hr3; have b3 : Below wr.heap.size wr w3 := hbs.trans (ho3.below hgs hbs.size); clear hr3)
          | (at_builtin; refine wpList_app1 rfl (.tmp 19) (.tmp 22) rfl 0 _ n' _ rfl (HO'.out.below (b3.alloc b3.size _)) _ 0 1 x rfl (lit1 w3 x) (by omega) (Nat.zero_le _) ?_; intro A5 c5 w5 ho5 hg5 hb5; have HO5 := Lib.hid ho5; have HG5 := Lib.hid hg5; have HB5 := Lib.hid hb5; clear ho5 hg5 hb5))
        go_roundw
        case rel =>
          have b4 : Below wr.heap.size wr (w3.alloc (.cells #[.int .u8 (x.toNat : Int)] 5)) := b3.alloc b3.size _
          refine ⟨k + 1, A5, n' + 1, c5, by omega, by go_num, rfl, Lib.hid (by rw [HSk.out]; exact HO5.out), Lib.hid (fun b' q => ?_), ?_⟩
          · rcases HB5.out with q5 | q5
            · exact HF'.out b' (q5.symm.trans q)
            · have e : some _ = some b' := q5.symm.trans q
              injection e with e
              have := b4.size
              right; omega
          · have o4 : Off (OB (.slice A0 n c0)) w (w3.alloc (.cells #[.int .u8 (x.toNat : Int)] 5)) := hoff.trans (Off.of_below (F := OB (.slice A0 n c0)) b4) (fun x q => .inl q)
            exact o4.trans (Off.grown (F := OB (.slice A' n' c')) HG5.out (fun b' q => q)) (fun b' q => HF'.out b' q)
        case measure => simp [intOf]; omega
      | cut q =>
        have hq : q ≤ n' := by have := HC.out q HX.out; have := HLN.out; omega
        have hcc : n' ≤ c' := by
          obtain ⟨A9, c9, e9, h9⟩ := HO'.out.form
          injection e9 with e1 e2 e3
          omega
        go_wp2_with (first
          | (with_reducible refine Tryd.stP.wpList_index rfl (.tmp 7) (.tmp 9) rfl b m c2 k _ rfl rfl rfl hkm ?_)
          | (with_reducible refine wpList_loadS rfl (.tmp 11) rfl b (3 * k) (.cut q) rfl HR.out ?_)
          | (with_reducible refine wpList_allocS rfl rfl ?_; intro gs w2 hgs hrs hbs; have HRs := Lib.hid hrs; clear hrs)
          | (with_reducible refine wpList_store_row Tryd.agg77 rfl (.tmp 6) (.tmp 12) rfl _ (stpC (.cut q)).toArray rfl rfl 83 stp0 HRs.out (stpC_size _) stp0_size (stpC_one _) ?_; intro w3 hr3 ho3; obtain ⟨q0, q1, q2⟩ := stp_cut hr3; have b3 : Below wr.heap.size wr w3 := hbs.trans (ho3.below hgs hbs.size); clear hr3)
          | (with_reducible refine wpList_headV Tryd.underlying32 Tryd.sizeB rfl (.tmp 15) (.tmp 17) rfl A' n' c' q .i32 _ rfl rfl rfl (by omega) ?_))
        go_roundw
        case rel =>
          refine ⟨k + 1, A', q, c', by omega, by go_num, rfl, Lib.hid (by rw [HSk.out]; exact (HO'.out.below b3).cut hq), Lib.hid (fun b' q => HF'.out b' (ob_len q)), ?_⟩
          exact hoff.trans (Off.of_below (F := OB (.slice A0 n c0)) b3) (fun x q => .inl q)
        case measure => simp [intOf]; omega
    · obtain rfl : k = m := by omega
      have HE := Lib.hid (show S.take k = S by rw [List.take_of_length_le (by rw [HS.out.1]; exact Nat.le_refl _)])
      go_wp2
      go_ret
      rw [HE.out] at HO'
      exact ⟨A', n', c', rfl, HO'.out, HF'.out, hoff⟩
end Go.Proofs.YtgiobcpljbpmiaaDoor
