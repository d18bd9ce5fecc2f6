/-
  A vault's Open, Gen, Text, Records.
-/
import Derived.Test.YtgiobcpljbpmiaaDoorVltJ
namespace Go.Proofs.YtgiobcpljbpmiaaDoor
open Go.RowKit
set_option maxRecDepth 100000 in
set_option maxHeartbeats 4000000 in
theorem Open_any {S : Tp} (g n : Nat) (V : Vs) (F : Nat → Nat → Prop) (w : World) (h : Tap w g F S) (hok : S.ok 0) (hd : S.down = false) (hTb : Tab 2 w) (hF2 : ¬ Foot g F 2) (hH : Opened (S.cont 0) (S.cont 1) (S.cont 2) V.gen V.text V.recs n) :
    Calls Tryd.prog 13 #[.pointer (some ⟨g, 0, none⟩)] w (OpenE w g F V (S.mendV n)) := by
  obtain ⟨L, hA, hs, hr⟩ := hH
  have hmf : ∀ (fn : Fn) (first cap : Array Value) (w : World), (Instr.makeFunc fn first cap).run Tryd.prog w = .ok (.func fn first cap) w := fun _ _ _ _ => rfl
  have hb0 : Below w.heap.size w (w.alloc (.cells (vNew g) 70)) := (Below.refl _ _).alloc (Nat.le_refl _) _
  have HX0 := Lib.hid (Row.new w 70 (vNew g))
  obtain ⟨wz, hwz⟩ : ∃ wz, w.alloc (.cells (vNew g) 70) = wz := ⟨_, rfl⟩
  have hlt : w.heap.size < wz.heap.size := by rw [← hwz]; simp
  have hlz : wz.heap.size = w.heap.size + 1 := by rw [← hwz]; simp
  rw [hwz] at hb0 HX0
  have h2 := hTb.1
  have HRun := Lib.hid (fun f1 f2 f4 w4 (hb : Below wz.heap.size wz w4) (a1 : Clo w4 (w.heap.size + 1) 49 w.heap.size ((1 : Nat) : Int) f1) (a2 : Clo w4 (w.heap.size + 1) 49 w.heap.size ((2 : Nat) : Int) f2) (a4 : Clo w4 (w.heap.size + 1) 54 w.heap.size 0 f4) =>
    have hq : Below w4.heap.size w4 (w4.alloc (.cells #[f1, f2, .func (.func 34) #[.pointer (some ⟨w.heap.size, 0, none⟩)] #[], f4] 73)) := (Below.refl _ _).alloc (Nat.le_refl _) _
    have hq1 : Below w.heap.size w (w4.alloc (.cells #[f1, f2, .func (.func 34) #[.pointer (some ⟨w.heap.size, 0, none⟩)] #[], f4] 73)) := hb0.trans ((hb.trans (hq.mono hb.size)).mono hb0.size)
    have hN := Row.new w4 73 #[f1, f2, .func (.func 34) #[.pointer (some ⟨w.heap.size, 0, none⟩)] #[], f4]
    runOpen (S := S) w.heap.size g (w.heap.size + 1) n L f1 f2 f4 F _ w4.heap.size (a1.below hq) (a2.below hq) (a4.below hq) (fun b q => by have := h.foot q; omega) (by omega) ((HX0.out.below hb hlt).below hq (by have := hb.size; omega)) (fun q => by have := h.foot q; omega) (hTb.below hq1) hF2 (by omega) (h.below hq1) hok hd hA hN.lt (fun q => by have := h.foot q; have := hb.size; omega) (by have := hb.size; omega) ⟨hN.cell 0, hN.cell 1, hN.cell 2, hN.cell 3⟩)
  rw [hs] at HRun
  rw [show (⟨(V.gen, V.text).1, (V.gen, V.text).2, recsP (V.gen, V.text).1 L⟩ : Vs) = V by rw [← hr]] at HRun
  have HT := Lib.hid h
  have HZ := Lib.hid hb0
  generalize S.mendV n = r at *
  clear h hok hd hTb hF2 hA hs hr hb0 HX0
  obtain ⟨v, hv⟩ : ∃ v, w.heap.size = v := ⟨_, rfl⟩
  have hvw : w.heap.size ≤ v := by omega
  have HV := Lib.hid hv
  rw [hv] at HRun hlz
  unfold vNew at hwz
  have fin : ∀ (w4 w10 : World) (e : Ending) (f1 f2 f4 : Value), Below wz.heap.size wz w4 → (∃ F', Within (w4.alloc (.cells #[f1, f2, .func (.func 34) #[.pointer (some ⟨v, 0, none⟩)] #[], f4] 73)) F F' ∧ Tap w10 g F' r.1) → Off (fun b => Foot g F b ∨ b = v) (w4.alloc (.cells #[f1, f2, .func (.func 34) #[.pointer (some ⟨v, 0, none⟩)] #[], f4] 73)) w10 → (r.2 = 0 → Half (w4.alloc (.cells #[f1, f2, .func (.func 34) #[.pointer (some ⟨v, 0, none⟩)] #[], f4] 73)) v g F V r.1 w10) → ((r.2 = 0 ∧ e = .returned (.tuple #[.pointer (some ⟨v, 0, none⟩), .int .i64 0])) ∨ (r.2 ≠ 0 ∧ e = .returned (.tuple #[.pointer none, .int .i64 r.2]))) → OpenE w g F V r e w10 := fun w4 w10 e f1 f2 f4 hb k1 k2 k3 k4 => by
    obtain ⟨w5, hw5⟩ : ∃ w5, w4.alloc (.cells #[f1, f2, .func (.func 34) #[.pointer (some ⟨v, 0, none⟩)] #[], f4] 73) = w5 := ⟨_, rfl⟩
    have hb5 : Below w.heap.size w w5 := by rw [← hw5]; exact HZ.out.trans ((hb.alloc hb.size _).mono HZ.out.size)
    rw [hw5] at k1 k2 k3
    have hO : Off (Foot g F) w w10 := (Off.of_below hb5).trans k2 (fun x q => by rcases q with q | q; exact .inl q; exact .inr (by omega))
    rcases k4 with ⟨c1, c2⟩ | ⟨c1, c2⟩
    · obtain ⟨H, F', j1, j2, j3, j4, j5, j6⟩ := k3 c1
      exact ⟨hO, F', j3.first hb5.size, j4, .inl ⟨c1, v, H, c2, fun b q => by rcases j1 b q with q | q; omega; exact Nat.le_trans hb5.size q, j2, j5⟩⟩
    · obtain ⟨F', j3, j4⟩ := k1
      exact ⟨hO, F', j3.first hb5.size, j4, .inr ⟨c1, c2⟩⟩
  have HFin := Lib.hid fin
  clear fin HT
  by_cases hc : r.2 = 0
  · have dr : (r.2 != 0) = false := by rw [hc]; rfl
    go_enter Tryd.func13, Tryd.ntmps13
    go_wp2_with (first
      | (go_at_call 33; have hz := B1; clear hz; refine (recall_any v 2 w1).mono ?_; rintro e2 w2 ⟨f2, rfl, hf2, hb2⟩; have B2 : Below wz.heap.size wz w2 := B1.trans (hb2.mono B1.size); have HG2 := Lib.hid (hf2.mono (B' := v + 1) (by have := B1.size; omega)); have HG1 := Lib.hid (HF1.out.below hb2); clear hf2)
      | (go_at_call 33; refine (recall_any v 1 wz).mono ?_; rintro e1 w1 ⟨f1, rfl, hf1, hb1⟩; have B1 : Below wz.heap.size wz w1 := hb1; have HF1 := Lib.hid (hf1.mono (B' := v + 1) (by omega)); clear hf1)
      | (go_at_call 35; refine (sync_any v 0 w2).mono ?_; rintro e4 w4 ⟨f4, rfl, hf4, hb4⟩; have B4 : Below wz.heap.size wz w4 := B2.trans (hb4.mono B2.size); have HF4 := Lib.hid (hf4.mono (B' := v + 1) (by have := B2.size; omega)); have HK1 := Lib.hid (HG1.out.below hb4); have HK2 := Lib.hid (HG2.out.below hb4); have Hp3 := Lib.hid (show isFn (.func (.func 34) #[.pointer (some ⟨v, 0, none⟩)] #[]) from ⟨_, _, _, rfl⟩); clear hf4)
      | ((with_reducible refine wpList_buildF4 rfl (.tmp 11) (.tmp 13) (.tmp 15) (.tmp 17) rfl f1 f2 (.func (.func 34) #[.pointer (some ⟨v, 0, none⟩)] #[]) f4 rfl rfl rfl rfl HK1.out.fn HK2.out.fn Hp3.out HF4.out.fn ?_))
      | (go_at_call 32; refine (HRun.out f1 f2 f4 w4 B4 HK1.out HK2.out HF4.out).mono ?_; rintro e10 w10 ⟨rfl, hh10, ht10, ho10⟩; have HH10 := Lib.hid hh10; have HT10 := Lib.hid ht10; have HO10 := Lib.hid ho10; clear hh10 ht10 ho10))
    go_ret2
    exact HFin.out w4 w10 _ f1 f2 f4 B4 HT10.out HO10.out HH10.out (.inl ⟨hc, rfl⟩)
  · have dr : (r.2 != 0) = true := by simpa using hc
    go_enter Tryd.func13, Tryd.ntmps13
    go_wp2_with (first
      | (go_at_call 33; have hz := B1; clear hz; refine (recall_any v 2 w1).mono ?_; rintro e2 w2 ⟨f2, rfl, hf2, hb2⟩; have B2 : Below wz.heap.size wz w2 := B1.trans (hb2.mono B1.size); have HG2 := Lib.hid (hf2.mono (B' := v + 1) (by have := B1.size; omega)); have HG1 := Lib.hid (HF1.out.below hb2); clear hf2)
      | (go_at_call 33; refine (recall_any v 1 wz).mono ?_; rintro e1 w1 ⟨f1, rfl, hf1, hb1⟩; have B1 : Below wz.heap.size wz w1 := hb1; have HF1 := Lib.hid (hf1.mono (B' := v + 1) (by omega)); clear hf1)
      | (go_at_call 35; refine (sync_any v 0 w2).mono ?_; rintro e4 w4 ⟨f4, rfl, hf4, hb4⟩; have B4 : Below wz.heap.size wz w4 := B2.trans (hb4.mono B2.size); have HF4 := Lib.hid (hf4.mono (B' := v + 1) (by have := B2.size; omega)); have HK1 := Lib.hid (HG1.out.below hb4); have HK2 := Lib.hid (HG2.out.below hb4); have Hp3 := Lib.hid (show isFn (.func (.func 34) #[.pointer (some ⟨v, 0, none⟩)] #[]) from ⟨_, _, _, rfl⟩); clear hf4)
      | ((with_reducible refine wpList_buildF4 rfl (.tmp 11) (.tmp 13) (.tmp 15) (.tmp 17) rfl f1 f2 (.func (.func 34) #[.pointer (some ⟨v, 0, none⟩)] #[]) f4 rfl rfl rfl rfl HK1.out.fn HK2.out.fn Hp3.out HF4.out.fn ?_))
      | (go_at_call 32; refine (HRun.out f1 f2 f4 w4 B4 HK1.out HK2.out HF4.out).mono ?_; rintro e10 w10 ⟨rfl, hh10, ht10, ho10⟩; have HH10 := Lib.hid hh10; have HT10 := Lib.hid ht10; have HO10 := Lib.hid ho10; clear hh10 ht10 ho10))
    go_ret2
    exact HFin.out w4 w10 _ f1 f2 f4 B4 HT10.out HO10.out HH10.out (.inr ⟨hc, rfl⟩)
set_option maxRecDepth 100000 in
theorem Gen_row (v : Nat) (z : Int) (cs : Array Value) (w : World) (h : Row w v 70 cs) (h1 : cs[1]? = some (.int .i64 z)) : Calls Tryd.prog 24 #[.pointer (some ⟨v, 0, none⟩)] w fun e w' => e = .returned (.int .i64 z) ∧ w = w' := by
  have k1 : w.cell? ⟨v, 1, none⟩ = some (.int .i64 z) := (h.cell 1).trans h1
  clear h h1
  go_enter Tryd.func24, Tryd.ntmps24
  go_wp2
  go_ret
  exact ⟨rfl, rfl⟩
set_option maxRecDepth 100000 in
theorem Gen_nil (w : World) : Calls Tryd.prog 24 #[.pointer none] w fun e w' => e = .returned (.int .i64 0) ∧ w = w' := by
  go_enter Tryd.func24, Tryd.ntmps24
  go_wp2
  go_ret
  exact ⟨rfl, rfl⟩
set_option maxRecDepth 100000 in
theorem Text_row (v n c : Nat) (A : Option Addr) (t : List UInt8) (cs : Array Value) (w : World) (h : Row w v 70 cs) (h1 : cs[2]? = some (.slice A n c)) (hB : Bs w A n t) (hn : n ≤ 140737488355328) : Calls Tryd.prog 27 #[.pointer (some ⟨v, 0, none⟩)] w (S4NewSlice w t) := by
  have k1 : w.cell? ⟨v, 2, none⟩ = some (.slice A n c) := (h.cell 2).trans h1
  have HC := Lib.hid (Clone_any A n c t w hB hn)
  clear h h1 hB
  unfold S4NewSlice at *
  go_enter Tryd.func27, Tryd.ntmps27
  go_wp2_with (go_at_call 38; refine HC.out.mono ?_; rintro e1 w1 ⟨A1, c1, rfl, hc1, hb1, ho1⟩; have HO1 := Lib.hid ho1; clear ho1)
  go_ret
  exact ⟨A1, c1, rfl, hc1, hb1, HO1.out⟩
set_option maxRecDepth 100000 in
theorem Text_nil (w : World) : Calls Tryd.prog 27 #[.pointer none] w fun e w' => e = .returned (.slice none 0 0) ∧ w = w' := by
  go_enter Tryd.func27, Tryd.ntmps27
  go_wp2
  go_ret
  exact ⟨rfl, rfl⟩
set_option maxRecDepth 100000 in
theorem Records_nil (w : World) : Calls Tryd.prog 25 #[.pointer none] w fun e w' => e = .returned (.slice none 0 0) ∧ w = w' := by
  go_enter Tryd.func25, Tryd.ntmps25
  go_wp2
  go_ret
  exact ⟨rfl, rfl⟩
theorem madeT (n : Nat) (hn : n ≤ 1000000000) (w : World) : (Instr.makeSlice 33 (.int .i64 (n : Int)) (.int .i64 (n : Int))).run Tryd.prog w = .ok (.slice (some ⟨w.heap.size, 0, none⟩) n n) (w.alloc (.cells (List.replicate n (.slice none 0 0)).toArray 32)) := by
  obtain ⟨i, hi, hz, hsize, hby⟩ := info_parts (show (Tryd.prog.info? 32).map (fun i => (i.zero, i.size, i.bytes)) = some (some (.slice none 0 0), 1, 24) by kernel_rfl)
  have hr := run_make (P := Tryd.prog) w 33 32 i (.slice none 0 0) Tryd.underlying33 hi hz .i64 .i64 n n (by omega) (by omega) (by rw [hby]; omega) (by omega)
  simp only [Int.toNat_natCast, hsize, Nat.mul_one] at hr
  have e : madeCells (Value.slice none 0 0).cells n = (List.replicate n (Value.slice none 0 0)).toArray := by
    apply Array.ext
    · simp [madeCells]
    · intro j h1 h2
      simp [madeCells, Value.cells, Nat.mod_one]
  rw [e] at hr
  exact hr
theorem wpList_makeT {ops : Array Oper} {rest : List Oper} {o : Oper} {a : Act} {w : World} {Q : Exit → Act → World → Prop} (hgd : o.guard = none) (x y : Operand) (ho : o.op = .makeSlice 33 x y) (n : Nat) (hx : a.eval x = .int .i64 (n : Int)) (hy : a.eval y = .int .i64 (n : Int)) (hn : n ≤ 1000000000)
    (h : ∀ g w', w.heap.size ≤ g → Row w' g 32 (List.replicate n (.slice none 0 0)).toArray → Below w.heap.size w w' → wpList Tryd.prog ops Q rest (a.put o.dst (.slice (some ⟨g, 0, none⟩) n n)) w') : wpList Tryd.prog ops Q (o :: rest) a w := by
  refine wpList_plain hgd fun K hK => ?_
  unfold Oper.wp execOp
  simp only [ho, hx, hy, Sem.run_bind, madeT n hn w, Result.andThen_ok]
  exact hK _ _ (h _ _ (Nat.le_refl _) (Row.new w 32 _) ((Below.refl _ _).alloc (Nat.le_refl _) _))
def NewTexts (w : World) (n : Nat) (L : List (List UInt8)) (e : Ending) (w' : World) : Prop := ∃ A c, e = .returned (.slice A n c) ∧ n ≤ c ∧ OwnL w' w.heap.size (.slice A n c) n L ∧ Below w.heap.size w w'
set_option maxRecDepth 100000 in
set_option maxHeartbeats 2000000 in
theorem Records_row (v n c : Nat) (A : Option Addr) (L : List (List UInt8)) (H : Nat → Prop) (cs : Array Value) (w : World) (h : Row w v 70 cs) (h1 : cs[3]? = some (.slice A n c)) (hT : Texts w H (.slice A n c) n L) (hn : n ≤ 1000000000) (hM : ∀ t ∈ L, t.length ≤ 140737488355328) : Calls Tryd.prog 25 #[.pointer (some ⟨v, 0, none⟩)] w (NewTexts w n L) := by
  have k1 : w.cell? ⟨v, 3, none⟩ = some (.slice A n c) := (h.cell 3).trans h1
  have k2 : ∀ wq, Below w.heap.size w wq → wq.cell? ⟨v, 3, none⟩ = some (.slice A n c) := fun wq hb => ((h.below hb h.lt).cell 3).trans h1
  have HK2 := Lib.hid k2
  have HTx := Lib.hid hT
  have HC := Lib.hid (fun A n c l w hB hn => Clone_any A n c l w hB hn)
  unfold S4NewSlice at HC
  have HM := Lib.hid hM
  have HL := Lib.hid hT.length
  clear h h1 hT k2 hM
  go_enter Tryd.func25, Tryd.ntmps25
  go_wp2_with ((with_reducible refine wpList_makeT rfl (.tmp 12) (.tmp 12) rfl n rfl rfl hn ?_); intro B w1 hBw hr1 hb1; have HR1 := Lib.hid hr1; have k3 := HK2.out w1 hb1; clear hr1)
  go_loopw [19] (fun i wr => ∃ (k : Nat) (vs : List Value), k ≤ n ∧ i = .int .i64 (k : Int) ∧ vs.length = n ∧ Hid (Row wr B 32 vs.toArray) ∧ Hid (∀ (j : Nat) x l, j < k → vs[j]? = some x → L[j]? = some l → Own wr w.heap.size 5 x l.length l) ∧ Below w.heap.size w wr) (fun i _ => n - (intOf i).toNat)
  case atStart => exact ⟨0, _, Nat.zero_le _, rfl, List.length_replicate, HR1, Lib.hid (fun j x l hj => by omega), hb1⟩
  case round =>
    obtain ⟨k, vs, hk, rfl, hvs, HRr, HOr, hbr⟩ := hrel
    clear HR1 k3 k1
    by_cases hlt : k < n
    · obtain ⟨b, A', c', l, rfl, hbl, _, hgl, hcl, hcc, hBl⟩ := HTx.out.get hlt
      have hcell : wr.cell? ⟨b, k, none⟩ = some (.slice A' l.length c') := (hbr.cell (p := ⟨b, k, none⟩) hbl).trans hcl
      have HBl := Lib.hid (hBl.below hbr)
      have HGl := Lib.hid hgl
      have HMl := Lib.hid (HM.out l (List.mem_of_getElem? hgl))
      have hkv : k < vs.length := by omega
      have hkk : vs.toArray[k]? = some vs[k] := by simp [hkv]
      have HKK := Lib.hid hkk
      clear hcl hBl hgl hkk hcc
      go_wp2_with (go_at_call 38; refine (HC.out A' l.length c' l wr HBl.out HMl.out).mono ?_; rintro e3 w3 ⟨A3, c3, rfl, hc3, hb3, ho3⟩; have HO3 := Lib.hid ho3; have HR3 := Lib.hid (HRr.out.below hb3 HRr.out.lt); have b3 : Below w.heap.size w w3 := hbr.trans (hb3.mono hbr.size); have q3 := (HR3.out.cell k).trans HKK.out; have f3 := HR3.out.frozen k; have HB3 := Lib.hid hb3; clear ho3 hb3)
      go_roundw
      case rel =>
        have hBr : B < wr.heap.size := HRr.out.lt
        have hset : ∀ b, b ≠ B → (w3.setCell ⟨B, k, none⟩ (.slice A3 l.length c3)).heap[b]? = w3.heap[b]? := fun b hb => Below.heap_setCell _ ⟨B, k, none⟩ _ b hb
        refine ⟨k + 1, vs.set k (.slice A3 l.length c3), by omega, by go_num, by simpa using hvs, Lib.hid (by have := HR3.out.set k (.slice A3 l.length c3); simpa using this), Lib.hid (fun j x y hj hx hy => ?_), b3.trans ((Off.setCell (F := fun x => x = B) w3 B k _ rfl).below (fun x q => by subst q; exact hBw) b3.size)⟩
        by_cases hjk : j = k
        · subst hjk
          rw [List.getElem?_set_self hkv] at hx
          rw [HGl.out] at hy
          injection hx with hx
          injection hy with hy
          subst hx hy
          refine ownsRow_keep (HO3.out.mono hbr.size) fun b cs hb hb2 => (hset b (fun e => ?_)).trans hb2
          have := (HO3.out.lt b hb).1
          omega
        · rw [List.getElem?_set_ne (fun e => hjk e.symm)] at hx
          refine ownsRow_keep ((HOr.out j x y (by omega) hx hy).below HB3.out) fun b cs hb hb2 => (hset b (fun e => ?_)).trans hb2
          subst e
          exact absurd (cells_inj HR3.out hb2) (by decide)
      case measure => simp [intOf]; omega
    · obtain rfl : k = n := by omega
      go_wp2_with fail
      go_ret
      refine ⟨_, _, rfl, Nat.le_refl _, ⟨vs, ⟨by omega, .inr ⟨B, _, _, rfl, hBw, HRr.out, Nat.le_refl _, by unfold maxLen; omega, by simp; omega, ?_⟩⟩, by rw [hvs, HL.out], fun j x l hx hl => HOr.out j x l (by have := (List.getElem?_eq_some_iff.1 hx).1; omega) hx hl⟩, hbr⟩
      rw [Nat.mul_one, List.take_of_length_le (by simp; omega)]
end Go.Proofs.YtgiobcpljbpmiaaDoor
