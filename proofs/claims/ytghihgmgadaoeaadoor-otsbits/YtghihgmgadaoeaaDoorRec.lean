/-
  What ots.Recover and ots.Verify answer: the root to which a signature leads, or the error; whether it is the one that is asked.
-/
import Derived.Test.YtghihgmgadaoeaaDoorRoot
namespace Go.Proofs.YtghihgmgadaoeaaDoor
open Go.RowKit
theorem splice_app (F Y l : List UInt8) (k : Nat) : splice (F ++ Y) (F.length + k) l = F ++ splice Y k l := by
  unfold splice
  rw [List.take_append, List.drop_append]
  rw [List.take_of_length_le (by omega), List.drop_eq_nil_of_le (by omega)]
  rw [show F.length + k - F.length = k by omega, show F.length + k + l.length - F.length = k + l.length by omega]
  simp
theorem splice_zero (Y Z l : List UInt8) (h : l.length = Y.length) : splice (Y ++ Z) 0 l = l ++ Z := by
  unfold splice
  rw [List.take_zero, Nat.zero_add, h, List.drop_left]
  simp
/-- two digests laid over the first zeros behind F, in either order -/
theorem lay_two (F S E : List UInt8) (q b o1 o2 : Nat) (hS : S.length = 32) (hE : E.length = 32) (hb : b ≤ 1) (h1 : o1 = F.length + 32 * b) (h2 : o2 = F.length + 32 * (1 - b)) :
    spl (spl (bcells (F ++ List.replicate (64 + q) 0)) o1 S) o2 E = bcells (F ++ ((if b = 0 then S ++ E else E ++ S) ++ List.replicate q 0)) := by
  rw [spl_bcells, spl_bcells]
  congr 1
  have hz : List.replicate (64 + q) (0 : UInt8) = zero32 ++ (zero32 ++ List.replicate q 0) := by
    unfold zero32
    rw [← List.append_assoc, List.replicate_append_replicate, List.replicate_append_replicate]
  have hl : zero32.length = 32 := by unfold zero32; rw [List.length_replicate]
  rw [h1, h2, splice_app, splice_app, hz]
  congr 1
  rcases Nat.eq_zero_or_pos b with h0 | h0
  · subst h0
    rw [if_pos rfl, Nat.mul_zero, splice_zero _ _ _ (by omega)]
    have := splice_app S (zero32 ++ List.replicate q 0) E 0
    rw [hS] at this
    rw [show 32 * (1 - 0) = 32 + 0 by omega, this, splice_zero _ _ _ (by omega), List.append_assoc]
  · obtain rfl : b = 1 := by omega
    have := splice_app zero32 (zero32 ++ List.replicate q 0) S 0
    rw [hl] at this
    rw [if_neg (by omega), show 32 * 1 = 32 + 0 by omega, this, splice_zero zero32 _ S (by omega), show 32 * (1 - 1) = 0 by omega, splice_zero _ _ _ (by omega), List.append_assoc]
/-- the row of digests behind m rounds -/
def ledR (d : List UInt8) (L : List (List UInt8)) (n m : Nat) : List UInt8 := flat (ledN d L m) ++ List.replicate ((2 * n - 2 * m) * 32) 0
theorem ledR_zero (d : List UInt8) (L : List (List UInt8)) (n : Nat) : ledR d L n 0 = List.replicate (2 * n * 32) 0 := by
  unfold ledR; rw [ledN, show flat ([] : List (List UInt8)) = [] from rfl, List.nil_append, Nat.mul_zero, Nat.sub_zero]
theorem ledR_all (d : List UInt8) (L : List (List UInt8)) (n : Nat) : ledR d L n n = flat (ledN d L n) := by
  unfold ledR; rw [Nat.sub_self, Nat.zero_mul, List.replicate_zero, List.append_nil]
theorem ledR_length (d : List UInt8) {L : List (List UInt8)} (hL : Digs L) (n m : Nat) (h : 2 * m ≤ L.length) (hm : m ≤ n) : (ledR d L n m).length = 2 * n * 32 := by
  unfold ledR; rw [List.length_append, flat_length (ledN_digs d hL m h), ledN_length, List.length_replicate]; omega
theorem ledR_step (d : List UInt8) {L : List (List UInt8)} (hL : Digs L) (n m o1 o2 : Nat) (x y : List UInt8) (hx : L[2 * m]? = some x) (hy : L[2 * m + 1]? = some y) (hm : m < n)
    (h1 : o1 = 32 * (2 * m + bitN d m)) (h2 : o2 = 32 * (2 * m + 1 - bitN d m)) : spl (spl (bcells (ledR d L n m)) o1 (sumL x)) o2 y = bcells (ledR d L n (m + 1)) := by
  have hlen := (List.getElem?_eq_some_iff.1 hy).1
  have hb := bitN_01 d m
  have hfl : (flat (ledN d L m)).length = 64 * m := by rw [flat_length (ledN_digs d hL m (by omega)), ledN_length]; omega
  have e := lay_two (flat (ledN d L m)) (sumL x) y ((2 * n - 2 * (m + 1)) * 32) (bitN d m) o1 o2 (sumL_length x) (hL.get hy) (by omega) (by omega) (by omega)
  have hq : (2 * n - 2 * m) * 32 = 64 + (2 * n - 2 * (m + 1)) * 32 := by omega
  unfold ledR
  rw [hq, e, ledN, flat_app, List.append_assoc]
  congr 2
  unfold twoL
  rw [List.getD_eq_getElem?_getD, List.getD_eq_getElem?_getD, hx, hy]
  congr 1
  rcases hb with h | h
  · rw [h, if_pos rfl, if_pos rfl]; simp [flat]
  · rw [h, if_neg (by omega), if_neg (by omega)]; simp [flat]
theorem wpList_indexO {ops : Array Oper} {rest : List Oper} {o : Oper} {a : Act} {w : World} {Q : Exit → Act → World → Prop} (hgd : o.guard = none) (x y : Operand) (ho : o.op = .indexAddr 24 x y) (b off n c k at' : Nat) (z : Int)
    (hx : a.eval x = .slice (some ⟨b, off, none⟩) n c) (hy : a.eval y = .int .i64 z) (hz : z = k) (hk : k < n) (hat : off + 32 * k = at')
    (h : wpList Tryd.prog ops Q rest (a.put o.dst (.pointer (some ⟨b, at', none⟩))) w) : wpList Tryd.prog ops Q (o :: rest) a w := by
  subst hat
  exact wpList_indexD hgd x y ho b off n c k z hx hy hz hk h
/-- an operation under a guard that says yes -/
theorem wpList_of {P : Program} {ops : Array Oper} {rest : List Oper} {o : Oper} {a : Act} {w : World} {Q : Exit → Act → World → Prop} (hw : Region.wanted o (yielded ops a.tmps) = true)
    (h : ∀ K : Act → World → Prop, (∀ a' w', wpList P ops Q rest a' w' → K a' w') → o.wp P a w K Q) : wpList P ops Q (o :: rest) a w := by
  refine wpList_step fun K hK => ?_
  rw [if_pos hw]
  exact h K hK
theorem wpList_loadG {ops : Array Oper} {rest : List Oper} {o : Oper} {a : Act} {w : World} {Q : Exit → Act → World → Prop} (hw : Region.wanted o (yielded ops a.tmps) = true) (x : Operand) (ho : o.op = .load 23 x) (b off : Nat) (d : List UInt8)
    (hx : a.eval x = .pointer (some ⟨b, off, none⟩)) (hc : w.rangeAt b off (d.map bcell)) (hd : d.length = 32)
    (h : wpList Tryd.prog ops Q rest (a.put o.dst (.agg (bcells d))) w) : wpList Tryd.prog ops Q (o :: rest) a w :=
  wpList_of hw fun _ hK => wp_load_mid 23 x ho b off hx _ _ hc Tryd.under23 rfl (by rw [List.length_map, hd]; exact Tryd.sizeD) (hK _ _ h)
/-- append([]Digest{}, x...) under a guard that says yes -/
theorem wpList_copyDG {ops : Array Oper} {rest : List Oper} {o : Oper} {a : Act} {w : World} {Q : Exit → Act → World → Prop} (hw : Region.wanted o (yielded ops a.tmps) = true) (s x : Operand) (ho : o.op = .call { callee := .builtin .append, args := #[s, x], argTypes := #[24, 24] })
    (hs : a.eval s = .slice (some ⟨w.heap.size, 0, none⟩) 0 0) (A : Option Addr) (m c : Nat) (M : List (List UInt8)) (hx : a.eval x = .slice A m c) (hr : Ds w A m M) (hb : m ≤ 1000000)
    (h : ∀ A' c' w', Ds w' A' m M → m ≤ c' → Below w.heap.size w w' → wpList Tryd.prog ops Q rest (a.put o.dst (.slice A' m c')) w') : wpList Tryd.prog ops Q (o :: rest) a (w.alloc (.cells #[] 23)) := by
  have hb0 : Below w.heap.size w (w.alloc (.cells #[] 23)) := (Below.refl _ _).alloc (Nat.le_refl _) _
  refine wpList_of hw fun K hK => wp_appD s x ho w.heap.size _ 0 [] hs (emptyD_new w) A m c M hx (hr.below hb0) (by omega) (by simp) ?_
  intro A' c' w' hown hbel
  rw [Nat.zero_add] at hown ⊢
  rw [List.nil_append] at hown
  obtain ⟨A2, c2, hv, hc⟩ := hown.form
  injection hv with h1 h2 h3
  subst h1 h3
  exact hK _ _ (h A' c' w' hown.ds hc (hb0.trans hbel))
/-- a digest and an error's number -/
def RecD (w : World) (R : List UInt8) (E : Int) (e : Ending) (w' : World) : Prop := e = .returned (.tuple #[.agg (bcells R), .int .i64 E]) ∧ Below w.heap.size w w'
set_option maxRecDepth 100000 in
set_option maxHeartbeats 400000 in
theorem Recover_no (n : Int) (A B : Option Addr) (nt ct ns cs : Nat) (w : World) (h : n < 1 ∨ 256 < n) : Calls Tryd.prog 18 #[.int .i64 n, .slice A nt ct, .slice B ns cs] w (RecD w zero32 1) := by
  have HM := Lib.hid (fun w => mayBe_no n w h)
  clear h
  go_enter Tryd.func18, Tryd.ntmps18
  go_wp2_with (first
    | (go_at_call 25; refine (HM.out _).mono ?_; rintro e1 w1 ⟨rfl, rfl⟩)
    | (with_reducible refine wpList_store_row Tryd.agg25 rfl (.tmp 6) (.tmp 15) rfl _ _ rfl rfl 23 lit32 (Row.new w 23 lit32) lit32_size lit32_size lit32_one ?_; intro w9 hr9 ho9; have HR9 := Lib.hid hr9; clear hr9))
  exact bodyPost_ret (results_row2 Tryd.agg25 Tryd.results18 rfl rfl HR9.out lit32_size) rfl ⟨rfl, ((Below.refl _ _).alloc (Nat.le_refl _) _).trans (ho9.below (Nat.le_refl _) (by simp))⟩
set_option maxRecDepth 100000 in
set_option maxHeartbeats 400000 in
theorem Recover_form (n : Nat) (A B : Option Addr) (nt ct ns cs : Nat) (w : World) (h1 : 1 ≤ n) (h2 : n ≤ 256) (hns : ns ≠ 2 * n) : Calls Tryd.prog 18 #[.int .i64 (n : Int), .slice A nt ct, .slice B ns cs] w (RecD w zero32 41) := by
  have HM := Lib.hid (fun w => mayBe_yes (n : Int) w (by omega) (by omega))
  have hne : ((ns : Int) != 2 * (n : Int)) = true := by simp; omega
  clear hns
  go_enter Tryd.func18, Tryd.ntmps18
  go_wp2_with (first
    | (go_at_call 25; refine (HM.out _).mono ?_; rintro e1 w1 ⟨rfl, rfl⟩)
    | (with_reducible refine wpList_store_row Tryd.agg25 rfl (.tmp 6) (.tmp 21) rfl _ _ rfl rfl 23 lit32 (Row.new w 23 lit32) lit32_size lit32_size lit32_one ?_; intro w9 hr9 ho9; have HR9 := Lib.hid hr9; clear hr9))
  exact bodyPost_ret (results_row2 Tryd.agg25 Tryd.results18 rfl rfl HR9.out lit32_size) rfl ⟨rfl, ((Below.refl _ _).alloc (Nat.le_refl _) _).trans (ho9.below (Nat.le_refl _) (by simp))⟩
set_option maxRecDepth 100000 in
set_option maxHeartbeats 2000000 in
theorem Recover_ok (n : Nat) (A B : Option Addr) (nt ct ns cs : Nat) (l : List UInt8) (L : List (List UInt8)) (w : World) (h1 : 1 ≤ n) (h2 : n ≤ 256) (hns : ns = 2 * n) (hB : Bs w A nt l) (hnc : nt ≤ ct) (hnt : nt ≤ 1000000) (hD : Ds w B ns L) (hT : Tab 2 w) :
    Calls Tryd.prog 18 #[.int .i64 (n : Int), .slice A nt ct, .slice B ns cs] w (RecD w (rootL (ledN (sumL l) L n)) 0) := by
  have HMB := Lib.hid (fun w => mayBe_yes (n : Int) w (by omega) (by omega))
  have hne : ((ns : Int) != 2 * (n : Int)) = false := by simp; omega
  have hmk := run_madeD (2 * n) (2 * n) (2 * (n : Int)) (2 * (n : Int)) (by omega) (by omega) (by omega) (by omega)
  have hcut := run_cut_all (P := Tryd.prog) Tryd.under23 Tryd.size5
  have HT := Lib.hid hT
  have hT2 := hT.1
  have HNS := Lib.hid hns
  have HD := Lib.hid hD
  have hb0 := (Below.refl w.heap.size w).alloc (Nat.le_refl _) (.cells lit32 23)
  have HM := Lib.hid (Sum_any A nt ct l _ (hB.below hb0) hnc (hT.below hb0) (by omega))
  have HDL := Lib.hid (sumL_length l)
  have HDS := Lib.hid (show (bcells (sumL l)).size = 32 by rw [bcells_size, sumL_length])
  generalize sumL l = D at *
  have HLD : Hid (Digs (ledN D L n)) := Lib.hid (ledN_digs D hD.2.1 n (by rw [hD.1, hns]; exact Nat.le_refl _))
  have HRS := Lib.hid (show (bcells (rootL (ledN D L n))).size = 32 by rw [bcells_size, rootL_length])
  have HRT := Lib.hid (fun A m c w hD hT hn => Root_any A m c (ledN D L n) w hD hT hn)
  generalize rootL (ledN D L n) = R at *
  have HL0 := Lib.hid (ledR_zero D L n)
  clear hT hB hD hns
  go_enter Tryd.func18, Tryd.ntmps18
  go_wp2_with (first
    | (go_at_call 25; refine (HMB.out _).mono ?_; rintro e1 w1 ⟨rfl, rfl⟩)
    | (go_at_call 32; refine HM.out.mono ?_; rintro e1 w1 ⟨rfl, hb1⟩; have hs1 := hb1.size; simp at hs1; have HR1 := Lib.hid ((Row.new w 23 lit32).below hb1 (by simp)); have hb1' := hb0.trans (hb1.mono (by simp)))
    | (with_reducible refine wpList_store_row Tryd.agg25 rfl (.tmp 8) (.tmp 23) rfl _ _ rfl rfl 23 lit32 (Row.new w1 23 lit32) HDS.out lit32_size (bcells_one _) ?_; intro w2 hr2 ho2; have HD2 := Lib.hid hr2; have hs2 := ho2.size; simp at hs2; have HR2 := Lib.hid ((HR1.out.alloc (.cells lit32 23)).only ho2 (by omega)); have hb2 := (hb1'.alloc hb1'.size (.cells lit32 23)).trans (ho2.below (B := w.heap.size) (by omega) (by simp; omega)); clear hr2))
  rw [← HL0.out]
  go_loopw [28] (fun i wr => ∃ m : Nat, m ≤ n ∧ i = .int .i64 (m : Int) ∧ Below w.heap.size w wr ∧ Row wr w.heap.size 23 lit32 ∧ Row wr w1.heap.size 23 (bcells D) ∧ Row wr w2.heap.size 23 (bcells (ledR D L n m))) (fun i _ => n - (intOf i).toNat)
  case atStart => exact ⟨0, Nat.zero_le _, rfl, hb2.alloc hb2.size _, HR2.out.alloc _, HD2.out.alloc _, Row.new _ _ _⟩
  case round =>
    obtain ⟨m, hm, rfl, hbel, hrow, hrowD, hrowP⟩ := hrel
    have hbs := hbel.size
    have hlP := hrowP.lt
    have HRr := Lib.hid hrow
    have HRD := Lib.hid hrowD
    have HRP := Lib.hid hrowP
    have HTr := Lib.hid (HT.out.below hbel)
    clear hrow hrowD hrowP
    by_cases hlt : m < n
    · have him : (m : Int) < (n : Int) := by omega
      have HBO := Lib.hid (fun w => bitOf_any D m (m : Int) w HDL.out rfl (by omega))
      have hns := HNS.out
      obtain ⟨bs, os, x, rfl, hbs0, hx, hxl, hBx⟩ := HD.out.get (k := 2 * m) (by omega)
      obtain ⟨bs', os', y, ee, _, hy, hyl, hBy⟩ := HD.out.get (k := 2 * m + 1) (by omega)
      injection ee with ee
      injection ee with e1 e2
      subst e1 e2
      have HBX := Lib.hid hBx
      have HBY := Lib.hid hBy
      have HYL := Lib.hid hyl
      have HSL := Lib.hid (sumL_length x)
      have HSX := Lib.hid (fun A w hB hT => Sum_any A 32 32 x w hB (Nat.le_refl _) hT (by omega))
      obtain ⟨p1, hp1⟩ : ∃ p, p = 32 * (2 * m + bitN D m) := ⟨_, rfl⟩
      obtain ⟨p2, hp2⟩ : ∃ p, p = 32 * (2 * m + 1 - bitN D m) := ⟨_, rfl⟩
      have HST := Lib.hid (ledR_step D HD.out.2.1 n m p1 p2 x y hx hy hlt hp1 hp2)
      have HSZ : Hid ((bcells (ledR D L n m)).size = 2 * n * 32) := Lib.hid (by rw [bcells_size, ledR_length D HD.out.2.1 n m (by rw [HD.out.1, hns]; omega) hm])
      obtain ⟨b, hb⟩ : ∃ b, bitN D m = b := ⟨_, rfl⟩
      have hb01 : b ≤ 1 := by have := bitN_01 D m; omega
      rw [hb] at HBO hp1 hp2
      obtain ⟨o1, ho1⟩ : ∃ o, os + 32 * (2 * m) = o := ⟨_, rfl⟩
      obtain ⟨o2, ho2⟩ : ∃ o, os + 32 * (2 * m + 1) = o := ⟨_, rfl⟩
      rw [ho1] at HBX
      rw [ho2] at HBY
      have HO1 := Lib.hid ho1
      have HO2 := Lib.hid ho2
      have HP1 := Lib.hid hp1
      have HP2 := Lib.hid hp2
      have hk1 : 2 * m < ns := by omega
      have hk2 : 2 * m + 1 < ns := by omega
      have hq1 : 2 * m + b < 2 * n := by omega
      have hq2 : 2 * m + 1 - b < 2 * n := by omega
      generalize sumL x = SX at *
      obtain ⟨X1, hX1⟩ : ∃ X, ledR D L n (m + 1) = X := ⟨_, rfl⟩
      rw [hX1] at HST
      have HX1 := Lib.hid hX1
      clear hX1
      generalize ledR D L n m = X0 at *
      clear hx hy hBx hBy hyl hb ho1 ho2 hp1 hp2 hns hxl
      go_wp2_with (first
        | (with_reducible refine wpList_load_row Tryd.agg25 rfl (.tmp 8) rfl _ rfl 23 _ HRD.out HDS.out ?_)
        | (go_at_call 33; refine (HBO.out wr).mono ?_; rintro e9 wq ⟨rfl, hbq⟩; have hsq := hbq.size; have HRPq := Lib.hid (HRP.out.below hbq (by omega)); have HRDq := Lib.hid (HRD.out.below hbq (by omega)); have HRrq := Lib.hid (HRr.out.below hbq (by omega)); have hbelq := hbel.trans (hbq.mono hbs); have HTq := Lib.hid (HTr.out.below hbq))
        | (with_reducible refine wpList_indexO rfl (.tmp 39) (.tmp 41) rfl bs os ns cs (2 * m) o1 _ rfl rfl (by omega) hk1 HO1.out ?_)
        | (go_at_call 32; refine (HSX.out _ wq (HBX.out.below hbelq) HTq.out).mono ?_; rintro e3 w3 ⟨rfl, hb3⟩; have hs3 := hb3.size; have HRP3 := Lib.hid (HRPq.out.below hb3 (by omega)); have HRD3 := Lib.hid (HRDq.out.below hb3 (by omega)); have HRr3 := Lib.hid (HRrq.out.below hb3 (by omega)); have hb3' := hbelq.trans (hb3.mono hbelq.size))
        | (with_reducible refine wpList_indexO rfl (.tmp 34) (.tmp 38) rfl w2.heap.size 0 (2 * n) (2 * n) (2 * m + b) p1 _ rfl rfl (by omega) hq1 (by have := HP1.out; omega) ?_)
        | (with_reducible refine wpList_storeD rfl (.tmp 45) (.tmp 44) rfl w2.heap.size p1 SX rfl rfl 23 _ HRP3.out HSL.out (by rw [HSZ.out, HP1.out]; omega) ?_; intro w5 hr5 ho5; have HRP5 := Lib.hid hr5; have HRD5 := Lib.hid (HRD3.out.only ho5 (by omega)); have HRr5 := Lib.hid (HRr3.out.only ho5 (by omega)); have hs5 := ho5.size; have hb5 := hb3'.trans (ho5.below (B := w.heap.size) (by omega) hb3'.size); clear hr5)
        | (with_reducible refine wpList_indexO rfl (.tmp 52) (.tmp 55) rfl bs os ns cs (2 * m + 1) o2 _ rfl rfl (by omega) hk2 HO2.out ?_)
        | (with_reducible refine wpList_loadD rfl (.tmp 56) rfl bs o2 y rfl (HBY.out.below hb5).range HYL.out ?_)
        | (with_reducible refine wpList_indexO rfl (.tmp 46) (.tmp 51) rfl w2.heap.size 0 (2 * n) (2 * n) (2 * m + 1 - b) p2 _ rfl rfl (by omega) hq2 (by have := HP2.out; omega) ?_)
        | (with_reducible refine wpList_storeD rfl (.tmp 58) (.tmp 57) rfl w2.heap.size p2 y rfl rfl 23 _ HRP5.out HYL.out (by rw [spl_size _ _ _ (by rw [HSL.out, HSZ.out, HP1.out]; omega), HSZ.out, HP2.out]; omega) ?_; intro w7 hr7 ho7; rw [HST.out] at hr7; have HRP7 := Lib.hid hr7; have HRD7 := Lib.hid (HRD5.out.only ho7 (by omega)); have HRr7 := Lib.hid (HRr5.out.only ho7 (by omega)); have hb7 := hb5.trans (ho7.below (B := w.heap.size) (by omega) hb5.size); clear hr7))
      go_roundw
      case rel => exact ⟨m + 1, by omega, by go_num, hb7, HRr7.out, HRD7.out, by rw [HX1.out]; exact HRP7.out⟩
      case measure => simp [intOf]; omega
    · obtain rfl : n = m := by omega
      have HDn : Hid (Ds wr (some ⟨w2.heap.size, 0, none⟩) (2 * n) (ledN D L n)) := Lib.hid (by
        refine ⟨ledN_length D L n, HLD.out, ?_⟩
        have h := HRP.out
        rw [ledR_all] at h
        exact h.bsB (by rw [flat_length HLD.out, ledN_length]))
      go_wp2_with (first
        | (go_at_call 13; refine (HRT.out _ _ _ wr HDn.out HTr.out (by omega)).mono ?_; rintro e3 w3 ⟨rfl, hb3⟩; have HR3 := Lib.hid (HRr.out.below hb3 (by omega)); have hb3' := hbel.trans (hb3.mono hbs))
        | (with_reducible refine wpList_store_row Tryd.agg25 rfl (.tmp 6) (.tmp 61) rfl _ _ rfl rfl 23 lit32 HR3.out HRS.out lit32_size (bcells_one _) ?_; intro w9 hr9 ho9; have HR9 := Lib.hid hr9; clear hr9))
      exact bodyPost_ret (results_row2 Tryd.agg25 Tryd.results18 rfl rfl HR9.out HRS.out) rfl ⟨rfl, hb3'.trans (ho9.below (Nat.le_refl _) hb3'.size)⟩
set_option maxRecDepth 100000 in
set_option maxHeartbeats 1000000 in
/-- what Recover answers, Verify tells -/
theorem Verify_of (r R : List UInt8) (E n : Int) (A B : Option Addr) (nt ct ns cs : Nat) (w : World) (hr : r.length = 32) (hR : R.length = 32) (t : Bool) (ht : t = (decide (E = 0) && decide (R = r)))
    (hC : ∀ w', Below w.heap.size w w' → Calls Tryd.prog 18 #[.int .i64 n, .slice A nt ct, .slice B ns cs] w' (RecD w' R E)) :
    Calls Tryd.prog 21 #[.agg (bcells r), .int .i64 n, .slice A nt ct, .slice B ns cs] w fun e w' => e = .returned (.bool t) ∧ Below w.heap.size w w' := by
  have hb0 := (Below.refl w.heap.size w).alloc (Nat.le_refl _) (.cells (bcells r) 23)
  have HC := Lib.hid (hC _ hb0)
  have HRS := Lib.hid (show (bcells R).size = 32 by rw [bcells_size, hR])
  have HrS := Lib.hid (show (bcells r).size = 32 by rw [bcells_size, hr])
  have HT := Lib.hid ht
  have heq := eqD R r hR hr
  have HRL := Lib.hid hR
  have HrL := Lib.hid hr
  have HR0 := Lib.hid (Row.new w 23 (bcells r))
  clear hC ht hr hR
  by_cases hE : E = 0
  · subst hE
    go_enter Tryd.func21, Tryd.ntmps21
    go_wp2_with (first
      | (go_at_call 18; refine HC.out.mono ?_; rintro e1 w1 ⟨rfl, hb1⟩; have hs1 := hb1.size; simp at hs1; have HR1 := Lib.hid (HR0.out.below hb1 (by simp)); have hb1' := hb0.trans (hb1.mono (by simp)))
      | (with_reducible refine wpList_store_row Tryd.agg25 rfl (.tmp 9) (.tmp 16) rfl _ _ rfl rfl 23 lit32 (Row.new w1 23 lit32) HRS.out lit32_size (bcells_one _) ?_; intro w2 hr2 ho2; have HD2 := Lib.hid hr2; have hs2 := ho2.size; simp at hs2; have HR2 := Lib.hid ((HR1.out.alloc (.cells lit32 23)).only ho2 (by omega)); have hb2 := (hb1'.alloc hb1'.size (.cells lit32 23)).trans (ho2.below (B := w.heap.size) (by omega) (by simp; omega)); clear hr2)
      | (with_reducible refine wpList_loadG (by with_unfolding_all rfl) (.tmp 9) rfl _ 0 R rfl (range_row HD2.out) HRL.out ?_)
      | (with_reducible refine wpList_loadG (by with_unfolding_all rfl) (.tmp 4) rfl _ 0 r rfl (range_row HR2.out) HrL.out ?_))
    go_ret
    rw [HT.out]
    exact ⟨by simp, hb2⟩
  · have hE0 : (E == 0) = false := by simp [hE]
    have HE := Lib.hid hE
    clear hE
    go_enter Tryd.func21, Tryd.ntmps21
    go_wp2_with (first
      | (go_at_call 18; refine HC.out.mono ?_; rintro e1 w1 ⟨rfl, hb1⟩; have hs1 := hb1.size; simp at hs1; have HR1 := Lib.hid (HR0.out.below hb1 (by simp)); have hb1' := hb0.trans (hb1.mono (by simp)))
      | (with_reducible refine wpList_store_row Tryd.agg25 rfl (.tmp 9) (.tmp 16) rfl _ _ rfl rfl 23 lit32 (Row.new w1 23 lit32) HRS.out lit32_size (bcells_one _) ?_; intro w2 hr2 ho2; have hs2 := ho2.size; simp at hs2; have hb2 := (hb1'.alloc hb1'.size (.cells lit32 23)).trans (ho2.below (B := w.heap.size) (by omega) (by simp; omega)); clear hr2))
    go_ret
    rw [HT.out]
    exact ⟨by simp [HE.out], hb2⟩
end Go.Proofs.YtghihgmgadaoeaaDoor
