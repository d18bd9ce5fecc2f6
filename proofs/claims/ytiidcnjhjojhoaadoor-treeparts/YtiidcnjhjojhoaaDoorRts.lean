/-
  What tree.Root and tree.Path answer: the root of a tree, and a leaf's path, by the levels; or the error.
-/
import Derived.Test.YtiidcnjhjojhoaaDoorLev
namespace Go.Proofs.YtiidcnjhjojhoaaDoor
open Go.RowKit
def lenV : Value → Nat | .slice _ n _ => n | _ => 0
theorem LevAt.range {w : World} {g n : Nat} {L : List (List UInt8)} (h : LevAt w g n L) {j : Nat} (hj : j < n) : w.rangeAt g (32 * j) ((L.getD j []).map bcell) := by
  obtain ⟨b, off, d, e, _, hd, _, hB⟩ := h.ds.get hj
  injection e with e
  injection e with e1 e2
  subst e1 e2
  have he : L.getD j [] = d := by rw [List.getD_eq_getElem?_getD, hd]; rfl
  rw [he]
  have hr := hB.range
  rwa [Nat.zero_add] at hr
theorem OwnD.only {w w' : World} {base g : Nat} {v : Value} {n : Nat} {L : List (List UInt8)} (h : OwnD w base v n L) (ho : Only g w w') (hg : g < base) : OwnD w' base v n L := by
  refine ⟨h.1, h.2.1, ?_⟩
  rcases h.2.2 with h0 | ⟨b, cap, cur, hv, hge, hb, hr⟩
  · exact .inl h0
  · exact .inr ⟨b, cap, cur, hv, hge, (ho.block b (Array.getElem?_eq_some_iff.1 hb).1 (by omega)).trans hb, hr⟩
/-- []Digest of one -/
theorem run_build1 (p : List UInt8) (hp : p.length = 32) (w : World) :
    (Instr.buildSlice 22 1 #[(0, .agg (bcells p))]).run Tryd.prog w = .ok (.slice (some ⟨w.heap.size, 0, none⟩) 1 1) (w.alloc (.cells (bcells p) 24)) := by
  obtain ⟨i, hi, hz, hsize, hby⟩ := info_parts Tryd.infoD
  refine run_buildSlice w 22 24 1 _ _ i _ Tryd.under24 hi hz (by rw [hsize]; decide) (by rw [hsize]; decide) ?_
  rw [hsize]
  have hf := Great.fill_whole (s := 32) (by omega) [.agg (bcells p)] ((Array.range (1 * 32)).map ((Value.agg (bcells zero32)).cells[· % (Value.agg (bcells zero32)).cells.size]!))
    (fun v hv => by simp at hv; rw [hv]; simp [Value.cells, bcells_size, hp]) (by simp)
  have e : (([.agg (bcells p)] : List Value).flatMap fun v => v.cells.toList).toArray = bcells p := by
    simp [Value.cells, bcells]
  rw [e] at hf
  exact hf
theorem wpList_build1 {ops : Array Oper} {rest : List Oper} {o : Oper} {a : Act} {w : World} {Q : Exit → Act → World → Prop} (hgd : o.guard = none) (x : Operand) (ho : o.op = .buildSlice 22 1 #[(0, x)]) (p : List UInt8)
    (hx : a.eval x = .agg (bcells p)) (hp : p.length = 32)
    (h : ∀ g w', g = w.heap.size → Ds w' (some ⟨g, 0, none⟩) 1 [p] → Below w.heap.size w w' → wpList Tryd.prog ops Q rest (a.put o.dst (.slice (some ⟨g, 0, none⟩) 1 1)) w') : wpList Tryd.prog ops Q (o :: rest) a w := by
  refine wpList_plain hgd fun K hK => ?_
  have hd : Ds (w.alloc (.cells (bcells p) 24)) (some ⟨w.heap.size, 0, none⟩) 1 [p] := by
    refine ⟨rfl, Digs.one hp, ?_⟩
    have e : flat [p] = p := by simp [flat]
    rw [e]
    exact (Row.new w 24 (bcells p)).bsB hp
  unfold Oper.wp execOp
  simp only [ho, List.map_toArray, List.map_cons, List.map_nil, hx, Sem.run_bind, run_build1 p hp, Result.andThen_ok]
  exact hK _ _ (h _ _ rfl hd ((Below.refl _ _).alloc (Nat.le_refl _) _))
set_option maxRecDepth 100000 in
set_option maxHeartbeats 400000 in
theorem Root_no (A : Option Addr) (n c : Nat) (w : World) (h : okT (n : Int) = false) : Calls Tryd.prog 10 #[.slice A n c] w (RecD w zero32 1) := by
  have HM := Lib.hid (fun w => show Calls Tryd.prog 21 #[.int .i64 (n : Int)] w fun e w' => e = .returned (.bool false) ∧ w = w' by have q := mayBe_any n w; rwa [h] at q)
  clear h
  go_enter Tryd.func10, Tryd.ntmps10
  go_wp2_with (first
    | (go_at_call 21; refine (HM.out _).mono ?_; rintro e1 w1 ⟨rfl, rfl⟩)
    | (with_reducible refine wpList_store_row Tryd.agg25 rfl (.tmp 2) (.tmp 9) rfl _ _ rfl rfl 24 lit32 (Row.new w 24 lit32) lit32_size lit32_size lit32_one ?_; intro w9 hr9 ho9; have HR9 := Lib.hid hr9; clear hr9))
  exact bodyPost_ret (results_row2 Tryd.agg25 Tryd.results10 rfl rfl HR9.out lit32_size) rfl ⟨rfl, ((Below.refl _ _).alloc (Nat.le_refl _) _).trans (ho9.below (Nat.le_refl _) (by simp))⟩
set_option maxRecDepth 100000 in
set_option maxHeartbeats 2000000 in
theorem Root_ok (k : Nat) (A : Option Addr) (n c : Nat) (L : List (List UInt8)) (w : World) (hk : k ≤ 10) (hn : n = 2 ^ k) (hD : Ds w A n L) (hT : Tab 1 w) : Calls Tryd.prog 10 #[.slice A n c] w (RecD w (rootD k L) 0) := by
  have HM := Lib.hid (fun w => show Calls Tryd.prog 21 #[.int .i64 (n : Int)] w fun e w' => e = .returned (.bool true) ∧ w = w' by have q := mayBe_any n w; rwa [hn, okT_of hk, ← hn] at q)
  have hn1 : n ≤ 1024 := by rw [hn]; exact two_pow_le hk
  have HN := Lib.hid hn
  have HT := Lib.hid hT
  have h2 := hT.1
  have hb0 := (Below.refl w.heap.size w).alloc (Nat.le_refl _) (.cells lit32 24)
  have HC := Lib.hid (copied_any A n c L (w.alloc (.cells lit32 24)) (hD.below hb0) hn1)
  have HRS := Lib.hid (show (bcells (rootD k L)).size = 32 by rw [bcells_size, rootD_length k L hD.2.1 (by rw [hD.1, hn])])
  have HRL := Lib.hid (rootD_length k L hD.2.1 (by rw [hD.1, hn]))
  obtain ⟨R, hR⟩ : ∃ R, rootD k L = R := ⟨_, rfl⟩
  rw [hR] at HRS HRL ⊢
  have HR := Lib.hid hR
  clear hD hn hT hR
  go_enter Tryd.func10, Tryd.ntmps10
  go_wp2_with (first
    | (go_at_call 21; refine (HM.out _).mono ?_; rintro e1 w1 ⟨rfl, rfl⟩)
    | (go_at_call 22; refine HC.out.mono ?_; rintro e1 w1 ⟨g, rfl, hg, hl1, hb1⟩; have HL1 := Lib.hid hl1; simp at hg; have hs1 := hb1.size; simp at hs1; have HZ1 := Lib.hid ((Row.new w 24 lit32).below hb1 (by simp)); have hb1' := hb0.trans (hb1.mono (by simp)); clear hl1))
  go_loopw [4] (fun v wr => ∃ (j m : Nat) (M : List (List UInt8)), j ≤ 10 ∧ v = .slice (some ⟨g, 0, none⟩) m n ∧ Hid (m = 2 ^ j) ∧ m ≤ n ∧ LevAt wr g m M ∧ Hid (rootD j M = R) ∧ Below w.heap.size w wr ∧ Row wr w.heap.size 24 lit32) (fun v _ => lenV v)
  case atStart => exact ⟨k, n, L, hk, rfl, HN, Nat.le_refl _, HL1.out, HR, hb1', HZ1.out⟩
  case round =>
    obtain ⟨j, m, M, hj, rfl, HJ, hmn, hlev, HM2, hbel, hz⟩ := hrel
    have hbs := hbel.size
    have HLv := Lib.hid hlev
    have hglt := hlev.lt
    have HZr := Lib.hid hz
    have HTr := Lib.hid (HT.out.below hbel)
    clear hlev hz
    rcases j with _ | j
    · have hm1 : m = 1 := HJ.out
      subst hm1
      have HD0 := Lib.hid (show M.getD 0 [] = R from HM2.out)
      have HRG := Lib.hid (show wr.rangeAt g 0 (R.map bcell) by have q := HLv.out.range (j := 0) (by omega); rwa [HD0.out] at q)
      go_wp2_with (first
        | (with_reducible refine wpList_indexO rfl (.tmp 17) _ rfl g 0 1 n 0 0 _ rfl rfl rfl (by omega) rfl ?_)
        | (with_reducible refine wpList_loadD rfl (.tmp 18) rfl g 0 R rfl HRG.out HRL.out ?_)
        | (with_reducible refine wpList_store_row Tryd.agg25 rfl (.tmp 2) (.tmp 19) rfl _ _ rfl rfl 24 lit32 HZr.out HRS.out lit32_size (bcells_one _) ?_; intro w9 hr9 ho9; have HR9 := Lib.hid hr9; clear hr9))
      exact bodyPost_ret (results_row2 Tryd.agg25 Tryd.results10 rfl rfl HR9.out HRS.out) rfl ⟨rfl, hbel.trans (ho9.below (Nat.le_refl _) hbs)⟩
    · obtain ⟨h, hh⟩ : ∃ h, 2 ^ j = h := ⟨_, rfl⟩
      have hm2 : m = 2 * h := by have := HJ.out; rw [Nat.pow_succ] at this; omega
      have hh0 : 0 < h := by rw [← hh]; exact Nat.pow_pos (by decide)
      have i0 : (1 : Int) < (m : Int) := by omega
      have HH := Lib.hid hh
      have HRA := Lib.hid (raised_any g h n M wr m hm2 HLv.out hmn (by omega) HTr.out (by omega))
      have HLL := Lib.hid (rootT_level abL [] j M (by rw [HLv.out.1]; exact HJ.out))
      have hhm : h < m := by omega
      clear hh hm2
      go_wp2_with (go_at_call 23; refine HRA.out.mono ?_; rintro e3 w3 ⟨rfl, hl3, ho3⟩; have HL3 := Lib.hid hl3; have HZ3 := Lib.hid (HZr.out.only ho3 (by omega)); have hb3 := hbel.trans (ho3.below (B := w.heap.size) (by omega) hbs); clear hl3)
      go_roundw
      case rel => exact ⟨j, h, levelT abL M, by omega, rfl, Lib.hid HH.out.symm, by omega, HL3.out, Lib.hid (by rw [← HM2.out]; exact HLL.out.symm), hb3, HZ3.out⟩
      case measure => simp [lenV]; omega
set_option maxRecDepth 100000 in
set_option maxHeartbeats 400000 in
theorem Path_no (A : Option Addr) (n c : Nat) (i : Int) (w : World) (h : okT (n : Int) = false ∨ i < 0 ∨ (n : Int) ≤ i) : Calls Tryd.prog 15 #[.slice A n c, .int .i64 i] w (NewD w [] 1) := by
  have HM := Lib.hid (fun w => mayBe_any n w)
  cases ht : okT (n : Int)
  · rw [ht] at HM
    clear h ht
    go_enter Tryd.func15, Tryd.ntmps15
    go_wp2_with (go_at_call 21; refine (HM.out _).mono ?_; rintro e1 w1 ⟨rfl, rfl⟩)
    go_ret2
    exact NewD.nil w 1
  · rw [ht] at HM
    by_cases h0 : i < 0
    · clear h ht
      go_enter Tryd.func15, Tryd.ntmps15
      go_wp2_with (go_at_call 21; refine (HM.out _).mono ?_; rintro e1 w1 ⟨rfl, rfl⟩)
      go_ret2
      exact NewD.nil w 1
    · have h1 : (n : Int) ≤ i := by
        rcases h with h | h | h
        · rw [ht] at h; cases h
        · omega
        · exact h
      clear h ht
      go_enter Tryd.func15, Tryd.ntmps15
      go_wp2_with (go_at_call 21; refine (HM.out _).mono ?_; rintro e1 w1 ⟨rfl, rfl⟩)
      go_ret2
      exact NewD.nil w 1
set_option maxRecDepth 100000 in
set_option maxHeartbeats 2000000 in
theorem Path_ok (k : Nat) (A : Option Addr) (n c i : Nat) (L : List (List UInt8)) (w : World) (hk : k ≤ 10) (hn : n = 2 ^ k) (hi : i < n) (hD : Ds w A n L) (hT : Tab 1 w) : Calls Tryd.prog 15 #[.slice A n c, .int .i64 (i : Int)] w (NewD w (pathD k L i) 0) := by
  have HM := Lib.hid (fun w => show Calls Tryd.prog 21 #[.int .i64 (n : Int)] w fun e w' => e = .returned (.bool true) ∧ w = w' by have q := mayBe_any n w; rwa [hn, okT_of hk, ← hn] at q)
  have hn1 : n ≤ 1024 := by rw [hn]; exact two_pow_le hk
  have HN := Lib.hid hn
  have HT := Lib.hid hT
  have h2 := hT.1
  have i0 : ¬ (i : Int) < 0 := by omega
  have i1 : ¬ (n : Int) ≤ (i : Int) := by omega
  have hmk := run_madeD 0 10 0 10 rfl rfl (by omega) (by omega)
  have HC := Lib.hid (copied_any A n c L w hD hn1)
  obtain ⟨P, hP⟩ : ∃ P, pathD k L i = P := ⟨_, rfl⟩
  rw [hP]
  have HP := Lib.hid hP
  have HSZ := Lib.hid (show (bcells (List.replicate (10 * 32) (0 : UInt8))).size = 10 * 32 by rw [bcells_size, List.length_replicate])
  generalize bcells (List.replicate (10 * 32) 0) = Z at *
  clear hD hn hT hP
  go_enter Tryd.func15, Tryd.ntmps15
  go_wp2_with (first
    | (go_at_call 21; refine (HM.out _).mono ?_; rintro e1 w1 ⟨rfl, rfl⟩)
    | (go_at_call 22; refine HC.out.mono ?_; rintro e1 w1 ⟨g, rfl, hg, hl1, hb1⟩; have HL1 := Lib.hid hl1; have hs1 := hb1.size; have hg1 := hl1.lt; clear hl1))
  obtain ⟨B, hB⟩ : ∃ B, B = w1.heap.size := ⟨_, rfl⟩
  have HO1 := Lib.hid (show OwnD (w1.alloc (.cells Z 24)) B (.slice (some ⟨w1.heap.size, 0, none⟩) 0 10) 0 [] from OwnD.made w1 B 10 Z (by omega) (by omega) HSZ.out)
  have hB0 : B ≤ (w1.alloc (.cells Z 24)).heap.size := by simp; omega
  have hgB : g < B := by omega
  have HLz := Lib.hid (show LevAt (w1.alloc (.cells Z 24)) g n L by obtain ⟨q1, q2, R, q3⟩ := HL1.out; exact ⟨q1, q2, R, q3.alloc _⟩)
  have hbz : Below w.heap.size w (w1.alloc (.cells Z 24)) := hb1.alloc hs1 _
  clear hB
  go_loopw [1, 6, 7] (fun vi v pv wr => ∃ (j m x q : Nat) (M Y : List (List UInt8)) (A1 : Option Addr) (c1 : Nat), j ≤ 10 ∧ vi = .int .i64 (x : Int) ∧ v = .slice (some ⟨g, 0, none⟩) m n ∧ pv = .slice A1 q c1 ∧ Hid (m = 2 ^ j) ∧ m ≤ n ∧ x < m ∧ q + j ≤ 10 ∧ LevAt wr g m M ∧ OwnD wr B (.slice A1 q c1) q Y ∧ Hid (P = Y ++ pathD j M x) ∧ Below w.heap.size w wr ∧ B ≤ wr.heap.size) (fun _ v _ _ => lenV v)
  case atStart => exact ⟨k, n, i, 0, L, [], _, 10, hk, rfl, rfl, rfl, HN, Nat.le_refl _, hi, by omega, HLz.out, HO1.out, Lib.hid HP.out.symm, hbz, hB0⟩
  case round =>
    obtain ⟨j, m, x, q, M, Y, A1, c1, hj, rfl, rfl, rfl, HJ, hmn, hxm, hqj, hlev, hown, HY, hbel, hBr⟩ := hrel
    have hbs := hbel.size
    have HLv := Lib.hid hlev
    have hglt := hlev.lt
    have HO := Lib.hid hown
    have HTr := Lib.hid (HT.out.below hbel)
    clear hlev hown
    rcases j with _ | j
    · have hm1 : m = 1 := HJ.out
      subst hm1
      have HE := Lib.hid (show P = Y by have e := HY.out; rwa [show pathD 0 M x = [] from rfl, List.append_nil] at e)
      go_wp2_with fail
      go_ret2
      rw [HE.out]
      exact (HO.out.mono (by omega)).new hbel
    · obtain ⟨h, hh⟩ : ∃ h, 2 ^ j = h := ⟨_, rfl⟩
      have hm2 : m = 2 * h := by have := HJ.out; rw [Nat.pow_succ] at this; omega
      have hh0 : 0 < h := by rw [← hh]; exact Nat.pow_pos (by decide)
      have i2 : (1 : Int) < (m : Int) := by omega
      have HH := Lib.hid hh
      obtain ⟨b, hb⟩ : ∃ b, besideN x = b := ⟨_, rfl⟩
      have hbm : b < m := by rw [← hb, HJ.out]; exact besideN_lt (by rw [← HJ.out]; exact hxm)
      have hxor : bits .xor .i64 (x : Int) 1 = (b : Int) := by rw [beside_bits x (by omega), hb]
      have HPT := Lib.hid (show pathD (j + 1) M x = M.getD b [] :: pathD j (levelT abL M) (x / 2) by
        have e := pathT_level abL [] j M x (by rw [HLv.out.1]; exact HJ.out) (by rw [← HJ.out]; exact hxm)
        rwa [hb] at e)
      have HDL : Hid ((M.getD b []).length = 32) := Lib.hid (HLv.out.2.1.getD (by rw [HLv.out.1]; exact hbm))
      have HRG := Lib.hid (HLv.out.range hbm)
      have hdiv : ((x : Int)).tdiv 2 = ((x / 2 : Nat) : Int) := by rw [Int.tdiv_eq_ediv_of_nonneg (by omega)]; omega
      obtain ⟨o1, ho1⟩ : ∃ o, 0 + 32 * b = o := ⟨_, rfl⟩
      have HO1 := Lib.hid ho1
      rw [Nat.zero_add] at ho1
      rw [ho1] at HRG
      generalize M.getD b [] = d at *
      have HRA := Lib.hid (fun wq hl hT => raised_any g h n M wq m hm2 hl hmn (by omega) hT (by omega))
      have hhm : h < m := by omega
      have hx2 : x / 2 < h := by omega
      clear hh hm2 hb ho1
      go_wp2_with (first
        | (with_reducible refine wpList_indexO rfl (.tmp 29) (.tmp 31) rfl g 0 m n b o1 _ rfl rfl rfl hbm HO1.out ?_)
        | (with_reducible refine wpList_loadD rfl (.tmp 32) rfl g o1 d rfl HRG.out HDL.out ?_)
        | (with_reducible refine wpList_build1 rfl (.tmp 33) rfl d rfl HDL.out ?_; intro g4 w4 hg4 hd4 hb4; have HD4 := Lib.hid hd4; have hs4 := hb4.size; clear hd4 hg4)
        | (at_builtin; refine wpList_appD rfl (.tmp 28) (.tmp 34) rfl B _ q Y rfl (HO.out.below hb4) _ 1 1 [d] rfl HD4.out (by omega) (by omega) ?_; intro A5 c5 w5 ho5 hb5; have HO5 := Lib.hid ho5; have HL5 := Lib.hid ((HLv.out.below hb4 hglt).below hb5 hgB); have hs5 := hb5.size; have hb5' := (hbel.trans (hb4.mono hbs)).trans (hb5.mono (by omega)); have HT5 := Lib.hid (HT.out.below hb5'); clear ho5)
        | (go_at_call 23; refine (HRA.out w5 HL5.out HT5.out).mono ?_; rintro e6 w6 ⟨rfl, hl6, ho6⟩; have HL6 := Lib.hid hl6; have HO6 := Lib.hid (HO5.out.only ho6 hgB); have hs6 := ho6.size; have hb6 := hb5'.trans (ho6.below (B := w.heap.size) (by omega) hb5'.size); clear hl6))
      go_roundw
      case rel => exact ⟨j, h, x / 2, q + 1, levelT abL M, Y ++ [d], A5, c5, by omega, by go_num, rfl, rfl, Lib.hid HH.out.symm, by omega, hx2, by omega, HL6.out, HO6.out, Lib.hid (by rw [HY.out, HPT.out]; simp), hb6, by omega⟩
      case measure => simp [lenV]; omega
end Go.Proofs.YtiidcnjhjojhoaaDoor
