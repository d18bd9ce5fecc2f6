/-
  What (*sha.Hash).Sum answers of a hash of the message m: the sum of m.
-/
import Derived.Test.YtiidcnjhjojhoaaDoorObj
namespace Go.Proofs.YtiidcnjhjojhoaaDoor
open Go.RowKit
theorem join8_lit (a b c d e f g h : Int) (w : World) (hok : S8.ok ⟨a, b, c, d, e, f, g, h⟩) :
    Calls Tryd.prog 36 #[.agg #[.int .u32 a, .int .u32 b, .int .u32 c, .int .u32 d, .int .u32 e, .int .u32 f, .int .u32 g, .int .u32 h]] w fun en w' => en = .returned (.agg (bcells (digestS ⟨a, b, c, d, e, f, g, h⟩))) ∧ Below w.heap.size w w' := join8_any ⟨a, b, c, d, e, f, g, h⟩ w hok
theorem pad_blocks (m : List UInt8) : (m ++ padL m.length).length / 64 = blocksN m.length := by
  rw [List.length_append, padL_length]; unfold blocksN; rw [Nat.add_assoc]
theorem hs_facts (w : World) (cs z : Array Value) (w3 : World) (hs : cs.size = 32) (ho3 : Only (w.heap.size + 1) ((w.alloc (.cells cs 24)).alloc (.cells z 61)) w3) : ∃ zs : Array Value, zs.size = 32 ∧ Row w3 w.heap.size 24 zs ∧ Below w.heap.size w w3 :=
  ⟨cs, hs, ((Row.new w 24 cs).alloc _).only ho3 (by omega), (((Below.refl _ _).alloc (Nat.le_refl _) _).alloc (by simp) _).trans (ho3.below (by omega) (by simp; omega))⟩
theorem own_apart {w : World} {base : Nat} {e : TypeId} {A : Option Addr} {n c : Nat} {l : List UInt8} {g : Nat} (h : Own w base e (.slice A n c) n l) (hg : g < base) : Apart A n g := by
  rcases h.2 with ⟨hv, hn⟩ | ⟨b, cap, cur, hv, hb, _⟩
  · exact .inl hn
  · injection hv with h1 h2 h3
    exact .inr ⟨b, 0, h1, by omega⟩
theorem hash_words {w : World} {g : Nat} {m : List UInt8} (h : HashAt w g m) : ∃ a b c d e f gg hh : Int, compN m (m.length / 64) = ⟨a, b, c, d, e, f, gg, hh⟩ ∧ w.cell? ⟨g, 0, none⟩ = some (.int .u32 a) ∧ w.cell? ⟨g, 1, none⟩ = some (.int .u32 b) ∧ w.cell? ⟨g, 2, none⟩ = some (.int .u32 c) ∧ w.cell? ⟨g, 3, none⟩ = some (.int .u32 d) ∧ w.cell? ⟨g, 4, none⟩ = some (.int .u32 e) ∧ w.cell? ⟨g, 5, none⟩ = some (.int .u32 f) ∧ w.cell? ⟨g, 6, none⟩ = some (.int .u32 gg) ∧ w.cell? ⟨g, 7, none⟩ = some (.int .u32 hh) := by
  obtain ⟨P, _, hr, _⟩ := h
  refine ⟨_, _, _, _, _, _, _, _, rfl, ?_, ?_, ?_, ?_, ?_, ?_, ?_, ?_⟩
  · exact (hr.cell 0).trans (hcells_word _ P _ 0 (by omega))
  · exact (hr.cell 1).trans (hcells_word _ P _ 1 (by omega))
  · exact (hr.cell 2).trans (hcells_word _ P _ 2 (by omega))
  · exact (hr.cell 3).trans (hcells_word _ P _ 3 (by omega))
  · exact (hr.cell 4).trans (hcells_word _ P _ 4 (by omega))
  · exact (hr.cell 5).trans (hcells_word _ P _ 5 (by omega))
  · exact (hr.cell 6).trans (hcells_word _ P _ 6 (by omega))
  · exact (hr.cell 7).trans (hcells_word _ P _ 7 (by omega))
set_option maxRecDepth 100000 in
set_option maxHeartbeats 1000000 in
theorem HSum_any (g : Nat) (m : List UInt8) (w : World) (h : HashAt w g m) (hT : Tab 1 w) (hm : m.length ≤ 1152921504606846976) :
    Calls Tryd.prog 28 #[.pointer (some ⟨g, 0, none⟩)] w fun e w' => e = .returned (.agg (bcells (sumL m))) ∧ Below w.heap.size w w' := by
  obtain ⟨P, hP, hr, ht⟩ := h
  have HR := Lib.hid hr
  have HP := Lib.hid hP
  have HTk := Lib.hid ht
  have HS := Lib.hid (show (hcells (compN m (m.length / 64)) P m.length).size = 73 by rw [hcells_size, hP])
  have HT := Lib.hid hT
  have h2 := hT.1
  have hz := zeroV63
  have hglt := hr.lt
  have hc : w.cell? ⟨g, 72, none⟩ = some (.int .i64 (m.length : Int)) := (hr.cell 72).trans (hcells_72 _ P _ hP)
  have HC := Lib.hid hc
  clear hr hP ht hT
  go_enter Tryd.func28, Tryd.ntmps28
  go_wp2_with (first
    | (with_reducible refine wpList_load_row Tryd.agg63' rfl (.tmp 10) rfl _ rfl 61 _ (Row.alloc HR.out _) HS.out ?_)
    | ((with_reducible refine wpList_store_row Tryd.agg63' rfl (.tmp 3) (.tmp 11) rfl _ _ rfl rfl 61 z73 (Row.new1 w _ 61 z73) HS.out z73_size (hcells_one _ _ _) ?_); intro w3 hr3 ho3; obtain ⟨zs, hzs, hrz, hb3⟩ := hs_facts w _ _ w3 rfl ho3; have HR3 := Lib.hid hr3; have HZ := Lib.hid hrz; have HZS := Lib.hid hzs; have hc3 := (hb3.cell (p := ⟨g, 72, none⟩) hglt).trans HC.out; have hlt3 := hr3.lt; clear hr3 hrz hzs ho3)
    | (go_at_call 35; (refine (Pad_ok m.length _ hm).mono ?_; rintro e4 w4 ⟨A4, n4, c4, rfl, hB4, hnc4, hb4, ho4⟩; have HB4 := Lib.hid hB4; have HAp := Lib.hid (own_apart ho4 hlt3); have hn4 : n4 ≤ 72 := by (rw [← hB4.1, padL_length]; unfold padZ; omega)); have hs4 := hb4.size; clear hB4 ho4)
    | (go_at_call 27; (refine (Write_any (w.heap.size + 1) m A4 n4 c4 (padL m.length) w4 ⟨P, HP.out, HR3.out.below hb4 HR3.out.lt, HTk.out⟩ HB4.out HAp.out hnc4 ((HT.out.below hb3).below hb4) (by omega) (by omega)).mono ?_; rintro e5 w5 ⟨rfl, hh5, ho5⟩; obtain ⟨xa, xb, xc, xd, xe, xf, xg, xh, hx, x0, x1, x2, x3, x4, x5, x6, x7⟩ := hash_words hh5; have HX := Lib.hid hx; have HOK := Lib.hid (show S8.ok ⟨xa, xb, xc, xd, xe, xf, xg, xh⟩ by (rw [← hx]; exact compN_ok _ _)); have hs5 := ho5.size; clear hx hh5))
    | (go_at_call 36; (refine (join8_lit _ _ _ _ _ _ _ _ _ HOK.out).mono ?_; rintro e6 w6 ⟨rfl, hb6⟩; have HZ6 := Lib.hid (((HZ.out.below hb4 HZ.out.lt).only ho5 (by omega)).below hb6 (by have := HZ.out.lt; omega))))
    | ((with_reducible refine wpList_store_row Tryd.agg25 rfl (.tmp 2) (.tmp 24) rfl _ _ rfl rfl 24 zs HZ6.out ?hsz HZS.out (bcells_one _) ?_); rotate_left; intro w9 hr9 ho9; have HR9 := Lib.hid hr9; clear hr9))
  · have hbl := pad_blocks m
    have hsum : sumL m = digestS ⟨xa, xb, xc, xd, xe, xf, xg, xh⟩ := by unfold sumL; rw [← hbl, HX.out]
    rw [hsum]
    refine bodyPost_ret (results_row1 Tryd.agg25 Tryd.results28 rfl HR9.out (by rw [bcells_size, digestS_length])) rfl ⟨rfl, ?_⟩
    have hb5 : Below w.heap.size w w5 := (hb3.trans (hb4.mono (by omega))).trans (ho5.below (by omega) (by omega))
    exact (hb5.trans (hb6.mono (by omega))).trans (ho9.below (by omega) (by have := hb6.size; omega))
  case hsz => rw [bcells_size, digestS_length]
end Go.Proofs.YtiidcnjhjojhoaaDoor
