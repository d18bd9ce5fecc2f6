/-
  ShaR: ported texts, joined.
-/
import Derived.Test.YtgiobcpljbpmiaaDoorSha
import Derived.Deep.RegionWith
import Derived.Deep.Matrix
namespace Go.Proofs.YtgiobcpljbpmiaaDoor
section
open Go.RowKit
/-- append([]byte{}, x...): a copy in new memory; the block under another name -/
theorem wpList_copyAt {P : Program} {t e : TypeId} (T : ByteTypes P t e) {w : World} {ops : Array Oper} {rest : List Oper} {o : Oper} {a : Act} {Q : Exit → Act → World → Prop} (hgd : o.guard = none) (s x : Operand)
    (ho : o.op = .call { callee := .builtin .append, args := #[s, x], argTypes := #[t, t] })
    (bk : Nat) (hbk : bk = w.heap.size) (hs : a.eval s = .slice (some ⟨bk, 0, none⟩) 0 0)
    (A : Option Addr) (m c : Nat) (l : List UInt8) (hx : a.eval x = .slice A m c) (hr : Bs w A m l) (hb : m ≤ 140737488355328)
    (h : ∀ A' c' w', Bs w' A' m l → m ≤ c' → Below w.heap.size w w' → Own w' w.heap.size e (.slice A' m c') m l → wpList P ops Q rest (a.put o.dst (.slice A' m c')) w') :
    wpList P ops Q (o :: rest) a (w.alloc (.cells #[] e)) := by
  subst hbk
  have hbel0 : Below w.heap.size w (w.alloc (.cells #[] e)) := (Below.refl _ _).alloc (Nat.le_refl _) _
  refine wpList_app T hgd s x ho w.heap.size _ 0 [] hs (empty_new w e) A m c l hx (hr.below hbel0) (by omega) (by simp) ?_
  intro A' c' w' hown hbel _
  rw [Nat.zero_add] at hown ⊢
  obtain ⟨A2, c2, hv, hc⟩ := hown.form
  injection hv with h1 h2 h3
  subst h1 h3
  exact h A' c' w' (by simpa using hown.bs) hc (hbel0.trans hbel) (by simpa using hown)
theorem below_set8 {B : Nat} {w w' : World} (h : Below B w w') (a b c d e f g i : Value) :
    Below B w ((((((((w'.setCell ⟨B, 0, none⟩ a).setCell ⟨B, 1, none⟩ b).setCell ⟨B, 2, none⟩ c).setCell ⟨B, 3, none⟩ d).setCell ⟨B, 4, none⟩ e).setCell ⟨B, 5, none⟩ f).setCell ⟨B, 6, none⟩ g).setCell ⟨B, 7, none⟩ i) :=
  (((((((h.setCell (p := ⟨B, 0, none⟩) (Nat.le_refl _) a).setCell (p := ⟨B, 1, none⟩) (Nat.le_refl _) b).setCell (p := ⟨B, 2, none⟩) (Nat.le_refl _) c).setCell (p := ⟨B, 3, none⟩) (Nat.le_refl _) d).setCell (p := ⟨B, 4, none⟩) (Nat.le_refl _) e).setCell (p := ⟨B, 5, none⟩) (Nat.le_refl _) f).setCell (p := ⟨B, 6, none⟩) (Nat.le_refl _) g).setCell (p := ⟨B, 7, none⟩) (Nat.le_refl _) i
theorem set8_lit (x0 x1 x2 x3 x4 x5 x6 x7 a b c d e f g i : Value) : ((((((((#[x0, x1, x2, x3, x4, x5, x6, x7].setIfInBounds 0 a).setIfInBounds 1 b).setIfInBounds 2 c).setIfInBounds 3 d).setIfInBounds 4 e).setIfInBounds 5 f).setIfInBounds 6 g).setIfInBounds 7 i) = #[a, b, c, d, e, f, g, i] := by simp
theorem byte_out (s : S8) (hok : s.ok) (j q sh : Nat) (X : Int) (hj : j < 32) (hq : j / 4 = q) (hX : s.at q = X) (hsh : 24 - 8 * ((j : Int) % 4) = (sh : Int)) : Value.int .u8 (X / 2 ^ sh % 256) = bcell ((digestS s).getD j 0) := by
  obtain ⟨g1, g2⟩ := s.at_W32 hok q
  rw [hX] at g1 g2
  obtain ⟨N, rfl⟩ := Int.eq_ofNat_of_zero_le g1
  have e : sh = 8 * (3 - j % 4) := by omega
  rw [digestS_get s j hj, hq, hX, bytesOf4_get _ _ (by omega), e, byte_at N (3 - j % 4)]
  rfl
theorem row_set8 {w : World} {B : Nat} {t : TypeId} {x0 x1 x2 x3 x4 x5 x6 x7 : Value} (h : Row w B t #[x0, x1, x2, x3, x4, x5, x6, x7]) (a b c d e f g i : Value) :
    Row ((((((((w.setCell ⟨B, 0, none⟩ a).setCell ⟨B, 1, none⟩ b).setCell ⟨B, 2, none⟩ c).setCell ⟨B, 3, none⟩ d).setCell ⟨B, 4, none⟩ e).setCell ⟨B, 5, none⟩ f).setCell ⟨B, 6, none⟩ g).setCell ⟨B, 7, none⟩ i) B t #[a, b, c, d, e, f, g, i] :=
  by
  have h8 := (((((((h.set 0 a).set 1 b).set 2 c).set 3 d).set 4 e).set 5 f).set 6 g).set 7 i
  rwa [set8_lit] at h8
/-- eight words are answered: s, under a name of their own -/
def RetWords (w : World) (s : S8) (e : Ending) (w' : World) : Prop := ∃ a b c d e2 f g h : Int, Hid (s = ⟨a, b, c, d, e2, f, g, h⟩) ∧ e = .returned (.agg #[.int .u32 a, .int .u32 b, .int .u32 c, .int .u32 d, .int .u32 e2, .int .u32 f, .int .u32 g, .int .u32 h]) ∧ Below w.heap.size w w'
theorem RefBlock_ex (a b c d e f g h : Int) (A : Option Addr) (cap : Nat) (l : List UInt8) (w : World) (hB : Bs w A 64 l) (hT : Tab 1 w) (hok : S8.ok ⟨a, b, c, d, e, f, g, h⟩) :
    Calls Tryd.prog 74 #[.agg #[.int .u32 a, .int .u32 b, .int .u32 c, .int .u32 d, .int .u32 e, .int .u32 f, .int .u32 g, .int .u32 h], .slice A 64 cap] w (RetWords w (blockS ⟨a, b, c, d, e, f, g, h⟩ l)) := by
  refine (RefBlock_any a b c d e f g h A cap l w hB hT hok).mono ?_
  intro en w' ⟨he, hb⟩
  generalize blockS ⟨a, b, c, d, e, f, g, h⟩ l = R at *
  exact ⟨R.a, R.b, R.c, R.d, R.e, R.f, R.g, R.h, Lib.hid rfl, he, hb⟩
/-- the first k bytes of the digest stand -/
def Outs (s : S8) (k : Nat) (cs : Array Value) : Prop := cs.size = 32 ∧ ∀ j, j < k → cs[j]? = some (bcell ((digestS s).getD j 0))
theorem Outs.step {s : S8} {k : Nat} {cs : Array Value} (h : Outs s k cs) (hk : k < 32) : Outs s (k + 1) (cs.setIfInBounds k (bcell ((digestS s).getD k 0))) := by
  refine ⟨by rw [Array.size_setIfInBounds]; exact h.1, fun j hj => ?_⟩
  rw [Array.getElem?_setIfInBounds]
  by_cases e : k = j
  · subst e; rw [if_pos rfl, if_pos (by rw [h.1]; exact hk)]
  · rw [if_neg e, h.2 j (by omega)]
theorem Outs.all {s : S8} {cs : Array Value} (h : Outs s 32 cs) : cs = bcells (digestS s) := by
  apply Array.ext_getElem?
  intro j
  by_cases hj : j < 32
  · rw [h.2 j hj, bcells_get _ _ (by rw [digestS_length]; exact hj)]; rfl
  · rw [Array.getElem?_eq_none (by rw [h.1]; omega), Array.getElem?_eq_none (by rw [bcells_size, digestS_length]; omega)]
set_option maxRecDepth 100000 in
set_option maxHeartbeats 2000000 in
theorem RefSum_any (A : Option Addr) (n c : Nat) (l : List UInt8) (w : World) (hB : Bs w A n l) (_hnc : n ≤ c) (hF : First w) (hT : Tab 1 w) (hn : n ≤ 1000000) :
    Calls Tryd.prog 61 #[.slice A n c] w fun e w' => e = .returned (.agg (bcells (sumL l))) ∧ Below w.heap.size w w' := by
  have HB := Lib.hid hB
  have HT := Lib.hid hT
  have HF := Lib.hid hF
  have hl := hB.1
  have hpl := padL_length n
  have hpz : padZ n ≤ 63 := by unfold padZ; omega
  have HPL := Lib.hid hpl
  have HL := Lib.hid hl
  clear hB hT hF hl hpl
  go_enter Tryd.func61, Tryd.ntmps61
  go_wp2_with (first
    | (at_builtin; refine wpList_copyAt Tryd.byteTypes rfl (.tmp 8) (.tmp 9) rfl (w.heap.size + 1) (by simp) rfl A n c l rfl (HB.out.below ((Below.refl _ _).alloc (Nat.le_refl _) _)) (by omega) ?_; intro A1 c1 w1 hB1 hc1 hb1 ho1; obtain ⟨zs, hzs, hrz, hb1', hs1⟩ := sum_facts w _ w1 rfl hb1; have HZ := Lib.hid hrz; have HZS := Lib.hid hzs; have HO1 := Lib.hid (Own.mono (base' := w.heap.size + 1) ho1 (by simp)); clear hB1 ho1 hrz hzs hb1)
    | (go_at_call 73; (refine (RefPad_ok n _ (by omega)).mono ?_; rintro e2 w2 ⟨A2, n2, c2, rfl, hB2, hc2, hb2, ho2⟩; have HB2 := Lib.hid hB2; have hn2 : n2 ≤ 72 := Nat.le_trans (Nat.le_of_eq hB2.1.symm) (by rw [HPL.out]; omega); have hs2 := hb2.size; have HO2 := Lib.hid (own_below HO1.out hb2); clear hB2 ho2))
    | (at_builtin; refine wpList_app Tryd.byteTypes rfl (.tmp 11) (.tmp 14) rfl (w.heap.size + 1) _ n l rfl HO2.out A2 n2 c2 _ rfl HB2.out (by omega) (by omega) ?_; intro A3 c3 w3 ho3 hb3 hg3; have HO3 := Lib.hid ho3; have hbw3 : Below w.heap.size w w3 := (hb1'.trans (hb2.mono (by omega))).trans (hb3.mono (by omega)); have HZ3 := Lib.hid ((HZ.out.below hb2 HZ.out.lt).below hb3 (by omega)); have hF3 := HF.out.below hbw3; have HT3 := Lib.hid (HT.out.below hbw3); have f0 : w3.cell? ⟨0, 0, none⟩ = some (.int .u32 1779033703) := hF3.2 0 (by omega); have f1 : w3.cell? ⟨0, 1, none⟩ = some (.int .u32 3144134277) := hF3.2 1 (by omega); have f2 : w3.cell? ⟨0, 2, none⟩ = some (.int .u32 1013904242) := hF3.2 2 (by omega); have f3 : w3.cell? ⟨0, 3, none⟩ = some (.int .u32 2773480762) := hF3.2 3 (by omega); have f4 : w3.cell? ⟨0, 4, none⟩ = some (.int .u32 1359893119) := hF3.2 4 (by omega); have f5 : w3.cell? ⟨0, 5, none⟩ = some (.int .u32 2600822924) := hF3.2 5 (by omega); have f6 : w3.cell? ⟨0, 6, none⟩ = some (.int .u32 528734635) := hF3.2 6 (by omega); have f7 : w3.cell? ⟨0, 7, none⟩ = some (.int .u32 1541459225) := hF3.2 7 (by omega); clear ho3 hg3 hF3))
  obtain ⟨A4, c4, e4, hc4⟩ := HO3.out.form
  injection e4 with e5 e6 e7
  subst e5 e7
  have hB3 := HO3.out.bs
  have hn2' : n2 = 9 + padZ n := by rw [← HPL.out]; exact HB2.out.1.symm
  have hblk : n + n2 = 64 * blocksN n := by rw [blocksN_eq, hn2']; omega
  obtain ⟨K, hK⟩ : ∃ K, blocksN n = K := ⟨_, rfl⟩
  rw [hK] at hblk
  obtain ⟨M, hM⟩ : ∃ M, l ++ padL n = M := ⟨_, rfl⟩
  rw [hM] at hB3
  have HB3 := Lib.hid hB3
  have HSum := Lib.hid (show sumL l = digestS (compN M K) by unfold sumL; rw [HL.out, hM, hK])
  obtain ⟨NN, hNN⟩ : ∃ NN, n + n2 = NN := ⟨_, rfl⟩
  rw [hNN] at hblk HB3 hc4
  rw [hNN]
  have HNN := Lib.hid hNN
  have hNNb : NN ≤ 1100000 := by omega
  have HBK := Lib.hid hblk
  have hs3 := hbw3.size
  clear hB3 hn2' hK hM hNN hblk HO3 HO2 HO1 HB2 HB hb2 hb3 hb1'
  go_loopw [5] (fun i wr => ∃ (k : Nat) (a b c d e f g h : Int), k ≤ K ∧ i = .int .i64 ((64 * k : Nat) : Int) ∧ Hid (compN M k = ⟨a, b, c, d, e, f, g, h⟩) ∧ Below w3.heap.size w3 wr ∧ Row wr w3.heap.size 115 #[.int .u32 a, .int .u32 b, .int .u32 c, .int .u32 d, .int .u32 e, .int .u32 f, .int .u32 g, .int .u32 h]) (fun i _ => NN - (intOf i).toNat)
  case atStart => exact ⟨0, _, _, _, _, _, _, _, _, Nat.zero_le _, rfl, Lib.hid rfl, (Below.refl _ _).alloc (Nat.le_refl _) _, Row.new _ _ _⟩
  case round =>
    obtain ⟨k, a, b, c', d, e, f, g, h, hk, rfl, HC, hbr, hr⟩ := hrel
    have HR := Lib.hid hr
    have HOK := Lib.hid (compN_ok M k)
    rw [HC.out] at HOK
    have hrs := hbr.size
    by_cases hlt : k < K
    · obtain ⟨i, hi⟩ : ∃ i, 64 * k = i := ⟨_, rfl⟩
      have hi64 : i + 64 ≤ NN := by have := HBK.out; omega
      obtain ⟨b3, off3, x3, hA3, hb3lt, _, _⟩ := HB3.out.get (k := 0) (by omega)
      subst hA3
      have HBB := Lib.hid (((HB3.out.drop (m := i)).take (m := 64) (by omega)).below hbr)
      have HST := Lib.hid (show compN M (k + 1) = blockS (compN M k) ((M.drop (64 * k)).take 64) from rfl)
      rw [hi] at HST
      have q0 : wr.cell? ⟨w3.heap.size, 0, none⟩ = some (.int .u32 a) := hr.cell 0
      have q1 : wr.cell? ⟨w3.heap.size, 1, none⟩ = some (.int .u32 b) := hr.cell 1
      have q2 : wr.cell? ⟨w3.heap.size, 2, none⟩ = some (.int .u32 c') := hr.cell 2
      have q3 : wr.cell? ⟨w3.heap.size, 3, none⟩ = some (.int .u32 d) := hr.cell 3
      have q4 : wr.cell? ⟨w3.heap.size, 4, none⟩ = some (.int .u32 e) := hr.cell 4
      have q5 : wr.cell? ⟨w3.heap.size, 5, none⟩ = some (.int .u32 f) := hr.cell 5
      have q6 : wr.cell? ⟨w3.heap.size, 6, none⟩ = some (.int .u32 g) := hr.cell 6
      have q7 : wr.cell? ⟨w3.heap.size, 7, none⟩ = some (.int .u32 h) := hr.cell 7
      have HI := Lib.hid hi
      have i1 : IntKind.i64.wrap ((i : Int) + 64) = (i : Int) + 64 := IntWalk.i64_in _ (by omega)
      have i2 : (0 : Int) ≤ (i : Int) := by omega
      have i3 : (i : Int) ≤ (i : Int) + 64 := by omega
      have i4 : (i : Int) + 64 ≤ (c3 : Int) := by omega
      have i5 : ((i : Int) + 64).toNat = i + 64 := by omega
      have i6 : ¬ c3 = i := by omega
      have i7 : (0 : Int) ≤ (i : Int) + 64 := by omega
      have i8 : (i : Int) < (NN : Int) := by omega
      rw [hi]
      clear hr hi
      go_wp2_with fail
      go_region_with (go_at_call 74; (refine (RefBlock_ex a b c' d e f g h _ _ ((M.drop i).take 64) _ (by exact HBB.out) (by (have hq := HT3.out.below hbr; exact hq)) HOK.out).mono ?_; rintro e9 w9 ⟨ra, rb, rc, rd, re, rf, rg, rh, HRR, rfl, hb9⟩; have HR9 := Lib.hid (Row.below (w := wr.drew) HR.out hb9 HR.out.lt); have z0 : w9.cell? ⟨w3.heap.size, 0, none⟩ = some (.int .u32 a) := HR9.out.cell 0; have fz0 := HR9.out.frozen 0; have z1 : w9.cell? ⟨w3.heap.size, 1, none⟩ = some (.int .u32 b) := HR9.out.cell 1; have fz1 := HR9.out.frozen 1; have z2 : w9.cell? ⟨w3.heap.size, 2, none⟩ = some (.int .u32 c') := HR9.out.cell 2; have fz2 := HR9.out.frozen 2; have z3 : w9.cell? ⟨w3.heap.size, 3, none⟩ = some (.int .u32 d) := HR9.out.cell 3; have fz3 := HR9.out.frozen 3; have z4 : w9.cell? ⟨w3.heap.size, 4, none⟩ = some (.int .u32 e) := HR9.out.cell 4; have fz4 := HR9.out.frozen 4; have z5 : w9.cell? ⟨w3.heap.size, 5, none⟩ = some (.int .u32 f) := HR9.out.cell 5; have fz5 := HR9.out.frozen 5; have z6 : w9.cell? ⟨w3.heap.size, 6, none⟩ = some (.int .u32 g) := HR9.out.cell 6; have fz6 := HR9.out.frozen 6; have z7 : w9.cell? ⟨w3.heap.size, 7, none⟩ = some (.int .u32 h) := HR9.out.cell 7; have fz7 := HR9.out.frozen 7; skip))
      all_goals
        go_wp2_with fail
        refine ⟨⟨k + 1, ra, rb, rc, rd, re, rf, rg, rh, by omega, ?_, Lib.hid ?_, ?_, ?_⟩, ?_⟩
        · rw [show ((64 * (k + 1) : Nat) : Int) = (i : Int) + 64 by have := HI.out; omega]
        · rw [HST.out, HC.out]; exact HRR.out
        · exact below_set8 (hbr.drew.trans (hb9.mono hrs)) _ _ _ _ _ _ _ _
        · exact row_set8 HR9.out _ _ _ _ _ _ _ _
        · simp only [intOf]; omega
    · obtain rfl : k = K := by omega
      obtain ⟨w5, hw5⟩ : ∃ w5, w5 = wr := ⟨wr, rfl⟩
      subst hw5
      have hbk := HBK.out
      clear hr
      have hge : ¬ ((64 * k : Nat) : Int) < (NN : Int) := by omega
      go_wp2_with fail
      go_loopw [7] (fun i wr => ∃ (j : Nat) (cs : Array Value), j ≤ 32 ∧ i = .int .i64 (j : Int) ∧ Below w5.heap.size w5 wr ∧ Row wr w5.heap.size 104 cs ∧ Outs ⟨a, b, c', d, e, f, g, h⟩ j cs) (fun i _ => 32 - (intOf i).toNat)
      case atStart => exact ⟨0, _, Nat.zero_le _, rfl, (Below.refl _ _).alloc (Nat.le_refl _) _, Row.new _ _ _, rfl, fun j hj => by omega⟩
      case round =>
        obtain ⟨j, cs, hj, rfl, hb6, hr6, hout⟩ := hrel
        have HR6 := Lib.hid hr6
        have HOut := Lib.hid hout
        have h5lt := HR.out.lt
        by_cases hlt2 : j < 32
        · obtain ⟨q, hq⟩ : ∃ q, j / 4 = q := ⟨_, rfl⟩
          have hX := ((HR.out.below hb6 h5lt).cell q).trans (v8_get ⟨a, b, c', d, e, f, g, h⟩ q (by omega))
          obtain ⟨g1, g2⟩ := S8.at_W32 _ HOK.out q
          have hcell := hr6.cell j
          have hfz := hr6.frozen j
          have hin : j < cs.size := by rw [hout.1]; omega
          rw [Array.getElem?_eq_getElem hin] at hcell
          have hq' : (j : Int) / 4 = (q : Int) := by omega
          have i0 : (0 : Int) ≤ (j : Int) := by omega
          have i32 : (j : Int) < 32 := by omega
          have q8 : (q : Int) < 8 := by omega
          have HQ := Lib.hid hq
          have HX := Lib.hid (rfl : S8.at ⟨a, b, c', d, e, f, g, h⟩ q = S8.at ⟨a, b, c', d, e, f, g, h⟩ q)
          clear hr6 hout hq
          generalize hxe : S8.at ⟨a, b, c', d, e, f, g, h⟩ q = X at *
          have HXe := Lib.hid hxe
          clear hxe HX
          have m4 : 0 ≤ 24 - 8 * ((j : Int) % 4) := by omega
          have m5 : 24 - 8 * ((j : Int) % 4) < 32 := by omega
          obtain ⟨sh, hsh⟩ : ∃ sh : Nat, 24 - 8 * ((j : Int) % 4) = (sh : Int) := ⟨(24 - 8 * ((j : Int) % 4)).toNat, by omega⟩
          have hsh32 : sh < 32 := by omega
          have HBy := Lib.hid (byte_out _ HOK.out j q sh X hlt2 HQ.out HXe.out hsh)
          go_wp2_with fail
          go_roundw
          case rel =>
            refine ⟨j + 1, _, by omega, by go_num, hb6.setCell (by simp) _, HR6.out.set _ _, ?_⟩
            rw [HBy.out]
            exact HOut.out.step hlt2
          case measure => simp [intOf]; omega
        · obtain rfl : j = 32 := by omega
          have hcs := hout.all
          subst hcs
          have HZ5 := Lib.hid ((HZ3.out.below hbr HZ3.out.lt).below hb6 (by have := HZ3.out.lt; omega))
          have H32 := Lib.hid (show (bcells (digestS ⟨a, b, c', d, e, f, g, h⟩)).size = 32 by rw [bcells_size, digestS_length])
          have h6s := hb6.size
          clear hr6 hout
          go_wp2_with (first | (with_reducible refine wpList_load_row Tryd.agg25 rfl (.tmp 6) rfl _ rfl 104 _ HR6.out H32.out ?_) | (with_reducible refine wpList_store_row Tryd.agg25 rfl (.tmp 2) (.tmp 46) rfl _ _ rfl rfl 104 zs HZ5.out H32.out HZS.out (bcells_one _) ?_; intro w9 hr9 ho9; have HR9 := Lib.hid hr9; clear hr9))
          have hsum : sumL l = digestS ⟨a, b, c', d, e, f, g, h⟩ := by rw [HSum.out, HC.out]
          rw [hsum]
          exact bodyPost_ret (results_row1 Tryd.agg25 Tryd.results61 rfl HR9.out H32.out) rfl ⟨rfl, ((hbw3.trans (hbr.mono hs3)).trans (hb6.mono (by omega))).trans (ho9.below (by omega) (by omega))⟩
end
section
open Go.RowKit
end
section
open Go.ChangeShapes Go.WideShapes Go.ChangeAt Go.RowKit
/-- each of the first n cells holds a slice of bytes -/
def Parts (w : World) (a0 : Option Addr) (n : Nat) : Prop :=
  ∀ r, r < n → ∃ (b off : Nat) (A : Option Addr) (k c : Nat) (l : List UInt8), a0 = some ⟨b, off, none⟩ ∧ b < w.heap.size ∧ w.cell? ⟨b, off + r, none⟩ = some (.slice A k c) ∧ k ≤ c ∧ Bs w A k l
theorem Parts.below {w w' : World} {a0 : Option Addr} {n : Nat} (h : Parts w a0 n) (hb : Below w.heap.size w w') : Parts w' a0 n := fun r hr => by
  obtain ⟨b, off, A, k, c, l, e, hlt, hc, hk, hB⟩ := h r hr
  exact ⟨b, off, A, k, c, l, e, Nat.lt_of_lt_of_le hlt hb.size, (hb.cell (p := ⟨b, off + r, none⟩) hlt).trans hc, hk, hB.below hb⟩
theorem HashAt.belowB {w w' : World} {g B : Nat} {m : List UInt8} (h : HashAt w g m) (hb : Below B w w') (hg : g < B) : HashAt w' g m := by
  obtain ⟨P, hp, hr, ht⟩ := h; exact ⟨P, hp, hr.below hb hg, ht⟩
theorem own_only {w w' : World} {base g : Nat} {e : TypeId} {v : Value} {n : Nat} {l : List UInt8} (h : Own w base e v n l) (ho : Only g w w') (hg : g < base) : Own w' base e v n l := by
  refine ⟨h.1, ?_⟩
  rcases h.2 with h0 | ⟨b, cap, cur, hv, hge, hb, hr⟩
  · exact .inl h0
  · exact .inr ⟨b, cap, cur, hv, hge, (ho.block b ((Array.getElem?_eq_some_iff.1 hb).1) (by omega)).trans hb, hr⟩
/-- append([]byte{}, x...) under a guard that says yes -/
theorem wpList_copyG {P : Program} {t e : TypeId} (T : ByteTypes P t e) {w : World} {ops : Array Oper} {rest : List Oper} {o : Oper} {a : Act} {Q : Exit → Act → World → Prop} (hw : Region.wanted o (yielded ops a.tmps) = true) (s x : Operand)
    (ho : o.op = .call { callee := .builtin .append, args := #[s, x], argTypes := #[t, t] })
    (hs : a.eval s = .slice (some ⟨w.heap.size, 0, none⟩) 0 0)
    (A : Option Addr) (m c : Nat) (l : List UInt8) (hx : a.eval x = .slice A m c) (hr : Bs w A m l) (hb : m ≤ 140737488355328)
    (h : ∀ A' c' w', Bs w' A' m l → m ≤ c' → Below w.heap.size w w' → wpList P ops Q rest (a.put o.dst (.slice A' m c')) w') :
    wpList P ops Q (o :: rest) a (w.alloc (.cells #[] e)) := by
  have hbel0 : Below w.heap.size w (w.alloc (.cells #[] e)) := (Below.refl _ _).alloc (Nat.le_refl _) _
  refine wpList_step fun K hK => ?_
  rw [if_pos hw]
  obtain ⟨A', c', w', hrun, h2, h3, h4⟩ := run_app T o.type (w.alloc (.cells #[] e)) w.heap.size _ 0 [] (empty_new w e) A m c l (hr.below hbel0) (by omega) (by simp)
  rw [Nat.zero_add] at h2 hrun
  obtain ⟨A2, c2, hv, hc⟩ := h2.form
  injection hv with q1 q2 q3
  subst q1 q3
  unfold Oper.wp execOp
  simp only [ho, resolve, invoke, builtin, Sem.run_bind, Sem.run_pure, Result.andThen_ok, List.map_toArray, List.map_cons, List.map_nil, hs, hx, hrun]
  exact hK _ _ (h A' c' w' (by simpa using h2.bs) hc (hbel0.trans h3))
end
end Go.Proofs.YtgiobcpljbpmiaaDoor
