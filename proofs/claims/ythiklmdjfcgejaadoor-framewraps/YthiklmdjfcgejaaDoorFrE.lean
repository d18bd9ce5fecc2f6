/-
  What the laws' awake answers; the frames of a list's texts.
-/
import Derived.Test.YthiklmdjfcgejaaDoorFrD
namespace Go.Proofs.YthiklmdjfcgejaaDoor
open Go.RowKit
theorem Scans.single {t : List UInt8} {L : List (List UInt8)} {s : Nat} (h : Scans (frB t) L s) (ht : t.length ≤ 262144) : L = [t] ∧ s = (frB t).length := by
  have h1 := Scans.whole [t] (fun x hx => by rw [List.mem_singleton.1 hx]; exact ht)
  have e : frsB [t] = frB t := by simp [frsB]
  rw [e] at h1
  obtain ⟨e1, e2⟩ := h.one h1
  exact ⟨e1, e2⟩
theorem Scans.small {b : List UInt8} {L : List (List UInt8)} {s : Nat} (h : Scans b L s) : L.length ≤ b.length ∧ s ≤ b.length ∧ ∀ t ∈ L, t.length ≤ 1000000 :=
  ⟨Nat.le_trans h.1.count h.1.2.1, h.1.2.1, fun t ht => Nat.le_trans (h.1.2.2 t ht) (by omega)⟩
theorem wpList_makeB {P : Program} {t e : TypeId} (T : ByteTypes P t e) {ops : Array Oper} {rest : List Oper} {o : Oper} {a : Act} {w : World} {Q : Exit → Act → World → Prop} (hgd : o.guard = none) (x y : Operand) (ho : o.op = .makeSlice t x y) (n : Nat) (z : Int) (hx : a.eval x = .int .i64 z) (hy : a.eval y = .int .i64 z) (hz : z = n) (hn : n ≤ 2000000)
    (h : ∀ g w', w.heap.size ≤ g → Bs w' (some ⟨g, 0, none⟩) n (List.replicate n 0) → Below w.heap.size w w' → wpList P ops Q rest (a.put o.dst (.slice (some ⟨g, 0, none⟩) n n)) w') : wpList P ops Q (o :: rest) a w := by
  subst hz
  have hrun := made_byte P T n (by omega) w
  refine wpList_plain hgd fun K hK => ?_
  unfold Oper.wp execOp
  simp only [ho, hx, hy, Sem.run_bind, hrun, Result.andThen_ok]
  refine hK _ _ (h _ _ (Nat.le_refl _) ?_ ((Below.refl _ _).alloc (Nat.le_refl _) _))
  refine ((Row.new w e (madeCells #[.int .u8 0] n)).own (base := w.heap.size) (Nat.le_refl _) (by simp) (size_madeCells _ _) (by omega) (fun j u hu => ?_)).bs
  obtain ⟨hj, e⟩ := List.getElem?_eq_some_iff.1 hu
  rw [List.length_replicate] at hj
  rw [List.getElem_replicate] at e
  subst e
  simp [madeCells, hj, Nat.mod_one]
set_option maxRecDepth 100000 in
set_option maxHeartbeats 2000000 in
theorem awake_any (w : World) (hT : Tab 2 w) : Calls Tryd.prog 8 #[] w fun e w' => e = .returned (.bool true) ∧ Below w.heap.size w w' := by
  have hlen : (frB [97]).length = 11 := by rw [frB_length, show ([97] : List UInt8).length = 1 from rfl, show wide 1 = 1 from wide_eq (k := 0) (by omega) (by omega)]
  have HT := Lib.hid hT
  have HW := Lib.hid (fun A c w hB hT => Wrap_any A 1 c [97] w hB (by omega) hT)
  have HS := Lib.hid (fun A c w hB hnc hT => Scan_any A 11 c (frB [97]) w hB hnc (by omega) hT)
  have HSi := Lib.hid (fun L s h => Scans.single (t := [97]) (L := L) (s := s) h (by simp))
  have HO := Lib.hid (fun w => (one_of w 97 5).bs)
  have HSm := Lib.hid (fun A B c d w h h2 => Same_yes A B 1 c d [97] w h h2 (by omega))
  have b0 : Below w.heap.size w (w.alloc (.cells #[.int .u8 97] 5)) := (Below.refl _ _).alloc (Nat.le_refl _) _
  unfold NewErr at HW
  unfold ScanE at HS
  rw [hlen] at HW HSi
  generalize frB [97] = F at *
  clear hT hlen
  go_enter Tryd.func8, Tryd.ntmps8
  go_wp2_with (first
    | (go_at_call 9; refine (HW.out _ 1 _ (HO.out w) (HT.out.below b0)).mono ?_; rintro e1 w1 ⟨A1, c1, rfl, hc1, hb1, ho1⟩; have b1 := b0.trans (hb1.mono b0.size); have hs1 := b1.size; have HO1 := Lib.hid ho1; clear ho1)
    | (go_at_call 13; refine (HS.out A1 c1 w1 HO1.out.bs hc1 (HT.out.below b1)).mono ?_; rintro e2 w2 ⟨L2, k2, s2, A2, c2, rfl, hS2, ho2, hb2⟩; have HL2 := Lib.hid ho2.length; obtain ⟨rfl, rfl⟩ := HSi.out _ _ hS2; obtain rfl : 1 = k2 := HL2.out; obtain ⟨bx, ox, A3, c3, l3, rfl, -, hx3, hcell, -, hB3⟩ := ho2.bss.get (k := 0) (by omega); obtain rfl : [97] = l3 := (by injection hx3); rw [Nat.add_zero] at hcell; have b2 := b1.trans (hb2.mono hs1); have HB3 := Lib.hid hB3; clear hx3 hB3 ho2)
    | (go_at_call 12; refine (HSm.out A3 _ c3 1 _ (HB3.out.below ((Below.refl _ _).alloc (Nat.le_refl _) _)) (HO.out w2)).mono ?_; rintro e3 w3 ⟨rfl, m3, rfl⟩))
  go_ret
  exact ⟨rfl, below_drewN (b2.alloc b2.size _) _⟩
/-- what made answers -/
def MadeE (w : World) (L : List (List UInt8)) (e : Ending) (w' : World) : Prop :=
  ∃ (ok : Bool) (T : List UInt8) (A : Option Addr) (m c : Nat), e = .returned (.tuple #[.slice A m c, .bool ok]) ∧ (ok = true → T = frsB L ∧ L.length ≤ 40 ∧ ∀ t ∈ L, t.length ≤ 500) ∧ m ≤ c ∧ Own w' w.heap.size 5 (.slice A m c) m T ∧ Below w.heap.size w w'
theorem madeE_no {w w' : World} {L : List (List UInt8)} (hb : Below w.heap.size w w') : MadeE w L (.returned (.tuple #[.slice none 0 0, .bool false])) w' :=
  ⟨false, [], none, 0, 0, rfl, (fun x => by cases x), Nat.le_refl _, Own.nil _ _ _, hb⟩
theorem frs_small {L : List (List UInt8)} (h : L.length ≤ 40) (h5 : ∀ t ∈ L, t.length ≤ 500) : (frsB L).length ≤ 20680 := by
  have := frsB_le 500 (by omega) L h5
  omega
set_option maxRecDepth 100000 in
set_option maxHeartbeats 2000000 in
theorem made_any (A : Option Addr) (n c : Nat) (L : List (List UInt8)) (w : World) (hB : Bss w A n L) (hT : Tab 2 w) : Calls Tryd.prog 16 #[.slice A n c] w (MadeE w L) := by
  have HB := Lib.hid hB
  have HT := Lib.hid hT
  have HL := Lib.hid hB.1
  clear hB hT
  by_cases hn : n ≤ 40
  · have hni : ¬ (40 : Int) < (n : Int) := by omega
    go_enter Tryd.func16, Tryd.ntmps16
    go_wp2
    go_loopw [4, 5] (fun o i wr => ∃ (k m1 : Nat) (A1 : Option Addr) (c1 : Nat), k ≤ n ∧ i = .int .i64 (k : Int) ∧ o = .slice A1 m1 c1 ∧ Below w.heap.size w wr ∧ Hid (Own wr w.heap.size 5 (.slice A1 m1 c1) m1 (frsB (L.take k))) ∧ Hid (∀ t ∈ L.take k, t.length ≤ 500)) (fun _ i _ => n - (intOf i).toNat)
    case atStart => exact ⟨0, 0, none, 0, Nat.zero_le _, rfl, rfl, Below.refl _ _, Lib.hid (Own.nil _ _ _), Lib.hid (fun t h => by simp at h)⟩
    case round =>
      obtain ⟨k, m1, A1, c1, hk, rfl, rfl, hbel, HO, H5⟩ := hrel
      have hbs := hbel.size
      by_cases hlt : k < n
      · obtain ⟨b, off, A', c', l, rfl, -, hx, hcell, hlc, hBl⟩ := (HB.out.below hbel).get hlt
        have hki : (k : Int) < (n : Int) := by omega
        have HX := Lib.hid hx
        have HBl := Lib.hid hBl
        clear hx hBl
        by_cases h5 : 500 < l.length
        · have h5i : (500 : Int) < (l.length : Int) := by omega
          go_wp2
          go_ret2
          exact madeE_no hbel
        · have h5i : ¬ (500 : Int) < (l.length : Int) := by omega
          obtain ⟨m, hm⟩ : ∃ m, l.length = m := ⟨_, rfl⟩
          have H52 := Lib.hid (show ∀ t ∈ L.take (k + 1), t.length ≤ 500 from fun t ht => by
            rw [take_snoc HX.out] at ht
            rcases List.mem_append.1 ht with ht | ht
            · exact H5.out t ht
            · rw [List.mem_singleton.1 ht]; omega)
          have HF := Lib.hid (frsB_take L k l HX.out)
          have hm1 : m1 ≤ 20680 := by
            rw [← HO.out.length]
            exact frs_small (by rw [List.length_take]; omega) H5.out
          have HY := Lib.hid (own_any A' l.length c' l wr HBl.out (by omega))
          have HW := Lib.hid (fun A c w hB hT => Wrap_any A l.length c l w hB (by omega) hT)
          have hfl : (frB l).length ≤ 600 := by have := wide8 (N := l.length) (by omega); rw [frB_length]; omega
          unfold S4NewSlice at HY
          unfold NewErr at HW
          rw [hm] at hcell h5i HY HW h5 hlc
          generalize frB l = F at *
          obtain ⟨f, hf⟩ : ∃ f, F.length = f := ⟨_, rfl⟩
          rw [hf] at HW hfl
          clear hm hf H5 HX HBl h5 hlc
          go_wp2_with (first
            | (go_at_call 10; refine HY.out.mono ?_; rintro e2 w2 ⟨A2, c2, rfl, hc2, hb2, ho2⟩; have hs2 := hb2.size; have b2 := hbel.trans (hb2.mono hbs))
            | (go_at_call 9; refine (HW.out A2 c2 w2 ho2.bs (HT.out.below b2)).mono ?_; rintro e3 w3 ⟨A3, c3, rfl, hc3, hb3, ho3⟩; have hs3 := hb3.size; have b3 := b2.trans (hb3.mono b2.size); have HO3 := Lib.hid (own_below (own_below HO.out hb2) hb3))
            | (at_builtin; refine wpList_app Tryd.byteTypes rfl (.tmp 34) (.tmp 35) rfl w.heap.size (.slice A1 m1 c1) m1 (frsB (L.take k)) rfl HO3.out A3 f c3 F rfl ho3.bs (by omega) (by omega) ?_; intro A4 c4 w4 hown hbel4 _))
          go_roundw
          case rel => exact ⟨k + 1, m1 + f, A4, c4, by omega, by go_num, rfl, b3.trans hbel4, Lib.hid (by rw [HF.out]; exact hown), H52⟩
          case measure => simp [intOf]; omega
      · obtain rfl : k = n := by omega
        have HO2 := Lib.hid (show Own wr w.heap.size 5 (.slice A1 m1 c1) m1 (frsB L) by
          have h := HO.out; rw [List.take_of_length_le (by rw [HL.out]; exact Nat.le_refl _)] at h; exact h)
        have H52 := Lib.hid (show ∀ t ∈ L, t.length ≤ 500 by
          have h := H5.out; rw [List.take_of_length_le (by rw [HL.out]; exact Nat.le_refl _)] at h; exact h)
        obtain ⟨A2, c2, e2, hc2⟩ := HO.out.form
        injection e2 with e3 e4 e5
        subst e3 e5
        clear HO H5 e4
        go_wp2
        go_ret2
        exact ⟨true, frsB L, A1, m1, c1, rfl, fun _ => ⟨rfl, by rw [HL.out]; exact hn, H52.out⟩, hc2, HO2.out, hbel⟩
  · have hni : (40 : Int) < (n : Int) := by omega
    go_enter Tryd.func16, Tryd.ntmps16
    go_wp2
    go_ret2
    exact madeE_no (Below.refl _ _)
end Go.Proofs.YthiklmdjfcgejaaDoor
