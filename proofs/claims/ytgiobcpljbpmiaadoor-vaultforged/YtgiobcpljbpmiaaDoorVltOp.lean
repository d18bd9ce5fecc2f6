/-
  The document's Open: what is opened of three files' bytes.
-/
import Derived.Test.YtgiobcpljbpmiaaDoorVltM
import Derived.Test.YtgiobcpljbpmiaaDoorVltZ
namespace Go.Proofs.YtgiobcpljbpmiaaDoor
open Go.RowKit
theorem OwnL.texts {w : World} {base : Nat} {v : Value} {n : Nat} {L : List (List UInt8)} (h : OwnL w base v n L) : Texts w (fun b => base ≤ b ∧ b < w.heap.size) v n L := by
  obtain ⟨vs, h1, h2, h3⟩ := h
  refine ⟨vs, ⟨h1.1, ?_⟩, fun b hb => ?_, h2, fun k x l hx hl => ⟨(h3 k x l hx hl).mono (Nat.zero_le _), fun b hb => ?_⟩⟩
  · rcases h1.2 with h0 | ⟨g, cap, cur, hv, hge, hr⟩
    · exact .inl h0
    · exact .inr ⟨g, cap, cur, hv, Nat.zero_le _, hr⟩
  · obtain ⟨q, cs, r⟩ := ownsRow_block h1 hb
    exact ⟨q, (Array.getElem?_eq_some_iff.1 r).1⟩
  · obtain ⟨q, cs, r⟩ := ownsRow_block (h3 k x l hx hl) hb
    exact ⟨q, (Array.getElem?_eq_some_iff.1 r).1⟩
/-- while the document opens: its vault at m, with so many records so far -/
def RO (w w5 : World) (m G : Nat) (tv : Value) (wr : World) (k : Nat) (rv : Value) (L : List (List UInt8)) : Prop :=
  Below w.heap.size w wr ∧ Off (· = m) w5 wr ∧ Row wr m 35 #[.int .i64 (G : Int), tv, rv] ∧ OwnL wr w5.heap.size rv k L
theorem RO.below {w w5 wr w' : World} {m G k : Nat} {tv rv : Value} {L : List (List UInt8)} (h : RO w w5 m G tv wr k rv L) (hb : Below wr.heap.size wr w') : RO w w5 m G tv w' k rv L :=
  ⟨h.1.trans (hb.mono h.1.size), h.2.1.trans (Off.of_below (F := (· = m)) hb) (fun _ q => .inl q), h.2.2.1.below hb h.2.2.1.lt, h.2.2.2.below hb⟩
theorem RO.row {w w5 wr : World} {m G k : Nat} {tv rv : Value} {L : List (List UInt8)} (h : RO w w5 m G tv wr k rv L) : Row wr m 35 #[.int .i64 (G : Int), tv, rv] := h.2.2.1
theorem RO.grown {w w5 w2 w4 : World} {m G k : Nat} {tv rv : Value} {L : List (List UInt8)} (h : RO w w5 m G tv w2 k rv L) (hm5 : m < w5.heap.size) (hb : Below w5.heap.size w2 w4) : Row w4 m 35 #[.int .i64 (G : Int), tv, rv] := h.row.below hb hm5
theorem RO.app {w w5 w2 w4 : World} {m G k k' : Nat} {tv rv rv' : Value} {L L' : List (List UInt8)} (h : RO w w5 m G tv w2 k rv L) (hm : w.heap.size ≤ m) (hm5 : m < w5.heap.size) (hb : Below w5.heap.size w2 w4) (hs : w.heap.size ≤ w5.heap.size) (ho : OwnL w4 w5.heap.size rv' k' L') : RO w w5 m G tv (w4.setCell ⟨m, 2, none⟩ rv') k' rv' L' := by
  have hO : Only m w4 (w4.setCell ⟨m, 2, none⟩ rv') := Only.setCell _ _ _ _
  refine ⟨(h.1.trans (hb.mono hs)).trans (hO.below hm (Nat.le_trans h.1.size hb.size)), (h.2.1.trans (⟨hb.os, hb.tape, hb.output, hb.size, fun b hb1 hb2 => hb.block b (by omega)⟩ : Off (w5.heap.size ≤ ·) w2 w4) (fun _ q => .inr q)).trans (Off.setCell (F := (· = m)) w4 m 2 rv' rfl) (fun x q => .inl q), (h.grown hm5 hb).set 2 rv', ho.only hO hm5⟩
theorem RO.done {w w5 wr : World} {m G k n c : Nat} {A : Option Addr} {rv : Value} {L : List (List UInt8)} {V : Vs} (h : RO w w5 m G (.slice A n c) wr k rv L) (hm : w.heap.size ≤ m) (hs : w.heap.size ≤ w5.heap.size) (ho : Own w5 (m + 1) 5 (.slice A n c) n V.text) (hG : G = V.gen) (hL : L = V.recs) : DM wr m (fun b => w.heap.size ≤ b ∧ b < wr.heap.size) V := by
  subst hG hL
  obtain ⟨h1, h2, h3, h4⟩ := h
  have hk := h4.length
  refine ⟨⟨hm, h3.lt⟩, fun b q => q.2, A, n, c, rv, h3, ownsRow_keep (ho.mono (Nat.zero_le _)) fun b cs hb hb2 => ?_, fun b hb => ?_, ?_⟩
  · have hl := ho.lt b hb
    exact (h2.block b hl.2 (fun e => by have := hl.1; omega)).trans hb2
  · have hl := ho.lt b hb
    exact ⟨by have := hl.1; omega, by have := hl.2; have := h2.size; omega⟩
  · rw [hk]
    exact h4.texts.mono (fun b q => ⟨Nat.le_trans hs q.1, q.2⟩)
/-- what the document's Open answers -/
def ROE (w : World) (V : Vs) (n : Nat) (e : Ending) (w' : World) : Prop := ∃ (m : Nat) (D : Nat → Prop), e = .returned (.tuple #[.pointer (some ⟨m, 0, none⟩), .int .i64 (n : Int)]) ∧ (∀ b, D b → w.heap.size ≤ b) ∧ DM w' m D V ∧ Below w.heap.size w w'
set_option maxRecDepth 100000 in
set_option maxHeartbeats 4000000 in
theorem ROpen_any (A0 A1 A2 : Option Addr) (n0 c0 n1 c1 n2 c2 n : Nat) (j one two : List UInt8) (V : Vs) (w : World) (hB0 : Bs w A0 n0 j) (hB1 : Bs w A1 n1 one) (hB2 : Bs w A2 n2 two) (k0 : n0 ≤ c0) (k1 : n1 ≤ c1) (k2 : n2 ≤ c2) (l0 : n0 ≤ 900000) (l1 : n1 ≤ 900000) (l2 : n2 ≤ 900000) (hF : First w) (hT : Tab 1 w) (hH : Opened j one two V.gen V.text V.recs n) :
    Calls Tryd.prog 30 #[.slice A0 n0 c0, .slice A1 n1 c1, .slice A2 n2 c2] w (ROE w V n) := by
  obtain ⟨Lx, hA, hs, hrx⟩ := hH
  have hln := hB0.1
  have HAll := Lib.hid (fun acc s (h : codeV.All j acc s) => (h.one hA))
  have HRx := Lib.hid hrx
  have HG1 := Lib.hid (show (snapP one two).1 = V.gen by rw [hs])
  have HG2 := Lib.hid (show (snapP one two).2 = V.text by rw [hs])
  obtain ⟨s1, hs1⟩ : ∃ s1, slotP one 1 = s1 := ⟨_, rfl⟩
  obtain ⟨s2, hs2⟩ : ∃ s2, slotP two 0 = s2 := ⟨_, rfl⟩
  have HS1 := Lib.hid (fun wq (hb : Below w.heap.size w wq) => show Calls Tryd.prog 45 #[.slice A1 n1 c1, .int .i64 1] wq (SlotE wq s1) from by rw [← hs1]; exact slot_any A1 n1 c1 one 1 wq (hB1.below hb) k1 l1 (hF.below hb) (hT.below hb))
  have HS2 := Lib.hid (fun wq (hb : Below w.heap.size w wq) => show Calls Tryd.prog 45 #[.slice A2 n2 c2, .int .i64 0] wq (SlotE wq s2) from by rw [← hs2]; exact slot_any A2 n2 c2 two 0 wq (hB2.below hb) k2 l2 (hF.below hb) (hT.below hb))
  have HPk := Lib.hid (show pickP s1 s2 = snapP one two by unfold snapP; rw [hs1, hs2])
  have HB := Lib.hid hB0
  have HF := Lib.hid hF
  have HT := Lib.hid hT
  have HLn := Lib.hid hln
  have hb0 : Below w.heap.size w (w.alloc (.cells #[.int .i64 0, .slice none 0 0, .slice none 0 0] 35)) := (Below.refl _ _).alloc (Nat.le_refl _) _
  have HX0 := Lib.hid (Row.new w 35 #[.int .i64 0, .slice none 0 0, .slice none 0 0])
  obtain ⟨wz, hwz⟩ : ∃ wz, w.alloc (.cells #[.int .i64 0, .slice none 0 0, .slice none 0 0] 35) = wz := ⟨_, rfl⟩
  have hlz : wz.heap.size = w.heap.size + 1 := by rw [← hwz]; simp
  rw [hwz] at hb0 HX0
  obtain ⟨m, hm⟩ : ∃ m, w.heap.size = m := ⟨_, rfl⟩
  have hmw : w.heap.size ≤ m := by omega
  have HLz := Lib.hid (show m + 1 ≤ wz.heap.size by omega)
  rw [hm] at HX0
  clear hlz
  clear hB0 hB1 hB2 hF hT hA hs hrx hs1 hs2 hln
  go_enter Tryd.func30, Tryd.ntmps30
  go_wp2_with fail
  refine (HS1.out wz hb0).mono ?_
  rintro e1 w1 ⟨A3, c3, rfl, ho3, hb3⟩
  have B1 : Below w.heap.size w w1 := hb0.trans (hb3.mono hb0.size)
  have HO3 := Lib.hid ho3
  have HB3 := Lib.hid hb3
  clear ho3 hb3
  go_wp2_with fail
  refine (HS2.out w1 B1).mono ?_
  rintro e2 w2 ⟨A4, c4, rfl, ho4, hb4⟩
  have B2 : Below w.heap.size w w2 := B1.trans (hb4.mono B1.size)
  have HO4 := Lib.hid ho4
  have HB4 := Lib.hid hb4
  clear ho4 hb4
  go_wp2_with fail
  refine (pick_own s1 s2 V.gen V.text (HPk.out.trans (Prod.ext HG1.out HG2.out)) c3 c4 A3 A4 wz.heap.size w2 (HO3.out.below HB4.out) (HO4.out.mono HB3.out.size)).mono ?_
  rintro e3 w3 ⟨A5, c5, rfl, ho5, rfl⟩
  have HO5 := Lib.hid (ho5.mono HLz.out)
  clear ho5
  have hr2 := HX0.out.below (HB3.out.trans (HB4.out.mono HB3.out.size)) HLz.out
  have x0 := hr2.cell 0
  have x1 := hr2.cell 1
  have y0 := hr2.frozen 0
  have y1 := hr2.frozen 1
  have hO : Only m w2 ((w2.setCell ⟨m, 0, none⟩ (.int .i64 (V.gen : Int))).setCell ⟨m, 1, none⟩ (.slice A5 V.text.length c5)) := (Only.setCell m 0 w2 _).trans (Only.setCell m 1 _ _)
  have hr5 := (hr2.set 0 (.int .i64 (V.gen : Int))).set 1 (.slice A5 V.text.length c5)
  obtain ⟨w5, hw5⟩ : ∃ w5, (w2.setCell ⟨m, 0, none⟩ (.int .i64 (V.gen : Int))).setCell ⟨m, 1, none⟩ (.slice A5 V.text.length c5) = w5 := ⟨_, rfl⟩
  rw [hw5] at hO hr5
  have B5 : Below w.heap.size w w5 := B2.trans (hO.below hmw B2.size)
  have HTx := Lib.hid (own_only HO5.out hO (by omega))
  have hm5 := Lib.hid hr5.lt
  have HRO := Lib.hid (show RO w w5 m V.gen (.slice A5 V.text.length c5) w5 0 (.slice none 0 0) (recsP V.gen []) from ⟨B5, ⟨rfl, rfl, rfl, Nat.le_refl _, fun _ _ _ => rfl⟩, hr5, OwnL.nil _ _⟩)
  have HB5 := Lib.hid B5
  clear hr2 hO hr5 B1 B2 B5 HO3 HO4 HB3 HB4 HO5 HX0 HLz hb0 hmw HS1 HS2 HPk HG1 HG2
  go_wp2_with fail
  go_loopw [15] (fun i wr => ∃ (k s : Nat) (A1 : Option Addr) (c1 : Nat) (acc : List (Nat × List UInt8)), i = .int .i64 (s : Int) ∧ s ≤ n0 ∧ RO w w5 m V.gen (.slice A5 V.text.length c5) wr k (.slice A1 k c1) (recsP V.gen acc) ∧ Hid (codeV.Part j acc s)) (fun i _ => n0 - (intOf i).toNat)
  case atStart => exact ⟨0, 0, none, 0, [], rfl, Nat.zero_le _, HRO.out, Lib.hid (Code.Part.nil j)⟩
  case round =>
    obtain ⟨k, s, A1', c1', acc, rfl, hsn, hro, HP⟩ := hrel
    have hsnw : s ≤ n0 := hsn
    have hbel := hro.1
    have HC := Lib.hid (fun A' h => First_any A' (n0 - s) (c0 - s) (j.drop s) wr h (by omega) (by omega) (HF.out.below hbel) (HT.out.below hbel))
    have HRo := Lib.hid hro
    have HM := Lib.hid hm
    clear hro
    by_cases hok : (rdFr (j.drop s)).1 = true
    · obtain ⟨t0, s0, hr⟩ : ∃ t0 s0, rdFr (j.drop s) = (true, t0, s0) := ⟨_, _, by rw [← hok]⟩
      have ht0 := (rdFr_is _ _ _ hr).2.2
      have HR := Lib.hid hr
      by_cases hpk : (partP t0).1 = true
      · obtain ⟨g, u, hp⟩ : ∃ g u, partP t0 = (true, g, u) := ⟨_, _, by rw [← hpk]⟩
        have hstep := HP.out.step (g, u) s0 (rdV_yes _ _ _ _ _ hr hp)
        have hs9 : 9 ≤ s0 := by
          have h1 := rdFr_is _ _ _ hr
          have h2 := congrArg List.length h1.1
          rw [List.length_take, frB_length] at h2
          omega
        have hs0 : s + s0 ≤ n0 := by have := hstep.2.1; have := HLn.out; omega
        have hcnt : (recsP V.gen acc).length ≤ 900000 := Nat.le_trans (recsP_le _ _) (by have := HP.out.count; omega)
        have HKn := Lib.hid (show k + 1 ≤ 1000000000000 by have := HRo.out.2.2.2.length; omega)
        have HP2 := Lib.hid hp
        have hsnoc := recsP_snoc V.gen acc (g, u)
        clear hp hok hpk hcnt hr
        by_cases hgg : g = V.gen
        · have hgv : ((g : Int) == (V.gen : Int)) = true := by rw [hgg]; simp
          rw [if_pos hgg] at hsnoc
          have HSn := Lib.hid hsnoc
          have HSt := Lib.hid hstep
          clear hsnoc hstep HP hgg hm
          go_wp2_with (first
            | ((with_reducible refine wpList_from Tryd.byteTypes rfl (.tmp 51) (.tmp 52) rfl A0 n0 c0 s rfl rfl hsnw k0 ?_); intro A2 hA2 hI2)
            | (go_at_call 47; refine (HC.out A2 (hA2 _ _ (HB.out.below hbel))).mono ?_; rintro e1 w1 ⟨ok, t, s1, A3, c3, rfl, hok1, hok2, hc3, ho3, hb3⟩; obtain rfl : ok = true := hok1.trans (by rw [HR.out]); obtain ⟨rfl, rfl⟩ : t0 = t ∧ s0 = s1 := (by have h := (HR.out.symm.trans (hok2 rfl)); injection h with _ h; injection h with h1 h2; exact ⟨h1, h2⟩); clear hok1 hok2; have HR1 := Lib.hid (HRo.out.below hb3); have HO3 := Lib.hid ho3; clear ho3)
            | (go_at_call 48; refine (RPart_any A3 t0.length c3 t0 w1 HO3.out.bs hc3 (by have := ht0; omega)).mono ?_; rintro e2 w2 ⟨ok, g2, u2, A4, c4, rfl, hk1, hk2, hc4, hg4, ho4, hb4⟩; obtain rfl : ok = true := ok_yes hk2 (by rw [HP2.out]); obtain ⟨rfl, rfl⟩ : g = g2 ∧ u = u2 := (by have h := (HP2.out.symm.trans (hk1 rfl)); injection h with _ h; injection h with h1 h2; exact ⟨h1, h2⟩); clear hk1 hk2; have HR2 := Lib.hid (HR1.out.below hb4); have HO4 := Lib.hid ho4; clear ho4; have z0 := HR2.out.row.cell 0; have z2 := HR2.out.row.cell 2; have HLe := Lib.hid HR1.out.2.1.size)
            | (at_builtin; refine wpList_appT rfl (.tmp 82) (.tmp 84) rfl w5.heap.size (.slice A1' k c1') k (recsP V.gen acc) rfl HR2.out.2.2.2 (.slice A4 u.length c4) u (HO4.out.mono HLe.out) HKn.out HR2.out.2.1.size rfl ?_; intro A6 c6 w6 ho6 hb6; have hr6 := HR2.out.grown hm5.out hb6; have z6 := hr6.cell 2; have y6 := hr6.frozen 2; have HRN := Lib.hid (HR2.out.app (rv' := .slice A6 (k + 1) c6) (Nat.le_of_eq HM.out) hm5.out hb6 HB5.out.size ho6); clear ho6 hr6))
          rw [← HSn.out] at HRN
          go_roundw
          case rel => exact ⟨k + 1, s + s0, A6, c6, acc ++ [(g, u)], by go_num, by omega, HRN.out, HSt⟩
          case measure => simp [intOf]; omega
        · have hgv : ((g : Int) == (V.gen : Int)) = false := by simp; omega
          rw [if_neg hgg, List.append_nil] at hsnoc
          have HSn := Lib.hid hsnoc
          have HSt := Lib.hid hstep
          clear hsnoc hstep HP hgg hm
          go_wp2_with (first
            | ((with_reducible refine wpList_from Tryd.byteTypes rfl (.tmp 51) (.tmp 52) rfl A0 n0 c0 s rfl rfl hsnw k0 ?_); intro A2 hA2 hI2)
            | (go_at_call 47; refine (HC.out A2 (hA2 _ _ (HB.out.below hbel))).mono ?_; rintro e1 w1 ⟨ok, t, s1, A3, c3, rfl, hok1, hok2, hc3, ho3, hb3⟩; obtain rfl : ok = true := hok1.trans (by rw [HR.out]); obtain ⟨rfl, rfl⟩ : t0 = t ∧ s0 = s1 := (by have h := (HR.out.symm.trans (hok2 rfl)); injection h with _ h; injection h with h1 h2; exact ⟨h1, h2⟩); clear hok1 hok2; have HR1 := Lib.hid (HRo.out.below hb3); have HO3 := Lib.hid ho3; clear ho3)
            | (go_at_call 48; refine (RPart_any A3 t0.length c3 t0 w1 HO3.out.bs hc3 (by have := ht0; omega)).mono ?_; rintro e2 w2 ⟨ok, g2, u2, A4, c4, rfl, hk1, hk2, hc4, hg4, ho4, hb4⟩; obtain rfl : ok = true := ok_yes hk2 (by rw [HP2.out]); obtain ⟨rfl, rfl⟩ : g = g2 ∧ u = u2 := (by have h := (HP2.out.symm.trans (hk1 rfl)); injection h with _ h; injection h with h1 h2; exact ⟨h1, h2⟩); clear hk1 hk2; have HR2 := Lib.hid (HR1.out.below hb4); have HO4 := Lib.hid ho4; clear ho4; have z0 := HR2.out.row.cell 0))
          rw [← HSn.out] at HR2
          go_roundw
          case rel => exact ⟨k, s + s0, A1', c1', acc ++ [(g, u)], by go_num, by omega, HR2.out, HSt⟩
          case measure => simp [intOf]; omega
      · have HN := Lib.hid (show codeV.All j acc s from ⟨HP.out, rdV_other _ t0 s0 hr (by simpa using hpk)⟩)
        have HPk2 := Lib.hid hpk
        clear hok hpk HP hr
        go_wp2_with (first
          | ((with_reducible refine wpList_from Tryd.byteTypes rfl (.tmp 51) (.tmp 52) rfl A0 n0 c0 s rfl rfl hsnw k0 ?_); intro A2 hA2 hI2)
          | (go_at_call 47; refine (HC.out A2 (hA2 _ _ (HB.out.below hbel))).mono ?_; rintro e1 w1 ⟨ok, t, s1, A3, c3, rfl, hok1, hok2, hc3, ho3, hb3⟩; obtain rfl : ok = true := hok1.trans (by rw [HR.out]); obtain ⟨rfl, rfl⟩ : t0 = t ∧ s0 = s1 := (by have h := (HR.out.symm.trans (hok2 rfl)); injection h with _ h; injection h with h1 h2; exact ⟨h1, h2⟩); clear hok1 hok2; have HR1 := Lib.hid (HRo.out.below hb3); have HO3 := Lib.hid ho3; clear ho3)
          | (go_at_call 48; refine (RPart_any A3 t0.length c3 t0 w1 HO3.out.bs hc3 (by have := ht0; omega)).mono ?_; rintro e2 w2 ⟨ok, g2, u2, A4, c4, rfl, hk1, hk2, hc4, hg4, ho4, hb4⟩; obtain rfl : ok = false := ok_no hk1 HPk2.out; clear hk1 hk2; have HR2 := Lib.hid (HR1.out.below hb4); have HO4 := Lib.hid ho4; clear ho4; have z0 := HR2.out.row.cell 0))
        go_ret2
        obtain ⟨e1, e2⟩ := HAll.out acc s HN.out
        subst e2
        exact ⟨m, _, rfl, fun b q => q.1, HR2.out.done (Nat.le_of_eq HM.out) HB5.out.size HTx.out rfl (by rw [HRx.out, ← e1]), HR2.out.1⟩
    · have HN := Lib.hid (show codeV.All j acc s from ⟨HP.out, rdV_no _ (by simpa using hok)⟩)
      have HK := Lib.hid (show (rdFr (j.drop s)).1 = false by simpa using hok)
      clear hok HP
      go_wp2_with (first
        | ((with_reducible refine wpList_from Tryd.byteTypes rfl (.tmp 51) (.tmp 52) rfl A0 n0 c0 s rfl rfl hsnw k0 ?_); intro A2 hA2 hI2)
        | (go_at_call 47; refine (HC.out A2 (hA2 _ _ (HB.out.below hbel))).mono ?_; rintro e1 w1 ⟨ok, t, s1, A3, c3, rfl, hok1, hok2, hc3, ho3, hb3⟩; obtain rfl : ok = false := hok1.trans HK.out; clear hok1 hok2; have HR1 := Lib.hid (HRo.out.below hb3); have HO3 := Lib.hid ho3; clear ho3))
      go_ret2
      obtain ⟨e1, e2⟩ := HAll.out acc s HN.out
      subst e2
      exact ⟨m, _, rfl, fun b q => q.1, HR1.out.done (Nat.le_of_eq HM.out) HB5.out.size HTx.out rfl (by rw [HRx.out, ← e1]), HR1.out.1⟩
end Go.Proofs.YtgiobcpljbpmiaaDoor
