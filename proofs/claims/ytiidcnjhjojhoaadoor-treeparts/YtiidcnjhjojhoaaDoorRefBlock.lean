/-
  What the document's own Block (juratref02.Block) answers: the eight words behind a block of 64 bytes, for all words and bytes.
-/
import Derived.Test.YtiidcnjhjojhoaaDoorSpread
import Derived.BigRegion
namespace Go.Proofs.YtiidcnjhjojhoaaDoor
open Go.RowKit
theorem gen_world (w : World) (n : Nat) : ∃ w2, w2 = w.drewN n ∧ ∀ a, w2.cell? a = w.cell? a := ⟨_, rfl, fun _ => rfl⟩
theorem size8 (a b c d e f g h : Value) : #[a, b, c, d, e, f, g, h].size = 8 := rfl
theorem one8 (a b c d e f g h : Int) : (#[.int .u32 a, .int .u32 b, .int .u32 c, .int .u32 d, .int .u32 e, .int .u32 f, .int .u32 g, .int .u32 h] : Array Value).all (·.oneCell') = true := by simp [Value.oneCell']
theorem rnd_eq2 (y x A B C D E F G H : Int) : rnd y x ⟨A, B, C, D, E, F, G, H⟩ = ⟨(H + bS1 E + chW E F G + y + x + (bS0 A + majW A B C)) % 4294967296, A, B, C, (D + (H + bS1 E + chW E F G + y + x)) % 4294967296, E, F, G⟩ := by
  rw [rnd_eq]; generalize bS1 E = p; generalize chW E F G = q; generalize bS0 A = r; generalize majW A B C = t
  congr 1 <;> omega
def S8.at (s : S8) : Nat → Int
  | 0 => s.a | 1 => s.b | 2 => s.c | 3 => s.d | 4 => s.e | 5 => s.f | 6 => s.g | 7 => s.h | _ => 0
theorem v8_get (s : S8) (k : Nat) (h : k < 8) : (#[.int .u32 s.a, .int .u32 s.b, .int .u32 s.c, .int .u32 s.d, .int .u32 s.e, .int .u32 s.f, .int .u32 s.g, .int .u32 s.h] : Array Value)[k]? = some (.int .u32 (s.at k)) := by
  match k, h with
  | 0, _ | 1, _ | 2, _ | 3, _ | 4, _ | 5, _ | 6, _ | 7, _ => rfl
/-- the first k words are added up -/
def Mixed (s r : S8) (k : Nat) (cs : Array Value) : Prop := cs.size = 8 ∧ ∀ j, j < 8 → cs[j]? = some (.int .u32 (if j < k then add32 (s.at j) (r.at j) else s.at j))
theorem Mixed.zero (s r : S8) : Mixed s r 0 #[.int .u32 s.a, .int .u32 s.b, .int .u32 s.c, .int .u32 s.d, .int .u32 s.e, .int .u32 s.f, .int .u32 s.g, .int .u32 s.h] :=
  ⟨rfl, fun j hj => by rw [v8_get s j hj]; simp⟩
theorem Mixed.get_old {s r : S8} {k : Nat} {cs : Array Value} (h : Mixed s r k cs) (hk : k < 8) : cs[k]? = some (.int .u32 (s.at k)) := by
  rw [h.2 k hk]; simp
theorem Mixed.step {s r : S8} {k : Nat} {cs : Array Value} (h : Mixed s r k cs) (hk : k < 8) : Mixed s r (k + 1) (cs.setIfInBounds k (.int .u32 (add32 (s.at k) (r.at k)))) := by
  refine ⟨by rw [Array.size_setIfInBounds]; exact h.1, fun j hj => ?_⟩
  rw [Array.getElem?_setIfInBounds]
  by_cases e : k = j
  · subst e; rw [if_pos rfl, if_pos (by rw [h.1]; exact hk), if_pos (by omega)]
  · rw [if_neg e, h.2 j hj]
    by_cases h2 : j < k
    · rw [if_pos h2, if_pos (by omega)]
    · rw [if_neg h2, if_neg (by omega)]
theorem Mixed.all {s r : S8} {cs : Array Value} (h : Mixed s r 8 cs) : cs = #[.int .u32 (add32 s.a r.a), .int .u32 (add32 s.b r.b), .int .u32 (add32 s.c r.c), .int .u32 (add32 s.d r.d), .int .u32 (add32 s.e r.e), .int .u32 (add32 s.f r.f), .int .u32 (add32 s.g r.g), .int .u32 (add32 s.h r.h)] := by
  apply Array.ext_getElem?
  intro j
  by_cases hj : j < 8
  · rw [h.2 j hj, if_pos hj]
    match j, hj with
    | 0, _ | 1, _ | 2, _ | 3, _ | 4, _ | 5, _ | 6, _ | 7, _ => rfl
  · rw [Array.getElem?_eq_none (by rw [h.1]; omega), Array.getElem?_eq_none (by simp; omega)]
set_option maxRecDepth 100000 in
set_option maxHeartbeats 2000000 in
theorem RefBlock_any (a b c d e f g h : Int) (A : Option Addr) (cap : Nat) (l : List UInt8) (w : World) (hB : Bs w A 64 l) (hT : Tab 2 w) (hok : S8.ok ⟨a, b, c, d, e, f, g, h⟩) :
    Calls Tryd.prog 38 #[.agg #[.int .u32 a, .int .u32 b, .int .u32 c, .int .u32 d, .int .u32 e, .int .u32 f, .int .u32 g, .int .u32 h], .slice A 64 cap] w fun en w' => en = .returned (v8 (blockS ⟨a, b, c, d, e, f, g, h⟩ l)) ∧ Below w.heap.size w w' := by
  have HT := Lib.hid hT
  have HB := Lib.hid hB
  have HO := Lib.hid hok
  clear hT hB hok
  go_enter Tryd.func38, Tryd.ntmps38
  go_wp2_with fail
  go_loopw [6] (fun i wr => ∃ (k : Nat) (cs : Array Value), k ≤ 64 ∧ i = .int .i64 (k : Int) ∧ Below w.heap.size w wr ∧ Row wr w.heap.size 57 #[.int .u32 a, .int .u32 b, .int .u32 c, .int .u32 d, .int .u32 e, .int .u32 f, .int .u32 g, .int .u32 h] ∧ Row wr (w.heap.size + 1) 57 #[.int .u32 0, .int .u32 0, .int .u32 0, .int .u32 0, .int .u32 0, .int .u32 0, .int .u32 0, .int .u32 0] ∧ Row wr (w.heap.size + 1 + 1) 63 cs ∧ Filled l k cs) (fun i _ => 64 - (intOf i).toNat)
  case atStart =>
    exact ⟨0, _, Nat.zero_le _, rfl, (((Below.refl _ _).alloc (Nat.le_refl _) _).alloc (by simp) _).alloc (by simp; omega) _, ((Row.new _ _ _).alloc _).alloc _, (Row.new1 _ _ _ _).alloc _, Row.new2 _ _ _ _ _, rfl, fun j hj => by omega⟩
  case round =>
    obtain ⟨k, cs, hk, rfl, hbel, hr0, hr1, hr, hf⟩ := hrel
    have HF := Lib.hid hf
    have HR := Lib.hid hr
    have HR0 := Lib.hid hr0
    have HR1 := Lib.hid hr1
    have hbs := hbel.size
    clear hr0 hr1
    by_cases h16 : k < 16
    · have hcell := hr.cell k
      have hfz := hr.frozen k
      have hin : k < cs.size := by rw [hf.1]; omega
      rw [Array.getElem?_eq_getElem hin] at hcell
      clear hf hr
      have hw4 : wordV l (4 * (k : Int)) = nextW l k (wList l k) := by
        unfold wordV nextW
        rw [if_pos h16, if_pos (by rw [HB.out.1]; omega), show (4 * (k : Int)).toNat = 4 * k by omega]
      have HW4 := Lib.hid hw4
      clear hw4
      go_wp2_with (go_at_call 48; refine (RefWord_any _ _ _ l _ _ (HB.out.below hbel) (by omega)).mono ?_; rintro e w' ⟨rfl, m1, rfl⟩)
      go_roundw
      case rel =>
        refine ⟨k + 1, _, by omega, by go_num, (below_drewN' hbel _).setCell (by simp; omega) _, (HR0.out.drewN _).far (by simp; omega) _, (HR1.out.drewN _).far (by simp) _, (HR.out.drewN _).set _ _, ?_⟩
        rw [HW4.out]
        exact HF.out.step (by omega)
      case measure => simp [intOf]; omega
    · by_cases hlt : k < 64
      · obtain ⟨x, hx⟩ : ∃ x, (wList l k).getD (k - 2) 0 = x := ⟨_, rfl⟩
        obtain ⟨y, hy⟩ : ∃ y, (wList l k).getD (k - 7) 0 = y := ⟨_, rfl⟩
        obtain ⟨z, hz⟩ : ∃ z, (wList l k).getD (k - 15) 0 = z := ⟨_, rfl⟩
        obtain ⟨v, hv⟩ : ∃ v, (wList l k).getD (k - 16) 0 = v := ⟨_, rfl⟩
        have c2 := (hr.cell (k - 2)).trans (hf.2 (k - 2) (by omega))
        have c7 := (hr.cell (k - 7)).trans (hf.2 (k - 7) (by omega))
        have c15 := (hr.cell (k - 15)).trans (hf.2 (k - 15) (by omega))
        have c16 := (hr.cell (k - 16)).trans (hf.2 (k - 16) (by omega))
        obtain ⟨x1, x2⟩ := wList_W32 l k (k - 2)
        obtain ⟨y1, y2⟩ := wList_W32 l k (k - 7)
        obtain ⟨z1, z2⟩ := wList_W32 l k (k - 15)
        obtain ⟨v1, v2⟩ := wList_W32 l k (k - 16)
        rw [hx] at c2 x1 x2
        rw [hy] at c7 y1 y2
        rw [hz] at c15 z1 z2
        rw [hv] at c16 v1 v2
        have HN := Lib.hid (show nextW l k (wList l k) = (((sS1 x + y) % 4294967296 + sS0 z) % 4294967296 + v) % 4294967296 by
          unfold nextW; rw [if_neg h16, hx, hy, hz, hv]; rfl)
        have hcell := hr.cell k
        have hfz := hr.frozen k
        have hin : k < cs.size := by rw [hf.1]; omega
        rw [Array.getElem?_eq_getElem hin] at hcell
        have i0 : (0 : Int) ≤ (k : Int) := by omega
        have i64 : (k : Int) < 64 := by omega
        have j2 : ((k : Int) - 2).toNat = k - 2 := by omega
        have j7 : ((k : Int) - 7).toNat = k - 7 := by omega
        have j15 : ((k : Int) - 15).toNat = k - 15 := by omega
        have j16 : ((k : Int) - 16).toNat = k - 16 := by omega
        have w2 : IntKind.i64.wrap ((k : Int) - 2) = (k : Int) - 2 := IntWalk.i64_in _ (by omega)
        have p2 : (0 : Int) ≤ (k : Int) - 2 := by omega
        have pp2 : (2 : Int) ≤ (k : Int) := by omega
        have r2 : (k : Int) - 2 < 64 := by omega
        have w7 : IntKind.i64.wrap ((k : Int) - 7) = (k : Int) - 7 := IntWalk.i64_in _ (by omega)
        have p7 : (0 : Int) ≤ (k : Int) - 7 := by omega
        have pp7 : (7 : Int) ≤ (k : Int) := by omega
        have r7 : (k : Int) - 7 < 64 := by omega
        have w15 : IntKind.i64.wrap ((k : Int) - 15) = (k : Int) - 15 := IntWalk.i64_in _ (by omega)
        have p15 : (0 : Int) ≤ (k : Int) - 15 := by omega
        have pp15 : (15 : Int) ≤ (k : Int) := by omega
        have r15 : (k : Int) - 15 < 64 := by omega
        have w16 : IntKind.i64.wrap ((k : Int) - 16) = (k : Int) - 16 := IntWalk.i64_in _ (by omega)
        have p16 : (0 : Int) ≤ (k : Int) - 16 := by omega
        have pp16 : (16 : Int) ≤ (k : Int) := by omega
        have r16 : (k : Int) - 16 < 64 := by omega
        have n7 : k ≠ k - 7 := by omega
        have n16 : k ≠ k - 16 := by omega
        clear hf hr hx hy hz hv
        go_wp2_with fail
        go_quiet (fail)
        go_wp2_with (first | (go_at_call_of 49 (Value.int .u32 z); refine (RefRot_any _ _ _ z1 z2).mono ?_; rintro e w' ⟨rfl, rfl⟩) | (go_at_call 49; refine (RefRot_any _ _ _ x1 x2).mono ?_; rintro e w' ⟨rfl, rfl⟩))
        go_region_held3 (fun w' => w'.cell? ⟨w.heap.size + 1 + 1, k - 7, none⟩ = some (.int .u32 y) ∧ w'.cell? ⟨w.heap.size + 1 + 1, k - 16, none⟩ = some (.int .u32 v)) (first | exact ⟨c7, c16⟩ | exact ⟨cell_set_ne n7 c7, cell_set_ne n16 c16⟩ | go_keep) (first | fail)
        go_wp2_with fail
        go_roundw
        case rel =>
          refine ⟨k + 1, _, by omega, by go_num, (below_drewN' hbel _).setCell (by simp; omega) _, (HR0.out.drewN _).far (by simp; omega) _, (HR1.out.drewN _).far (by simp) _, (HR.out.drewN _).set _ _, ?_⟩
          have hst := HF.out.step (by omega)
          rw [HN.out] at hst
          exact hst
        case measure => simp [intOf]; omega
      · obtain rfl : k = 64 := by omega
        have hcs := hf.all
        have h64 := hf.1
        subst hcs
        have H64 := Lib.hid h64
        clear hf hr h64 HF
        go_wp2_with (first | (with_reducible refine wpList_load_row Tryd.agg29 rfl (.tmp 2) rfl _ rfl 57 _ HR0.out rfl ?_))
        obtain ⟨w1, hw1⟩ : ∃ w1, w1 = wr := ⟨wr, rfl⟩
        subst hw1
        have hlt2 := HR.out.lt
        go_loopw [14] (fun i wr => ∃ (k : Nat) (A1 B1 C1 D1 E1 F1 G1 H1 : Int), k ≤ 64 ∧ i = .int .i64 (k : Int) ∧ Hid (rounds (wList l 64) ⟨a, b, c, d, e, f, g, h⟩ k = ⟨A1, B1, C1, D1, E1, F1, G1, H1⟩) ∧ Below w1.heap.size w1 wr ∧ Row wr w1.heap.size 57 #[.int .u32 A1, .int .u32 B1, .int .u32 C1, .int .u32 D1, .int .u32 E1, .int .u32 F1, .int .u32 G1, .int .u32 H1]) (fun i _ => 64 - (intOf i).toNat)
        case atStart => exact ⟨0, _, _, _, _, _, _, _, _, Nat.zero_le _, rfl, Lib.hid rfl, (Below.refl _ _).alloc (Nat.le_refl _) _, Row.new _ _ _⟩
        case round =>
          obtain ⟨k, A1, B1, C1, D1, E1, F1, G1, H1, hk, rfl, HRn, hb1, hv⟩ := hrel
          have HV := Lib.hid hv
          have hsok := rounds_ok (wList l 64) _ HO.out k
          rw [HRn.out] at hsok
          obtain ⟨⟨a1, a2⟩, ⟨b1, b2⟩, ⟨c1, c2⟩, ⟨d1, d2⟩, ⟨e1, e2⟩, ⟨f1, f2⟩, ⟨g1, g2⟩, ⟨h1, h2⟩⟩ := hsok
          have q0 : wr.cell? ⟨w1.heap.size, 0, none⟩ = some (.int .u32 A1) := hv.cell 0
          have q1 : wr.cell? ⟨w1.heap.size, 1, none⟩ = some (.int .u32 B1) := hv.cell 1
          have q2 : wr.cell? ⟨w1.heap.size, 2, none⟩ = some (.int .u32 C1) := hv.cell 2
          have q3 : wr.cell? ⟨w1.heap.size, 3, none⟩ = some (.int .u32 D1) := hv.cell 3
          have q4 : wr.cell? ⟨w1.heap.size, 4, none⟩ = some (.int .u32 E1) := hv.cell 4
          have q5 : wr.cell? ⟨w1.heap.size, 5, none⟩ = some (.int .u32 F1) := hv.cell 5
          have q6 : wr.cell? ⟨w1.heap.size, 6, none⟩ = some (.int .u32 G1) := hv.cell 6
          have q7 : wr.cell? ⟨w1.heap.size, 7, none⟩ = some (.int .u32 H1) := hv.cell 7
          clear hv
          by_cases hlt : k < 64
          · have qW := ((HR.out.below hb1 hlt2).cell k).trans (wcells_get _ k (by rw [wList_length]; exact hlt))
            have qK := ((HT.out.below hbel).below hb1).2 k hlt
            have HS := Lib.hid (show rounds (wList l 64) ⟨a, b, c, d, e, f, g, h⟩ (k + 1) = rnd (kAt k) ((wList l 64).getD k 0) (rounds (wList l 64) ⟨a, b, c, d, e, f, g, h⟩ k) from rfl)
            have i0 : (0 : Int) ≤ (k : Int) := by omega
            have i64 : (k : Int) < 64 := by omega
            have hs : IntKind.u32.signed = false := rfl
            generalize (wList l 64).getD k 0 = x at *
            generalize kAt k = y at *
            go_wp2_with fail
            go_big_quiet (fail)
            go_wp2_with fail
            obtain ⟨w2, hw2, hc2⟩ := gen_world wr nq
            rw [← hw2]
            have r0 : w2.cell? ⟨w1.heap.size, 0, none⟩ = some (.int .u32 A1) := (hc2 _).trans q0
            have r1 : w2.cell? ⟨w1.heap.size, 1, none⟩ = some (.int .u32 B1) := (hc2 _).trans q1
            have r2 : w2.cell? ⟨w1.heap.size, 2, none⟩ = some (.int .u32 C1) := (hc2 _).trans q2
            have r3 : w2.cell? ⟨w1.heap.size, 3, none⟩ = some (.int .u32 D1) := (hc2 _).trans q3
            have r4 : w2.cell? ⟨w1.heap.size, 4, none⟩ = some (.int .u32 E1) := (hc2 _).trans q4
            have r5 : w2.cell? ⟨w1.heap.size, 5, none⟩ = some (.int .u32 F1) := (hc2 _).trans q5
            have r6 : w2.cell? ⟨w1.heap.size, 6, none⟩ = some (.int .u32 G1) := (hc2 _).trans q6
            have r7 : w2.cell? ⟨w1.heap.size, 7, none⟩ = some (.int .u32 H1) := (hc2 _).trans q7
            have rW := (hc2 _).trans qW
            have rK := (hc2 _).trans qK
            have Hw2 := Lib.hid hw2
            clear hw2 hc2 q0 q1 q2 q3 q4 q5 q6 q7 qW qK
            go_big_quiet ((go_at_call 49; exact quiet_same (RefRot_any _ _ _ e1 e2)))
            go_wp2_with fail
            obtain ⟨w3, hw2, hc2⟩ := gen_world w2 nq
            rw [← hw2]
            have s0 : w3.cell? ⟨w1.heap.size, 0, none⟩ = some (.int .u32 A1) := (hc2 _).trans r0
            have s1 : w3.cell? ⟨w1.heap.size, 1, none⟩ = some (.int .u32 B1) := (hc2 _).trans r1
            have s2 : w3.cell? ⟨w1.heap.size, 2, none⟩ = some (.int .u32 C1) := (hc2 _).trans r2
            have s3 : w3.cell? ⟨w1.heap.size, 3, none⟩ = some (.int .u32 D1) := (hc2 _).trans r3
            have s4 : w3.cell? ⟨w1.heap.size, 4, none⟩ = some (.int .u32 E1) := (hc2 _).trans r4
            have s5 : w3.cell? ⟨w1.heap.size, 5, none⟩ = some (.int .u32 F1) := (hc2 _).trans r5
            have s6 : w3.cell? ⟨w1.heap.size, 6, none⟩ = some (.int .u32 G1) := (hc2 _).trans r6
            have s7 : w3.cell? ⟨w1.heap.size, 7, none⟩ = some (.int .u32 H1) := (hc2 _).trans r7
            have sW := (hc2 _).trans rW
            have sK := (hc2 _).trans rK
            have Hw3 := Lib.hid hw2
            clear hw2 hc2 r0 r1 r2 r3 r4 r5 r6 r7 rW rK
            go_big_quiet ((go_at_call 49; exact quiet_same (RefRot_any _ _ _ a1 a2)))
            obtain ⟨w4, hw2, hc2⟩ := gen_world w3 nq
            rw [← hw2]
            have t0 : w4.cell? ⟨w1.heap.size, 0, none⟩ = some (.int .u32 A1) := (hc2 _).trans s0
            have t1 : w4.cell? ⟨w1.heap.size, 1, none⟩ = some (.int .u32 B1) := (hc2 _).trans s1
            have t2 : w4.cell? ⟨w1.heap.size, 2, none⟩ = some (.int .u32 C1) := (hc2 _).trans s2
            have t3 : w4.cell? ⟨w1.heap.size, 3, none⟩ = some (.int .u32 D1) := (hc2 _).trans s3
            have t4 : w4.cell? ⟨w1.heap.size, 4, none⟩ = some (.int .u32 E1) := (hc2 _).trans s4
            have t5 : w4.cell? ⟨w1.heap.size, 5, none⟩ = some (.int .u32 F1) := (hc2 _).trans s5
            have t6 : w4.cell? ⟨w1.heap.size, 6, none⟩ = some (.int .u32 G1) := (hc2 _).trans s6
            have t7 : w4.cell? ⟨w1.heap.size, 7, none⟩ = some (.int .u32 H1) := (hc2 _).trans s7
            have tW := (hc2 _).trans sW
            have tK := (hc2 _).trans sK
            have Hw4 := Lib.hid hw2
            clear hw2 hc2 s0 s1 s2 s3 s4 s5 s6 s7 sW sK
            have HV4 := Lib.hid (show Row w4 w1.heap.size 57 _ by rw [Hw4.out, Hw3.out, Hw2.out]; exact ((HV.out.drewN _).drewN _).drewN _)
            go_wp2_with (with_reducible refine wpList_store_row Tryd.agg29 rfl (.tmp 13) (.tmp 157) rfl _ _ rfl rfl 57 _ HV4.out (size8 _ _ _ _ _ _ _ _) (size8 _ _ _ _ _ _ _ _) (one8 _ _ _ _ _ _ _ _) ?_; intro w9 hr9 ho9; have HR9 := Lib.hid hr9; clear hr9)
            go_roundw
            case rel =>
              refine ⟨k + 1, _, A1, B1, C1, _, E1, F1, G1, by omega, by go_num, Lib.hid ?_, ?_, HR9.out⟩
              · rw [HS.out, HRn.out]
                exact rnd_eq2 _ _ _ _ _ _ _ _ _ _
              · have hb4 : Below w1.heap.size w1 w4 := by rw [Hw4.out, Hw3.out, Hw2.out]; exact below_drewN' (below_drewN' (below_drewN' hb1 _) _) _
                exact hb4.trans (ho9.below (Nat.le_refl _) hb4.size)
            case measure => simp [intOf]; omega
          · obtain rfl : k = 64 := by omega
            obtain ⟨w5, hw5⟩ : ∃ w5, w5 = wr := ⟨wr, rfl⟩
            subst hw5
            have h1s := hb1.size
            go_wp2_with fail
            go_loopw [19] (fun i wr => ∃ (k : Nat) (cs : Array Value), k ≤ 8 ∧ i = .int .i64 (k : Int) ∧ Below w.heap.size w wr ∧ Row wr w.heap.size 57 cs ∧ Mixed ⟨a, b, c, d, e, f, g, h⟩ ⟨A1, B1, C1, D1, E1, F1, G1, H1⟩ k cs ∧ Row wr w1.heap.size 57 #[.int .u32 A1, .int .u32 B1, .int .u32 C1, .int .u32 D1, .int .u32 E1, .int .u32 F1, .int .u32 G1, .int .u32 H1] ∧ Row wr (w.heap.size + 1) 57 #[.int .u32 0, .int .u32 0, .int .u32 0, .int .u32 0, .int .u32 0, .int .u32 0, .int .u32 0, .int .u32 0]) (fun i _ => 8 - (intOf i).toNat)
            case atStart => exact ⟨0, _, Nat.zero_le _, rfl, hbel.trans (hb1.mono hbs), HR0.out.below hb1 HR0.out.lt, Mixed.zero _ _, HV.out, HR1.out.below hb1 HR1.out.lt⟩
            case round =>
              obtain ⟨k, cs, hk, rfl, hb8, hr, hm, hv, hz⟩ := hrel
              have HRr := Lib.hid hr
              have HM := Lib.hid hm
              have HV9 := Lib.hid hv
              have HZ := Lib.hid hz
              by_cases hlt : k < 8
              · have x1 := (hr.cell k).trans (hm.get_old hlt)
                have x2 := (hv.cell k).trans (v8_get ⟨A1, B1, C1, D1, E1, F1, G1, H1⟩ k hlt)
                have x3 := hr.frozen k
                have i0 : (0 : Int) ≤ (k : Int) := by omega
                have i8 : (k : Int) < 8 := by omega
                clear hr hm hv hz q0 q1 q2 q3 q4 q5 q6 q7
                generalize HX : S8.at ⟨a, b, c, d, e, f, g, h⟩ k = X at *
                generalize HY : S8.at ⟨A1, B1, C1, D1, E1, F1, G1, H1⟩ k = Y at *
                have HXh := Lib.hid HX
                have HYh := Lib.hid HY
                clear HX HY
                go_wp2_with fail
                go_big_region
                all_goals (try go_wp2_with fail)
                all_goals go_roundw
                case rel =>
                  refine ⟨k + 1, _, by omega, by go_num, (hb8.setCell (by simp) _).drew, (HRr.out.set _ _).drewN 1, ?_, (HV9.out.far (by simp; omega) _).drewN 1, (HZ.out.far (by simp) _).drewN 1⟩
                  have hst := HM.out.step hlt
                  rw [HXh.out, HYh.out] at hst
                  exact hst
                case measure => simp [intOf]; omega
              · obtain rfl : k = 8 := by omega
                have hcs := hm.all
                subst hcs
                clear hr hm hv hz q0 q1 q2 q3 q4 q5 q6 q7
                go_wp2_with (first | (with_reducible refine wpList_load_row Tryd.agg29 rfl (.tmp 2) rfl _ rfl 57 _ HRr.out (size8 _ _ _ _ _ _ _ _) ?_) | (with_reducible refine wpList_store_row Tryd.agg29 rfl (.tmp 4) (.tmp 170) rfl _ _ rfl rfl 57 _ HZ.out (size8 _ _ _ _ _ _ _ _) (size8 _ _ _ _ _ _ _ _) (one8 _ _ _ _ _ _ _ _) ?_; intro w9 hr9 ho9; have HR9 := Lib.hid hr9; clear hr9))
                refine bodyPost_ret (v := v8 (blockS ⟨a, b, c, d, e, f, g, h⟩ l)) ?_ rfl ⟨rfl, hb8.trans (ho9.below (by omega) hb8.size)⟩
                have hv : v8 (blockS ⟨a, b, c, d, e, f, g, h⟩ l) = v8 (plus ⟨a, b, c, d, e, f, g, h⟩ ⟨A1, B1, C1, D1, E1, F1, G1, H1⟩) := by
                  unfold blockS workS; rw [HRn.out]
                rw [hv]
                exact results_row1 Tryd.agg29 Tryd.results38 rfl HR9.out rfl
end Go.Proofs.YtiidcnjhjojhoaaDoor
