/-
  TreeParts, whole, as the tied card (Rows.TreePartsCardSaid): for every digest, number, path of up to ten digests and place in it: to climb the path's first part by the number's lowest bits, and then the rest from where that leads by the others, is to climb all of it; and of two leaves the root is the node above them. Conditions: the table sha.constants reads as its initialiser lays it (tied to the program's text).
-/
import Derived.Test.YtiidcnjhjojhoaaDoorRows
import Derived.Test.YtiidcnjhjojhoaaDoorCards
import Derived.Test.YtiidcnjhjojhoaaDoorTie
import Derived.WalkKit
import Derived.ProofKit
import Derived.OpenShut
import Derived.ChangeMaps5
import Derived.ShutString
import Derived.ChangeOld
import Derived.Below
import Derived.SizedLaws
import Derived.SevenTiedAt
import Derived.Lay
import Derived.LaidLaws
import Derived.Test.YtiidcnjhjojhoaaDoorLaid
import Derived.Test.YtiidcnjhjojhoaaDoorOpens
import Derived.Test.YtiidcnjhjojhoaaDoorLive
namespace Go.Proofs.YtiidcnjhjojhoaaDoor.treeParts
open Go.ChangeShapes Go.WideShapes Go.ChangeAt Go.RowKit
open Go.ChangeMaps (open_string shut_string)
set_option linter.unusedVariables false
theorem own : ownKnob Tryd.prog.godebug = none := by kernel_rfl
theorem laidOut : laidOutB Tryd.prog = true := by kernel_rfl
theorem cutR {P : Program} {id : Nat} {ops : Array Oper} {b : Bool} {Q : Exit → Act → World → Prop} {a : Act} {w : World} (R : Act → Act → World → Prop) (h1 : (Code.region id ops b).wp P (fun e a' w' => e = .normal ∧ R a a' w') a w) (h2 : ∀ a' w', R a a' w' → Q .normal a' w') : (Code.region id ops b).wp P Q a w :=
  Code.wp_mono (fun e a' w' ⟨he, hR⟩ => by rw [he]; exact h2 a' w' hR) h1
theorem yields_pow {ops : Array Oper} {S : World → Prop} {o : Oper} {a : Act} (hgd : o.guard = none) (x y : Operand) (ho : o.op = .binOp .shl 3 x y 3) (k p : Nat) (hk : k ≤ 10) (hp : 2 ^ k = p)
    (hx : a.eval x = .int .i64 1) (hy : a.eval y = .int .i64 (k : Int)) : YieldsIf Tryd.prog ops S o (.int .i64 (p : Int)) a :=
  .inl ⟨by simp [Region.wanted, hgd], fun w _ => by
    have hw := wrap_pow hk
    rw [hp] at hw
    unfold execOp
    simp only [ho, hx, hy]
    go_simp
    generalize (2 : Int) ^ k = z at *
    rw [IntKind.wrap_i64]
    unfold wrap64 at hw
    omega⟩
theorem yields_rem {ops : Array Oper} {S : World → Prop} {o : Oper} {a : Act} (hgd : o.guard = none) (x y : Operand) (ho : o.op = .binOp .rem 3 x y 3) (p q r : Int) (h0 : q ≠ 0)
    (hx : a.eval x = .int .i64 p) (hy : a.eval y = .int .i64 q) (hr : p.tmod q = r) : YieldsIf Tryd.prog ops S o (.int .i64 r) a :=
  .inl ⟨by simp [Region.wanted, hgd], fun w _ => by
    unfold execOp
    simp only [ho, hx, hy]
    go_simp⟩
theorem yields_quo {ops : Array Oper} {S : World → Prop} {o : Oper} {a : Act} (hgd : o.guard = none) (x y : Operand) (ho : o.op = .binOp .quo 3 x y 3) (p q r : Int) (h0 : q ≠ 0)
    (hx : a.eval x = .int .i64 p) (hy : a.eval y = .int .i64 q) (hr : p.tdiv q = r) (h1 : -1000000 ≤ r) (h2 : r ≤ 1000000) : YieldsIf Tryd.prog ops S o (.int .i64 r) a :=
  .inl ⟨by simp [Region.wanted, hgd], fun w _ => by
    have hw := wrap_small r h1 h2
    unfold execOp
    simp only [ho, hx, hy]
    go_simp⟩
theorem yields_head {ops : Array Oper} {S : World → Prop} {o : Oper} {a : Act} (hgd : o.guard = none) (x y : Operand) (ho : o.op = .slice 22 x none (some y) none) (X Y v : Value)
    (hx : a.eval x = X) (hy : a.eval y = Y) (hrun : ∀ w, (Instr.sliceAt 22 X none (some Y) none).run Tryd.prog w = .ok v w) : YieldsIf Tryd.prog ops S o v a :=
  .inl ⟨by simp [Region.wanted, hgd], fun w _ => by
    unfold execOp
    simp [ho, hx, hy, hrun]⟩
theorem yields_from {ops : Array Oper} {S : World → Prop} {o : Oper} {a : Act} (hgd : o.guard = none) (x y : Operand) (ho : o.op = .slice 22 x (some y) none none) (X Y v : Value)
    (hx : a.eval x = X) (hy : a.eval y = Y) (hrun : ∀ w, (Instr.sliceAt 22 X (some Y) none none).run Tryd.prog w = .ok v w) : YieldsIf Tryd.prog ops S o v a :=
  .inl ⟨by simp [Region.wanted, hgd], fun w _ => by
    unfold execOp
    simp [ho, hx, hy, hrun]⟩
theorem div_in {i n k : Nat} (hi : i < 2 ^ n) (hk : k ≤ n) : i / 2 ^ k < 2 ^ (n - k) := by
  rw [Nat.div_lt_iff_lt_mul (Nat.pow_pos (by decide)), ← Nat.pow_add, show n - k + k = n by omega]
  exact hi
set_option maxRecDepth 100000 in
set_option maxHeartbeats 4000000 in
theorem walk_in (w : World) (s0 : List UInt8) (w0 : s0.length = 32) (i : Nat) (a2 : Option Addr) (n cap2 : Nat) (l2 : List (List UInt8)) (w2 : Ds w a2 n l2) (s2 : n ≤ cap2) (k : Nat) (hn : n ≤ 10) (hi : i < 2 ^ n) (hk : k ≤ n) (hT : Tab 1 w) :
    Calls Tryd.prog 8 #[.agg (bcells s0), .int .i64 (i : Int), .slice a2 n cap2, .int .i64 (k : Int)] w fun e w' => e = .returned (.bool true) ∧ Below w.heap.size w w' := by
  have HT := Lib.hid hT
  have i0 : ¬ 10 < (n : Int) := by omega
  have i1 : ¬ (i : Int) < 0 := by omega
  have hpn := two_pow_le hn
  have hi2 : i < 1024 := by omega
  have i2 : ¬ wrap64 ((2 : Int) ^ n) ≤ (i : Int) := by rw [wrap_pow hn]; omega
  have i3 : ¬ (k : Int) < 0 := by omega
  have i4 : ¬ (n : Int) < (k : Int) := by omega
  have hl := w2.1
  obtain ⟨p, hp⟩ : ∃ p, 2 ^ k = p := ⟨_, rfl⟩
  have hp0 : 0 < p := by rw [← hp]; exact Nat.pow_pos (by decide)
  have hp0' : (p : Int) ≠ 0 := by omega
  have hrm : ((i : Int)).tmod (p : Int) = ((i % p : Nat) : Int) := by rw [Int.tmod_eq_emod_of_nonneg (by omega)]; rfl
  have hdv : ((i : Int)).tdiv (p : Int) = ((i / p : Nat) : Int) := by rw [Int.tdiv_eq_ediv_of_nonneg (by omega)]; rfl
  have hdle := Nat.div_le_self i p
  have lt1 : (l2.take k).length = k := by rw [List.length_take, hl]; omega
  have hmod : climbD s0 (i % p) (l2.take k) = climbD s0 i (l2.take k) := by
    have q := climb_mod abL (l2.take k) s0 i
    rwa [lt1, hp] at q
  have happ : climbD s0 i l2 = climbD (climbD s0 i (l2.take k)) (i / p) (l2.drop k) := by
    have q := climb_app abL (l2.take k) (l2.drop k) s0 i
    rwa [List.take_append_drop, lt1, hp] at q
  have hXl : (climbD s0 i (l2.take k)).length = 32 := climbD_length _ _ _ w0
  have hRl : (climbD s0 i l2).length = 32 := climbD_length _ _ _ w0
  have HC1 := Lib.hid (fun A c wq hD hT => Climb_ok s0 A n c i l2 wq w0 hn hi hD hT)
  have HC2 := Lib.hid (fun A c wq hD hT => show Calls Tryd.prog 18 #[.agg (bcells s0), .int .i64 ((i % p : Nat) : Int), .slice A k c] wq (RecD wq (climbD s0 i (l2.take k)) 0) by
    have q := Climb_ok s0 A k c (i % p) (l2.take k) wq w0 (by omega) (by rw [hp]; exact Nat.mod_lt _ hp0) hD hT
    rwa [hmod] at q)
  have HC3 := Lib.hid (fun A c wq hD hT => show Calls Tryd.prog 18 #[.agg (bcells (climbD s0 i (l2.take k))), .int .i64 ((i / p : Nat) : Int), .slice A (n - k) c] wq (RecD wq (climbD s0 i l2) 0) by
    have q := Climb_ok (climbD s0 i (l2.take k)) A (n - k) c (i / p) (l2.drop k) wq hXl (by omega) (by rw [← hp]; exact div_in hi hk) hD hT
    rwa [← happ] at q)
  generalize climbD s0 i (l2.take k) = X at *
  generalize climbD s0 i l2 = R at *
  obtain ⟨A1, r1, d1, _⟩ := cutD_head a2 n cap2 k (k : Int) rfl hk s2
  obtain ⟨A2, r2, d2, _⟩ := cutD_from a2 n cap2 k (k : Int) rfl hk s2
  have HR1 := Lib.hid r1
  have HR2 := Lib.hid r2
  have HD := Lib.hid w2
  have HD1 := Lib.hid (fun wq hb => d1 wq l2 (w2.below hb))
  have HD2 := Lib.hid (fun wq hb => d2 wq l2 (w2.below hb))
  have heq := eq_digest R hRl
  have HRL := Lib.hid hRl
  have HXL := Lib.hid hXl
  have HRS := Lib.hid (show (bcells R).size = 32 by rw [bcells_size, hRl])
  have HXS := Lib.hid (show (bcells X).size = 32 by rw [bcells_size, hXl])
  have HL0 := Lib.hid w0
  have HRM := Lib.hid hrm
  have HDV := Lib.hid hdv
  have HP := Lib.hid hp
  obtain ⟨u, hu⟩ : ∃ u, i % p = u := ⟨_, rfl⟩
  obtain ⟨v, hv⟩ : ∃ v, i / p = v := ⟨_, rfl⟩
  have hv2 : v ≤ 1024 := by omega
  rw [hu] at HRM HC2
  rw [hv] at HDV HC3
  obtain ⟨q2, hq2⟩ : ∃ q, n - k = q := ⟨_, rfl⟩
  obtain ⟨c2, hc2⟩ : ∃ c, cap2 - k = c := ⟨_, rfl⟩
  rw [hq2] at HC3 HR2 HD2
  rw [hc2] at HR2
  have hq10 : q2 ≤ 10 := by omega
  have hk10 : k ≤ 10 := by omega
  have hb0 := (Below.refl w.heap.size w).alloc (Nat.le_refl _) (.cells (bcells s0) 24)
  have HA0 := Lib.hid (Row.new w 24 (bcells s0))
  obtain ⟨wz, hwz⟩ : ∃ wz, w.alloc (.cells (bcells s0) 24) = wz := ⟨_, rfl⟩
  rw [hwz] at hb0 HA0
  have KP : Hid (∀ wq, Below wz.heap.size wz wq → wq.rangeAt w.heap.size 0 (s0.map bcell)) := Lib.hid (fun wq hb => range_row (HA0.out.below hb HA0.out.lt))
  clear w0 hT w2 hp hrm hdv hmod happ hXl hRl r1 r2 d1 d2 hu hv hq2 hc2 lt1 hl hpn hi hdle
  go_enter Tryd.func8, Tryd.ntmps8
  go_wp2_with fail
  clear hwz
  refine cutR (fun a a' w' => ∃ (g : Nat) (Ao : Option Addr) (co : Nat), a' = ((((((((((a.put (some 41) (.agg (bcells s0))).put (some 42) (.int .i64 (i : Int))).put (some 43) (.slice a2 n cap2)).put (some 44) (.slice Ao n co)).put (some 45) (.tuple #[.agg (bcells R), .int .i64 0])).put (some 40) (.tuple #[.agg (bcells R), .int .i64 0])).put (some 46) (.agg (bcells R))).put (some 47) (.int .i64 0)).put (some 9) (.pointer (some ⟨g, 0, none⟩))).put (some 10) (.int .i64 0)) ∧ Row w' g 24 (bcells R) ∧ Below wz.heap.size wz w') ?_ ?_
  · refine wp_region_noPanic ?_
    refine wp_region_held_drew (S := fun w' => w'.rangeAt w.heap.size 0 (s0.map bcell)) (by kernel_rfl) (KP.out _ ((Below.refl wz.heap.size wz).drew)) (fun hHeld => ?_)
    refine takeD (i := 0) (some 41) (.agg (bcells s0)) rfl rfl (by kernel_rfl) (by kernel_rfl) (by kernel_rfl) (fun _ _ _ h => h) (yields_loadD rfl (.tmp 4) rfl _ 0 s0 rfl (fun _ h => h) HL0.out) hHeld ?_
    simp only [Act.put, List.setIfInBounds_toArray, List.set_cons_zero, List.set_cons_succ]
    refine takeD (i := 1) (some 42) (.int .i64 (i : Int)) rfl rfl (by kernel_rfl) (by kernel_rfl) (by kernel_rfl) (fun _ _ _ h => h) (Or.inl ⟨by rfl, fun _ _ => rfl⟩) hHeld ?_
    simp only [Act.put, List.setIfInBounds_toArray, List.set_cons_zero, List.set_cons_succ]
    refine takeD (i := 2) (some 43) (.slice a2 n cap2) rfl rfl (by kernel_rfl) (by kernel_rfl) (by kernel_rfl) (fun _ _ _ h => h) (Or.inl ⟨by rfl, fun _ _ => rfl⟩) hHeld ?_
    simp only [Act.put, List.setIfInBounds_toArray, List.set_cons_zero, List.set_cons_succ]
    have B0 : Below wz.heap.size wz wz.drew := (Below.refl wz.heap.size wz).drew
    refine wpAnyH_ready (rs := [3, 8]) (by kernel_rfl) (by decide) ?_
    refine AllReadyH.cons rfl (fun K' hK => ?_) (AllReadyH.cons rfl (fun K' hK => ?_) AllReadyH.nil)
    · go_simp
      refine (own_any a2 n cap2 l2 wz.drew (HD.out.below (hb0.trans (B0.mono hb0.size))) (by omega)).mono ?_
      rintro e3 wo ⟨Ao, co, rfl, hco, hdo, hbo⟩
      have HDo := Lib.hid hdo
      have Bo : Below wz.heap.size wz wo := B0.trans (hbo.mono B0.size)
      clear hdo
      refine hK.out _ _ (KP.out _ Bo) (fun hHeld3 => ?_)
      clear hK
      refine wpAnyH_ready (rs := [4, 8]) (by kernel_rfl) (by decide) ?_
      refine AllReadyH.cons rfl (fun K' hK => ?_) (AllReadyH.cons rfl (fun K' hK => ?_) AllReadyH.nil)
      · go_simp
        refine (HC1.out Ao co wo HDo.out (HT.out.below (hb0.trans (Bo.mono hb0.size)))).mono ?_
        rintro e4 wc ⟨rfl, hbc⟩
        have Bc : Below wz.heap.size wz wc := Bo.trans (hbc.mono Bo.size)
        refine hK.out _ _ (KP.out _ Bc) (fun hHeld4 => ?_)
        clear hK
        (try simp only [Act.put, List.setIfInBounds_toArray, List.set_cons_zero, List.set_cons_succ])
        refine takeD (i := 5) (some 40) (.tuple #[.agg (bcells R), .int .i64 0]) rfl rfl (by kernel_rfl) (by kernel_rfl) (by kernel_rfl) (fun _ _ _ h => h) (Or.inl ⟨by rfl, fun _ _ => rfl⟩) hHeld4 ?_
        simp only [Act.put, List.setIfInBounds_toArray, List.set_cons_zero, List.set_cons_succ]
        refine takeD (i := 6) (some 46) (.agg (bcells R)) rfl rfl (by kernel_rfl) (by kernel_rfl) (by kernel_rfl) (fun _ _ _ h => h) (Or.inl ⟨by rfl, fun _ _ => rfl⟩) hHeld4 ?_
        simp only [Act.put, List.setIfInBounds_toArray, List.set_cons_zero, List.set_cons_succ]
        refine takeD (i := 7) (some 47) (.int .i64 0) rfl rfl (by kernel_rfl) (by kernel_rfl) (by kernel_rfl) (fun _ _ _ h => h) (Or.inl ⟨by rfl, fun _ _ => rfl⟩) hHeld4 ?_
        simp only [Act.put, List.setIfInBounds_toArray, List.set_cons_zero, List.set_cons_succ]
        refine wpAnyH_ready (rs := [8]) (by kernel_rfl) (by decide) ?_
        refine AllReadyH.cons rfl (fun K' hK => ?_) AllReadyH.nil
        refine step_of rfl (wp_allocD rfl ?_)
        intro g wa hg hra hba
        have HRa := Lib.hid hra
        have hge : wz.heap.size ≤ g := by have := Bc.size; omega
        have hga : g < wa.heap.size := hra.lt
        have Ba : Below wz.heap.size wz wa := Bc.trans (hba.mono Bc.size)
        clear hg hra
        refine hK.out _ _ (KP.out _ Ba) (fun hHeld5 => ?_)
        clear hK
        refine wpAnyH_ready (rs := [9]) (by kernel_rfl) (by decide) ?_
        refine AllReadyH.cons rfl (fun K' hK => ?_) AllReadyH.nil
        refine step_store_row Tryd.agg25 rfl (.tmp 9) (.tmp 46) rfl _ _ rfl rfl 24 lit32 HRa.out HRS.out lit32_size (bcells_one _) ?_
        intro w9 hr9 ho9
        have B9 : Below wz.heap.size wz w9 := Ba.trans (ho9.below hge Ba.size)
        refine hK.out _ _ (KP.out _ B9) (fun hHeld9 => ?_)
        clear hK
        (try simp only [Act.put, List.setIfInBounds_toArray])
        refine takeD (i := 10) (some 10) (.int .i64 0) rfl rfl (by kernel_rfl) (by kernel_rfl) (by kernel_rfl) (fun _ _ _ h => h) (Or.inl ⟨by rfl, fun _ _ => rfl⟩) hHeld9 ?_
        (try simp only [Act.put])
        refine wpAnyH_done (by kernel_rfl) ?_ _
        refine NoPanic.normal ?_
        exact ⟨rfl, g, Ao, co, rfl, hr9, B9⟩
      · refine step_of rfl (wp_allocD rfl ?_)
        intro g wa hg hra hba
        have HRa := Lib.hid hra
        have hge : wz.heap.size ≤ g := by have := Bo.size; omega
        have hga : g < wa.heap.size := hra.lt
        have Ba : Below wz.heap.size wz wa := Bo.trans (hba.mono Bo.size)
        clear hg hra
        refine hK.out _ _ (KP.out _ Ba) (fun hHeld5 => ?_)
        clear hK
        refine wpAnyH_ready (rs := [4]) (by kernel_rfl) (by decide) ?_
        refine AllReadyH.cons rfl (fun K' hK => ?_) AllReadyH.nil
        have HDo2 := Lib.hid (HDo.out.below hba)
        clear HDo
        have HDo := HDo2
        clear HDo2
        go_simp
        refine (HC1.out Ao co wa HDo.out (HT.out.below (hb0.trans (Ba.mono hb0.size)))).mono ?_
        rintro e4 wc ⟨rfl, hbc⟩
        have Bc : Below wz.heap.size wz wc := Ba.trans (hbc.mono Ba.size)
        have HRc := Lib.hid (HRa.out.below hbc hga)
        refine hK.out _ _ (KP.out _ Bc) (fun hHeld4 => ?_)
        clear hK
        (try simp only [Act.put, List.setIfInBounds_toArray, List.set_cons_zero, List.set_cons_succ])
        refine takeD (i := 5) (some 40) (.tuple #[.agg (bcells R), .int .i64 0]) rfl rfl (by kernel_rfl) (by kernel_rfl) (by kernel_rfl) (fun _ _ _ h => h) (Or.inl ⟨by rfl, fun _ _ => rfl⟩) hHeld4 ?_
        simp only [Act.put, List.setIfInBounds_toArray, List.set_cons_zero, List.set_cons_succ]
        refine takeD (i := 6) (some 46) (.agg (bcells R)) rfl rfl (by kernel_rfl) (by kernel_rfl) (by kernel_rfl) (fun _ _ _ h => h) (Or.inl ⟨by rfl, fun _ _ => rfl⟩) hHeld4 ?_
        simp only [Act.put, List.setIfInBounds_toArray, List.set_cons_zero, List.set_cons_succ]
        refine takeD (i := 7) (some 47) (.int .i64 0) rfl rfl (by kernel_rfl) (by kernel_rfl) (by kernel_rfl) (fun _ _ _ h => h) (Or.inl ⟨by rfl, fun _ _ => rfl⟩) hHeld4 ?_
        simp only [Act.put, List.setIfInBounds_toArray, List.set_cons_zero, List.set_cons_succ]
        refine wpAnyH_ready (rs := [9]) (by kernel_rfl) (by decide) ?_
        refine AllReadyH.cons rfl (fun K' hK => ?_) AllReadyH.nil
        refine step_store_row Tryd.agg25 rfl (.tmp 9) (.tmp 46) rfl _ _ rfl rfl 24 lit32 HRc.out HRS.out lit32_size (bcells_one _) ?_
        intro w9 hr9 ho9
        have B9 : Below wz.heap.size wz w9 := Bc.trans (ho9.below hge Bc.size)
        refine hK.out _ _ (KP.out _ B9) (fun hHeld9 => ?_)
        clear hK
        (try simp only [Act.put, List.setIfInBounds_toArray])
        refine takeD (i := 10) (some 10) (.int .i64 0) rfl rfl (by kernel_rfl) (by kernel_rfl) (by kernel_rfl) (fun _ _ _ h => h) (Or.inl ⟨by rfl, fun _ _ => rfl⟩) hHeld9 ?_
        (try simp only [Act.put])
        refine wpAnyH_done (by kernel_rfl) ?_ _
        refine NoPanic.normal ?_
        exact ⟨rfl, g, Ao, co, rfl, hr9, B9⟩
    · refine step_of rfl (wp_allocD rfl ?_)
      intro g wa hg hra hba
      have HRa := Lib.hid hra
      have hge : wz.heap.size ≤ g := by have := B0.size; omega
      have hga : g < wa.heap.size := hra.lt
      have Ba : Below wz.heap.size wz wa := B0.trans (hba.mono B0.size)
      clear hg hra
      refine hK.out _ _ (KP.out _ Ba) (fun hHeld5 => ?_)
      clear hK
      refine wpAnyH_ready (rs := [3]) (by kernel_rfl) (by decide) ?_
      refine AllReadyH.cons rfl (fun K' hK => ?_) AllReadyH.nil
      go_simp
      refine (own_any a2 n cap2 l2 wa (HD.out.below (hb0.trans (Ba.mono hb0.size))) (by omega)).mono ?_
      rintro e3 wo ⟨Ao, co, rfl, hco, hdo, hbo⟩
      have HDo := Lib.hid hdo
      have Bo : Below wz.heap.size wz wo := Ba.trans (hbo.mono Ba.size)
      clear hdo
      have HRo := Lib.hid (HRa.out.below hbo hga)
      refine hK.out _ _ (KP.out _ Bo) (fun hHeld3 => ?_)
      clear hK
      refine wpAnyH_ready (rs := [4]) (by kernel_rfl) (by decide) ?_
      refine AllReadyH.cons rfl (fun K' hK => ?_) AllReadyH.nil
      go_simp
      refine (HC1.out Ao co wo HDo.out (HT.out.below (hb0.trans (Bo.mono hb0.size)))).mono ?_
      rintro e4 wc ⟨rfl, hbc⟩
      have Bc : Below wz.heap.size wz wc := Bo.trans (hbc.mono Bo.size)
      have HRc := Lib.hid (HRo.out.below hbc HRo.out.lt)
      refine hK.out _ _ (KP.out _ Bc) (fun hHeld4 => ?_)
      clear hK
      (try simp only [Act.put, List.setIfInBounds_toArray, List.set_cons_zero, List.set_cons_succ])
      refine takeD (i := 5) (some 40) (.tuple #[.agg (bcells R), .int .i64 0]) rfl rfl (by kernel_rfl) (by kernel_rfl) (by kernel_rfl) (fun _ _ _ h => h) (Or.inl ⟨by rfl, fun _ _ => rfl⟩) hHeld4 ?_
      simp only [Act.put, List.setIfInBounds_toArray, List.set_cons_zero, List.set_cons_succ]
      refine takeD (i := 6) (some 46) (.agg (bcells R)) rfl rfl (by kernel_rfl) (by kernel_rfl) (by kernel_rfl) (fun _ _ _ h => h) (Or.inl ⟨by rfl, fun _ _ => rfl⟩) hHeld4 ?_
      simp only [Act.put, List.setIfInBounds_toArray, List.set_cons_zero, List.set_cons_succ]
      refine takeD (i := 7) (some 47) (.int .i64 0) rfl rfl (by kernel_rfl) (by kernel_rfl) (by kernel_rfl) (fun _ _ _ h => h) (Or.inl ⟨by rfl, fun _ _ => rfl⟩) hHeld4 ?_
      simp only [Act.put, List.setIfInBounds_toArray, List.set_cons_zero, List.set_cons_succ]
      refine wpAnyH_ready (rs := [9]) (by kernel_rfl) (by decide) ?_
      refine AllReadyH.cons rfl (fun K' hK => ?_) AllReadyH.nil
      refine step_store_row Tryd.agg25 rfl (.tmp 9) (.tmp 46) rfl _ _ rfl rfl 24 lit32 HRc.out HRS.out lit32_size (bcells_one _) ?_
      intro w9 hr9 ho9
      have B9 : Below wz.heap.size wz w9 := Bc.trans (ho9.below hge Bc.size)
      refine hK.out _ _ (KP.out _ B9) (fun hHeld9 => ?_)
      clear hK
      (try simp only [Act.put, List.setIfInBounds_toArray])
      refine takeD (i := 10) (some 10) (.int .i64 0) rfl rfl (by kernel_rfl) (by kernel_rfl) (by kernel_rfl) (fun _ _ _ h => h) (Or.inl ⟨by rfl, fun _ _ => rfl⟩) hHeld9 ?_
      (try simp only [Act.put])
      refine wpAnyH_done (by kernel_rfl) ?_ _
      refine NoPanic.normal ?_
      exact ⟨rfl, g, Ao, co, rfl, hr9, B9⟩
  rintro a' w4 ⟨g9, Ao4, co4, rfl, hr4, hb4⟩
  have HC4 := Lib.hid hr4
  have hb4' := hb0.trans (hb4.mono hb0.size)
  have HA4 := Lib.hid (HA0.out.below hb4 HA0.out.lt)
  clear hr4
  simp only [Act.put, List.setIfInBounds_toArray, List.set_cons_zero, List.set_cons_succ]
  have KP4 : Hid (∀ wq, Below w4.heap.size w4 wq → wq.rangeAt w.heap.size 0 (s0.map bcell)) := Lib.hid (fun wq hb => range_row (HA4.out.below hb HA4.out.lt))
  go_wp2_with fail
  refine cutR (fun a a' w' => ∃ (g : Nat) (Ao : Option Addr) (co : Nat), a' = (((((((((((((((a.put (some 49) (.agg (bcells s0))).put (some 50) (.int .i64 (i : Int))).put (some 51) (.int .i64 (k : Int))).put (some 52) (.int .i64 (p : Int))).put (some 53) (.int .i64 (u : Int))).put (some 54) (.slice a2 n cap2)).put (some 55) (.int .i64 (k : Int))).put (some 56) (.slice A1 k cap2)).put (some 57) (.slice Ao k co)).put (some 58) (.tuple #[.agg (bcells X), .int .i64 0])).put (some 48) (.tuple #[.agg (bcells X), .int .i64 0])).put (some 59) (.agg (bcells X))).put (some 60) (.int .i64 0)).put (some 11) (.pointer (some ⟨g, 0, none⟩))).put (some 12) (.int .i64 0)) ∧ Row w' g 24 (bcells X) ∧ Below w4.heap.size w4 w') ?_ ?_
  · refine wp_region_noPanic ?_
    refine wp_region_held_drew (S := fun w' => w'.rangeAt w.heap.size 0 (s0.map bcell)) (by kernel_rfl) (KP4.out _ ((Below.refl w4.heap.size w4).drew)) (fun hHeld => ?_)
    refine takeD (i := 0) (some 49) (.agg (bcells s0)) rfl rfl (by kernel_rfl) (by kernel_rfl) (by kernel_rfl) (fun _ _ _ h => h) (yields_loadD rfl (.tmp 4) rfl _ 0 s0 rfl (fun _ h => h) HL0.out) hHeld ?_
    simp only [Act.put, List.setIfInBounds_toArray, List.set_cons_zero, List.set_cons_succ]
    refine takeD (i := 1) (some 50) (.int .i64 (i : Int)) rfl rfl (by kernel_rfl) (by kernel_rfl) (by kernel_rfl) (fun _ _ _ h => h) (Or.inl ⟨by rfl, fun _ _ => rfl⟩) hHeld ?_
    simp only [Act.put, List.setIfInBounds_toArray, List.set_cons_zero, List.set_cons_succ]
    refine takeD (i := 2) (some 51) (.int .i64 (k : Int)) rfl rfl (by kernel_rfl) (by kernel_rfl) (by kernel_rfl) (fun _ _ _ h => h) (Or.inl ⟨by rfl, fun _ _ => rfl⟩) hHeld ?_
    simp only [Act.put, List.setIfInBounds_toArray, List.set_cons_zero, List.set_cons_succ]
    refine takeD (i := 3) (some 52) (.int .i64 (p : Int)) rfl rfl (by kernel_rfl) (by kernel_rfl) (by kernel_rfl) (fun _ _ _ h => h) (yields_pow rfl _ (.tmp 51) rfl k p hk10 HP.out rfl rfl) hHeld ?_
    simp only [Act.put, List.setIfInBounds_toArray, List.set_cons_zero, List.set_cons_succ]
    refine takeD (i := 4) (some 53) (.int .i64 (u : Int)) rfl rfl (by kernel_rfl) (by kernel_rfl) (by kernel_rfl) (fun _ _ _ h => h) (yields_rem rfl (.tmp 50) (.tmp 52) rfl (i : Int) (p : Int) _ hp0' rfl rfl HRM.out) hHeld ?_
    simp only [Act.put, List.setIfInBounds_toArray, List.set_cons_zero, List.set_cons_succ]
    refine takeD (i := 5) (some 54) (.slice a2 n cap2) rfl rfl (by kernel_rfl) (by kernel_rfl) (by kernel_rfl) (fun _ _ _ h => h) (Or.inl ⟨by rfl, fun _ _ => rfl⟩) hHeld ?_
    simp only [Act.put, List.setIfInBounds_toArray, List.set_cons_zero, List.set_cons_succ]
    refine takeD (i := 6) (some 55) (.int .i64 (k : Int)) rfl rfl (by kernel_rfl) (by kernel_rfl) (by kernel_rfl) (fun _ _ _ h => h) (Or.inl ⟨by rfl, fun _ _ => rfl⟩) hHeld ?_
    simp only [Act.put, List.setIfInBounds_toArray, List.set_cons_zero, List.set_cons_succ]
    refine takeD (i := 7) (some 56) (.slice A1 k cap2) rfl rfl (by kernel_rfl) (by kernel_rfl) (by kernel_rfl) (fun _ _ _ h => h) (yields_head rfl (.tmp 54) (.tmp 55) rfl _ _ _ rfl rfl HR1.out) hHeld ?_
    simp only [Act.put, List.setIfInBounds_toArray, List.set_cons_zero, List.set_cons_succ]
    have B0 : Below w4.heap.size w4 w4.drew := (Below.refl w4.heap.size w4).drew
    refine wpAnyH_ready (rs := [8, 13]) (by kernel_rfl) (by decide) ?_
    refine AllReadyH.cons rfl (fun K' hK => ?_) (AllReadyH.cons rfl (fun K' hK => ?_) AllReadyH.nil)
    · go_simp
      refine (own_any A1 k cap2 _ w4.drew (HD1.out _ (hb4'.trans (B0.mono hb4'.size))) (by omega)).mono ?_
      rintro e3 wo ⟨Ao, co, rfl, hco, hdo, hbo⟩
      have HDo := Lib.hid hdo
      have Bo : Below w4.heap.size w4 wo := B0.trans (hbo.mono B0.size)
      clear hdo
      refine hK.out _ _ (KP4.out _ Bo) (fun hHeld3 => ?_)
      clear hK
      refine wpAnyH_ready (rs := [9, 13]) (by kernel_rfl) (by decide) ?_
      refine AllReadyH.cons rfl (fun K' hK => ?_) (AllReadyH.cons rfl (fun K' hK => ?_) AllReadyH.nil)
      · go_simp
        refine (HC2.out Ao co wo HDo.out (HT.out.below (hb4'.trans (Bo.mono hb4'.size)))).mono ?_
        rintro e4 wc ⟨rfl, hbc⟩
        have Bc : Below w4.heap.size w4 wc := Bo.trans (hbc.mono Bo.size)
        refine hK.out _ _ (KP4.out _ Bc) (fun hHeld4 => ?_)
        clear hK
        (try simp only [Act.put, List.setIfInBounds_toArray, List.set_cons_zero, List.set_cons_succ])
        refine takeD (i := 10) (some 48) (.tuple #[.agg (bcells X), .int .i64 0]) rfl rfl (by kernel_rfl) (by kernel_rfl) (by kernel_rfl) (fun _ _ _ h => h) (Or.inl ⟨by rfl, fun _ _ => rfl⟩) hHeld4 ?_
        simp only [Act.put, List.setIfInBounds_toArray, List.set_cons_zero, List.set_cons_succ]
        refine takeD (i := 11) (some 59) (.agg (bcells X)) rfl rfl (by kernel_rfl) (by kernel_rfl) (by kernel_rfl) (fun _ _ _ h => h) (Or.inl ⟨by rfl, fun _ _ => rfl⟩) hHeld4 ?_
        simp only [Act.put, List.setIfInBounds_toArray, List.set_cons_zero, List.set_cons_succ]
        refine takeD (i := 12) (some 60) (.int .i64 0) rfl rfl (by kernel_rfl) (by kernel_rfl) (by kernel_rfl) (fun _ _ _ h => h) (Or.inl ⟨by rfl, fun _ _ => rfl⟩) hHeld4 ?_
        simp only [Act.put, List.setIfInBounds_toArray, List.set_cons_zero, List.set_cons_succ]
        refine wpAnyH_ready (rs := [13]) (by kernel_rfl) (by decide) ?_
        refine AllReadyH.cons rfl (fun K' hK => ?_) AllReadyH.nil
        refine step_of rfl (wp_allocD rfl ?_)
        intro g wa hg hra hba
        have HRa := Lib.hid hra
        have hge : w4.heap.size ≤ g := by have := Bc.size; omega
        have hga : g < wa.heap.size := hra.lt
        have Ba : Below w4.heap.size w4 wa := Bc.trans (hba.mono Bc.size)
        clear hg hra
        refine hK.out _ _ (KP4.out _ Ba) (fun hHeld5 => ?_)
        clear hK
        refine wpAnyH_ready (rs := [14]) (by kernel_rfl) (by decide) ?_
        refine AllReadyH.cons rfl (fun K' hK => ?_) AllReadyH.nil
        refine step_store_row Tryd.agg25 rfl (.tmp 11) (.tmp 59) rfl _ _ rfl rfl 24 lit32 HRa.out HXS.out lit32_size (bcells_one _) ?_
        intro w9 hr9 ho9
        have B9 : Below w4.heap.size w4 w9 := Ba.trans (ho9.below hge Ba.size)
        refine hK.out _ _ (KP4.out _ B9) (fun hHeld9 => ?_)
        clear hK
        (try simp only [Act.put, List.setIfInBounds_toArray])
        refine takeD (i := 15) (some 12) (.int .i64 0) rfl rfl (by kernel_rfl) (by kernel_rfl) (by kernel_rfl) (fun _ _ _ h => h) (Or.inl ⟨by rfl, fun _ _ => rfl⟩) hHeld9 ?_
        (try simp only [Act.put])
        refine wpAnyH_done (by kernel_rfl) ?_ _
        refine NoPanic.normal ?_
        exact ⟨rfl, g, Ao, co, rfl, hr9, B9⟩
      · refine step_of rfl (wp_allocD rfl ?_)
        intro g wa hg hra hba
        have HRa := Lib.hid hra
        have hge : w4.heap.size ≤ g := by have := Bo.size; omega
        have hga : g < wa.heap.size := hra.lt
        have Ba : Below w4.heap.size w4 wa := Bo.trans (hba.mono Bo.size)
        clear hg hra
        refine hK.out _ _ (KP4.out _ Ba) (fun hHeld5 => ?_)
        clear hK
        refine wpAnyH_ready (rs := [9]) (by kernel_rfl) (by decide) ?_
        refine AllReadyH.cons rfl (fun K' hK => ?_) AllReadyH.nil
        have HDo2 := Lib.hid (HDo.out.below hba)
        clear HDo
        have HDo := HDo2
        clear HDo2
        go_simp
        refine (HC2.out Ao co wa HDo.out (HT.out.below (hb4'.trans (Ba.mono hb4'.size)))).mono ?_
        rintro e4 wc ⟨rfl, hbc⟩
        have Bc : Below w4.heap.size w4 wc := Ba.trans (hbc.mono Ba.size)
        have HRc := Lib.hid (HRa.out.below hbc hga)
        refine hK.out _ _ (KP4.out _ Bc) (fun hHeld4 => ?_)
        clear hK
        (try simp only [Act.put, List.setIfInBounds_toArray, List.set_cons_zero, List.set_cons_succ])
        refine takeD (i := 10) (some 48) (.tuple #[.agg (bcells X), .int .i64 0]) rfl rfl (by kernel_rfl) (by kernel_rfl) (by kernel_rfl) (fun _ _ _ h => h) (Or.inl ⟨by rfl, fun _ _ => rfl⟩) hHeld4 ?_
        simp only [Act.put, List.setIfInBounds_toArray, List.set_cons_zero, List.set_cons_succ]
        refine takeD (i := 11) (some 59) (.agg (bcells X)) rfl rfl (by kernel_rfl) (by kernel_rfl) (by kernel_rfl) (fun _ _ _ h => h) (Or.inl ⟨by rfl, fun _ _ => rfl⟩) hHeld4 ?_
        simp only [Act.put, List.setIfInBounds_toArray, List.set_cons_zero, List.set_cons_succ]
        refine takeD (i := 12) (some 60) (.int .i64 0) rfl rfl (by kernel_rfl) (by kernel_rfl) (by kernel_rfl) (fun _ _ _ h => h) (Or.inl ⟨by rfl, fun _ _ => rfl⟩) hHeld4 ?_
        simp only [Act.put, List.setIfInBounds_toArray, List.set_cons_zero, List.set_cons_succ]
        refine wpAnyH_ready (rs := [14]) (by kernel_rfl) (by decide) ?_
        refine AllReadyH.cons rfl (fun K' hK => ?_) AllReadyH.nil
        refine step_store_row Tryd.agg25 rfl (.tmp 11) (.tmp 59) rfl _ _ rfl rfl 24 lit32 HRc.out HXS.out lit32_size (bcells_one _) ?_
        intro w9 hr9 ho9
        have B9 : Below w4.heap.size w4 w9 := Bc.trans (ho9.below hge Bc.size)
        refine hK.out _ _ (KP4.out _ B9) (fun hHeld9 => ?_)
        clear hK
        (try simp only [Act.put, List.setIfInBounds_toArray])
        refine takeD (i := 15) (some 12) (.int .i64 0) rfl rfl (by kernel_rfl) (by kernel_rfl) (by kernel_rfl) (fun _ _ _ h => h) (Or.inl ⟨by rfl, fun _ _ => rfl⟩) hHeld9 ?_
        (try simp only [Act.put])
        refine wpAnyH_done (by kernel_rfl) ?_ _
        refine NoPanic.normal ?_
        exact ⟨rfl, g, Ao, co, rfl, hr9, B9⟩
    · refine step_of rfl (wp_allocD rfl ?_)
      intro g wa hg hra hba
      have HRa := Lib.hid hra
      have hge : w4.heap.size ≤ g := by have := B0.size; omega
      have hga : g < wa.heap.size := hra.lt
      have Ba : Below w4.heap.size w4 wa := B0.trans (hba.mono B0.size)
      clear hg hra
      refine hK.out _ _ (KP4.out _ Ba) (fun hHeld5 => ?_)
      clear hK
      refine wpAnyH_ready (rs := [8]) (by kernel_rfl) (by decide) ?_
      refine AllReadyH.cons rfl (fun K' hK => ?_) AllReadyH.nil
      go_simp
      refine (own_any A1 k cap2 _ wa (HD1.out _ (hb4'.trans (Ba.mono hb4'.size))) (by omega)).mono ?_
      rintro e3 wo ⟨Ao, co, rfl, hco, hdo, hbo⟩
      have HDo := Lib.hid hdo
      have Bo : Below w4.heap.size w4 wo := Ba.trans (hbo.mono Ba.size)
      clear hdo
      have HRo := Lib.hid (HRa.out.below hbo hga)
      refine hK.out _ _ (KP4.out _ Bo) (fun hHeld3 => ?_)
      clear hK
      refine wpAnyH_ready (rs := [9]) (by kernel_rfl) (by decide) ?_
      refine AllReadyH.cons rfl (fun K' hK => ?_) AllReadyH.nil
      go_simp
      refine (HC2.out Ao co wo HDo.out (HT.out.below (hb4'.trans (Bo.mono hb4'.size)))).mono ?_
      rintro e4 wc ⟨rfl, hbc⟩
      have Bc : Below w4.heap.size w4 wc := Bo.trans (hbc.mono Bo.size)
      have HRc := Lib.hid (HRo.out.below hbc HRo.out.lt)
      refine hK.out _ _ (KP4.out _ Bc) (fun hHeld4 => ?_)
      clear hK
      (try simp only [Act.put, List.setIfInBounds_toArray, List.set_cons_zero, List.set_cons_succ])
      refine takeD (i := 10) (some 48) (.tuple #[.agg (bcells X), .int .i64 0]) rfl rfl (by kernel_rfl) (by kernel_rfl) (by kernel_rfl) (fun _ _ _ h => h) (Or.inl ⟨by rfl, fun _ _ => rfl⟩) hHeld4 ?_
      simp only [Act.put, List.setIfInBounds_toArray, List.set_cons_zero, List.set_cons_succ]
      refine takeD (i := 11) (some 59) (.agg (bcells X)) rfl rfl (by kernel_rfl) (by kernel_rfl) (by kernel_rfl) (fun _ _ _ h => h) (Or.inl ⟨by rfl, fun _ _ => rfl⟩) hHeld4 ?_
      simp only [Act.put, List.setIfInBounds_toArray, List.set_cons_zero, List.set_cons_succ]
      refine takeD (i := 12) (some 60) (.int .i64 0) rfl rfl (by kernel_rfl) (by kernel_rfl) (by kernel_rfl) (fun _ _ _ h => h) (Or.inl ⟨by rfl, fun _ _ => rfl⟩) hHeld4 ?_
      simp only [Act.put, List.setIfInBounds_toArray, List.set_cons_zero, List.set_cons_succ]
      refine wpAnyH_ready (rs := [14]) (by kernel_rfl) (by decide) ?_
      refine AllReadyH.cons rfl (fun K' hK => ?_) AllReadyH.nil
      refine step_store_row Tryd.agg25 rfl (.tmp 11) (.tmp 59) rfl _ _ rfl rfl 24 lit32 HRc.out HXS.out lit32_size (bcells_one _) ?_
      intro w9 hr9 ho9
      have B9 : Below w4.heap.size w4 w9 := Bc.trans (ho9.below hge Bc.size)
      refine hK.out _ _ (KP4.out _ B9) (fun hHeld9 => ?_)
      clear hK
      (try simp only [Act.put, List.setIfInBounds_toArray])
      refine takeD (i := 15) (some 12) (.int .i64 0) rfl rfl (by kernel_rfl) (by kernel_rfl) (by kernel_rfl) (fun _ _ _ h => h) (Or.inl ⟨by rfl, fun _ _ => rfl⟩) hHeld9 ?_
      (try simp only [Act.put])
      refine wpAnyH_done (by kernel_rfl) ?_ _
      refine NoPanic.normal ?_
      exact ⟨rfl, g, Ao, co, rfl, hr9, B9⟩
  rintro a' w5 ⟨g11, Ao5, co5, rfl, hr5, hb5⟩
  have HX5 := Lib.hid hr5
  have hb5' := hb4'.trans (hb5.mono hb4'.size)
  have HC5 := Lib.hid (HC4.out.below hb5 HC4.out.lt)
  clear hr5
  simp only [Act.put, List.setIfInBounds_toArray, List.set_cons_zero, List.set_cons_succ]
  have KP5 : Hid (∀ wq, Below w5.heap.size w5 wq → wq.rangeAt g11 0 (X.map bcell)) := Lib.hid (fun wq hb => range_row (HX5.out.below hb HX5.out.lt))
  go_wp2_with fail
  refine cutR (fun a a' w' => ∃ (g : Nat) (Ao : Option Addr) (co : Nat), a' = (((((((((((((((a.put (some 62) (.agg (bcells X))).put (some 63) (.int .i64 (i : Int))).put (some 64) (.int .i64 (k : Int))).put (some 65) (.int .i64 (p : Int))).put (some 66) (.int .i64 (v : Int))).put (some 67) (.slice a2 n cap2)).put (some 68) (.int .i64 (k : Int))).put (some 69) (.slice A2 q2 c2)).put (some 70) (.slice Ao q2 co)).put (some 71) (.tuple #[.agg (bcells R), .int .i64 0])).put (some 61) (.tuple #[.agg (bcells R), .int .i64 0])).put (some 72) (.agg (bcells R))).put (some 73) (.int .i64 0)).put (some 13) (.pointer (some ⟨g, 0, none⟩))).put (some 14) (.int .i64 0)) ∧ Row w' g 24 (bcells R) ∧ Below w5.heap.size w5 w') ?_ ?_
  · refine wp_region_noPanic ?_
    refine wp_region_held_drew (S := fun w' => w'.rangeAt g11 0 (X.map bcell)) (by kernel_rfl) (KP5.out _ ((Below.refl w5.heap.size w5).drew)) (fun hHeld => ?_)
    refine takeD (i := 0) (some 62) (.agg (bcells X)) rfl rfl (by kernel_rfl) (by kernel_rfl) (by kernel_rfl) (fun _ _ _ h => h) (yields_loadD rfl (.tmp 11) rfl _ 0 X rfl (fun _ h => h) HXL.out) hHeld ?_
    simp only [Act.put, List.setIfInBounds_toArray, List.set_cons_zero, List.set_cons_succ]
    refine takeD (i := 1) (some 63) (.int .i64 (i : Int)) rfl rfl (by kernel_rfl) (by kernel_rfl) (by kernel_rfl) (fun _ _ _ h => h) (Or.inl ⟨by rfl, fun _ _ => rfl⟩) hHeld ?_
    simp only [Act.put, List.setIfInBounds_toArray, List.set_cons_zero, List.set_cons_succ]
    refine takeD (i := 2) (some 64) (.int .i64 (k : Int)) rfl rfl (by kernel_rfl) (by kernel_rfl) (by kernel_rfl) (fun _ _ _ h => h) (Or.inl ⟨by rfl, fun _ _ => rfl⟩) hHeld ?_
    simp only [Act.put, List.setIfInBounds_toArray, List.set_cons_zero, List.set_cons_succ]
    refine takeD (i := 3) (some 65) (.int .i64 (p : Int)) rfl rfl (by kernel_rfl) (by kernel_rfl) (by kernel_rfl) (fun _ _ _ h => h) (yields_pow rfl _ (.tmp 64) rfl k p hk10 HP.out rfl rfl) hHeld ?_
    simp only [Act.put, List.setIfInBounds_toArray, List.set_cons_zero, List.set_cons_succ]
    refine takeD (i := 4) (some 66) (.int .i64 (v : Int)) rfl rfl (by kernel_rfl) (by kernel_rfl) (by kernel_rfl) (fun _ _ _ h => h) (yields_quo rfl (.tmp 63) (.tmp 65) rfl (i : Int) (p : Int) _ hp0' rfl rfl HDV.out (by omega) (by omega)) hHeld ?_
    simp only [Act.put, List.setIfInBounds_toArray, List.set_cons_zero, List.set_cons_succ]
    refine takeD (i := 5) (some 67) (.slice a2 n cap2) rfl rfl (by kernel_rfl) (by kernel_rfl) (by kernel_rfl) (fun _ _ _ h => h) (Or.inl ⟨by rfl, fun _ _ => rfl⟩) hHeld ?_
    simp only [Act.put, List.setIfInBounds_toArray, List.set_cons_zero, List.set_cons_succ]
    refine takeD (i := 6) (some 68) (.int .i64 (k : Int)) rfl rfl (by kernel_rfl) (by kernel_rfl) (by kernel_rfl) (fun _ _ _ h => h) (Or.inl ⟨by rfl, fun _ _ => rfl⟩) hHeld ?_
    simp only [Act.put, List.setIfInBounds_toArray, List.set_cons_zero, List.set_cons_succ]
    refine takeD (i := 7) (some 69) (.slice A2 q2 c2) rfl rfl (by kernel_rfl) (by kernel_rfl) (by kernel_rfl) (fun _ _ _ h => h) (yields_from rfl (.tmp 67) (.tmp 68) rfl _ _ _ rfl rfl HR2.out) hHeld ?_
    simp only [Act.put, List.setIfInBounds_toArray, List.set_cons_zero, List.set_cons_succ]
    have B0 : Below w5.heap.size w5 w5.drew := (Below.refl w5.heap.size w5).drew
    refine wpAnyH_ready (rs := [8, 13]) (by kernel_rfl) (by decide) ?_
    refine AllReadyH.cons rfl (fun K' hK => ?_) (AllReadyH.cons rfl (fun K' hK => ?_) AllReadyH.nil)
    · go_simp
      refine (own_any A2 q2 c2 _ w5.drew (HD2.out _ (hb5'.trans (B0.mono hb5'.size))) (by omega)).mono ?_
      rintro e3 wo ⟨Ao, co, rfl, hco, hdo, hbo⟩
      have HDo := Lib.hid hdo
      have Bo : Below w5.heap.size w5 wo := B0.trans (hbo.mono B0.size)
      clear hdo
      refine hK.out _ _ (KP5.out _ Bo) (fun hHeld3 => ?_)
      clear hK
      refine wpAnyH_ready (rs := [9, 13]) (by kernel_rfl) (by decide) ?_
      refine AllReadyH.cons rfl (fun K' hK => ?_) (AllReadyH.cons rfl (fun K' hK => ?_) AllReadyH.nil)
      · go_simp
        refine (HC3.out Ao co wo HDo.out (HT.out.below (hb5'.trans (Bo.mono hb5'.size)))).mono ?_
        rintro e4 wc ⟨rfl, hbc⟩
        have Bc : Below w5.heap.size w5 wc := Bo.trans (hbc.mono Bo.size)
        refine hK.out _ _ (KP5.out _ Bc) (fun hHeld4 => ?_)
        clear hK
        (try simp only [Act.put, List.setIfInBounds_toArray, List.set_cons_zero, List.set_cons_succ])
        refine takeD (i := 10) (some 61) (.tuple #[.agg (bcells R), .int .i64 0]) rfl rfl (by kernel_rfl) (by kernel_rfl) (by kernel_rfl) (fun _ _ _ h => h) (Or.inl ⟨by rfl, fun _ _ => rfl⟩) hHeld4 ?_
        simp only [Act.put, List.setIfInBounds_toArray, List.set_cons_zero, List.set_cons_succ]
        refine takeD (i := 11) (some 72) (.agg (bcells R)) rfl rfl (by kernel_rfl) (by kernel_rfl) (by kernel_rfl) (fun _ _ _ h => h) (Or.inl ⟨by rfl, fun _ _ => rfl⟩) hHeld4 ?_
        simp only [Act.put, List.setIfInBounds_toArray, List.set_cons_zero, List.set_cons_succ]
        refine takeD (i := 12) (some 73) (.int .i64 0) rfl rfl (by kernel_rfl) (by kernel_rfl) (by kernel_rfl) (fun _ _ _ h => h) (Or.inl ⟨by rfl, fun _ _ => rfl⟩) hHeld4 ?_
        simp only [Act.put, List.setIfInBounds_toArray, List.set_cons_zero, List.set_cons_succ]
        refine wpAnyH_ready (rs := [13]) (by kernel_rfl) (by decide) ?_
        refine AllReadyH.cons rfl (fun K' hK => ?_) AllReadyH.nil
        refine step_of rfl (wp_allocD rfl ?_)
        intro g wa hg hra hba
        have HRa := Lib.hid hra
        have hge : w5.heap.size ≤ g := by have := Bc.size; omega
        have hga : g < wa.heap.size := hra.lt
        have Ba : Below w5.heap.size w5 wa := Bc.trans (hba.mono Bc.size)
        clear hg hra
        refine hK.out _ _ (KP5.out _ Ba) (fun hHeld5 => ?_)
        clear hK
        refine wpAnyH_ready (rs := [14]) (by kernel_rfl) (by decide) ?_
        refine AllReadyH.cons rfl (fun K' hK => ?_) AllReadyH.nil
        refine step_store_row Tryd.agg25 rfl (.tmp 13) (.tmp 72) rfl _ _ rfl rfl 24 lit32 HRa.out HRS.out lit32_size (bcells_one _) ?_
        intro w9 hr9 ho9
        have B9 : Below w5.heap.size w5 w9 := Ba.trans (ho9.below hge Ba.size)
        refine hK.out _ _ (KP5.out _ B9) (fun hHeld9 => ?_)
        clear hK
        (try simp only [Act.put, List.setIfInBounds_toArray])
        refine takeD (i := 15) (some 14) (.int .i64 0) rfl rfl (by kernel_rfl) (by kernel_rfl) (by kernel_rfl) (fun _ _ _ h => h) (Or.inl ⟨by rfl, fun _ _ => rfl⟩) hHeld9 ?_
        (try simp only [Act.put])
        refine wpAnyH_done (by kernel_rfl) ?_ _
        refine NoPanic.normal ?_
        exact ⟨rfl, g, Ao, co, rfl, hr9, B9⟩
      · refine step_of rfl (wp_allocD rfl ?_)
        intro g wa hg hra hba
        have HRa := Lib.hid hra
        have hge : w5.heap.size ≤ g := by have := Bo.size; omega
        have hga : g < wa.heap.size := hra.lt
        have Ba : Below w5.heap.size w5 wa := Bo.trans (hba.mono Bo.size)
        clear hg hra
        refine hK.out _ _ (KP5.out _ Ba) (fun hHeld5 => ?_)
        clear hK
        refine wpAnyH_ready (rs := [9]) (by kernel_rfl) (by decide) ?_
        refine AllReadyH.cons rfl (fun K' hK => ?_) AllReadyH.nil
        have HDo2 := Lib.hid (HDo.out.below hba)
        clear HDo
        have HDo := HDo2
        clear HDo2
        go_simp
        refine (HC3.out Ao co wa HDo.out (HT.out.below (hb5'.trans (Ba.mono hb5'.size)))).mono ?_
        rintro e4 wc ⟨rfl, hbc⟩
        have Bc : Below w5.heap.size w5 wc := Ba.trans (hbc.mono Ba.size)
        have HRc := Lib.hid (HRa.out.below hbc hga)
        refine hK.out _ _ (KP5.out _ Bc) (fun hHeld4 => ?_)
        clear hK
        (try simp only [Act.put, List.setIfInBounds_toArray, List.set_cons_zero, List.set_cons_succ])
        refine takeD (i := 10) (some 61) (.tuple #[.agg (bcells R), .int .i64 0]) rfl rfl (by kernel_rfl) (by kernel_rfl) (by kernel_rfl) (fun _ _ _ h => h) (Or.inl ⟨by rfl, fun _ _ => rfl⟩) hHeld4 ?_
        simp only [Act.put, List.setIfInBounds_toArray, List.set_cons_zero, List.set_cons_succ]
        refine takeD (i := 11) (some 72) (.agg (bcells R)) rfl rfl (by kernel_rfl) (by kernel_rfl) (by kernel_rfl) (fun _ _ _ h => h) (Or.inl ⟨by rfl, fun _ _ => rfl⟩) hHeld4 ?_
        simp only [Act.put, List.setIfInBounds_toArray, List.set_cons_zero, List.set_cons_succ]
        refine takeD (i := 12) (some 73) (.int .i64 0) rfl rfl (by kernel_rfl) (by kernel_rfl) (by kernel_rfl) (fun _ _ _ h => h) (Or.inl ⟨by rfl, fun _ _ => rfl⟩) hHeld4 ?_
        simp only [Act.put, List.setIfInBounds_toArray, List.set_cons_zero, List.set_cons_succ]
        refine wpAnyH_ready (rs := [14]) (by kernel_rfl) (by decide) ?_
        refine AllReadyH.cons rfl (fun K' hK => ?_) AllReadyH.nil
        refine step_store_row Tryd.agg25 rfl (.tmp 13) (.tmp 72) rfl _ _ rfl rfl 24 lit32 HRc.out HRS.out lit32_size (bcells_one _) ?_
        intro w9 hr9 ho9
        have B9 : Below w5.heap.size w5 w9 := Bc.trans (ho9.below hge Bc.size)
        refine hK.out _ _ (KP5.out _ B9) (fun hHeld9 => ?_)
        clear hK
        (try simp only [Act.put, List.setIfInBounds_toArray])
        refine takeD (i := 15) (some 14) (.int .i64 0) rfl rfl (by kernel_rfl) (by kernel_rfl) (by kernel_rfl) (fun _ _ _ h => h) (Or.inl ⟨by rfl, fun _ _ => rfl⟩) hHeld9 ?_
        (try simp only [Act.put])
        refine wpAnyH_done (by kernel_rfl) ?_ _
        refine NoPanic.normal ?_
        exact ⟨rfl, g, Ao, co, rfl, hr9, B9⟩
    · refine step_of rfl (wp_allocD rfl ?_)
      intro g wa hg hra hba
      have HRa := Lib.hid hra
      have hge : w5.heap.size ≤ g := by have := B0.size; omega
      have hga : g < wa.heap.size := hra.lt
      have Ba : Below w5.heap.size w5 wa := B0.trans (hba.mono B0.size)
      clear hg hra
      refine hK.out _ _ (KP5.out _ Ba) (fun hHeld5 => ?_)
      clear hK
      refine wpAnyH_ready (rs := [8]) (by kernel_rfl) (by decide) ?_
      refine AllReadyH.cons rfl (fun K' hK => ?_) AllReadyH.nil
      go_simp
      refine (own_any A2 q2 c2 _ wa (HD2.out _ (hb5'.trans (Ba.mono hb5'.size))) (by omega)).mono ?_
      rintro e3 wo ⟨Ao, co, rfl, hco, hdo, hbo⟩
      have HDo := Lib.hid hdo
      have Bo : Below w5.heap.size w5 wo := Ba.trans (hbo.mono Ba.size)
      clear hdo
      have HRo := Lib.hid (HRa.out.below hbo hga)
      refine hK.out _ _ (KP5.out _ Bo) (fun hHeld3 => ?_)
      clear hK
      refine wpAnyH_ready (rs := [9]) (by kernel_rfl) (by decide) ?_
      refine AllReadyH.cons rfl (fun K' hK => ?_) AllReadyH.nil
      go_simp
      refine (HC3.out Ao co wo HDo.out (HT.out.below (hb5'.trans (Bo.mono hb5'.size)))).mono ?_
      rintro e4 wc ⟨rfl, hbc⟩
      have Bc : Below w5.heap.size w5 wc := Bo.trans (hbc.mono Bo.size)
      have HRc := Lib.hid (HRo.out.below hbc HRo.out.lt)
      refine hK.out _ _ (KP5.out _ Bc) (fun hHeld4 => ?_)
      clear hK
      (try simp only [Act.put, List.setIfInBounds_toArray, List.set_cons_zero, List.set_cons_succ])
      refine takeD (i := 10) (some 61) (.tuple #[.agg (bcells R), .int .i64 0]) rfl rfl (by kernel_rfl) (by kernel_rfl) (by kernel_rfl) (fun _ _ _ h => h) (Or.inl ⟨by rfl, fun _ _ => rfl⟩) hHeld4 ?_
      simp only [Act.put, List.setIfInBounds_toArray, List.set_cons_zero, List.set_cons_succ]
      refine takeD (i := 11) (some 72) (.agg (bcells R)) rfl rfl (by kernel_rfl) (by kernel_rfl) (by kernel_rfl) (fun _ _ _ h => h) (Or.inl ⟨by rfl, fun _ _ => rfl⟩) hHeld4 ?_
      simp only [Act.put, List.setIfInBounds_toArray, List.set_cons_zero, List.set_cons_succ]
      refine takeD (i := 12) (some 73) (.int .i64 0) rfl rfl (by kernel_rfl) (by kernel_rfl) (by kernel_rfl) (fun _ _ _ h => h) (Or.inl ⟨by rfl, fun _ _ => rfl⟩) hHeld4 ?_
      simp only [Act.put, List.setIfInBounds_toArray, List.set_cons_zero, List.set_cons_succ]
      refine wpAnyH_ready (rs := [14]) (by kernel_rfl) (by decide) ?_
      refine AllReadyH.cons rfl (fun K' hK => ?_) AllReadyH.nil
      refine step_store_row Tryd.agg25 rfl (.tmp 13) (.tmp 72) rfl _ _ rfl rfl 24 lit32 HRc.out HRS.out lit32_size (bcells_one _) ?_
      intro w9 hr9 ho9
      have B9 : Below w5.heap.size w5 w9 := Bc.trans (ho9.below hge Bc.size)
      refine hK.out _ _ (KP5.out _ B9) (fun hHeld9 => ?_)
      clear hK
      (try simp only [Act.put, List.setIfInBounds_toArray])
      refine takeD (i := 15) (some 14) (.int .i64 0) rfl rfl (by kernel_rfl) (by kernel_rfl) (by kernel_rfl) (fun _ _ _ h => h) (Or.inl ⟨by rfl, fun _ _ => rfl⟩) hHeld9 ?_
      (try simp only [Act.put])
      refine wpAnyH_done (by kernel_rfl) ?_ _
      refine NoPanic.normal ?_
      exact ⟨rfl, g, Ao, co, rfl, hr9, B9⟩
  rintro a' w6 ⟨g13, Ao6, co6, rfl, hr6, hb6⟩
  have HE6 := Lib.hid hr6
  have hb6' := hb5'.trans (hb6.mono hb5'.size)
  have HC6 := Lib.hid (HC5.out.below hb6 HC5.out.lt)
  clear hr6
  simp only [Act.put, List.setIfInBounds_toArray, List.set_cons_zero, List.set_cons_succ]
  go_wp2_with (first
    | (with_reducible refine wpList_loadG (by with_unfolding_all rfl) (.tmp 9) rfl _ 0 R rfl (range_row HC6.out) HRL.out ?_)
    | (with_reducible refine wpList_loadG (by with_unfolding_all rfl) (.tmp 13) rfl _ 0 R rfl (range_row HE6.out) HRL.out ?_)
    | (go_at_call 9; refine (awake_any _ (HT.out.below hb6')).mono ?_; rintro e9 w9 ⟨rfl, hb9⟩; have hb9' := hb6'.trans (hb9.mono hb6'.size)))
  go_ret
  exact ⟨rfl, hb9'⟩
set_option maxRecDepth 100000 in
set_option maxHeartbeats 1000000 in
theorem no_long (w : World) (s0 : List UInt8) (i : Int) (a2 : Option Addr) (n cap2 : Nat) (k : Int) (h : 10 < n) (hT : Tab 1 w) : Calls Tryd.prog 8 #[.agg (bcells s0), .int .i64 i, .slice a2 n cap2, .int .i64 k] w fun e w' => e = .returned (.bool true) ∧ Below w.heap.size w w' := by
  have i0 : (10 : Int) < (n : Int) := by omega
  clear h
  have HT1 := Lib.hid hT
  have hb0 := (Below.refl w.heap.size w).alloc (Nat.le_refl _) (.cells (bcells s0) 24)
  clear hT
  go_enter Tryd.func8, Tryd.ntmps8
  go_wp2_with (go_at_call 9; refine (awake_any _ (HT1.out.below hb0)).mono ?_; rintro e4 w4 ⟨rfl, hb4⟩)
  go_ret
  exact ⟨rfl, hb0.trans (hb4.mono hb0.size)⟩
set_option maxRecDepth 100000 in
set_option maxHeartbeats 1000000 in
theorem no_neg (w : World) (s0 : List UInt8) (i : Int) (a2 : Option Addr) (n cap2 : Nat) (k : Int) (h : n ≤ 10) (i1 : i < 0) (hT : Tab 1 w) : Calls Tryd.prog 8 #[.agg (bcells s0), .int .i64 i, .slice a2 n cap2, .int .i64 k] w fun e w' => e = .returned (.bool true) ∧ Below w.heap.size w w' := by
  have i0 : ¬ (10 : Int) < (n : Int) := by omega
  clear h
  have HT1 := Lib.hid hT
  have hb0 := (Below.refl w.heap.size w).alloc (Nat.le_refl _) (.cells (bcells s0) 24)
  clear hT
  go_enter Tryd.func8, Tryd.ntmps8
  go_wp2_with (go_at_call 9; refine (awake_any _ (HT1.out.below hb0)).mono ?_; rintro e4 w4 ⟨rfl, hb4⟩)
  go_ret
  exact ⟨rfl, hb0.trans (hb4.mono hb0.size)⟩
set_option maxRecDepth 100000 in
set_option maxHeartbeats 1000000 in
theorem no_far (w : World) (s0 : List UInt8) (i : Int) (a2 : Option Addr) (n cap2 : Nat) (k : Int) (h : n ≤ 10) (i1 : ¬ i < 0) (hf : ((2 ^ n : Nat) : Int) ≤ i) (hT : Tab 1 w) : Calls Tryd.prog 8 #[.agg (bcells s0), .int .i64 i, .slice a2 n cap2, .int .i64 k] w fun e w' => e = .returned (.bool true) ∧ Below w.heap.size w w' := by
  have i0 : ¬ (10 : Int) < (n : Int) := by omega
  have i2 : wrap64 ((2 : Int) ^ n) ≤ i := by rw [wrap_pow h]; exact hf
  clear h hf
  have HT1 := Lib.hid hT
  have hb0 := (Below.refl w.heap.size w).alloc (Nat.le_refl _) (.cells (bcells s0) 24)
  clear hT
  go_enter Tryd.func8, Tryd.ntmps8
  go_wp2_with (go_at_call 9; refine (awake_any _ (HT1.out.below hb0)).mono ?_; rintro e4 w4 ⟨rfl, hb4⟩)
  go_ret
  exact ⟨rfl, hb0.trans (hb4.mono hb0.size)⟩
set_option maxRecDepth 100000 in
set_option maxHeartbeats 1000000 in
theorem no_low (w : World) (s0 : List UInt8) (i : Int) (a2 : Option Addr) (n cap2 : Nat) (k : Int) (h : n ≤ 10) (i1 : ¬ i < 0) (hf : i < ((2 ^ n : Nat) : Int)) (i3 : k < 0) (hT : Tab 1 w) : Calls Tryd.prog 8 #[.agg (bcells s0), .int .i64 i, .slice a2 n cap2, .int .i64 k] w fun e w' => e = .returned (.bool true) ∧ Below w.heap.size w w' := by
  have i0 : ¬ (10 : Int) < (n : Int) := by omega
  have i2 : ¬ wrap64 ((2 : Int) ^ n) ≤ i := by rw [wrap_pow h]; omega
  clear h hf
  have HT1 := Lib.hid hT
  have hb0 := (Below.refl w.heap.size w).alloc (Nat.le_refl _) (.cells (bcells s0) 24)
  clear hT
  go_enter Tryd.func8, Tryd.ntmps8
  go_wp2_with (go_at_call 9; refine (awake_any _ (HT1.out.below hb0)).mono ?_; rintro e4 w4 ⟨rfl, hb4⟩)
  go_ret
  exact ⟨rfl, hb0.trans (hb4.mono hb0.size)⟩
set_option maxRecDepth 100000 in
set_option maxHeartbeats 1000000 in
theorem no_high (w : World) (s0 : List UInt8) (i : Int) (a2 : Option Addr) (n cap2 : Nat) (k : Int) (h : n ≤ 10) (i1 : ¬ i < 0) (hf : i < ((2 ^ n : Nat) : Int)) (i3 : ¬ k < 0) (i4 : (n : Int) < k) (hT : Tab 1 w) : Calls Tryd.prog 8 #[.agg (bcells s0), .int .i64 i, .slice a2 n cap2, .int .i64 k] w fun e w' => e = .returned (.bool true) ∧ Below w.heap.size w w' := by
  have i0 : ¬ (10 : Int) < (n : Int) := by omega
  have i2 : ¬ wrap64 ((2 : Int) ^ n) ≤ i := by rw [wrap_pow h]; omega
  clear h hf
  have HT1 := Lib.hid hT
  have hb0 := (Below.refl w.heap.size w).alloc (Nat.le_refl _) (.cells (bcells s0) 24)
  clear hT
  go_enter Tryd.func8, Tryd.ntmps8
  go_wp2_with (go_at_call 9; refine (awake_any _ (HT1.out.below hb0)).mono ?_; rintro e4 w4 ⟨rfl, hb4⟩)
  go_ret
  exact ⟨rfl, hb0.trans (hb4.mono hb0.size)⟩
theorem walk (w : World) (s0 : List UInt8) (w0 : s0.length = 32) (a1 : Int) (_w1 : (Lit.int .i64 a1).wf = true) (a2 : Option Addr) (len2 cap2 : Nat) (l2 : List (List UInt8)) (w2 : Ds w a2 len2 l2) (s2 : len2 ≤ cap2) (a3 : Int) (_w3 : (Lit.int .i64 a3).wf = true) (hT : Tab 1 w) :
    Calls Tryd.prog 8 #[.agg (bcells s0), .int .i64 a1, .slice a2 len2 cap2, .int .i64 a3] w fun e w' => e = .returned (.bool true) ∧ Below w.heap.size w w' := by
  by_cases h1 : len2 ≤ 10
  · by_cases h2 : a1 < 0
    · exact no_neg w s0 a1 a2 len2 cap2 a3 h1 h2 hT
    · by_cases h3 : a1 < ((2 ^ len2 : Nat) : Int)
      · by_cases h4 : a3 < 0
        · exact no_low w s0 a1 a2 len2 cap2 a3 h1 h2 h3 h4 hT
        · by_cases h5 : (len2 : Int) < a3
          · exact no_high w s0 a1 a2 len2 cap2 a3 h1 h2 h3 h4 h5 hT
          · obtain ⟨i, rfl⟩ := Int.eq_ofNat_of_zero_le (show 0 ≤ a1 by omega)
            obtain ⟨k, rfl⟩ := Int.eq_ofNat_of_zero_le (show 0 ≤ a3 by omega)
            exact walk_in w s0 w0 i a2 len2 cap2 l2 w2 s2 k h1 (by omega) (by omega) hT
      · exact no_far w s0 a1 a2 len2 cap2 a3 h1 h2 (by omega) hT
  · exact no_long w s0 a1 a2 len2 cap2 a3 (by omega) hT

set_option maxRecDepth 100000 in
theorem lifted (os : Os) (started : os.Started) (H : Type) (enc : TypeId × Value → H) :
    ReturnsInHanded {} Tryd.checked os 8 .any (fun w args => (Rows.treePartsSpec.pre enc Tryd.prog Tryd.f8 Rows.treePartsRow.domain false w args ∧ laidMetH Tryd.prog lay1 w) ∧ sizedMet enc Tryd.prog Tryd.f8 (OpenSpec.ofChange Rows.treePartsSpec) false w args)
      (Rows.treePartsSpec.post enc Tryd.prog Tryd.f8 false true false false) := by
  refine returnsInHanded_of_change_and (C := Tryd.checked) (X := fun w _ => laidMetH Tryd.prog lay1 w) (fun _ _ _ hh h => h.of_heap hh) own started (by kernel_rfl) Tryd.func8
    (ChangeSpec.witness_shaped (enc := enc) (C := Tryd.checked) (os := os) (X := fun w _ => laidMetH Tryd.prog lay1 w) false (World.laidAll Tryd.prog os lay1) #[.agg #[.int .u8 0, .int .u8 0, .int .u8 0, .int .u8 0, .int .u8 0, .int .u8 0, .int .u8 0, .int .u8 0, .int .u8 0, .int .u8 0, .int .u8 0, .int .u8 0, .int .u8 0, .int .u8 0, .int .u8 0, .int .u8 0, .int .u8 0, .int .u8 0, .int .u8 0, .int .u8 0, .int .u8 0, .int .u8 0, .int .u8 0, .int .u8 0, .int .u8 0, .int .u8 0, .int .u8 0, .int .u8 0, .int .u8 0, .int .u8 0, .int .u8 0, .int .u8 0], .int .i64 0, .slice none 0 0, .int .i64 0] 8 rfl (World.shaped_of_ZipB (by kernel_rfl) (by kernel_rfl)) (by kernel_rfl) (by kernel_rfl) (by kernel_rfl) (met1 os _)) ?_
  intro W base args ds gs before hval0 hW hcnd hsz0 hL _
  have hval : ∀ (j : Nat) t v, Tryd.f8.params[j]? = some t → args[j]? = some v → Value.okWide Tryd.prog W .any base t v := hval0
  have hW' := hW
  obtain ⟨p, q, hA0, hV, rfl, hfz, hnd⟩ := hW
  have hA : DataW.TrodAll enc Tryd.prog W 0 (fun _ => true) true Tryd.f8.params.toList args.toList ds p := hA0
  have hsz : (DataW.weightsEach Tryd.prog (Tryd.f8.params.toList ++ Rows.treePartsSpec.plain.varTypes Tryd.prog) (ds ++ gs)).all (· ≤ reachBytes) = true := hsz0
  rw [Tryd.params8] at hA hval hsz
  obtain ⟨v0, vs0, d0, ds0, p0, q0, hargs, rfl, rfl, h0, r0⟩ := trodAll_cons hA
  obtain ⟨v1, vs1, d1, ds1, p1, q1, rfl, rfl, rfl, h1, r1⟩ := trodAll_cons r0
  obtain ⟨v2, vs2, d2, ds2, p2, q2, rfl, rfl, rfl, h2, r2⟩ := trodAll_cons r1
  obtain ⟨v3, vs3, d3, ds3, p3, q3, rfl, rfl, rfl, h3, r3⟩ := trodAll_cons r2
  obtain ⟨rfl, rfl, rfl⟩ := trodAll_nil r3
  obtain rfl : args = #[v0, v1, v2, v3] := by cases args; simp_all
  obtain ⟨rfl, rfl⟩ := trodVars_none hV
  have k0 := h0
  have lt0 : ∀ x ∈ p0, x.block < W.heap.size := by obtain ⟨m, hm⟩ := k0; exact DataW.trod_lt m _ _ _ hm
  obtain ⟨s0, w0, rfl⟩ : ∃ s : List UInt8, s.length = 32 ∧ v0 = .agg (bcells s) := open_digest (hval 0 24 v0 rfl rfl) h0
  obtain ⟨a1, rfl, rfl, rfl, w1⟩ := open_int Tryd.underlying3 (hval 1 3 v1 rfl rfl) h1
  have k2 := h2
  have lt2 : ∀ x ∈ p2, x.block < W.heap.size := by obtain ⟨m, hm⟩ := k2; exact DataW.trod_lt m _ _ _ hm
  obtain ⟨a2, len2, cap2, l2, rfl, w2, s2⟩ := open_ds (hval 2 22 v2 rfl rfl) h2
  obtain ⟨a3, rfl, rfl, rfl, w3⟩ := open_int Tryd.underlying3 (hval 3 3 v3 rfl rfl) h3
  have hTab := of_lay1 hL
  clear hA0 hval0
  refine (walk W s0 w0 a1 w1 a2 len2 cap2 l2 w2 s2 a3 w3 hTab).mono fun e W' ⟨he, bel⟩ => ?_
  subst he
  exact ⟨_, rfl, _, _, _, [], _, [], hW', trodAll_mk1 (shut_bool Tryd.underlying4 _), (trodAll_cons_mk (Below.trod laidOut (by kernel_rfl) (of_decide_eq_true (by kernel_rfl)) k0 bel lt0) (trodAll_cons_mk (shut_int Tryd.underlying3 w1) (trodAll_cons_mk (Below.trod laidOut (by kernel_rfl) (of_decide_eq_true (by kernel_rfl)) k2 bel lt2) (trodAll_cons_mk (shut_int Tryd.underlying3 w3) trodAll_mk0)))), rfl, bel.frame _, fun h => by cases h⟩
theorem over : Rows.treePartsRow.holds Tryd.pinned (OpenSpec.ofChange Rows.treePartsSpec) :=
  OpenClaim.holds_of_wide 8 Tryd.f8 rfl rfl rfl rfl rfl rfl rfl ⟨rfl, rfl, rfl, rfl, rfl⟩ rfl rfl rfl rfl rfl (by kernel_rfl) Tryd.func8 (by kernel_rfl)
    (of_decide_eq_true (by kernel_rfl)) (by unfold Func.isWrapper; first | (rw [if_pos (by decide +kernel)]; kernel_rfl) | (rw [if_neg (by decide +kernel)]; exact ⟨rfl, rfl⟩))
    (fun os started H enc _ => lifted os started H enc)
theorem treeParts_holds : Rows.TreePartsCardSaid :=
  Claim7.holds_tied_plain_at .later [] [.data] true (true, "88038e2d516bc315e4e17de3119a76fa62516c6ce152f586382fba84026f3fa9") false
    over (fun _ h => by cases h) (by kernel_rfl) (fun _ h => by cases h) treeParts_row_tie rfl ⟨rfl, rfl⟩ (by kernel_rfl) rfl
    (fun f fn hf hfn => by
      obtain rfl : f = 8 := Option.some.inj ((show Tryd.prog.funcNamed "jurat/juratlaw06.TreeParts" = some 8 by kernel_rfl).symm.trans hf) |>.symm
      obtain rfl : fn = Tryd.f8 := (Option.some.inj (Tryd.func8.symm.trans hfn)).symm
      exact ⟨by kernel_rfl, fun j t ht => by
        rw [Tryd.params8] at ht
        have hm : t ∈ [24, 3, 22, 3] := by simpa using Array.mem_of_getElem? ht
        have hall : ([24, 3, 22, 3].all fun u => !Tryd.prog.wantsStandIn u) = true := by kernel_rfl
        exact (show Tryd.prog.wantsStandIn t = false by simpa using List.all_eq_true.1 hall t hm)⟩)
    (by kernel_rfl)
#print axioms treeParts_holds
end Go.Proofs.YtiidcnjhjojhoaaDoor.treeParts
