/-
  What a crash leaves of the document's tape.
-/
import Derived.Test.YtpnllbadalcnaaaRefF
namespace Go.Proofs.Ytpnllbadalcnaaa
open Go.RowKit
theorem mput_grow {w w5 : World} {S : Tp} {g i n5 c5 : Nat} {F : Nat → Nat → Prop} {A5 : Option Addr} {L : List UInt8} (h : TapM w g F S) (hi : i < 4) (hb5 : Below w.heap.size w w5) (h5 : Own w5 w.heap.size 5 (.slice A5 n5 c5) n5 L) :
    ∃ cs, Row w5 g 41 cs ∧ 2 * i + 1 < cs.size ∧ ∀ w6, Row w6 g 41 ((cs.setIfInBounds (2 * i) (.slice A5 n5 c5)).setIfInBounds (2 * i + 1) (.slice none 0 0)) → Off (· = g) w5 w6 → GrowM w g F ⟨upd S.f i ⟨L, []⟩, S.fuse, S.down⟩ w6 := by
  obtain ⟨cs, hr, hs, h12, h13, h4⟩ := h.row
  have hgl := hr.lt
  refine ⟨cs, (hb5.block g hgl).trans hr, by omega, fun w6 hr6 ho6 => ?_⟩
  have o6 : Off (fun b => b = g ∨ F i b) w w6 := (Off.of_below (F := fun b => b = g ∨ F i b) hb5).trans (ho6.mono (F' := fun b => b = g ∨ F i b) (fun b q => .inl q)) (fun x q => .inl q)
  have hne : ∀ b, OB (.slice A5 n5 c5) b → b ≠ g := fun b q e => by have := (h5.lt b q).1; omega
  refine h.put hr hr6 (by rw [Array.size_setIfInBounds, Array.size_setIfInBounds]; exact hs) ?_ ?_ h.fz hi ?_ o6 ⟨A5, n5, c5, none, 0, 0, ?_, ?_, ?_, OwnS.nil _ _, fun b q => .inr (h5.lt b q).1, (fun b (q : none = some b) => by cases q)⟩
  · rw [set2 8 (by omega) (by omega)]; exact h12
  · rw [set2 9 (by omega) (by omega)]; exact h13
  · intro j hj hji k hk
    exact set2 _ (by omega) (by omega)
  · rw [Array.getElem?_setIfInBounds, if_neg (by omega), Array.getElem?_setIfInBounds, if_pos rfl, if_pos (by omega)]
  · rw [Array.getElem?_setIfInBounds, if_pos rfl, if_pos (by rw [Array.size_setIfInBounds]; omega)]
  · exact ownsRow_base (h5.keep (fun b q => ho6.block b (h5.lt b q).2 (hne b q))) (Nat.zero_le _)
theorem TapM.eqv {w : World} {g : Nat} {F : Nat → Nat → Prop} {S T : Tp} (h : TapM w g F S) (hf : ∀ i, i < 4 → T.f i = S.f i) (h1 : T.fuse = S.fuse) (h2 : T.down = S.down) : TapM w g F T := by
  obtain ⟨cs, hr, hs, h12, h13, h4⟩ := h.row
  exact ⟨h.lt, h.off, h.apart, by rw [h1]; exact h.fz, cs, hr, hs, by rw [h1]; exact h12, by rw [h2]; exact h13, fun i hi => by rw [hf i hi]; exact h4 i hi⟩
def LeftM (w : World) (S : Tp) (e : Ending) (w' : World) : Prop := ∃ g F, e = .returned (.pointer (some ⟨g, 0, none⟩)) ∧ TapM w' g F S ∧ (∀ b, Foot g F b → w.heap.size ≤ b) ∧ Below w.heap.size w w'
theorem yields_maxC {ops : Array Oper} {S : World → Prop} {o : Oper} {a : Act} (hw : Region.wanted o (yielded ops a.tmps) = true) (y : Operand) (ho : o.op = .call { callee := .builtin .max, args := #[.const (.int .i64 0), y], argTypes := #[3, 3] }) (q r : Int)
    (hy : a.eval y = .int .i64 q) (hr : max 0 q = r) : YieldsIf Try.prog ops S o (.int .i64 r) a := yields_max hw (.const (.int .i64 0)) y ho 0 q r rfl hy hr
set_option maxRecDepth 100000 in
set_option maxHeartbeats 4000000 in
theorem MCrash_any {S : Tp} (g K n c : Nat) (A : Option Addr) (kept : List Int) (F : Nat → Nat → Prop) (w : World) (h : TapM w g F S) (hok : S.ok K) (hK : K ≤ 100000000) (hI : Is w A n kept) :
    Calls Try.prog 15 #[.pointer (some ⟨g, 0, none⟩), .slice A n c] w (LeftM w (S.crash kept)) := by
  have HT := Lib.hid h
  have HOK := Lib.hid hok
  have HI := Lib.hid hI
  have HIl := Lib.hid hI.1
  have hKK := hK
  clear h hok hI hK
  unfold LeftM
  go_enter Try.func15, Try.ntmps15
  go_wp2_with (go_at_call 13; refine (MNew_any _).mono ?_; rintro e1 w1 ⟨g2, rfl, hg2, ht2, hb1⟩; have HT2 := Lib.hid ht2; clear ht2)
  go_loopw [6] (fun x wr => ∃ (k : Nat) (F2 : Nat → Nat → Prop), k ≤ 4 ∧ x = .int .i64 (k : Int) ∧ Hid (TapM wr g2 F2 (S.crashK kept k)) ∧ Hid (∀ b, Foot g2 F2 b → w.heap.size ≤ b) ∧ Below w.heap.size w wr) (fun x _ => 4 - (intOf x).toNat)
  case atStart =>
    refine ⟨0, fun _ _ => False, by omega, rfl, Lib.hid (HT2.out.eqv (fun i _ => ?_) rfl rfl), Lib.hid (fun b q => ?_), hb1⟩
    · show (if i < 0 then (S.crash kept).f i else (⟨[], []⟩ : Fl)) = _
      rw [if_neg (Nat.not_lt_zero i)]; rfl
    · rcases q with rfl | ⟨_, q⟩
      · exact hg2
      · exact q.elim
  case round =>
    obtain ⟨k, F2, hk, rfl, HTk, HFk, hb⟩ := hrel
    by_cases hk4 : k < 4
    · have HTS := Lib.hid (HT.out.below hb)
      obtain ⟨A1, n1, c1, Ao, co, hr0, hO0, hS0, _⟩ := HTS.out.file hk4
      obtain ⟨M, hM⟩ : ∃ M, (S.f k).opn.length = M := ⟨_, rfl⟩
      have hgl := HTS.out.glt
      obtain ⟨N, hN⟩ : ∃ N, keepN kept k M = N := ⟨_, rfl⟩
      have hNM : N ≤ M := by rw [← hN]; exact keepN_le _ _ _
      have hMb : M ≤ 100000000 := by have := (HOK.out k).2; omega
      rw [hM] at hr0 hS0
      have HR0 := Lib.hid hr0
      have HAf := Lib.hid (fun wq (hq : Below wr.heap.size wr wq) => show Calls Try.prog 30 #[.agg (filR A1 n1 c1 Ao M co), .int .i64 (N : Int)] wq (fun e w' => ∃ A' n' c', e = .returned (.slice A' n' c') ∧ Own w' wq.heap.size 5 (.slice A' n' c') n' ((S.f k).after N) ∧ Below wq.heap.size wq w') from RAfter_any A1 Ao n1 c1 M co N (S.f k).sure (S.f k).opn wq (hO0.bs.below hq) (hS0.ss.below hq) (HOK.out k).1 hNM (by omega))
      have HSu := Lib.hid (crashK_succ S kept k)
      rw [hM, hN] at HSu
      have hkI : (k : Int) < 4 := by omega
      have cop := (filR_cell hr0).2
      clear hM hr0 hO0 hS0
      by_cases hkn : k < n
      · obtain ⟨b, off, z, rfl, hbl, hz, hc, hz1, hz2⟩ := (HI.out.below hb).get hkn
        have hNz : (N : Int) = max 0 (min z M) := by rw [← hN]; unfold keepN; rw [hz]; simp only; omega
        have HNz := Lib.hid hNz
        have hknI : (k : Int) < (n : Int) := by omega
        clear hN hNz hz hz1 hz2
        go_wp2_with fail
        refine cutR (fun a a' w' => a' = (((((((((((((((a.put (some 17) (.slice (some ⟨b, off, none⟩) n c)).put (some 18) (.int .i64 (k : Int))).put (some 19) (.pointer (some ⟨b, off + k, none⟩))).put (some 20) (.int .i64 z)).put (some 21) (.pointer (some ⟨g, 0, none⟩))).put (some 22) (.int .i64 (k : Int))).put (some 23) (.pointer (some ⟨g, 0, none⟩))).put (some 24) (.pointer (some ⟨g, 0, none⟩))).put (some 25) (.pointer (some ⟨g, 2 * k, none⟩))).put (some 26) (.pointer (some ⟨g, 2 * k + 1, none⟩))).put (some 27) (.slice Ao M co)).put (some 28) (.int .i64 (M : Int))).put (some 29) (.int .i64 (min z M))).put (some 30) (.int .i64 (N : Int))).put (some 7) (.int .i64 (N : Int))) ∧ w' = wr.drew) ?_ ?_
        · refine wp_region_noPanic ?_
          refine wp_region_held_drew (S := fun w' => w'.cell? ⟨b, off + k, none⟩ = some (.int .i64 z) ∧ w'.cell? ⟨g, 2 * k + 1, none⟩ = some (.slice Ao M co)) (by kernel_rfl) ⟨hc, cop⟩ (fun hHeld => ?_)
          refine takeD (i := 0) (some 17) (.slice (some ⟨b, off, none⟩) n c) rfl rfl (by kernel_rfl) (by kernel_rfl) (by kernel_rfl) (fun _ _ _ h => h) (Or.inl ⟨by rfl, fun _ _ => rfl⟩) hHeld ?_
          simp only [Act.put, List.setIfInBounds_toArray, List.set_cons_zero, List.set_cons_succ]
          refine takeD (i := 1) (some 18) (.int .i64 (k : Int)) rfl rfl (by kernel_rfl) (by kernel_rfl) (by kernel_rfl) (fun _ _ _ h => h) (Or.inl ⟨by rfl, fun _ _ => rfl⟩) hHeld ?_
          simp only [Act.put, List.setIfInBounds_toArray, List.set_cons_zero, List.set_cons_succ]
          refine takeD (i := 2) (some 19) (.pointer (some ⟨b, off + k, none⟩)) rfl rfl (by kernel_rfl) (by kernel_rfl) (by kernel_rfl) (fun _ _ _ h => h) (yields_indexI (by rfl) (.tmp 17) (.tmp 18) rfl b off n c k rfl rfl hkn) hHeld ?_
          simp only [Act.put, List.setIfInBounds_toArray, List.set_cons_zero, List.set_cons_succ]
          refine takeD (i := 3) (some 20) (.int .i64 z) rfl rfl (by kernel_rfl) (by kernel_rfl) (by kernel_rfl) (fun _ _ _ h => h) (yields_cell (by rfl) 3 (.tmp 19) rfl (by decide) b (off + k) _ rfl (fun _ h => h.1)) hHeld ?_
          simp only [Act.put, List.setIfInBounds_toArray, List.set_cons_zero, List.set_cons_succ]
          refine takeD (i := 4) (some 21) (.pointer (some ⟨g, 0, none⟩)) rfl rfl (by kernel_rfl) (by kernel_rfl) (by kernel_rfl) (fun _ _ _ h => h) (Or.inl ⟨by rfl, fun _ _ => rfl⟩) hHeld ?_
          simp only [Act.put, List.setIfInBounds_toArray, List.set_cons_zero, List.set_cons_succ]
          refine takeD (i := 5) (some 22) (.int .i64 (k : Int)) rfl rfl (by kernel_rfl) (by kernel_rfl) (by kernel_rfl) (fun _ _ _ h => h) (Or.inl ⟨by rfl, fun _ _ => rfl⟩) hHeld ?_
          simp only [Act.put, List.setIfInBounds_toArray, List.set_cons_zero, List.set_cons_succ]
          refine takeD (i := 6) (some 23) (.pointer (some ⟨g, 0, none⟩)) rfl rfl (by kernel_rfl) (by kernel_rfl) (by kernel_rfl) (fun _ _ _ h => h) (yields_nil (by rfl) (.tmp 21) rfl _ rfl) hHeld ?_
          simp only [Act.put, List.setIfInBounds_toArray, List.set_cons_zero, List.set_cons_succ]
          refine takeD (i := 7) (some 24) (.pointer (some ⟨g, 0, none⟩)) rfl rfl (by kernel_rfl) (by kernel_rfl) (by kernel_rfl) (fun _ _ _ h => h) (yields_fld66 (by rfl) 41 (.tmp 23) rfl (by decide) g rfl) hHeld ?_
          simp only [Act.put, List.setIfInBounds_toArray, List.set_cons_zero, List.set_cons_succ]
          refine takeD (i := 8) (some 25) (.pointer (some ⟨g, 2 * k, none⟩)) rfl rfl (by kernel_rfl) (by kernel_rfl) (by kernel_rfl) (fun _ _ _ h => h) (yields_indexM (by rfl) (.tmp 24) (.tmp 22) rfl g k rfl rfl hk4) hHeld ?_
          simp only [Act.put, List.setIfInBounds_toArray, List.set_cons_zero, List.set_cons_succ]
          refine takeD (i := 9) (some 26) (.pointer (some ⟨g, 2 * k + 1, none⟩)) rfl rfl (by kernel_rfl) (by kernel_rfl) (by kernel_rfl) (fun _ _ _ h => h) (yields_fld38 (by rfl) (.tmp 25) 1 rfl (by decide) g (2 * k) _ rfl rfl) hHeld ?_
          simp only [Act.put, List.setIfInBounds_toArray, List.set_cons_zero, List.set_cons_succ]
          refine takeD (i := 10) (some 27) (.slice Ao M co) rfl rfl (by kernel_rfl) (by kernel_rfl) (by kernel_rfl) (fun _ _ _ h => h) (yields_loadV (by rfl) 36 (.tmp 26) rfl (by decide) g (2 * k + 1) _ rfl (fun _ h => h.2)) hHeld ?_
          simp only [Act.put, List.setIfInBounds_toArray, List.set_cons_zero, List.set_cons_succ]
          refine takeD (i := 11) (some 28) (.int .i64 (M : Int)) rfl rfl (by kernel_rfl) (by kernel_rfl) (by kernel_rfl) (fun _ _ _ h => h) (yields_lenR (by rfl) (.tmp 27) rfl Ao M co rfl) hHeld ?_
          simp only [Act.put, List.setIfInBounds_toArray, List.set_cons_zero, List.set_cons_succ]
          refine takeD (i := 12) (some 29) (.int .i64 (min z M)) rfl rfl (by kernel_rfl) (by kernel_rfl) (by kernel_rfl) (fun _ _ _ h => h) (yields_min (by rfl) (.tmp 20) (.tmp 28) rfl z M _ rfl rfl rfl) hHeld ?_
          simp only [Act.put, List.setIfInBounds_toArray, List.set_cons_zero, List.set_cons_succ]
          refine takeD (i := 13) (some 30) (.int .i64 (N : Int)) rfl rfl (by kernel_rfl) (by kernel_rfl) (by kernel_rfl) (fun _ _ _ h => h) (yields_maxC (by rfl) (.tmp 29) rfl (min z M) _ rfl HNz.out.symm) hHeld ?_
          simp only [Act.put, List.setIfInBounds_toArray, List.set_cons_zero, List.set_cons_succ]
          refine takeD (i := 14) (some 7) (.int .i64 (N : Int)) rfl rfl (by kernel_rfl) (by kernel_rfl) (by kernel_rfl) (fun _ _ _ h => h) (Or.inl ⟨by rfl, fun _ _ => rfl⟩) hHeld ?_
          (try simp only [Act.put, List.setIfInBounds_toArray, List.set_cons_zero, List.set_cons_succ])
          refine wpAnyH_done (by kernel_rfl) ?_ _
          refine NoPanic.normal ?_
          exact ⟨rfl, rfl, rfl⟩
        · rintro a' w' ⟨rfl, rfl⟩
          simp only [Act.put, List.setIfInBounds_toArray, List.set_cons_zero, List.set_cons_succ]
          obtain ⟨wy, hwy⟩ : ∃ wy, wr.drew = wy := ⟨_, rfl⟩
          have b0 : Below wr.heap.size wr wy := by rw [← hwy]; exact (Below.refl wr.heap.size wr).drew
          have HRy := Lib.hid (rangeAt_below HR0.out hgl b0)
          have HTy := Lib.hid (HTk.out.below b0)
          rw [hwy]
          clear hwy hc cop
          go_wp2_with fail
          refine cutR (fun a a' w' => ∃ (A5 : Option Addr) (n5 c5 : Nat), a' = ((((((((((((((a.put (some 31) (.pointer (some ⟨g2, 0, none⟩))).put (some 32) (.int .i64 (k : Int))).put (some 33) (.pointer (some ⟨g, 0, none⟩))).put (some 34) (.int .i64 (k : Int))).put (some 35) (.pointer (some ⟨g, 0, none⟩))).put (some 36) (.pointer (some ⟨g, 0, none⟩))).put (some 37) (.pointer (some ⟨g, 2 * k, none⟩))).put (some 38) (.agg (filR A1 n1 c1 Ao M co))).put (some 39) (.int .i64 (N : Int))).put (some 40) (.slice A5 n5 c5)).put (some 41) (.agg (filR A5 n5 c5 none 0 0))).put (some 42) (.pointer (some ⟨g2, 0, none⟩))).put (some 43) (.pointer (some ⟨g2, 0, none⟩))).put (some 44) (.pointer (some ⟨g2, 2 * k, none⟩))) ∧ GrowM wy g2 F2 ⟨upd (S.crashK kept k).f k ⟨(S.f k).after N, []⟩, (S.crashK kept k).fuse, (S.crashK kept k).down⟩ w') ?_ ?_
          · refine wp_region_noPanic ?_
            refine wp_region_held_drew (S := fun w' => w'.rangeAt g (2 * k) (filR A1 n1 c1 Ao M co).toList) (by kernel_rfl) (show World.rangeAt wy.drew g (2 * k) _ from HRy.out) (fun hHeld => ?_)
            refine takeD (i := 0) (some 31) (.pointer (some ⟨g2, 0, none⟩)) rfl rfl (by kernel_rfl) (by kernel_rfl) (by kernel_rfl) (fun _ _ _ h => h) (Or.inl ⟨by rfl, fun _ _ => rfl⟩) hHeld ?_
            simp only [Act.put, List.setIfInBounds_toArray, List.set_cons_zero, List.set_cons_succ]
            refine takeD (i := 1) (some 32) (.int .i64 (k : Int)) rfl rfl (by kernel_rfl) (by kernel_rfl) (by kernel_rfl) (fun _ _ _ h => h) (Or.inl ⟨by rfl, fun _ _ => rfl⟩) hHeld ?_
            simp only [Act.put, List.setIfInBounds_toArray, List.set_cons_zero, List.set_cons_succ]
            refine takeD (i := 2) (some 33) (.pointer (some ⟨g, 0, none⟩)) rfl rfl (by kernel_rfl) (by kernel_rfl) (by kernel_rfl) (fun _ _ _ h => h) (Or.inl ⟨by rfl, fun _ _ => rfl⟩) hHeld ?_
            simp only [Act.put, List.setIfInBounds_toArray, List.set_cons_zero, List.set_cons_succ]
            refine takeD (i := 3) (some 34) (.int .i64 (k : Int)) rfl rfl (by kernel_rfl) (by kernel_rfl) (by kernel_rfl) (fun _ _ _ h => h) (Or.inl ⟨by rfl, fun _ _ => rfl⟩) hHeld ?_
            simp only [Act.put, List.setIfInBounds_toArray, List.set_cons_zero, List.set_cons_succ]
            refine takeD (i := 4) (some 35) (.pointer (some ⟨g, 0, none⟩)) rfl rfl (by kernel_rfl) (by kernel_rfl) (by kernel_rfl) (fun _ _ _ h => h) (yields_nil (by rfl) (.tmp 33) rfl _ rfl) hHeld ?_
            simp only [Act.put, List.setIfInBounds_toArray, List.set_cons_zero, List.set_cons_succ]
            refine takeD (i := 5) (some 36) (.pointer (some ⟨g, 0, none⟩)) rfl rfl (by kernel_rfl) (by kernel_rfl) (by kernel_rfl) (fun _ _ _ h => h) (yields_fld66 (by rfl) 41 (.tmp 35) rfl (by decide) g rfl) hHeld ?_
            simp only [Act.put, List.setIfInBounds_toArray, List.set_cons_zero, List.set_cons_succ]
            refine takeD (i := 6) (some 37) (.pointer (some ⟨g, 2 * k, none⟩)) rfl rfl (by kernel_rfl) (by kernel_rfl) (by kernel_rfl) (fun _ _ _ h => h) (yields_indexM (by rfl) (.tmp 36) (.tmp 34) rfl g k rfl rfl hk4) hHeld ?_
            simp only [Act.put, List.setIfInBounds_toArray, List.set_cons_zero, List.set_cons_succ]
            refine takeD (i := 7) (some 38) (.agg (filR A1 n1 c1 Ao M co)) rfl rfl (by kernel_rfl) (by kernel_rfl) (by kernel_rfl) (fun _ _ _ h => h) (yields_load38 (by rfl) (.tmp 37) rfl g (2 * k) A1 n1 c1 Ao M co rfl (fun _ h => h)) hHeld ?_
            simp only [Act.put, List.setIfInBounds_toArray, List.set_cons_zero, List.set_cons_succ]
            refine takeD (i := 8) (some 39) (.int .i64 (N : Int)) rfl rfl (by kernel_rfl) (by kernel_rfl) (by kernel_rfl) (fun _ _ _ h => h) (Or.inl ⟨by rfl, fun _ _ => rfl⟩) hHeld ?_
            simp only [Act.put, List.setIfInBounds_toArray, List.set_cons_zero, List.set_cons_succ]
            refine takeD (i := 11) (some 42) (.pointer (some ⟨g2, 0, none⟩)) rfl rfl (by kernel_rfl) (by kernel_rfl) (by kernel_rfl) (fun _ _ _ h => h) (yields_nil (by rfl) (.tmp 31) rfl _ rfl) hHeld ?_
            simp only [Act.put, List.setIfInBounds_toArray, List.set_cons_zero, List.set_cons_succ]
            refine takeD (i := 12) (some 43) (.pointer (some ⟨g2, 0, none⟩)) rfl rfl (by kernel_rfl) (by kernel_rfl) (by kernel_rfl) (fun _ _ _ h => h) (yields_fld66 (by rfl) 41 (.tmp 42) rfl (by decide) g2 rfl) hHeld ?_
            simp only [Act.put, List.setIfInBounds_toArray, List.set_cons_zero, List.set_cons_succ]
            refine wpAnyH_ready (rs := [9]) (by kernel_rfl) (by decide) ?_
            refine AllReadyH.cons rfl (fun K' hK => ?_) AllReadyH.nil
            go_simp
            have D0 : Below wy.heap.size wy wy.drew := (Below.refl wy.heap.size wy).drew
            refine (HAf.out wy.drew (b0.trans (D0.mono b0.size))).mono ?_
            rintro e4 w5 ⟨A5, n5, c5, rfl, ho5, hb5⟩
            have B5 : Below wy.heap.size wy w5 := D0.trans hb5
            obtain ⟨cs5, hr5, hp5, hg5⟩ := mput_grow HTy.out hk4 B5 (show Own w5 wy.heap.size 5 (.slice A5 n5 c5) n5 _ from ho5)
            have HR5 := Lib.hid hr5
            have HG5 := Lib.hid hg5
            clear ho5 hr5 hg5
            have hgy : g < wy.heap.size := Nat.lt_of_lt_of_le hgl b0.size
            refine hK.out _ _ (rangeAt_below HRy.out hgy B5) (fun hHeld2 => ?_)
            clear hK
            (try simp only [Act.put, List.setIfInBounds_toArray, List.set_cons_zero, List.set_cons_succ])
            refine takeD (i := 10) (some 41) (.agg (filR A5 n5 c5 none 0 0)) rfl rfl (by kernel_rfl) (by kernel_rfl) (by kernel_rfl) (fun _ _ _ h => h) (yields_bFil (by rfl) (.tmp 40) rfl A5 n5 c5 rfl) hHeld2 ?_
            simp only [Act.put, List.setIfInBounds_toArray, List.set_cons_zero, List.set_cons_succ]
            refine takeD (i := 13) (some 44) (.pointer (some ⟨g2, 2 * k, none⟩)) rfl rfl (by kernel_rfl) (by kernel_rfl) (by kernel_rfl) (fun _ _ _ h => h) (yields_indexM (by rfl) (.tmp 43) (.tmp 32) rfl g2 k rfl rfl hk4) hHeld2 ?_
            simp only [Act.put, List.setIfInBounds_toArray, List.set_cons_zero, List.set_cons_succ]
            refine wpAnyH_ready (rs := [14]) (by kernel_rfl) (by decide) ?_
            refine AllReadyH.cons rfl (fun K' hK => ?_) AllReadyH.nil
            refine step_of rfl (wp_storeM (.tmp 44) (.tmp 41) rfl g2 (2 * k) n5 c5 0 0 A5 none cs5 rfl rfl HR5.out hp5 ?_)
            intro w6 hr6 ho6
            have hgg : g ≠ g2 := fun e => by have q1 := HFk.out g (.inl e); have q2 := HT.out.glt; omega
            refine hK.out _ _ (fun j v hj => (World.cell?_of_block (a := ⟨g, 2 * k + j, none⟩) (ho6.block g (Nat.lt_of_lt_of_le hgy B5.size) hgg)).trans (rangeAt_below HRy.out hgy B5 j v hj)) (fun hHeld3 => ?_)
            clear hK
            refine wpAnyH_done (by kernel_rfl) ?_ _
            refine NoPanic.normal ?_
            exact ⟨rfl, A5, n5, c5, rfl, HG5.out w6 hr6 ho6⟩
          · rintro a' w6 ⟨A5, n5, c5, rfl, hg6⟩
            simp only [Act.put, List.setIfInBounds_toArray, List.set_cons_zero, List.set_cons_succ]
            have HG6 := Lib.hid hg6
            clear hg6
            go_wp2
            go_roundw
            case rel =>
              rw [HSu.out] at HG6
              obtain ⟨⟨F4, hF4, hT4⟩, ho4⟩ := HG6.out
              have hby := hb.trans (b0.mono hb.size)
              refine ⟨k + 1, F4, by omega, by go_num, Lib.hid hT4, Lib.hid (fun b q => (hF4.foot b q).elim (HFk.out b) (fun q2 => Nat.le_trans hby.size q2)), hby.trans (ho4.below HFk.out hby.size)⟩
            case measure => simp [intOf]; omega
      · have hN0 : N = 0 := by rw [← hN]; unfold keepN; rw [List.getElem?_eq_none (by rw [HIl.out]; omega)]
        have hknI : ¬ (k : Int) < (n : Int) := by omega
        have HN0 := Lib.hid hN0
        clear hN hN0 cop
        have b0 : Below wr.heap.size wr wr := Below.refl wr.heap.size wr
        have HRy := Lib.hid (rangeAt_below HR0.out hgl b0)
        have HTy := Lib.hid (HTk.out.below b0)
        go_wp2_with fail
        rw [show (Value.int .i64 0) = .int .i64 (N : Int) by rw [HN0.out]; rfl]
        refine cutR (fun a a' w' => ∃ (A5 : Option Addr) (n5 c5 : Nat), a' = ((((((((((((((a.put (some 31) (.pointer (some ⟨g2, 0, none⟩))).put (some 32) (.int .i64 (k : Int))).put (some 33) (.pointer (some ⟨g, 0, none⟩))).put (some 34) (.int .i64 (k : Int))).put (some 35) (.pointer (some ⟨g, 0, none⟩))).put (some 36) (.pointer (some ⟨g, 0, none⟩))).put (some 37) (.pointer (some ⟨g, 2 * k, none⟩))).put (some 38) (.agg (filR A1 n1 c1 Ao M co))).put (some 39) (.int .i64 (N : Int))).put (some 40) (.slice A5 n5 c5)).put (some 41) (.agg (filR A5 n5 c5 none 0 0))).put (some 42) (.pointer (some ⟨g2, 0, none⟩))).put (some 43) (.pointer (some ⟨g2, 0, none⟩))).put (some 44) (.pointer (some ⟨g2, 2 * k, none⟩))) ∧ GrowM wr g2 F2 ⟨upd (S.crashK kept k).f k ⟨(S.f k).after N, []⟩, (S.crashK kept k).fuse, (S.crashK kept k).down⟩ w') ?_ ?_
        · refine wp_region_noPanic ?_
          refine wp_region_held_drew (S := fun w' => w'.rangeAt g (2 * k) (filR A1 n1 c1 Ao M co).toList) (by kernel_rfl) (show World.rangeAt wr.drew g (2 * k) _ from HRy.out) (fun hHeld => ?_)
          refine takeD (i := 0) (some 31) (.pointer (some ⟨g2, 0, none⟩)) rfl rfl (by kernel_rfl) (by kernel_rfl) (by kernel_rfl) (fun _ _ _ h => h) (Or.inl ⟨by rfl, fun _ _ => rfl⟩) hHeld ?_
          simp only [Act.put, List.setIfInBounds_toArray, List.set_cons_zero, List.set_cons_succ]
          refine takeD (i := 1) (some 32) (.int .i64 (k : Int)) rfl rfl (by kernel_rfl) (by kernel_rfl) (by kernel_rfl) (fun _ _ _ h => h) (Or.inl ⟨by rfl, fun _ _ => rfl⟩) hHeld ?_
          simp only [Act.put, List.setIfInBounds_toArray, List.set_cons_zero, List.set_cons_succ]
          refine takeD (i := 2) (some 33) (.pointer (some ⟨g, 0, none⟩)) rfl rfl (by kernel_rfl) (by kernel_rfl) (by kernel_rfl) (fun _ _ _ h => h) (Or.inl ⟨by rfl, fun _ _ => rfl⟩) hHeld ?_
          simp only [Act.put, List.setIfInBounds_toArray, List.set_cons_zero, List.set_cons_succ]
          refine takeD (i := 3) (some 34) (.int .i64 (k : Int)) rfl rfl (by kernel_rfl) (by kernel_rfl) (by kernel_rfl) (fun _ _ _ h => h) (Or.inl ⟨by rfl, fun _ _ => rfl⟩) hHeld ?_
          simp only [Act.put, List.setIfInBounds_toArray, List.set_cons_zero, List.set_cons_succ]
          refine takeD (i := 4) (some 35) (.pointer (some ⟨g, 0, none⟩)) rfl rfl (by kernel_rfl) (by kernel_rfl) (by kernel_rfl) (fun _ _ _ h => h) (yields_nil (by rfl) (.tmp 33) rfl _ rfl) hHeld ?_
          simp only [Act.put, List.setIfInBounds_toArray, List.set_cons_zero, List.set_cons_succ]
          refine takeD (i := 5) (some 36) (.pointer (some ⟨g, 0, none⟩)) rfl rfl (by kernel_rfl) (by kernel_rfl) (by kernel_rfl) (fun _ _ _ h => h) (yields_fld66 (by rfl) 41 (.tmp 35) rfl (by decide) g rfl) hHeld ?_
          simp only [Act.put, List.setIfInBounds_toArray, List.set_cons_zero, List.set_cons_succ]
          refine takeD (i := 6) (some 37) (.pointer (some ⟨g, 2 * k, none⟩)) rfl rfl (by kernel_rfl) (by kernel_rfl) (by kernel_rfl) (fun _ _ _ h => h) (yields_indexM (by rfl) (.tmp 36) (.tmp 34) rfl g k rfl rfl hk4) hHeld ?_
          simp only [Act.put, List.setIfInBounds_toArray, List.set_cons_zero, List.set_cons_succ]
          refine takeD (i := 7) (some 38) (.agg (filR A1 n1 c1 Ao M co)) rfl rfl (by kernel_rfl) (by kernel_rfl) (by kernel_rfl) (fun _ _ _ h => h) (yields_load38 (by rfl) (.tmp 37) rfl g (2 * k) A1 n1 c1 Ao M co rfl (fun _ h => h)) hHeld ?_
          simp only [Act.put, List.setIfInBounds_toArray, List.set_cons_zero, List.set_cons_succ]
          refine takeD (i := 8) (some 39) (.int .i64 (N : Int)) rfl rfl (by kernel_rfl) (by kernel_rfl) (by kernel_rfl) (fun _ _ _ h => h) (Or.inl ⟨by rfl, fun _ _ => rfl⟩) hHeld ?_
          simp only [Act.put, List.setIfInBounds_toArray, List.set_cons_zero, List.set_cons_succ]
          refine takeD (i := 11) (some 42) (.pointer (some ⟨g2, 0, none⟩)) rfl rfl (by kernel_rfl) (by kernel_rfl) (by kernel_rfl) (fun _ _ _ h => h) (yields_nil (by rfl) (.tmp 31) rfl _ rfl) hHeld ?_
          simp only [Act.put, List.setIfInBounds_toArray, List.set_cons_zero, List.set_cons_succ]
          refine takeD (i := 12) (some 43) (.pointer (some ⟨g2, 0, none⟩)) rfl rfl (by kernel_rfl) (by kernel_rfl) (by kernel_rfl) (fun _ _ _ h => h) (yields_fld66 (by rfl) 41 (.tmp 42) rfl (by decide) g2 rfl) hHeld ?_
          simp only [Act.put, List.setIfInBounds_toArray, List.set_cons_zero, List.set_cons_succ]
          refine wpAnyH_ready (rs := [9]) (by kernel_rfl) (by decide) ?_
          refine AllReadyH.cons rfl (fun K' hK => ?_) AllReadyH.nil
          go_simp
          have D0 : Below wr.heap.size wr wr.drew := (Below.refl wr.heap.size wr).drew
          refine (HAf.out wr.drew (b0.trans (D0.mono b0.size))).mono ?_
          rintro e4 w5 ⟨A5, n5, c5, rfl, ho5, hb5⟩
          have B5 : Below wr.heap.size wr w5 := D0.trans hb5
          obtain ⟨cs5, hr5, hp5, hg5⟩ := mput_grow HTy.out hk4 B5 (show Own w5 wr.heap.size 5 (.slice A5 n5 c5) n5 _ from ho5)
          have HR5 := Lib.hid hr5
          have HG5 := Lib.hid hg5
          clear ho5 hr5 hg5
          have hgy : g < wr.heap.size := Nat.lt_of_lt_of_le hgl b0.size
          refine hK.out _ _ (rangeAt_below HRy.out hgy B5) (fun hHeld2 => ?_)
          clear hK
          (try simp only [Act.put, List.setIfInBounds_toArray, List.set_cons_zero, List.set_cons_succ])
          refine takeD (i := 10) (some 41) (.agg (filR A5 n5 c5 none 0 0)) rfl rfl (by kernel_rfl) (by kernel_rfl) (by kernel_rfl) (fun _ _ _ h => h) (yields_bFil (by rfl) (.tmp 40) rfl A5 n5 c5 rfl) hHeld2 ?_
          simp only [Act.put, List.setIfInBounds_toArray, List.set_cons_zero, List.set_cons_succ]
          refine takeD (i := 13) (some 44) (.pointer (some ⟨g2, 2 * k, none⟩)) rfl rfl (by kernel_rfl) (by kernel_rfl) (by kernel_rfl) (fun _ _ _ h => h) (yields_indexM (by rfl) (.tmp 43) (.tmp 32) rfl g2 k rfl rfl hk4) hHeld2 ?_
          simp only [Act.put, List.setIfInBounds_toArray, List.set_cons_zero, List.set_cons_succ]
          refine wpAnyH_ready (rs := [14]) (by kernel_rfl) (by decide) ?_
          refine AllReadyH.cons rfl (fun K' hK => ?_) AllReadyH.nil
          refine step_of rfl (wp_storeM (.tmp 44) (.tmp 41) rfl g2 (2 * k) n5 c5 0 0 A5 none cs5 rfl rfl HR5.out hp5 ?_)
          intro w6 hr6 ho6
          have hgg : g ≠ g2 := fun e => by have q1 := HFk.out g (.inl e); have q2 := HT.out.glt; omega
          refine hK.out _ _ (fun j v hj => (World.cell?_of_block (a := ⟨g, 2 * k + j, none⟩) (ho6.block g (Nat.lt_of_lt_of_le hgy B5.size) hgg)).trans (rangeAt_below HRy.out hgy B5 j v hj)) (fun hHeld3 => ?_)
          clear hK
          refine wpAnyH_done (by kernel_rfl) ?_ _
          refine NoPanic.normal ?_
          exact ⟨rfl, A5, n5, c5, rfl, HG5.out w6 hr6 ho6⟩
        · rintro a' w6 ⟨A5, n5, c5, rfl, hg6⟩
          simp only [Act.put, List.setIfInBounds_toArray, List.set_cons_zero, List.set_cons_succ]
          have HG6 := Lib.hid hg6
          clear hg6
          go_wp2
          go_roundw
          case rel =>
            rw [HSu.out] at HG6
            obtain ⟨⟨F4, hF4, hT4⟩, ho4⟩ := HG6.out
            have hby := hb.trans (b0.mono hb.size)
            refine ⟨k + 1, F4, by omega, by go_num, Lib.hid hT4, Lib.hid (fun b q => (hF4.foot b q).elim (HFk.out b) (fun q2 => Nat.le_trans hby.size q2)), hby.trans (ho4.below HFk.out hby.size)⟩
          case measure => simp [intOf]; omega
    · obtain rfl : k = 4 := by omega
      have HQ := Lib.hid (HTk.out.eqv (T := S.crash kept) (fun i hi => by unfold Tp.crashK; exact (if_pos hi).symm) rfl rfl)
      go_wp2
      go_ret
      exact ⟨g2, F2, rfl, HQ.out, HFk.out, hb⟩
end Go.Proofs.Ytpnllbadalcnaaa
