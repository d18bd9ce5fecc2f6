/-
  A tape behind calls (played).
-/
import Derived.Test.YtpnllbadalcnaaaTapG
namespace Go.Proofs.Ytpnllbadalcnaaa
open Go.RowKit
def doT (S : Tp) (x : Cl) : Tp := if x.kind = 0 then (S.append x.file x.b).1 else if x.kind = 1 then (S.cutT x.file x.n).1 else if x.kind = 2 then (S.syncT x.file).1 else S
def playT (S : Tp) (L : List Cl) : Tp := L.foldl doT S
theorem doT_0 (S : Tp) (fi ni : Int) (l : List UInt8) (kept : List Int) : doT S ⟨0, fi, ni, l, kept⟩ = (S.append fi l).1 := by unfold doT; exact if_pos rfl
theorem doT_1 (S : Tp) (fi ni : Int) (l : List UInt8) (kept : List Int) : doT S ⟨1, fi, ni, l, kept⟩ = (S.cutT fi ni).1 := by unfold doT; rw [if_neg (show ¬ (1 : Int) = 0 by decide), if_pos rfl]
theorem doT_2 (S : Tp) (fi ni : Int) (l : List UInt8) (kept : List Int) : doT S ⟨2, fi, ni, l, kept⟩ = (S.syncT fi).1 := by unfold doT; rw [if_neg (show ¬ (2 : Int) = 0 by decide), if_neg (show ¬ (2 : Int) = 1 by decide), if_pos rfl]
theorem doT_x (S : Tp) (ki fi ni : Int) (l : List UInt8) (kept : List Int) (h0 : ¬ ki = 0) (h1 : ¬ ki = 1) (h2 : ¬ ki = 2) : doT S ⟨ki, fi, ni, l, kept⟩ = S := by unfold doT; rw [if_neg h0, if_neg h1, if_neg h2]
theorem playT_take (S : Tp) {L : List Cl} {k : Nat} {x : Cl} (h : L[k]? = some x) : playT S (L.take (k + 1)) = doT (playT S (L.take k)) x := by
  unfold playT
  rw [take_snoc h, List.foldl_append]; rfl
theorem doT_ok {S : Tp} {K : Nat} (x : Cl) (h : S.ok K) (hb : x.b.length ≤ 500) : (doT S x).ok (K + 501) := by
  unfold doT
  split
  · exact (append_ok _ _ h).mono (by omega)
  · split
    · exact (cut_ok _ _ h).mono (by omega)
    · split
      · exact (sync_ok _ h).mono (by omega)
      · exact h.mono (by omega)
theorem playT_ok {L : List Cl} (hL : ∀ x ∈ L, x.b.length ≤ 500) : ∀ k, k ≤ L.length → (playT Tp.new (L.take k)).ok (501 * k)
  | 0, _ => ok_new 0
  | k + 1, hk => by
    have hx := List.getElem?_eq_getElem (show k < L.length by omega)
    rw [playT_take Tp.new hx]
    exact doT_ok _ (playT_ok hL k (by omega)) (hL _ (List.getElem_mem _))
theorem playT_all {L : List Cl} (hL : ∀ x ∈ L, x.b.length ≤ 500) : (playT Tp.new L).ok (501 * L.length) := by
  have := playT_ok hL L.length (Nat.le_refl _)
  rwa [List.take_length] at this
/-- own(b)'s block is new -/
theorem own_foot {w w' : World} {g n c : Nat} {A : Option Addr} {F : Nat → Nat → Prop} {S : Tp} {l : List UInt8} (h : Tap w g F S) (ho : Own w' w.heap.size 5 (.slice A n c) n l) : ∀ b off, A = some ⟨b, off, none⟩ → ¬ Foot g F b := fun b off e q => by
  have := ho.fresh b off e
  have := h.foot q
  omega
set_option maxRecDepth 100000 in
set_option maxHeartbeats 4000000 in
theorem played_any (A : Option Addr) (n c : Nat) (L : List Cl) (w : World) (h : Cls w A n L) (hL : ∀ x ∈ L, x.b.length ≤ 500) (hn : n ≤ 60) : Calls Try.prog 20 #[.slice A n c] w (Left w (playT Tp.new L)) := by
  have HLl := Lib.hid h.1
  have HC := Lib.hid h
  have HL := Lib.hid hL
  have HOKs := Lib.hid (playT_ok hL)
  clear h hL
  unfold Left
  go_enter Try.func20, Try.ntmps20
  go_wp2_with (go_at_call 12; refine (New_any _).mono ?_; rintro e1 w1 ⟨g, rfl, hg, ht1, hb1⟩; have HT1 := Lib.hid ht1; clear ht1)
  go_loopw [4] (fun x wr => ∃ (k : Nat) (F : Nat → Nat → Prop), k ≤ n ∧ x = .int .i64 (k : Int) ∧ Hid (Tap wr g F (playT Tp.new (L.take k))) ∧ Hid (∀ b, Foot g F b → w.heap.size ≤ b) ∧ Below w.heap.size w wr) (fun x _ => n - (intOf x).toNat)
  case atStart => exact ⟨0, fun _ _ => False, Nat.zero_le _, rfl, Lib.hid HT1.out, Lib.hid (fun b q => q.elim (fun q => by rw [q]; exact hg) (fun ⟨_, q⟩ => q.elim)), hb1⟩
  case round =>
    obtain ⟨k, F, hk, rfl, HT, HF, hb⟩ := hrel
    by_cases hlt : k < n
    · obtain ⟨x, b, off, T, m, c1, I, p, d, hx, rfl, hbl, hr, hB, hmc, _, _⟩ := (HC.out.below hb).get hlt
      have HS := Lib.hid (playT_take Tp.new hx)
      have hb5 := HL.out x (List.mem_of_getElem? hx)
      have HOK := Lib.hid (HOKs.out k (by rw [HLl.out]; omega))
      have HR := Lib.hid hr
      have HB := Lib.hid hB
      have hm : m ≤ 500 := by have := hB.1; omega
      obtain ⟨ki, fi, ni, l, kept⟩ := x
      simp only at HR HB
      clear hr hB hx hb5
      generalize playT Tp.new (L.take k) = S at *
      have hK : 501 * k ≤ 100000000 - 501 := by omega
      by_cases h0 : ki = 0
      · subst h0
        go_wp2_with (first
        | (with_reducible refine wpList_indexK (by with_unfolding_all rfl) (.tmp 13) (.tmp 14) rfl b off n c k _ _ rfl rfl rfl hlt rfl ?_)
        | (with_reducible refine wpList_loadK rfl (.tmp 15) rfl b (off + 5 * k) 0 fi ni T m c1 I p d rfl HR.out ?_)
        | (with_reducible refine wpList_allocK rfl rfl ?_; intro gc w2 hgc hrc hbc; have HRc := Lib.hid hrc; clear hrc)
        | (with_reducible refine wpList_store_row Try.agg32 rfl (.tmp 5) (.tmp 16) rfl _ (clC 0 fi ni T m c1 I p d) rfl rfl 32 cl0 HRc.out (clC_size _ _ _ _ _ _ _ _ _) cl0_size (clC_one _ _ _ _ _ _ _ _ _) ?_; intro w3 hr3 ho3; obtain ⟨q0, q1, q2, q3, q4⟩ := cl_cells hr3; have b3 : Below wr.heap.size wr w3 := hbc.trans (ho3.below hgc hbc.size); have HR3 := Lib.hid hr3; have HT3 := Lib.hid (HT.out.below b3); clear hr3))
        refine cutR (fun a a' w' => ∃ (E : Int) (A4 : Option Addr) (c4 : Nat) (wo : World), a' = (((((((a.put (some 21) (.pointer (some ⟨g, 0, none⟩))).put (some 22) (.pointer (some ⟨gc, 1, none⟩))).put (some 23) (.int .i64 fi)).put (some 24) (.pointer (some ⟨gc, 3, none⟩))).put (some 25) (.slice T m c1)).put (some 26) (.slice A4 m c4)).put (some 27) (.int .i64 E)) ∧ Below w3.heap.size w3 wo ∧ Grow wo g F (S.append fi l).1 w') ?_ ?_
        · have B0 : Below w3.heap.size w3 w3.drew := (Below.refl w3.heap.size w3).drew
          refine wp_region_noPanic ?_
          refine wp_region_held_drew (S := fun w' => Row w' gc 32 (clC 0 fi ni T m c1 I p d)) (by kernel_rfl) HR3.out (fun hHeld => ?_)
          refine takeD (i := 0) (some 21) (.pointer (some ⟨g, 0, none⟩)) rfl rfl (by kernel_rfl) (by kernel_rfl) (by kernel_rfl) (fun _ _ _ h => h) (Or.inl ⟨by rfl, fun _ _ => rfl⟩) hHeld ?_
          simp only [Act.put, List.setIfInBounds_toArray, List.set_cons_zero, List.set_cons_succ]
          refine takeD (i := 1) (some 22) (.pointer (some ⟨gc, 1, none⟩)) rfl rfl (by kernel_rfl) (by kernel_rfl) (by kernel_rfl) (fun _ _ _ h => h) (yields_fld32 (by rfl) (.tmp 5) 1 rfl (by decide) gc 0 _ rfl rfl) hHeld ?_
          simp only [Act.put, List.setIfInBounds_toArray, List.set_cons_zero, List.set_cons_succ]
          refine takeD (i := 2) (some 23) (.int .i64 fi) rfl rfl (by kernel_rfl) (by kernel_rfl) (by kernel_rfl) (fun _ _ _ h => h) (yields_cell (by rfl) 3 (.tmp 22) rfl (by decide) gc 1 _ rfl (fun _ h => (cl_cells h).2.1)) hHeld ?_
          simp only [Act.put, List.setIfInBounds_toArray, List.set_cons_zero, List.set_cons_succ]
          refine takeD (i := 3) (some 24) (.pointer (some ⟨gc, 3, none⟩)) rfl rfl (by kernel_rfl) (by kernel_rfl) (by kernel_rfl) (fun _ _ _ h => h) (yields_fld32 (by rfl) (.tmp 5) 3 rfl (by decide) gc 0 _ rfl rfl) hHeld ?_
          simp only [Act.put, List.setIfInBounds_toArray, List.set_cons_zero, List.set_cons_succ]
          refine takeD (i := 4) (some 25) (.slice T m c1) rfl rfl (by kernel_rfl) (by kernel_rfl) (by kernel_rfl) (fun _ _ _ h => h) (yields_loadV (by rfl) 29 (.tmp 24) rfl (by decide) gc 3 _ rfl (fun _ h => (cl_cells h).2.2.2.1)) hHeld ?_
          simp only [Act.put, List.setIfInBounds_toArray, List.set_cons_zero, List.set_cons_succ]
          refine wpAnyH_ready (rs := [5]) (by kernel_rfl) (by decide) ?_
          refine AllReadyH.cons rfl (fun K' hK => ?_) AllReadyH.nil
          go_simp
          refine (ownB_any T m c1 l w3.drew (HB.out.below (b3.trans (B0.mono b3.size))) (by omega)).mono ?_
          rintro e4 wo ⟨A4, c4, rfl, hc4, ho4, hb4⟩
          have HO4 := Lib.hid ho4
          have Bo : Below w3.heap.size w3 wo := B0.trans hb4
          clear ho4 hb4
          refine hK.out _ _ (HR3.out.below Bo HR3.out.lt) (fun hHeld1 => ?_)
          clear hK
          (try simp only [Act.put, List.setIfInBounds_toArray, List.set_cons_zero, List.set_cons_succ])
          refine wpAnyH_ready (rs := [6]) (by kernel_rfl) (by decide) ?_
          refine AllReadyH.cons rfl (fun K' hK => ?_) AllReadyH.nil
          go_simp
          refine (App_any g (501 * k) m c4 fi A4 l F wo (HT3.out.below Bo) HOK.out (by omega) HO4.out.bs (own_foot HT3.out (show Own wo w3.heap.size 5 _ _ _ from HO4.out))).mono ?_
          rintro e5 w5 ⟨rfl, hg5⟩
          have HG5 := Lib.hid hg5
          clear hg5
          refine hK.out _ _ ((HG5.out.2.block gc (Nat.lt_of_lt_of_le HR3.out.lt Bo.size) (fun q => by have := HT.out.foot q; omega)).trans (HR3.out.below Bo HR3.out.lt)) (fun hHeld2 => ?_)
          clear hK
          refine wpAnyH_done (by kernel_rfl) ?_ _
          refine NoPanic.normal ?_
          exact ⟨rfl, _, A4, c4, wo, rfl, Bo, HG5.out⟩
        · rintro a' w4 ⟨E, A4, c4, wo, rfl, bo, hg4⟩
          simp only [Act.put, List.setIfInBounds_toArray, List.set_cons_zero, List.set_cons_succ]
          have HG4 := Lib.hid hg4
          have bo2 : Below wr.heap.size wr wo := b3.trans (bo.mono b3.size)
          have bw := hb.trans (bo2.mono hb.size)
          clear hg4
          go_wp2
          go_roundw
          case rel =>
            obtain ⟨F4, hF4, ht4⟩ := HG4.out.1
            refine ⟨k + 1, F4, by omega, by go_num, Lib.hid (by rw [HS.out, doT_0]; exact ht4), Lib.hid (fun b' q => (hF4.foot b' q).elim (HF.out b') (fun q2 => by have := hb.size; have := bo2.size; omega)), ?_⟩
            exact bw.trans (HG4.out.2.below HF.out bw.size)
          case measure => simp [intOf]; omega
      · by_cases h1 : ki = 1
        · subst h1
          go_wp2_with (first
          | (with_reducible refine wpList_indexK (by with_unfolding_all rfl) (.tmp 13) (.tmp 14) rfl b off n c k _ _ rfl rfl rfl hlt rfl ?_)
          | (with_reducible refine wpList_loadK rfl (.tmp 15) rfl b (off + 5 * k) 1 fi ni T m c1 I p d rfl HR.out ?_)
          | (with_reducible refine wpList_allocK rfl rfl ?_; intro gc w2 hgc hrc hbc; have HRc := Lib.hid hrc; clear hrc)
          | (with_reducible refine wpList_store_row Try.agg32 rfl (.tmp 5) (.tmp 16) rfl _ (clC 1 fi ni T m c1 I p d) rfl rfl 32 cl0 HRc.out (clC_size _ _ _ _ _ _ _ _ _) cl0_size (clC_one _ _ _ _ _ _ _ _ _) ?_; intro w3 hr3 ho3; obtain ⟨q0, q1, q2, q3, q4⟩ := cl_cells hr3; have b3 : Below wr.heap.size wr w3 := hbc.trans (ho3.below hgc hbc.size); have HR3 := Lib.hid hr3; have HT3 := Lib.hid (HT.out.below b3); clear hr3)
          | (go_at_call 27; refine (Cut_any g (501 * k) fi ni F w3 HT3.out HOK.out (by omega)).mono ?_; rintro e4 w4 ⟨rfl, hg4⟩; have HG4 := Lib.hid hg4; clear hg4))
          have bw := hb.trans (b3.mono hb.size)
          go_roundw
          case rel =>
            obtain ⟨F4, hF4, ht4⟩ := HG4.out.1
            refine ⟨k + 1, F4, by omega, by go_num, Lib.hid (by rw [HS.out, doT_1]; exact ht4), Lib.hid (fun b' q => (hF4.foot b' q).elim (HF.out b') (fun q2 => by have := hb.size; have := b3.size; omega)), ?_⟩
            exact bw.trans (HG4.out.2.below HF.out bw.size)
          case measure => simp [intOf]; omega
        · by_cases h2 : ki = 2
          · subst h2
            go_wp2_with (first
            | (with_reducible refine wpList_indexK (by with_unfolding_all rfl) (.tmp 13) (.tmp 14) rfl b off n c k _ _ rfl rfl rfl hlt rfl ?_)
            | (with_reducible refine wpList_loadK rfl (.tmp 15) rfl b (off + 5 * k) 2 fi ni T m c1 I p d rfl HR.out ?_)
            | (with_reducible refine wpList_allocK rfl rfl ?_; intro gc w2 hgc hrc hbc; have HRc := Lib.hid hrc; clear hrc)
            | (with_reducible refine wpList_store_row Try.agg32 rfl (.tmp 5) (.tmp 16) rfl _ (clC 2 fi ni T m c1 I p d) rfl rfl 32 cl0 HRc.out (clC_size _ _ _ _ _ _ _ _ _) cl0_size (clC_one _ _ _ _ _ _ _ _ _) ?_; intro w3 hr3 ho3; obtain ⟨q0, q1, q2, q3, q4⟩ := cl_cells hr3; have b3 : Below wr.heap.size wr w3 := hbc.trans (ho3.below hgc hbc.size); have HR3 := Lib.hid hr3; have HT3 := Lib.hid (HT.out.below b3); clear hr3)
            | (go_at_call 21; refine (Sync_any g (501 * k) fi F w3 HT3.out HOK.out (by omega)).mono ?_; rintro e4 w4 ⟨rfl, hg4⟩; have HG4 := Lib.hid hg4; clear hg4))
            have bw := hb.trans (b3.mono hb.size)
            go_roundw
            case rel =>
              obtain ⟨F4, hF4, ht4⟩ := HG4.out.1
              refine ⟨k + 1, F4, by omega, by go_num, Lib.hid (by rw [HS.out, doT_2]; exact ht4), Lib.hid (fun b' q => (hF4.foot b' q).elim (HF.out b') (fun q2 => by have := hb.size; have := b3.size; omega)), ?_⟩
              exact bw.trans (HG4.out.2.below HF.out bw.size)
            case measure => simp [intOf]; omega
          · have z0 : (ki == 0) = false := by simp [h0]
            have z1 : (ki == 1) = false := by simp [h1]
            have z2 : (ki == 2) = false := by simp [h2]
            have HN0 := Lib.hid (And.intro h0 (And.intro h1 h2))
            clear h0 h1 h2
            go_wp2_with (first
            | (with_reducible refine wpList_indexK (by with_unfolding_all rfl) (.tmp 13) (.tmp 14) rfl b off n c k _ _ rfl rfl rfl hlt rfl ?_)
            | (with_reducible refine wpList_loadK rfl (.tmp 15) rfl b (off + 5 * k) ki fi ni T m c1 I p d rfl HR.out ?_)
            | (with_reducible refine wpList_allocK rfl rfl ?_; intro gc w2 hgc hrc hbc; have HRc := Lib.hid hrc; clear hrc)
            | (with_reducible refine wpList_store_row Try.agg32 rfl (.tmp 5) (.tmp 16) rfl _ (clC ki fi ni T m c1 I p d) rfl rfl 32 cl0 HRc.out (clC_size _ _ _ _ _ _ _ _ _) cl0_size (clC_one _ _ _ _ _ _ _ _ _) ?_; intro w3 hr3 ho3; obtain ⟨q0, q1, q2, q3, q4⟩ := cl_cells hr3; have b3 : Below wr.heap.size wr w3 := hbc.trans (ho3.below hgc hbc.size); have HR3 := Lib.hid hr3; have HT3 := Lib.hid (HT.out.below b3); clear hr3))
            go_roundw
            case rel =>
              refine ⟨k + 1, F, by omega, by go_num, Lib.hid (by rw [HS.out, doT_x _ _ _ _ _ _ HN0.out.1 HN0.out.2.1 HN0.out.2.2]; exact HT3.out), HF, hb.trans (b3.mono hb.size)⟩
            case measure => simp [intOf]; omega
    · obtain rfl : k = n := by omega
      have HE := Lib.hid (show L.take k = L from List.take_of_length_le (by rw [HLl.out]; exact Nat.le_refl _))
      rw [HE.out] at HT
      go_wp2
      go_ret
      exact ⟨g, F, rfl, HT.out, HF.out, hb⟩
end Go.Proofs.Ytpnllbadalcnaaa
