/-
  What the methods fill, Byte and Digest of wire's reader answer, of whatever bytes and behind whatever error.
-/
import Derived.Test.YtjifahocfbbicaaRdm
import Derived.Deep.RegionHeld3
import Derived.Deep.RegionLaw
namespace Go.Proofs.Ytjifahocfbbicaa
open Go.RowKit
/-- but for the blocks g and G the world is as it was -/
structure Only2 (g G : Nat) (w w' : World) : Prop where
  os : w'.os = w.os
  tape : w'.tape = w.tape
  output : w'.output = w.output
  size : w.heap.size ≤ w'.heap.size
  block : ∀ k, k < w.heap.size → k ≠ g → k ≠ G → w'.heap[k]? = w.heap[k]?
theorem Only2.refl (g G : Nat) (w : World) : Only2 g G w w := ⟨rfl, rfl, rfl, Nat.le_refl _, fun _ _ _ _ => rfl⟩
theorem Only.two {g G : Nat} {w w' : World} (h : Only g w w') : Only2 g G w w' := ⟨h.os, h.tape, h.output, h.size, fun k hk hg _ => h.block k hk hg⟩
theorem Only.two' {g G : Nat} {w w' : World} (h : Only G w w') : Only2 g G w w' := ⟨h.os, h.tape, h.output, h.size, fun k hk _ hG => h.block k hk hG⟩
theorem Only2.trans {g G : Nat} {a b c : World} (h : Only2 g G a b) (k : Only2 g G b c) : Only2 g G a c :=
  ⟨k.os.trans h.os, k.tape.trans h.tape, k.output.trans h.output, Nat.le_trans h.size k.size, fun i hi hg hG => (k.block i (Nat.lt_of_lt_of_le hi h.size) hg hG).trans (h.block i hi hg hG)⟩
/-- where G is new -/
theorem Only2.one {g G : Nat} {a b c : World} (h : Below a.heap.size a b) (k : Only2 g G b c) (hG : a.heap.size ≤ G) : Only g a c :=
  ⟨k.os.trans h.os, k.tape.trans h.tape, k.output.trans h.output, Nat.le_trans h.size k.size, fun i hi hg => (k.block i (Nat.lt_of_lt_of_le hi h.size) hg (by omega)).trans (h.block i hi)⟩
/-- m bytes, or none -/
def sFill (E : Int) (l : List UInt8) (m : Nat) : Int × List UInt8 × Nat :=
  if E = 0 then (if l.length < m then (40, List.replicate m 0, 0) else (0, l.take m, m)) else (E, List.replicate m 0, 0)
theorem sFill_length (E : Int) (l : List UInt8) (m : Nat) : (sFill E l m).2.1.length = m := by
  unfold sFill
  split
  · split
    · simp
    · rw [List.length_take]; omega
  · simp
theorem spl_all (cur : Array Value) (l : List UInt8) (h : l.length = cur.size) : spl cur 0 l = bcells l := by
  apply Array.ext_getElem?
  intro j
  rw [spl_get _ _ _ (by omega), bcells_get?]
  by_cases hj : j < l.length
  · rw [if_pos (by omega), Nat.sub_zero]
  · rw [if_neg (by omega), Array.getElem?_eq_none (by omega), List.getElem?_eq_none (by omega)]; rfl
set_option maxHeartbeats 2000000 in
theorem fill_any (g b : Nat) (E : Int) (l : List UInt8) (w : World) (h : Rdr w 61 g b E l) (G m : Nat) (t : TypeId) (hG : Row w G t (bcells (List.replicate m 0))) (hGg : G ≠ g) (hGb : G ≠ b) :
    Calls Try.prog 46 #[.pointer (some ⟨g, 0, none⟩), .slice (some ⟨G, 0, none⟩) m m] w fun e w' => e = .returned (.tuple #[]) ∧ Row w' G t (bcells (sFill E l m).2.1) ∧ Rdr w' 61 g b (sFill E l m).1 (l.drop (sFill E l m).2.2) ∧ Only2 g G w w' := by
  have H := Lib.hid h
  obtain ⟨A, n, c, hr, hB, hnc, hI, hbg⟩ := h
  have HR := Lib.hid hr
  have HB := Lib.hid hB
  have HI := Lib.hid hI
  have HG := Lib.hid hG
  have hn := hB.1
  clear hG
  by_cases hE : E = 0
  · subst hE
    have c0 : w.cell? ⟨g, 0, none⟩ = some (.slice A n c) := hr.cell 0
    have f0 := hr.frozen 0
    by_cases hlt : n < m
    · have HQ := Lib.hid (show sFill 0 l m = (40, List.replicate m 0, 0) by unfold sFill; rw [if_pos rfl, if_pos (by omega)])
      generalize sFill 0 l m = q at *
      clear hr hB hI hn
      go_enter Try.func46, Try.ntmps46
      go_wp2_with (first
        | (go_at_call 35; refine (Err_any g _ 0 _ HR.out).mono ?_; rintro e w1 ⟨rfl, rfl⟩)
        | (go_at_call 42; refine (fail_any g _ _ 40 _ HR.out).mono ?_; rintro e w2 ⟨rfl, h3, h4⟩))
      refine bodyPost_ret (v := .tuple #[]) (by simp [results, Try.results46]) rfl ?_
      rw [HQ.out]
      exact ⟨rfl, HG.out.only h4 hGg, ⟨A, n, c, h3, HB.out.only (HI.out.apart hbg) h4, hnc, HI.out, hbg⟩, h4.two⟩
    · have HQ := Lib.hid (show sFill 0 l m = (0, l.take m, m) by unfold sFill; rw [if_pos rfl, if_neg (by omega)])
      obtain ⟨A1, hsl, hA1, hI1⟩ := cut_from Try.byteTypes A n c m (by omega) hnc
      have HSP := Lib.hid (spl_all (bcells (List.replicate m 0)) (l.take m) (by rw [bcells_size, List.length_replicate, List.length_take]; omega))
      have HSZ := Lib.hid (show (bcells (List.replicate m 0)).size = m by rw [bcells_size, List.length_replicate])
      have HMN := Lib.hid (show Nat.min n m = m from Nat.min_eq_right (by omega))
      generalize sFill 0 l m = q at *
      generalize bcells (List.replicate m 0) = zs at *
      have H1 := Lib.hid hA1
      have H2 := Lib.hid hI1
      clear hr hB hI hn hA1 hI1
      go_enter Try.func46, Try.ntmps46
      go_wp2_with (go_at_call 35; refine (Err_any g _ 0 _ HR.out).mono ?_; rintro e w1 ⟨rfl, rfl⟩)
      go_region_law ((refine step_copyK Try.byteTypes (by rfl) (.tmp 22) (.tmp 26) (by rfl) G 0 m m A n c (by rfl) (by rfl) l t zs HG.out HB.out m HMN.out (by rw [HSZ.out]; omega) ?_; intro w2 hr2 ho2'; have ho2 : Only G w w2 := ⟨ho2'.os, ho2'.tape, ho2'.output, ho2'.size, ho2'.block⟩; have k2 := HR.out.only ho2 hGg.symm; have c2 : w2.cell? ⟨g, 0, none⟩ = some (.slice A n c) := k2.cell 0; have f2 := k2.frozen 0; have HR2 := Lib.hid hr2; have HO2 := Lib.hid ho2; have HK2 := Lib.hid k2; clear hr2 ho2 ho2' k2))
      all_goals
        refine bodyPost_end (v := .tuple #[]) (by simp [results, Try.results46]) rfl ?_
        rw [HQ.out]
        have ho1 := Only.setCell g 0 w2 (.slice A1 (n - m) (c - m))
        exact ⟨rfl, by rw [← HSP.out]; exact HR2.out.only ho1 hGg, ⟨A1, n - m, c - m, row2_set0 HK2.out _, (((H1.out _ _ HB.out).only ((H2.out b HI.out).apart hGb.symm) HO2.out)).only ((H2.out b HI.out).apart hbg) ho1, by omega, H2.out b HI.out, hbg⟩, HO2.out.two'.trans ho1.two⟩
  · have HQ := Lib.hid (show sFill E l m = (E, List.replicate m 0, 0) by unfold sFill; rw [if_neg hE])
    have hE2 := bne0 hE
    generalize sFill E l m = q at *
    clear hr hB hI
    go_enter Try.func46, Try.ntmps46
    go_wp2_with (go_at_call 35; refine (Err_any g _ E _ HR.out).mono ?_; rintro e w1 ⟨rfl, rfl⟩)
    refine bodyPost_ret (v := .tuple #[]) (by simp [results, Try.results46]) rfl ?_
    rw [HQ.out]
    exact ⟨rfl, HG.out, H.out, Only2.refl _ _ _⟩
theorem Try.under69 : Try.prog.underlying 69 = some (.array 1 5) := by kernel_rfl
theorem Try.under45 : Try.prog.underlying 45 = some (.array 32 5) := by kernel_rfl
theorem Try.size5 : (Try.prog.info? 5).map (·.size) = some 1 := by kernel_rfl
theorem Try.agg45 : AggType Try.prog 45 32 := ⟨_, Try.under45, rfl, by kernel_rfl⟩
theorem Rdr.any {w : World} {t : TypeId} {g b : Nat} {E : Int} {l : List UInt8} (h : Rdr w t g b E l) (hl : l = []) (b' : Nat) (hb : b' ≠ g) : Rdr w t g b' E l := by
  obtain ⟨A, n, c, h1, h2, h3, _, _⟩ := h
  exact ⟨A, n, c, h1, h2, h3, .inl (by rw [← h2.1, hl]; rfl), hb⟩
theorem Rdr.ne {w : World} {t : TypeId} {g b : Nat} {E : Int} {l : List UInt8} (h : Rdr w t g b E l) : b ≠ g := by
  obtain ⟨A, n, c, _, _, _, _, h5⟩ := h; exact h5
theorem Rdr.blt {w : World} {t : TypeId} {g b : Nat} {E : Int} {l : List UInt8} (h : Rdr w t g b E l) (hl : l ≠ []) : b < w.heap.size := by
  obtain ⟨A, n, c, h1, h2, h3, h4, _⟩ := h
  have hn : 0 < n := by
    rcases Nat.eq_zero_or_pos n with h0 | h0
    · exact absurd (h2.empty h0) hl
    · exact h0
  obtain ⟨b', off, x, hA, hb, _⟩ := h2.get hn
  rcases h4 with h0 | ⟨off', hA'⟩
  · omega
  · rw [hA] at hA'
    injection hA' with q
    injection q with q _
    omega
theorem Rdr.fresh {w : World} {t : TypeId} {g b : Nat} {E : Int} {l : List UInt8} (h : Rdr w t g b E l) :
    ∃ b', b' ≠ w.heap.size ∧ b' ≠ w.heap.size + 1 ∧ Rdr w t g b' E l ∧ ∀ w' E' s, Rdr w' t g b' E' (l.drop s) → Rdr w' t g b E' (l.drop s) := by
  by_cases hl : l = []
  · have := h.lt
    exact ⟨w.heap.size + 2, by omega, by omega, h.any hl _ (by omega), fun w' E' s h' => h'.any (by rw [hl]; simp) _ h.ne⟩
  · have := h.blt hl
    exact ⟨b, by omega, by omega, h, fun _ _ _ h' => h'⟩
set_option maxHeartbeats 1000000 in
theorem Byte_any (g b : Nat) (E : Int) (l : List UInt8) (w : World) (h : Rdr w 61 g b E l) :
    Calls Try.prog 29 #[.pointer (some ⟨g, 0, none⟩)] w fun e w' => e = .returned (.int .u8 (((sFill E l 1).2.1.getD 0 0).toNat : Int)) ∧ Rdr w' 61 g b (sFill E l 1).1 (l.drop (sFill E l 1).2.2) ∧ Only g w w' := by
  obtain ⟨b', hb1, _, h', hback⟩ := h.fresh
  have hgw := h.lt
  have hb0 : Below w.heap.size w (w.alloc (.cells (bcells (List.replicate 1 0)) 69)) := (Below.refl _ _).alloc (Nat.le_refl _) _
  have HF := Lib.hid (fill_any g b' E l _ (h'.below hb0) w.heap.size 1 69 (Row.new w 69 _) (by omega) hb1.symm)
  have HL := Lib.hid (sFill_length E l 1)
  have HK := Lib.hid hback
  have hcut := fun W => run_cut_all (P := Try.prog) Try.under69 Try.size5 w.heap.size 0 W
  have H0 := Lib.hid hb0
  generalize sFill E l 1 = q at *
  clear h h' hback hb0
  go_enter Try.func29, Try.ntmps29
  go_wp2_with (go_at_call 46; refine HF.out.mono ?_; rintro e w2 ⟨rfl, h1, h2, h3⟩; have k0 := (h1.cell 0).trans (bcells_get q.2.1 0 (by rw [HL.out]; omega)))
  go_ret
  exact ⟨rfl, HK.out _ _ _ h2, h3.one H0.out (Nat.le_refl _)⟩
abbrev lit32 : Array Value := #[.int .u8 0, .int .u8 0, .int .u8 0, .int .u8 0, .int .u8 0, .int .u8 0, .int .u8 0, .int .u8 0, .int .u8 0, .int .u8 0, .int .u8 0, .int .u8 0, .int .u8 0, .int .u8 0, .int .u8 0, .int .u8 0, .int .u8 0, .int .u8 0, .int .u8 0, .int .u8 0, .int .u8 0, .int .u8 0, .int .u8 0, .int .u8 0, .int .u8 0, .int .u8 0, .int .u8 0, .int .u8 0, .int .u8 0, .int .u8 0, .int .u8 0, .int .u8 0]
theorem lit32_size : lit32.size = 32 := rfl
theorem lit32_cells : lit32 = bcells (List.replicate 32 0) := rfl
set_option maxRecDepth 100000 in
set_option maxHeartbeats 1000000 in
theorem Digest_any (g b : Nat) (E : Int) (l : List UInt8) (w : World) (h : Rdr w 61 g b E l) :
    Calls Try.prog 31 #[.pointer (some ⟨g, 0, none⟩)] w fun e w' => e = .returned (.agg (bcells (sFill E l 32).2.1)) ∧ Rdr w' 61 g b (sFill E l 32).1 (l.drop (sFill E l 32).2.2) ∧ Only g w w' := by
  obtain ⟨b', hb1, hb2, h', hback⟩ := h.fresh
  have hgw := h.lt
  have hb0 : Below w.heap.size w ((w.alloc (.cells lit32 45)).alloc (.cells lit32 45)) := ((Below.refl _ _).alloc (Nat.le_refl _) _).alloc (by simp) _
  have HF := Lib.hid (fill_any g b' E l _ (h'.below hb0) (w.heap.size + 1) 32 45 (Row.new1 w _ 45 lit32) (by omega) hb2.symm)
  have HR0 := Lib.hid ((Row.new w 45 lit32).alloc (.cells lit32 45))
  have HL := Lib.hid (show (bcells (sFill E l 32).2.1).size = 32 by rw [bcells_size, sFill_length])
  have HK := Lib.hid hback
  have hcut := fun W => run_cut_all (P := Try.prog) Try.under45 Try.size5 (w.heap.size + 1) 0 W
  have H0 := Lib.hid hb0
  generalize sFill E l 32 = q at *
  clear h h' hback hb0
  go_enter Try.func31, Try.ntmps31
  go_wp2_with (first
    | (go_at_call 46; refine HF.out.mono ?_; rintro e w2 ⟨rfl, h1, h2, h3⟩; have H1 := Lib.hid h1; have H2 := Lib.hid h2; have H3 := Lib.hid h3; have HR2 : Hid (Row w2 w.heap.size 45 lit32) := Lib.hid ((h3.block w.heap.size HR0.out.lt (by omega) (by omega)).trans HR0.out); clear h1 h2 h3)
    | (with_reducible refine wpList_load_row Try.agg45 rfl (.tmp 3) rfl (w.heap.size + 1) rfl 45 (bcells q.2.1) H1.out HL.out ?_)
    | ((with_reducible refine wpList_store_row Try.agg45 rfl (.tmp 2) (.tmp 7) rfl w.heap.size (bcells q.2.1) rfl rfl 45 lit32 HR2.out HL.out lit32_size (bcells_one _) ?_); intro w9 hr9 ho9))
  refine bodyPost_ret (v := .agg (bcells q.2.1)) (results_row1 Try.agg45 Try.results31 rfl hr9 HL.out) rfl ⟨rfl, ?_, ?_⟩
  · exact HK.out _ _ _ (H2.out.only ho9 (by omega) hb1)
  · have ho := H3.out.one H0.out (by omega)
    exact ho.then_below (ho9.below (Nat.le_refl _) ho.size)
set_option maxHeartbeats 400000 in
theorem Num_nil (m : Int) (w : World) : Calls Try.prog 22 #[.pointer none, .int .u64 m] w fun e w' => e = .returned (.int .u64 0) ∧ w = w' := by
  go_enter Try.func22, Try.ntmps22
  go_wp2_with (go_at_call 35; refine (Err_nil _).mono ?_; rintro e w1 ⟨rfl, rfl⟩)
  go_ret
  exact ⟨rfl, rfl⟩
set_option maxHeartbeats 400000 in
theorem Text_nil (m : Int) (w : World) : Calls Try.prog 24 #[.pointer none, .int .i64 m] w fun e w' => e = .returned (.slice none 0 0) ∧ w = w' := by
  go_enter Try.func24, Try.ntmps24
  go_wp2_with (go_at_call 35; refine (Err_nil _).mono ?_; rintro e w1 ⟨rfl, rfl⟩)
  go_ret
  exact ⟨rfl, rfl⟩
set_option maxHeartbeats 400000 in
theorem List_nil (m k : Int) (w : World) : Calls Try.prog 27 #[.pointer none, .int .i64 m, .int .i64 k] w fun e w' => e = .returned (.slice none 0 0) ∧ w = w' := by
  go_enter Try.func27, Try.ntmps27
  go_wp2_with (go_at_call 35; refine (Err_nil _).mono ?_; rintro e w1 ⟨rfl, rfl⟩)
  go_ret
  exact ⟨rfl, rfl⟩
set_option maxHeartbeats 400000 in
theorem fill_nil (v : Value) (w : World) : Calls Try.prog 46 #[.pointer none, v] w fun e w' => e = .returned (.tuple #[]) ∧ w = w' := by
  go_enter Try.func46, Try.ntmps46
  go_wp2_with (go_at_call 35; refine (Err_nil _).mono ?_; rintro e w1 ⟨rfl, rfl⟩)
  exact bodyPost_ret (v := .tuple #[]) (by simp [results, Try.results46]) rfl ⟨rfl, rfl⟩
set_option maxHeartbeats 400000 in
theorem End_nil (w : World) : Calls Try.prog 33 #[.pointer none] w fun e w' => e = .returned (.int .i64 2) ∧ w = w' := by
  go_enter Try.func33, Try.ntmps33
  go_wp2_with (go_at_call 35; refine (Err_nil _).mono ?_; rintro e w1 ⟨rfl, rfl⟩)
  go_ret
  exact ⟨rfl, rfl⟩
set_option maxHeartbeats 400000 in
theorem Byte_nil (w : World) : Calls Try.prog 29 #[.pointer none] w fun e w' => e = .returned (.int .u8 0) ∧ Below w.heap.size w w' := by
  have hcut := fun W => run_cut_all (P := Try.prog) Try.under69 Try.size5 w.heap.size 0 W
  have k0 : (w.alloc (.cells #[.int .u8 0] 69)).cell? ⟨w.heap.size, 0, none⟩ = some (.int .u8 0) := (Row.new w 69 #[.int .u8 0]).cell 0
  go_enter Try.func29, Try.ntmps29
  go_wp2_with (go_at_call 46; refine (fill_nil _ _).mono ?_; rintro e w1 ⟨rfl, rfl⟩)
  go_ret
  exact ⟨rfl, (Below.refl _ _).alloc (Nat.le_refl _) _⟩
set_option maxRecDepth 100000 in
set_option maxHeartbeats 1000000 in
theorem Digest_nil (w : World) : Calls Try.prog 31 #[.pointer none] w fun e w' => e = .returned (.agg lit32) ∧ Below w.heap.size w w' := by
  have hcut := fun W => run_cut_all (P := Try.prog) Try.under45 Try.size5 (w.heap.size + 1) 0 W
  have hb0 : Below w.heap.size w ((w.alloc (.cells lit32 45)).alloc (.cells lit32 45)) := ((Below.refl _ _).alloc (Nat.le_refl _) _).alloc (by simp) _
  obtain ⟨Z, hZ⟩ : ∃ Z : Array Value, Z = lit32 := ⟨_, rfl⟩
  have HF : Hid (Calls Try.prog 46 #[.pointer none, .slice (some ⟨w.heap.size + 1, 0, none⟩) 32 32] ((w.alloc (.cells lit32 45)).alloc (.cells lit32 45)) fun e w' => e = .returned (.tuple #[]) ∧ Row w' w.heap.size 45 Z ∧ Row w' (w.heap.size + 1) 45 Z ∧ Below w.heap.size w w') :=
    Lib.hid ((fill_nil _ _).mono fun e w' ⟨he, hw⟩ => by
      subst hw hZ
      exact ⟨he, (Row.new w 45 lit32).alloc (.cells lit32 45), Row.new1 w (.cells lit32 45) 45 lit32, hb0⟩)
  have HZ := Lib.hid (show Z.size = 32 by rw [hZ]; exact lit32_size)
  have HO := Lib.hid (show Z.all (·.oneCell') = true by rw [hZ, lit32_cells]; exact bcells_one _)
  have HE := Lib.hid hZ
  clear hb0 hZ
  go_enter Try.func31, Try.ntmps31
  go_wp2_with (first
    | (go_at_call 46; refine HF.out.mono ?_; rintro e w1 ⟨rfl, h0, h1, h2⟩; have H0 := Lib.hid h0; have H1 := Lib.hid h1; have H2 := Lib.hid h2; clear h0 h1 h2)
    | (with_reducible refine wpList_load_row Try.agg45 rfl (.tmp 3) rfl (w.heap.size + 1) rfl 45 Z H1.out HZ.out ?_)
    | ((with_reducible refine wpList_store_row Try.agg45 rfl (.tmp 2) (.tmp 7) rfl w.heap.size Z rfl rfl 45 Z H0.out HZ.out HZ.out HO.out ?_); intro w9 hr9 ho9))
  refine bodyPost_ret (v := .agg Z) (results_row1 Try.agg45 Try.results31 rfl hr9 HZ.out) rfl ⟨by rw [HE.out], ?_⟩
  exact H2.out.trans (ho9.below (Nat.le_refl _) H2.out.size)
end Go.Proofs.Ytjifahocfbbicaa
