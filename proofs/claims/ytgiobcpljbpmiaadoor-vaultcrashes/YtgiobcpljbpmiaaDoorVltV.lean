/-
  A vault's Save and Open, as calls of its tape: behind each, and behind a crash of each at any step.
-/
import Derived.Test.YtgiobcpljbpmiaaDoorVltU
namespace Go.Proofs.YtgiobcpljbpmiaaDoor
theorem slotNo_lt (g : Nat) : slotNo g < 4 ∧ slotNo g ≠ 0 := by rcases slotNo_or g with ⟨e, _⟩ | ⟨e, _⟩ <;> omega
theorem mod_of_slot (g : Nat) : (g % 2 = 1 ∧ slotNo g = 1) ∨ (g % 2 = 0 ∧ slotNo g = 2) := by rcases slotNo_or g with ⟨e, q⟩ | ⟨e, q⟩ <;> omega
theorem play_cut0 (s l : List UInt8) (m : Nat) : play s ((Stp.cut 0 :: l.map Stp.app).take m) = if m = 0 then s else l.take (m - 1) := by
  cases m with
  | zero => rfl
  | succ m =>
    rw [List.take_succ_cons, if_neg (by omega), ← List.map_take]
    have h := play_apps (l.take m) (s.take 0)
    simp only [play, List.foldl_cons, pstep] at h ⊢
    rw [h]; simp
/-- the snapshot is put into its slot, and is sure: or the power goes -/
def Tp.slotV (S : Tp) (g : Nat) (t : List UInt8) : Tp × Int := andThen (andThen (S.cutT (slotNo (g + 1) : Int) 0) fun X => X.append (slotNo (g + 1) : Int) (vFr (g + 1, t))) fun X => X.syncT (slotNo (g + 1) : Int)
theorem vFr_le {a : Nat × List UInt8} (h : okV a) : (vFr a).length ≤ 262200 := by
  have h2 := h.2
  have := wide8 (N := (vRec a.1 a.2).length) (by omega)
  unfold vFr; rw [frB_length]; omega
theorem slotV_cases {S : Tp} {V : Vs} {n : Nat} {t : List UInt8} (hS : S.Sure) (hd : S.down = false) (hH : Has S.cont V n) (ht : okV (V.gen + 1, t)) :
    ((S.slotV V.gen t).2 = 0 ∧ (S.slotV V.gen t).1.Sure ∧ (S.slotV V.gen t).1.down = false ∧ (S.slotV V.gen t).1.cont = put S.cont (slotNo (V.gen + 1)) (vFr (V.gen + 1, t))) ∨
    ((S.slotV V.gen t).2 = 100 ∧ (S.slotV V.gen t).1.down = true ∧ After2 (S.slotV V.gen t).1 V (V.save t)) := by
  have hlen := vFr_le ht
  obtain ⟨i, hi⟩ : ∃ i, slotNo (V.gen + 1) = i := ⟨_, rfl⟩
  obtain ⟨hi4, hi0⟩ := slotNo_lt (V.gen + 1)
  unfold Tp.slotV
  rw [hi] at hi4 hi0 ⊢
  -- whatever a crash leaves of the cut and of the frame's first k bytes
  have hcr : ∀ (X : Tp) (k : Nat), k ≤ (vFr (V.gen + 1, t)).length → X.f = upd S.f i ⟨(S.f i).sure, Stp.cut 0 :: ((vFr (V.gen + 1, t)).take k).map Stp.app⟩ → After2 X V (V.save t) := fun X k hk hX kept => by
    obtain ⟨m, m1, m2⟩ := cont_crash hS i _ hX kept
    simp only at m2
    rw [play_cut0, ← hS.now i, List.take_take] at m2
    rw [m2]
    split
    · rw [put_eta]; exact ⟨n, .inl hH⟩
    · by_cases hq : min (m - 1) k < (vFr (V.gen + 1, t)).length
      · refine ⟨n, .inl ?_⟩
        have h := hH.slotNone ((vFr (V.gen + 1, t)).take (min (m - 1) k)) (by
          rcases Nat.mod_two_eq_zero_or_one (V.gen + 1) with e | e
          · rw [e]; exact slotP_cut (V.gen + 1) t 0 _ ht hq
          · rw [e]; exact slotP_cut (V.gen + 1) t 1 _ ht hq)
        rw [hi] at h
        exact h
      · refine ⟨n, .inr ?_⟩
        rw [List.take_of_length_le (by omega)]
        have h := hH.slotNext t ht
        rw [hi] at h
        exact h
  rcases cut_cases (S := S) (i : Int) 0 i 0 rfl rfl hi4 (Nat.zero_le _) hd with ⟨a1, a2, a3⟩ | ⟨a1, a2, a3⟩
  · rw [andThen_ok a1]
    obtain ⟨X, hX⟩ : ∃ X, (S.cutT (i : Int) 0).1 = X := ⟨_, rfl⟩
    rw [hX] at a2 a3 ⊢
    rw [hS i, List.nil_append] at a2
    have hc0 : X.cont i = [] := by
      unfold Tp.cont
      rw [a2, upd_same]
      rfl
    rcases append_cases (S := X) (i : Int) i (vFr (V.gen + 1, t)) rfl hi4 a3 with ⟨b1, b2, b3⟩ | ⟨b1, b2⟩
    · rw [hc0] at b3; simp at b3; omega
    · rw [b2]
      obtain ⟨k, k1, k2, k3⟩ := run_cases i (vFr (V.gen + 1, t)) X a3
      have k2' : (X.run i (vFr (V.gen + 1, t))).1.f = upd S.f i ⟨(S.f i).sure, Stp.cut 0 :: ((vFr (V.gen + 1, t)).take k).map Stp.app⟩ := by
        rw [k2, a2, upd_same, upd_upd]; rfl
      rcases k3 with ⟨q1, q2, q3⟩ | ⟨q1, q2, q3⟩
      · rw [andThen_ok q1]
        rcases sync_cases (S := (X.run i (vFr (V.gen + 1, t))).1) (i : Int) i rfl hi4 q3 with ⟨r1, r2, r3⟩ | ⟨r1, r2, r3⟩
        · refine .inl ⟨r1, ?_, r3, ?_⟩
          · intro j
            rw [r2, k2']
            unfold upd
            split
            · rfl
            · exact hS j
          · have hnow : ((X.run i (vFr (V.gen + 1, t))).1.f i).now = vFr (V.gen + 1, t) := by
              rw [k2', upd_same, q2, List.take_length]
              unfold Fl.now
              have := play_cut0 (S.f i).sure (vFr (V.gen + 1, t)) ((vFr (V.gen + 1, t)).length + 1)
              rw [List.take_of_length_le (by simp), if_neg (by omega), Nat.add_sub_cancel, List.take_length] at this
              exact this
            rw [hnow, k2', upd_upd] at r2
            exact cont_upd i _ r2
        · exact .inr ⟨r1, r3, hcr _ k k1 (r2.trans k2')⟩
      · rw [andThen_no (by rw [q1]; omega)]
        exact .inr ⟨q1, q3, hcr _ k k1 k2'⟩
  · have e1 : andThen (S.cutT (i : Int) 0) (fun X => X.append (i : Int) (vFr (V.gen + 1, t))) = S.cutT (i : Int) 0 := andThen_no (by rw [a1]; omega)
    rw [e1, andThen_no (by rw [a1]; omega)]
    refine .inr ⟨a1, a3, fun kept => ⟨n, .inl ?_⟩⟩
    obtain ⟨m, m1, m2⟩ := cont_crash (S := S) (X := (S.cutT (i : Int) 0).1) hS i (S.f i) (by rw [a2, upd_eta]) kept
    rw [hS i, List.take_nil, play_nil, ← hS.now i, put_eta] at m2
    rw [m2]
    exact hH
/-- the journal is cut, and is sure: or the power goes -/
def Tp.cutV (S : Tp) (n : Nat) : Tp × Int := andThen (S.cutT 0 (n : Int)) fun X => X.syncT 0
theorem cutV_cases {S : Tp} (n : Nat) (hn : n ≤ (S.cont 0).length) (hS : S.Sure) (hd : S.down = false) :
    ((S.cutV n).2 = 0 ∧ (S.cutV n).1.Sure ∧ (S.cutV n).1.down = false ∧ (S.cutV n).1.cont = put S.cont 0 ((S.cont 0).take n)) ∨
    ((S.cutV n).2 = 100 ∧ (S.cutV n).1.down = true ∧ ∀ kept, ((S.cutV n).1.crash kept).cont = S.cont ∨ ((S.cutV n).1.crash kept).cont = put S.cont 0 ((S.cont 0).take n)) := by
  unfold Tp.cutV
  rcases cut_cases (S := S) 0 (n : Int) 0 n rfl rfl (by omega) hn hd with ⟨a1, a2, a3⟩ | ⟨a1, a2, a3⟩
  · rw [andThen_ok a1]
    rw [hS 0, List.nil_append] at a2
    rcases sync_cases (S := (S.cutT 0 (n : Int)).1) 0 0 rfl (by omega) a3 with ⟨r1, r2, r3⟩ | ⟨r1, r2, r3⟩
    · refine .inl ⟨r1, ?_, r3, ?_⟩
      · intro j
        rw [r2, a2]
        unfold upd
        split
        · rfl
        · exact hS j
      · have hnow : ((S.cutT 0 (n : Int)).1.f 0).now = (S.cont 0).take n := by
          rw [a2, upd_same, hS.now 0]
          rfl
        rw [hnow, a2, upd_upd] at r2
        exact cont_upd 0 _ r2
    · refine .inr ⟨r1, r3, fun kept => ?_⟩
      obtain ⟨m, m1, m2⟩ := cont_crash hS 0 _ (r2.trans a2) kept
      simp only [List.length_singleton] at m1
      rcases Nat.eq_zero_or_pos m with h | h
      · subst h
        simp only [List.take_zero, play_nil] at m2
        rw [← hS.now 0, put_eta] at m2
        exact .inl m2
      · obtain rfl : m = 1 := by omega
        refine .inr ?_
        rw [m2, hS.now 0]
        rfl
  · rw [andThen_no (by rw [a1]; omega)]
    refine .inr ⟨a1, a3, fun kept => .inl ?_⟩
    obtain ⟨m, m1, m2⟩ := cont_crash (S := S) (X := (S.cutT 0 (n : Int)).1) hS 0 (S.f 0) (by rw [a2, upd_eta]) kept
    rw [hS 0, List.take_nil, play_nil, ← hS.now 0, put_eta] at m2
    exact m2
def Tp.saveV (S : Tp) (g : Nat) (t : List UInt8) : Tp × Int := andThen (S.slotV g t) fun X => X.cutV 0
theorem saveV_cases {S : Tp} {V : Vs} {n : Nat} {t : List UInt8} (hS : S.Sure) (hd : S.down = false) (hH : Has S.cont V n) (ht : okV (V.gen + 1, t)) :
    ((S.saveV V.gen t).2 = 0 ∧ (S.saveV V.gen t).1.Sure ∧ (S.saveV V.gen t).1.down = false ∧ (S.saveV V.gen t).1.cont = put (put S.cont (slotNo (V.gen + 1)) (vFr (V.gen + 1, t))) 0 []) ∨
    ((S.saveV V.gen t).2 = 100 ∧ (S.saveV V.gen t).1.down = true ∧ After2 (S.saveV V.gen t).1 V (V.save t)) := by
  unfold Tp.saveV
  rcases slotV_cases hS hd hH ht with ⟨a1, a2, a3, a4⟩ | ⟨a1, a2, a3⟩
  · rw [andThen_ok a1]
    have hN := hH.slotNext t ht
    rw [← a4] at hN
    rcases cutV_cases (S := (S.slotV V.gen t).1) 0 (Nat.zero_le _) a2 a3 with ⟨b1, b2, b3, b4⟩ | ⟨b1, b2, b3⟩
    · exact .inl ⟨b1, b2, b3, by rw [b4, List.take_zero, a4]⟩
    · refine .inr ⟨b1, b2, fun kept => ?_⟩
      rcases b3 kept with h | h
      · rw [h]; exact ⟨n, .inr hN⟩
      · rw [h, List.take_zero]; exact ⟨0, .inr (hN.cutAll rfl)⟩
  · rw [andThen_no (by rw [a1]; omega)]
    exact .inr ⟨a1, a2, a3⟩
theorem Has.saved {f : Nat → List UInt8} {V : Vs} {n : Nat} {t : List UInt8} (h : Has f V n) (ht : okV (V.gen + 1, t)) : Has (put (put f (slotNo (V.gen + 1)) (vFr (V.gen + 1, t))) 0 []) (V.save t) 0 := (h.slotNext t ht).cutAll rfl
/-- opened: the journal's end is mended: or the power goes, and behind the crash the same is there -/
theorem openV_cases {S : Tp} {V : Vs} {n : Nat} (hS : S.Sure) (hd : S.down = false) (hH : Has S.cont V n) :
    ((S.cutV n).2 = 0 ∧ (S.cutV n).1.Sure ∧ (S.cutV n).1.down = false ∧ (S.cutV n).1.cont = put S.cont 0 ((S.cont 0).take n) ∧ Has (S.cutV n).1.cont V ((S.cutV n).1.cont 0).length) ∨
    ((S.cutV n).2 = 100 ∧ (S.cutV n).1.down = true ∧ After (S.cutV n).1 V) := by
  rcases cutV_cases n hH.le hS hd with ⟨a1, a2, a3, a4⟩ | ⟨a1, a2, a3⟩
  · refine .inl ⟨a1, a2, a3, a4, ?_⟩
    rw [a4, put_same, List.length_take, Nat.min_eq_left hH.le]
    exact hH.mend
  · refine .inr ⟨a1, a2, fun kept => ⟨n, ?_⟩⟩
    rcases a3 kept with h | h
    · rw [h]; exact hH
    · rw [h]; exact hH.mend
end Go.Proofs.YtgiobcpljbpmiaaDoor
