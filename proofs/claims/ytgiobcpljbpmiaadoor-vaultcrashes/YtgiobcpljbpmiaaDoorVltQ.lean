/-
  A vault's frames: a number and a text in a frame; a slot; what is opened of three files.
-/
import Derived.Test.YtgiobcpljbpmiaaDoorVltP
namespace Go.Proofs.YtgiobcpljbpmiaaDoor
/-- the record of a number and a text -/
def vRec (g : Nat) (t : List UInt8) : List UInt8 := numB g ++ textB t
/-- and its frame -/
def vFr (a : Nat × List UInt8) : List UInt8 := frB (vRec a.1 a.2)
def okV (a : Nat × List UInt8) : Prop := a.1 ≤ 1099511627776 ∧ (vRec a.1 a.2).length ≤ 262144
theorem vRec_length (g : Nat) (t : List UInt8) : (vRec g t).length = wide g + 1 + (wide t.length + 1 + t.length) := by rw [vRec, List.length_append, numB_length, textB_length]
theorem okV_of (g : Nat) (t : List UInt8) (hg : g ≤ 1099511627776) (ht : t.length ≤ 262080) : okV (g, t) := by
  have h1 := wide8 (N := g) (by omega)
  have h2 := wide8 (N := t.length) (by omega)
  exact ⟨hg, by show (vRec g t).length ≤ 262144; rw [vRec_length]; omega⟩
theorem okV.text {g : Nat} {t : List UInt8} (h : okV (g, t)) : t.length ≤ 262144 := by
  have := h.2; rw [vRec_length] at this; simp only at this; omega
/-- a record is a number, not above 2^40, and a text, and nothing behind them -/
def partP (b : List UInt8) : Bool × Nat × List UInt8 :=
  if (rdLen b 1099511627776).1 = 0 ∧ (rdText (b.drop (rdLen b 1099511627776).2.2) 262144).1 = 0 ∧ (b.drop (rdLen b 1099511627776).2.2).drop (rdText (b.drop (rdLen b 1099511627776).2.2) 262144).2.2 = [] then (true, (rdLen b 1099511627776).2.1, (rdText (b.drop (rdLen b 1099511627776).2.2) 262144).2.1) else (false, 0, [])
theorem rdLen_back (N : Nat) (most : Int) (h : N < 18446744073709551616) (hm : (N : Int) ≤ most) (r : List UInt8) : rdLen (numB N ++ r) most = (0, N, wide N + 1) := by
  unfold rdLen
  rw [rdNum_back N h r]
  have : ¬ most < (N : Int) := by omega
  simp [this]
theorem partP_back (g : Nat) (t : List UInt8) (hg : g ≤ 1099511627776) (ht : t.length ≤ 262144) : partP (vRec g t) = (true, g, t) := by
  have h1 := rdLen_back g 1099511627776 (by omega) (by omega) (textB t)
  have h2 := rdText_back t [] 262144 (by omega) (by omega)
  rw [List.append_nil] at h2
  have h3 : (vRec g t).drop (wide g + 1) = textB t := by rw [vRec, ← numB_length, List.drop_left]
  unfold partP
  rw [show vRec g t = numB g ++ textB t from rfl, h1]
  simp only
  rw [show (numB g ++ textB t).drop (wide g + 1) = textB t from h3, h2]
  simp only [List.drop_length, true_and, if_true]
theorem partP_is (b : List UInt8) (g : Nat) (t : List UInt8) (h : partP b = (true, g, t)) : b = vRec g t ∧ g ≤ 1099511627776 ∧ t.length ≤ 262144 := by
  obtain ⟨E1, V1, S1, h1⟩ := triple (rdLen b 1099511627776)
  obtain ⟨E2, V2, S2, h2⟩ := triple (rdText (b.drop S1) 262144)
  have hc := rdLen_cases b 1099511627776
  have hn := numB_one b
  have hx := textB_one (b.drop S1) 262144
  have hm := rdText_most (b.drop S1) 262144 (by omega)
  unfold partP at h
  rw [h1] at h hc
  simp only at h hc
  rw [h2] at h hx hm
  simp only at h hx hm
  split at h
  · rename_i hh
    obtain ⟨c1, c2, c3⟩ := hh
    have e : V1 = g ∧ V2 = t := by simpa using h
    obtain ⟨rfl, rfl⟩ := e
    rcases hc with ⟨k1, _⟩ | ⟨k1, k2, k3⟩
    · exact absurd c1 k1
    · rw [← k2] at k3
      have hn := hn k1
      rw [← k2] at hn
      refine ⟨?_, by simp only at k3; omega, by omega⟩
      have hx := hx c2
      rw [vRec, hn, hx]
      have h4 : (b.drop S1).take S2 = b.drop S1 := by
        have := List.take_append_drop S2 (b.drop S1)
        rw [c3, List.append_nil] at this
        exact this
      rw [h4, List.take_append_drop]
  · simp at h
/-- a right frame stands at the beginning -/
def rdV (b : List UInt8) : Bool × (Nat × List UInt8) × Nat :=
  if (rdFr b).1 = true ∧ (partP (rdFr b).2.1).1 = true then (true, (partP (rdFr b).2.1).2, (rdFr b).2.2) else (false, (0, []), 0)
theorem rdV_no (b : List UInt8) (h : (rdFr b).1 = false) : (rdV b).1 = false := by
  unfold rdV; rw [if_neg (by rw [h]; simp)]
theorem rdV_other (b t : List UInt8) (s : Nat) (h : rdFr b = (true, t, s)) (hp : (partP t).1 = false) : (rdV b).1 = false := by
  unfold rdV; rw [h]; simp only; rw [if_neg (by rw [hp]; simp)]
theorem rdV_yes (b t : List UInt8) (s g : Nat) (u : List UInt8) (h : rdFr b = (true, t, s)) (hp : partP t = (true, g, u)) : rdV b = (true, (g, u), s) := by
  unfold rdV; rw [h]; simp only; rw [hp]; exact if_pos ⟨trivial, rfl⟩
def codeV : Code (Nat × List UInt8) where
  enc := vFr
  rd := rdV
  ok := okV
  pos := fun a => by unfold vFr; rw [frB_length]; omega
  back := fun a r h => rdV_yes _ _ _ _ _ (rdFr_back (vRec a.1 a.2) r h.2) (partP_back a.1 a.2 h.1 (okV.text h))
  is := fun b a s h => by
    unfold rdV at h
    split at h
    · rename_i hc
      obtain ⟨c1, c2⟩ := hc
      have hr : rdFr b = (true, (rdFr b).2.1, (rdFr b).2.2) := by rw [← c1]
      obtain ⟨k1, k2, k3⟩ := rdFr_is _ _ _ hr
      have hp : partP (rdFr b).2.1 = (true, (partP (rdFr b).2.1).2.1, (partP (rdFr b).2.1).2.2) := by rw [← c2]
      obtain ⟨j1, j2, j3⟩ := partP_is _ _ _ hp
      simp only [Prod.mk.injEq, true_and] at h
      obtain ⟨rfl, rfl⟩ := h
      refine ⟨?_, k2, j2, ?_⟩
      · rw [k1]; unfold vFr; rw [← j1]
      · rw [← j1]; exact k3
    · simp at h
  cut := fun a r k h hk => rdV_no _ (rdFr_cut (vRec a.1 a.2) r h.2 k hk)
theorem rdV_nil : (codeV.rd []).1 = false := rdV_no _ rdFr_nil
/-- the snapshot of a slot: generation 0: there is none -/
def slotP (b : List UInt8) (odd : Nat) : Nat × List UInt8 :=
  if (rdV b).1 = true ∧ 1 ≤ (rdV b).2.1.1 ∧ (rdV b).2.1.1 % 2 = odd then (rdV b).2.1 else (0, [])
theorem slotP_back (g : Nat) (t r : List UInt8) (odd : Nat) (h : okV (g, t)) (h1 : 1 ≤ g) (h2 : g % 2 = odd) : slotP (vFr (g, t) ++ r) odd = (g, t) := by
  unfold slotP
  rw [show rdV (vFr (g, t) ++ r) = (true, (g, t), (vFr (g, t)).length) from codeV.back (g, t) r h]
  exact if_pos ⟨rfl, h1, h2⟩
theorem slotP_no (b : List UInt8) (odd : Nat) (h : (rdV b).1 = false) : slotP b odd = (0, []) := by
  unfold slotP; rw [if_neg (by rw [h]; simp)]
theorem slotP_cut (g : Nat) (t : List UInt8) (odd k : Nat) (h : okV (g, t)) (hk : k < (vFr (g, t)).length) : slotP ((vFr (g, t)).take k) odd = (0, []) := by
  refine slotP_no _ _ ?_
  have := codeV.cut (g, t) [] k h hk
  rw [List.append_nil] at this
  exact this
theorem slotP_odd (b : List UInt8) (odd : Nat) : (slotP b odd).1 = 0 ∨ (slotP b odd).1 % 2 = odd := by
  unfold slotP
  split
  · rename_i h; exact .inr h.2.2
  · exact .inl rfl
theorem slotP_le (b : List UInt8) (odd : Nat) : (slotP b odd).1 ≤ 1099511627776 := by
  unfold slotP
  split
  · rename_i h
    have hr : codeV.rd b = (true, (rdV b).2.1, (rdV b).2.2) := by show rdV b = _; rw [← h.1]
    exact (codeV.is _ _ _ hr).2.2.1
  · exact Nat.zero_le _
/-- the greater generation -/
def pickP (a b : Nat × List UInt8) : Nat × List UInt8 := if a.1 < b.1 then b else a
/-- what is opened of the slots -/
def snapP (one two : List UInt8) : Nat × List UInt8 := pickP (slotP one 1) (slotP two 0)
/-- the records of a generation -/
def recsP (g : Nat) (L : List (Nat × List UInt8)) : List (List UInt8) := (L.filter fun a => a.1 = g).map (·.2)
theorem recsP_snoc (g : Nat) (L : List (Nat × List UInt8)) (a : Nat × List UInt8) : recsP g (L ++ [a]) = recsP g L ++ (if a.1 = g then [a.2] else []) := by
  unfold recsP
  rw [List.filter_append, List.map_append]
  by_cases h : a.1 = g <;> simp [h]
/-- what is opened: generation, snapshot, records; how many bytes of the journal are right -/
def Opened (j one two : List UInt8) (g : Nat) (t : List UInt8) (R : List (List UInt8)) (n : Nat) : Prop := ∃ L, codeV.All j L n ∧ snapP one two = (g, t) ∧ R = recsP g L
theorem Opened.one {j one two : List UInt8} {g h : Nat} {t u : List UInt8} {R Q : List (List UInt8)} {n m : Nat} (a : Opened j one two g t R n) (b : Opened j one two h u Q m) : g = h ∧ t = u ∧ R = Q ∧ n = m := by
  obtain ⟨L, a1, a2, a3⟩ := a
  obtain ⟨K, b1, b2, b3⟩ := b
  obtain ⟨rfl, rfl⟩ := a1.one b1
  rw [a2] at b2
  injection b2 with e1 e2
  subst e1
  exact ⟨rfl, e2, a3.trans b3.symm, rfl⟩
theorem Opened.exists (j one two : List UInt8) : ∃ g t R n, Opened j one two g t R n := by
  obtain ⟨L, n, h⟩ := Code.All.exists (C := codeV) j
  exact ⟨_, _, _, n, L, h, rfl, rfl⟩
theorem Opened.mend {j one two : List UInt8} {g : Nat} {t : List UInt8} {R : List (List UInt8)} {n : Nat} (h : Opened j one two g t R n) : Opened (j.take n) one two g t R n := by
  obtain ⟨L, h1, h2, h3⟩ := h
  exact ⟨L, h1.mend rdV_nil, h2, h3⟩
end Go.Proofs.YtgiobcpljbpmiaaDoor
