/-
  A vault's calls on a tape, in plain terms: what is there behind each, and behind any crash of each.
-/
import Derived.Test.YtgiobcpljbpmiaaDoorVltQ
import Derived.Test.YtgiobcpljbpmiaaDoorSteps
namespace Go.Proofs.YtgiobcpljbpmiaaDoor
structure Vs where
  gen : Nat
  text : List UInt8
  recs : List (List UInt8)
def Vs.new : Vs := ⟨0, [], []⟩
def Vs.add (V : Vs) (b : List UInt8) : Vs := ⟨V.gen, V.text, V.recs ++ [b]⟩
def Vs.save (V : Vs) (b : List UInt8) : Vs := ⟨V.gen + 1, b, []⟩
/-- what stands in three files: it is V, and n bytes of the journal are right -/
def Has (f : Nat → List UInt8) (V : Vs) (n : Nat) : Prop := ∃ L, codeV.All (f 0) L n ∧ snapP (f 1) (f 2) = (V.gen, V.text) ∧ V.recs = recsP V.gen L ∧ ∀ a ∈ L, a.1 ≤ V.gen
theorem Has.opened {f : Nat → List UInt8} {V : Vs} {n : Nat} (h : Has f V n) : Opened (f 0) (f 1) (f 2) V.gen V.text V.recs n := by
  obtain ⟨L, h1, h2, h3, _⟩ := h
  exact ⟨L, h1, h2, h3⟩
theorem Has.new : Has (fun _ => []) Vs.new 0 := by
  have h0 : codeV.All [] [] 0 := ⟨Code.Part.nil [], by simpa using rdV_nil⟩
  refine ⟨[], h0, ?_, rfl, fun a h => by simp at h⟩
  have h1 := slotP_no [] 1 rdV_nil
  have h2 := slotP_no [] 0 rdV_nil
  unfold snapP
  rw [h1, h2]
  rfl
/-- contents with one changed -/
def put (f : Nat → List UInt8) (i : Nat) (x : List UInt8) : Nat → List UInt8 := fun j => if j = i then x else f j
theorem put_same (f : Nat → List UInt8) (i : Nat) (x : List UInt8) : put f i x i = x := if_pos rfl
theorem put_other (f : Nat → List UInt8) {i j : Nat} (x : List UInt8) (h : j ≠ i) : put f i x j = f j := if_neg h
/-- the slot of a generation -/
def slotNo (g : Nat) : Nat := if g % 2 = 1 then 1 else 2
theorem slotNo_or (g : Nat) : (slotNo g = 1 ∧ g % 2 = 1) ∨ (slotNo g = 2 ∧ g % 2 = 0) := by
  unfold slotNo; split <;> omega
theorem pick_le (a b : Nat × List UInt8) : a.1 ≤ (pickP a b).1 ∧ b.1 ≤ (pickP a b).1 := by
  unfold pickP; split <;> omega
/-- the other slot's snapshot is wanting: the same is there -/
theorem snap_none {f : Nat → List UInt8} {G : Nat} {T : List UInt8} (h : snapP (f 1) (f 2) = (G, T)) (x : List UInt8) (hx : slotP x ((G + 1) % 2) = (0, [])) : snapP (put f (slotNo (G + 1)) x 1) (put f (slotNo (G + 1)) x 2) = (G, T) := by
  have o1 := slotP_odd (f 1) 1
  have o2 := slotP_odd (f 2) 0
  unfold snapP at *
  have hle := pick_le (slotP (f 1) 1) (slotP (f 2) 0)
  rw [h] at hle
  simp only at hle
  rcases slotNo_or (G + 1) with ⟨e, q⟩ | ⟨e, q⟩
  · rw [e, put_same, put_other _ _ (by omega)]
    rw [q] at hx
    rw [hx]
    unfold pickP at *
    split at h
    · rename_i hc
      rw [h]
      simp only
      rw [h] at hc
      simp only at hc
      rw [if_pos (by omega)]
    · rename_i hc
      rw [h] at hc o1 hle
      simp only at hc o1 hle
      have hG : G = 0 := by omega
      subst hG
      have h2 : slotP (f 2) 0 = (0, []) := by
        unfold slotP at hle ⊢
        split
        · rename_i hz; rw [if_pos hz] at hle; omega
        · rfl
      have h1 : slotP (f 1) 1 = (0, []) := by
        unfold slotP at h ⊢
        split
        · rename_i hz; rw [if_pos hz] at h; rw [h] at hz; simp only at hz; omega
        · rfl
      rw [h1] at h
      rw [h2]
      exact h
  · rw [e, put_same, put_other _ _ (by omega)]
    rw [q] at hx
    rw [hx]
    unfold pickP at *
    rw [if_neg (by omega)]
    split at h
    · rename_i hc
      rw [h] at hc o2
      simp only at hc o2
      omega
    · exact h
/-- the next snapshot stands in its slot -/
theorem snap_next {f : Nat → List UInt8} {G : Nat} {T : List UInt8} (h : snapP (f 1) (f 2) = (G, T)) (t r : List UInt8) (ht : okV (G + 1, t)) : snapP (put f (slotNo (G + 1)) (vFr (G + 1, t) ++ r) 1) (put f (slotNo (G + 1)) (vFr (G + 1, t) ++ r) 2) = (G + 1, t) := by
  unfold snapP at *
  have hle := pick_le (slotP (f 1) 1) (slotP (f 2) 0)
  rw [h] at hle
  simp only at hle
  rcases slotNo_or (G + 1) with ⟨e, q⟩ | ⟨e, q⟩
  · rw [e, put_same, put_other _ _ (by omega), slotP_back (G + 1) t r 1 ht (by omega) q]
    unfold pickP
    rw [if_neg (by simp only; omega)]
  · rw [e, put_same, put_other _ _ (by omega), slotP_back (G + 1) t r 0 ht (by omega) q]
    unfold pickP
    rw [if_pos (by simp only; omega)]
theorem put_slot0 (f : Nat → List UInt8) (g : Nat) (x : List UInt8) : put f (slotNo g) x 0 = f 0 := put_other f x (by rcases slotNo_or g with ⟨e, _⟩ | ⟨e, _⟩ <;> omega)
/-- behind a frame's first bytes the journal has what it had -/
theorem Has.part {f : Nat → List UInt8} {V : Vs} (h : Has f V (f 0).length) (a : Nat × List UInt8) (ha : okV a) (k : Nat) (hk : k < (vFr a).length) : Has (put f 0 (f 0 ++ (vFr a).take k)) V (f 0).length := by
  obtain ⟨L, h1, h2, h3, h4⟩ := h
  have he : codeV.encs L = f 0 := by rw [h1.1.1, List.take_length]
  have hc := codeV.cut a [] k ha hk
  rw [List.append_nil] at hc
  refine ⟨L, ?_, by rw [put_other _ _ (by omega), put_other _ _ (by omega)]; exact h2, h3, h4⟩
  rw [put_same]
  have := Code.All.behind (C := codeV) h1.1.2.2 hc
  rw [h1.1.size, he] at this
  exact this
theorem Has.add {f : Nat → List UInt8} {V : Vs} (h : Has f V (f 0).length) (b : List UInt8) (hb : okV (V.gen, b)) : Has (put f 0 (f 0 ++ vFr (V.gen, b))) (V.add b) (f 0 ++ vFr (V.gen, b)).length := by
  obtain ⟨L, h1, h2, h3, h4⟩ := h
  have he : codeV.encs L = f 0 := by rw [h1.1.1, List.take_length]
  have hs : codeV.encs (L ++ [(V.gen, b)]) = f 0 ++ vFr (V.gen, b) := by rw [Code.encs_snoc, he]; rfl
  have hok : ∀ t ∈ L ++ [(V.gen, b)], codeV.ok t := fun t ht => by
    rcases List.mem_append.1 ht with ht | ht
    · exact h1.1.2.2 t ht
    · rw [List.mem_singleton.1 ht]; exact hb
  have ha := Code.All.behind (C := codeV) (r := []) hok rdV_nil
  rw [List.append_nil, hs] at ha
  refine ⟨L ++ [(V.gen, b)], by rw [put_same]; exact ha, by rw [put_other _ _ (by omega), put_other _ _ (by omega)]; exact h2, ?_, fun a ha => ?_⟩
  · show V.recs ++ [b] = recsP V.gen (L ++ [(V.gen, b)])
    rw [recsP_snoc, ← h3, if_pos rfl]
  · rcases List.mem_append.1 ha with ha | ha
    · exact h4 a ha
    · rw [List.mem_singleton.1 ha]; exact Nat.le_refl _
theorem Has.slotNone {f : Nat → List UInt8} {V : Vs} {n : Nat} (h : Has f V n) (x : List UInt8) (hx : slotP x ((V.gen + 1) % 2) = (0, [])) : Has (put f (slotNo (V.gen + 1)) x) V n := by
  obtain ⟨L, h1, h2, h3, h4⟩ := h
  exact ⟨L, by rw [put_slot0]; exact h1, snap_none h2 x hx, h3, h4⟩
theorem recs_next {G : Nat} {L : List (Nat × List UInt8)} (h : ∀ a ∈ L, a.1 ≤ G) : recsP (G + 1) L = [] := by
  unfold recsP
  rw [List.filter_eq_nil_iff.2 (fun a ha => by have := h a ha; simp; omega)]
  rfl
theorem Has.slotNext {f : Nat → List UInt8} {V : Vs} {n : Nat} (h : Has f V n) (t : List UInt8) (ht : okV (V.gen + 1, t)) : Has (put f (slotNo (V.gen + 1)) (vFr (V.gen + 1, t))) (V.save t) n := by
  obtain ⟨L, h1, h2, h3, h4⟩ := h
  have hs := snap_next h2 t [] ht
  rw [List.append_nil] at hs
  refine ⟨L, by rw [put_slot0]; exact h1, hs, ?_, fun a ha => Nat.le_succ_of_le (h4 a ha)⟩
  exact (recs_next h4).symm
/-- the journal is cut to nothing behind it -/
theorem Has.cutAll {f : Nat → List UInt8} {V : Vs} {n : Nat} (h : Has f V n) (hr : V.recs = []) : Has (put f 0 []) V 0 := by
  obtain ⟨L, h1, h2, h3, h4⟩ := h
  refine ⟨[], ?_, by rw [put_other _ _ (by omega), put_other _ _ (by omega)]; exact h2, by rw [hr]; rfl, fun a h => by simp at h⟩
  rw [put_same]
  exact ⟨Code.Part.nil [], by simpa using rdV_nil⟩
theorem Has.mend {f : Nat → List UInt8} {V : Vs} {n : Nat} (h : Has f V n) : Has (put f 0 ((f 0).take n)) V n := by
  obtain ⟨L, h1, h2, h3, h4⟩ := h
  exact ⟨L, by rw [put_same]; exact h1.mend rdV_nil, by rw [put_other _ _ (by omega), put_other _ _ (by omega)]; exact h2, h3, h4⟩
theorem Has.le {f : Nat → List UInt8} {V : Vs} {n : Nat} (h : Has f V n) : n ≤ (f 0).length := by
  obtain ⟨L, h1, _⟩ := h
  exact h1.1.2.1
theorem Has.one {f : Nat → List UInt8} {V W : Vs} {n m : Nat} (h : Has f V n) (k : Has f W m) : V = W ∧ n = m := by
  obtain ⟨e1, e2, e3, e4⟩ := h.opened.one k.opened
  cases V; cases W
  simp only at e1 e2 e3
  subst e1 e2 e3
  exact ⟨rfl, e4⟩
end Go.Proofs.YtgiobcpljbpmiaaDoor
