/-
  Frames as plain bytes: a text's bytes and eight bytes of their sum; one frame read; records whose frames stand one behind the other.
-/
import Derived.Test.YtgiobcpljbpmiaaDoorWireA
namespace Go.Proofs.YtgiobcpljbpmiaaDoor
open Go.RowKit
/-- the first eight bytes of a sum -/
def sum8 (l : List UInt8) : List UInt8 := (sumL l).take 8
theorem sum8_length (l : List UInt8) : (sum8 l).length = 8 := by rw [sum8, List.length_take, sumL_length]; rfl
/-- a record's frame -/
def frB (t : List UInt8) : List UInt8 := textB t ++ sum8 (textB t)
theorem frB_length (t : List UInt8) : (frB t).length = wide t.length + 9 + t.length := by rw [frB, List.length_append, textB_length, sum8_length]; omega
/-- frames one behind the other -/
def frsB (L : List (List UInt8)) : List UInt8 := (L.map frB).flatten
theorem frsB_cons (t : List UInt8) (L : List (List UInt8)) : frsB (t :: L) = frB t ++ frsB L := by simp [frsB]
theorem frsB_snoc (t : List UInt8) (L : List (List UInt8)) : frsB (L ++ [t]) = frsB L ++ frB t := by simp [frsB]
theorem frsB_append (K L : List (List UInt8)) : frsB (K ++ L) = frsB K ++ frsB L := by simp [frsB]
theorem frsB_take (L : List (List UInt8)) (k : Nat) (t : List UInt8) (h : L[k]? = some t) : frsB (L.take (k + 1)) = frsB (L.take k) ++ frB t := by rw [take_snoc h, frsB_snoc]
theorem drop_frames {L : List (List UInt8)} {k : Nat} {t : List UInt8} (h : L[k]? = some t) : frsB (L.drop k) = frB t ++ frsB (L.drop (k + 1)) := by
  obtain ⟨hk, he⟩ := List.getElem?_eq_some_iff.1 h
  rw [List.drop_eq_getElem_cons hk, frsB_cons, he]
theorem frsB_le (M : Nat) (hM : M < 18446744073709551616) : ∀ L : List (List UInt8), (∀ t ∈ L, t.length ≤ M) → (frsB L).length ≤ L.length * (17 + M)
  | [], _ => by simp [frsB]
  | t :: L, h => by
    have h1 := frsB_le M hM L (fun x hx => h x (by simp [hx]))
    have h2 := h t (by simp)
    have h3 : wide t.length ≤ 8 := wide8 (by omega)
    rw [frsB_cons, List.length_append, frB_length, List.length_cons, Nat.succ_mul]
    omega
/-- a frame stands at the beginning; its record; how many bytes it has -/
def rdFr (b : List UInt8) : Bool × List UInt8 × Nat :=
  if (rdText b 262144).1 = 0 ∧ (rdText b 262144).2.2 + 8 ≤ b.length ∧ (b.drop (rdText b 262144).2.2).take 8 = sum8 (b.take (rdText b 262144).2.2) then (true, (rdText b 262144).2.1, (rdText b 262144).2.2 + 8) else (false, [], 0)
theorem rdFr_yes (b : List UInt8) (E : Int) (t : List UInt8) (S : Nat) (h : rdText b 262144 = (E, t, S)) (h0 : E = 0) (hl : S + 8 ≤ b.length) (hs : (b.drop S).take 8 = sum8 (b.take S)) : rdFr b = (true, t, S + 8) := by
  unfold rdFr
  rw [h]
  exact if_pos ⟨h0, hl, hs⟩
theorem rdFr_err (b : List UInt8) (E : Int) (t : List UInt8) (S : Nat) (h : rdText b 262144 = (E, t, S)) (h0 : E ≠ 0) : rdFr b = (false, [], 0) := by
  unfold rdFr
  rw [h]
  exact if_neg (fun x => h0 x.1)
theorem rdFr_short (b : List UInt8) (E : Int) (t : List UInt8) (S : Nat) (h : rdText b 262144 = (E, t, S)) (hl : b.length < S + 8) : rdFr b = (false, [], 0) := by
  unfold rdFr
  rw [h]
  exact if_neg (fun x => by have := x.2.1; simp only at this; omega)
theorem rdFr_other (b : List UInt8) (E : Int) (t : List UInt8) (S : Nat) (h : rdText b 262144 = (E, t, S)) (hs : (b.drop S).take 8 ≠ sum8 (b.take S)) : rdFr b = (false, [], 0) := by
  unfold rdFr
  rw [h]
  exact if_neg (fun x => hs x.2.2)
/-- a byte of the sum is another one, or wanting -/
theorem rdFr_byte (b : List UInt8) (E : Int) (t : List UInt8) (S k : Nat) (h : rdText b 262144 = (E, t, S)) (hk : k < 8) (hs : (b.drop S)[k]? ≠ (sumL (b.take S))[k]?) : rdFr b = (false, [], 0) := by
  refine rdFr_other b E t S h (fun x => hs ?_)
  have y := congrArg (fun l => l[k]?) x
  simpa [sum8, List.getElem?_take, hk] using y
theorem rdFr_all (b : List UInt8) (E : Int) (t : List UInt8) (S : Nat) (h : rdText b 262144 = (E, t, S)) (h0 : E = 0) (hl : S + 8 ≤ b.length) (hs : ∀ k, k < 8 → (b.drop S)[k]? = (sumL (b.take S))[k]?) : rdFr b = (true, t, S + 8) := by
  refine rdFr_yes b E t S h h0 hl (List.ext_getElem? fun k => ?_)
  by_cases hk : k < 8
  · simpa [sum8, List.getElem?_take, hk] using hs k hk
  · rw [List.getElem?_eq_none (by simp; omega), List.getElem?_eq_none (by rw [sum8_length]; omega)]
theorem rdText_most (b : List UInt8) (most : Int) (h0 : 0 ≤ most) : ((rdText b most).2.1.length : Int) ≤ most := by
  rcases rdText_cases b most with ⟨_, h⟩ | ⟨h1, h2, h⟩
  · rw [h]; simpa using h0
  · rw [h]
    rcases rdLen_cases b most with ⟨k1, _⟩ | ⟨_, k2, k3⟩
    · exact absurd h1 k1
    · rw [k2]
      simp only [List.length_take, List.length_drop]
      omega
theorem rdFr_is (b : List UInt8) (t : List UInt8) (s : Nat) (h : rdFr b = (true, t, s)) : b.take s = frB t ∧ s ≤ b.length ∧ t.length ≤ 262144 := by
  obtain ⟨E, t', S, hr⟩ := triple (rdText b 262144)
  unfold rdFr at h
  have hm := rdText_most b 262144 (by omega)
  have hone := textB_one b 262144
  rw [hr] at h hm hone
  simp only at h hm hone
  split at h
  · rename_i hc
    obtain ⟨c1, c2, c3⟩ := hc
    obtain ⟨-, rfl, rfl⟩ := Prod.mk.injEq .. ▸ (by simpa using h : True ∧ t' = t ∧ S + 8 = s)
    refine ⟨?_, c2, by omega⟩
    rw [List.take_add, c3, frB, hone c1]
  · simp at h
theorem rdFr_back (t r : List UInt8) (h : t.length ≤ 262144) : rdFr (frB t ++ r) = (true, t, (frB t).length) := by
  have hb := rdText_back t (sum8 (textB t) ++ r) 262144 (by omega) (by omega)
  rw [← List.append_assoc, ← frB] at hb
  have hl : (frB t).length = (textB t).length + 8 := by rw [frB, List.length_append, sum8_length]
  rw [hl]
  refine rdFr_yes _ 0 t _ hb rfl (by rw [List.length_append, hl]; omega) ?_
  rw [frB, List.append_assoc, List.drop_left, List.take_left, List.take_append_of_le_length (Nat.le_of_eq (sum8_length _).symm), List.take_of_length_le (Nat.le_of_eq (sum8_length _))]
theorem rdFr_cut (t r : List UInt8) (h : t.length ≤ 262144) (k : Nat) (hk : k < (frB t).length) : (rdFr ((frB t ++ r).take k)).1 = false := by
  have hl : (frB t).length = (textB t).length + 8 := by rw [frB, List.length_append, sum8_length]
  by_cases hc : k < (textB t).length
  · have hb := rdText_cut t (sum8 (textB t) ++ r) 262144 (by omega) (by omega) k hc
    rw [← List.append_assoc, ← frB] at hb
    rw [rdFr_err _ _ _ _ hb (by omega)]
  · have hb := rdText_back t ((sum8 (textB t) ++ r).take (k - (textB t).length)) 262144 (by omega) (by omega)
    have he : textB t ++ (sum8 (textB t) ++ r).take (k - (textB t).length) = (frB t ++ r).take k := by
      rw [frB, List.append_assoc]
      conv => rhs; rw [List.take_append, List.take_of_length_le (by omega : (textB t).length ≤ k)]
    rw [he] at hb
    rw [rdFr_short _ _ _ _ hb (by rw [List.length_take]; omega)]
theorem rdFr_nil : (rdFr []).1 = false := by
  have h := rdFr_cut [] [] (by simp) 0 (by rw [frB_length]; omega)
  simpa using h
/-- these records' frames are the first n bytes -/
def PartF (b : List UInt8) (L : List (List UInt8)) (n : Nat) : Prop := frsB L = b.take n ∧ n ≤ b.length ∧ ∀ t ∈ L, t.length ≤ 262144
/-- and none stands behind them -/
def Scans (b : List UInt8) (L : List (List UInt8)) (n : Nat) : Prop := PartF b L n ∧ (rdFr (b.drop n)).1 = false
theorem PartF.nil (b : List UInt8) : PartF b [] 0 := ⟨by simp [frsB], Nat.zero_le _, fun t h => by simp at h⟩
theorem PartF.step {b : List UInt8} {L : List (List UInt8)} {n : Nat} (h : PartF b L n) (t : List UInt8) (s : Nat) (hr : rdFr (b.drop n) = (true, t, s)) : PartF b (L ++ [t]) (n + s) := by
  obtain ⟨h1, h2, h3⟩ := h
  obtain ⟨k1, k2, k3⟩ := rdFr_is _ _ _ hr
  rw [List.length_drop] at k2
  refine ⟨by rw [frsB_snoc, h1, ← k1, List.take_add], by omega, fun x hx => ?_⟩
  rcases List.mem_append.1 hx with hx | hx
  · exact h3 x hx
  · rw [List.mem_singleton.1 hx]; exact k3
theorem PartF.size {b : List UInt8} {L : List (List UInt8)} {n : Nat} (h : PartF b L n) : (frsB L).length = n := by
  rw [h.1, List.length_take]; exact Nat.min_eq_left h.2.1
theorem PartF.count {b : List UInt8} {L : List (List UInt8)} {n : Nat} (h : PartF b L n) : L.length ≤ n := by
  have h1 := h.size
  have h2 : ∀ K : List (List UInt8), K.length ≤ (frsB K).length := fun K => by
    induction K with
    | nil => simp
    | cons t K ih => rw [frsB_cons, List.length_append, frB_length, List.length_cons]; omega
  have := h2 L
  omega
/-- of frames, whatever stands behind them, their records come first -/
theorem Scans.first : ∀ (L : List (List UInt8)) (r : List UInt8) (K : List (List UInt8)) (n : Nat), (∀ t ∈ L, t.length ≤ 262144) → Scans (frsB L ++ r) K n → ∃ K', K = L ++ K' ∧ Scans r K' (n - (frsB L).length) ∧ (frsB L).length ≤ n
  | [], r, K, n, _, h => ⟨K, rfl, by simpa [frsB] using h, by simp [frsB]⟩
  | t :: L, r, [], n, hL, h => by
    exfalso
    have hn : n = 0 := by have := h.1.size; simp [frsB] at this; omega
    subst hn
    have h2 := h.2
    rw [List.drop_zero, frsB_cons, List.append_assoc, rdFr_back t _ (hL t (by simp))] at h2
    cases h2
  | t :: L, r, u :: K, n, hL, h => by
    have ht := hL t (by simp)
    have hu := h.1.2.2 u (by simp)
    have e1 := h.1.1
    have hsz := h.1.size
    have hnl := h.1.2.1
    have hw : frsB (t :: L) ++ r = frB u ++ (frsB K ++ (frsB (t :: L) ++ r).drop n) := by
      rw [← List.append_assoc, ← frsB_cons, e1, List.take_append_drop]
    have hb := rdFr_back u (frsB K ++ (frsB (t :: L) ++ r).drop n) hu
    rw [← hw, frsB_cons, List.append_assoc, rdFr_back t _ ht] at hb
    have hut : t = u := by injection hb with _ hb; injection hb
    subst hut
    rw [frsB_cons, List.append_assoc] at hw
    have hw2 := List.append_cancel_left hw
    rw [frsB_cons, List.length_append] at hsz
    rw [frsB_cons, List.append_assoc] at h hnl
    have hdrop : (frB t ++ (frsB L ++ r)).drop n = (frsB L ++ r).drop (n - (frB t).length) := by
      rw [List.drop_append, List.drop_of_length_le (by omega), List.nil_append]
    have hs : Scans (frsB L ++ r) K (n - (frB t).length) := by
      refine ⟨⟨?_, ?_, fun x hx => h.1.2.2 x (by simp [hx])⟩, ?_⟩
      · have := congrArg (List.take (n - (frB t).length)) hw2
        rw [this, List.take_append_of_le_length (by omega), List.take_of_length_le (by omega)]
      · rw [List.length_append] at hnl; omega
      · rw [← hdrop]; exact h.2
    obtain ⟨K', k1, k2, k3⟩ := Scans.first L r K _ (fun x hx => hL x (by simp [hx])) hs
    refine ⟨K', by rw [k1]; rfl, ?_, ?_⟩
    · rw [frsB_cons, List.length_append, ← Nat.sub_sub]; exact k2
    · rw [frsB_cons, List.length_append]; omega
theorem Scans.none {K : List (List UInt8)} {n : Nat} {r : List UInt8} (hr : (rdFr r).1 = false) (h : Scans r K n) : K = [] ∧ n = 0 := by
  cases K with
  | nil => exact ⟨rfl, by have := h.1.size; simp [frsB] at this; omega⟩
  | cons u K =>
    exfalso
    have hu := h.1.2.2 u (by simp)
    have hw : r = frB u ++ (frsB K ++ r.drop n) := by
      rw [← List.append_assoc, ← frsB_cons, h.1.1, List.take_append_drop]
    rw [hw, rdFr_back u _ hu] at hr
    cases hr
/-- what is scanned is one -/
theorem Scans.one {b : List UInt8} {L K : List (List UInt8)} {n m : Nat} (h : Scans b L n) (k : Scans b K m) : L = K ∧ n = m := by
  have hb : b = frsB L ++ b.drop n := by rw [h.1.1, List.take_append_drop]
  have hs := h.1.size
  rw [hb] at k
  obtain ⟨K', k1, k2, k3⟩ := Scans.first L _ K m h.1.2.2 k
  obtain ⟨e1, e2⟩ := Scans.none h.2 k2
  subst e1
  exact ⟨by rw [k1, List.append_nil], by omega⟩
/-- of frames with nothing behind just these -/
theorem Scans.whole (L : List (List UInt8)) (hL : ∀ t ∈ L, t.length ≤ 262144) : Scans (frsB L) L (frsB L).length :=
  ⟨⟨by rw [List.take_length], Nat.le_refl _, hL⟩, by rw [List.drop_length]; exact rdFr_nil⟩
/-- of the first bytes of frames -/
theorem Scans.cut (L : List (List UInt8)) (hL : ∀ t ∈ L, t.length ≤ 262144) (k q : Nat) (h1 : (frsB (L.take q)).length ≤ k) (h2 : ∀ t, L[q]? = some t → k < (frsB (L.take q)).length + (frB t).length) : Scans ((frsB L).take k) (L.take q) (frsB (L.take q)).length := by
  have he : frsB L = frsB (L.take q) ++ frsB (L.drop q) := by rw [← frsB_append, List.take_append_drop]
  have ht : (frsB L).take k = frsB (L.take q) ++ (frsB (L.drop q)).take (k - (frsB (L.take q)).length) := by
    rw [he, List.take_append, List.take_of_length_le h1]
  rw [ht]
  refine ⟨⟨by rw [List.take_left], by rw [List.length_append]; omega, fun t hx => hL t (List.mem_of_mem_take hx)⟩, ?_⟩
  rw [List.drop_left]
  cases hg : L[q]? with
  | none =>
    have : L.length ≤ q := List.getElem?_eq_none_iff.1 hg
    rw [List.drop_of_length_le this]
    simpa [frsB] using rdFr_nil
  | some t =>
    rw [drop_frames hg]
    exact rdFr_cut t _ (hL t (List.mem_of_getElem? hg)) _ (by have := h2 t hg; omega)
end Go.Proofs.YtgiobcpljbpmiaaDoor
