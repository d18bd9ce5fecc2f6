/-
  Signatures that may be given once, over lists: secrets, their sums, the public part, its root, a signature, the public part that a signature stands for. That a signature stands for the public part. Lists of digests, one behind the other. Nothing of the program is named here. No conditions.
-/
import Derived.Test.YtghihgmgadaoeaaDoorBit
import Derived.Test.YtghihgmgadaoeaaDoorSeed
namespace Go.Proofs.YtghihgmgadaoeaaDoor
/-- as bytes, one behind the other -/
def flat (L : List (List UInt8)) : List UInt8 := L.flatten
/-- each has 32 bytes -/
def Digs (L : List (List UInt8)) : Prop := ∀ d ∈ L, d.length = 32
theorem Digs.nil : Digs [] := fun d h => by simp at h
theorem Digs.app {L M : List (List UInt8)} (h : Digs L) (k : Digs M) : Digs (L ++ M) := fun d hd => by
  rcases List.mem_append.1 hd with q | q
  · exact h d q
  · exact k d q
theorem Digs.two {a b : List UInt8} (h : a.length = 32) (k : b.length = 32) : Digs [a, b] := fun d hd => by
  simp at hd
  rcases hd with rfl | rfl
  · exact h
  · exact k
theorem Digs.take {L : List (List UInt8)} (h : Digs L) (n : Nat) : Digs (L.take n) := fun d hd => h d (List.mem_of_mem_take hd)
theorem Digs.get {L : List (List UInt8)} (h : Digs L) {k : Nat} {d : List UInt8} (hd : L[k]? = some d) : d.length = 32 := h d (List.mem_of_getElem? hd)
theorem flat_app (L M : List (List UInt8)) : flat (L ++ M) = flat L ++ flat M := List.flatten_append
theorem flat_length : ∀ {L : List (List UInt8)}, Digs L → (flat L).length = 32 * L.length
  | [], _ => rfl
  | d :: L, h => by
    have h1 := h d (by simp)
    have h2 := flat_length (L := L) (fun x hx => h x (by simp [hx]))
    show (d ++ flat L).length = _
    rw [List.length_append, h1, h2, List.length_cons]; omega
theorem flat_drop : ∀ {L : List (List UInt8)}, Digs L → ∀ k, (flat L).drop (32 * k) = flat (L.drop k)
  | _, _, 0 => by simp
  | [], _, k + 1 => by simp [flat]
  | d :: L, h, k + 1 => by
    have h1 := h d (by simp)
    have h2 := flat_drop (L := L) (fun x hx => h x (by simp [hx])) k
    show (d ++ flat L).drop _ = _
    rw [List.drop_append, List.drop_eq_nil_of_le (by omega), h1, List.nil_append, show 32 * (k + 1) - 32 = 32 * k by omega, h2, List.drop_succ_cons]
theorem flat_get {L : List (List UInt8)} (h : Digs L) {k : Nat} {d : List UInt8} (hd : L[k]? = some d) : ((flat L).drop (32 * k)).take 32 = d := by
  obtain ⟨hk, rfl⟩ := List.getElem?_eq_some_iff.1 hd
  rw [flat_drop h, List.drop_eq_getElem_cons hk]
  show ((L[k] ++ flat (L.drop (k + 1))).take 32) = _
  have := h.get hd
  rw [List.take_append_of_le_length (by omega), List.take_of_length_le (by omega)]
theorem flat_take {L : List (List UInt8)} {k : Nat} {d : List UInt8} (hd : L[k]? = some d) : flat (L.take (k + 1)) = flat (L.take k) ++ d := by
  rw [List.take_add_one, hd, flat_app]
  simp [flat]
theorem flat_inj : ∀ {L M : List (List UInt8)}, Digs L → Digs M → flat L = flat M → L = M
  | [], [], _, _, _ => rfl
  | [], d :: M, _, k, h => by
    have := congrArg List.length h
    rw [flat_length k, show flat [] = [] from rfl] at this
    simp at this
  | d :: L, [], k, _, h => by
    have := congrArg List.length h
    rw [flat_length k, show flat [] = [] from rfl] at this
    simp at this
  | d :: L, e :: M, h1, h2, h => by
    have e1 : d ++ flat L = e ++ flat M := h
    have q := List.append_inj e1 ((h1 d (by simp)).trans (h2 e (by simp)).symm)
    rw [q.1, flat_inj (fun x hx => h1 x (by simp [hx])) (fun x hx => h2 x (by simp [hx])) q.2]
/-- the label -/
def otsA : ByteArray := ⟨#[111, 116, 115]⟩
def secL (s : List UInt8) (i b : Nat) : List UInt8 := macL s (seedL otsA ((2 * i + b : Nat) : Int))
def hidL (s : List UInt8) (i b : Nat) : List UInt8 := sumL (secL s i b)
theorem secL_length (s : List UInt8) (i b : Nat) : (secL s i b).length = 32 := macL_length _ _
theorem hidL_length (s : List UInt8) (i b : Nat) : (hidL s i b).length = 32 := sumL_length _
def pubN (s : List UInt8) : Nat → List (List UInt8)
  | 0 => []
  | m + 1 => pubN s m ++ [hidL s m 0, hidL s m 1]
theorem pubN_length (s : List UInt8) : ∀ m, (pubN s m).length = 2 * m
  | 0 => rfl
  | m + 1 => by rw [pubN, List.length_append, pubN_length s m]; simp; omega
theorem pubN_digs (s : List UInt8) : ∀ m, Digs (pubN s m)
  | 0 => Digs.nil
  | m + 1 => (pubN_digs s m).app (Digs.two (hidL_length _ _ _) (hidL_length _ _ _))
theorem pubN_get (s : List UInt8) : ∀ m i b, i < m → b < 2 → (pubN s m)[2 * i + b]? = some (hidL s i b)
  | 0, i, b, h, _ => by omega
  | m + 1, i, b, h, hb => by
    rw [pubN]
    by_cases e : i = m
    · subst e
      rw [List.getElem?_append_right (by rw [pubN_length]; omega), pubN_length, show 2 * i + b - 2 * i = b by omega]
      rcases b with _ | _ | b
      · rfl
      · rfl
      · omega
    · rw [List.getElem?_append_left (by rw [pubN_length]; omega)]
      exact pubN_get s m i b (by omega) hb
def rootL (L : List (List UInt8)) : List UInt8 := sumL (2 :: flat L)
theorem rootL_length (L : List (List UInt8)) : (rootL L).length = 32 := sumL_length _
/-- of a sum d -/
def sigN (s d : List UInt8) : Nat → List (List UInt8)
  | 0 => []
  | m + 1 => sigN s d m ++ [secL s m (bitN d m), hidL s m (1 - bitN d m)]
theorem sigN_length (s d : List UInt8) : ∀ m, (sigN s d m).length = 2 * m
  | 0 => rfl
  | m + 1 => by rw [sigN, List.length_append, sigN_length s d m]; simp; omega
theorem sigN_digs (s d : List UInt8) : ∀ m, Digs (sigN s d m)
  | 0 => Digs.nil
  | m + 1 => (sigN_digs s d m).app (Digs.two (secL_length _ _ _) (hidL_length _ _ _))
theorem sigN_get (s d : List UInt8) : ∀ m i, i < m → (sigN s d m)[2 * i]? = some (secL s i (bitN d i)) ∧ (sigN s d m)[2 * i + 1]? = some (hidL s i (1 - bitN d i))
  | 0, i, h => by omega
  | m + 1, i, h => by
    rw [sigN]
    by_cases e : i = m
    · subst e
      rw [List.getElem?_append_right (by rw [sigN_length]; omega), List.getElem?_append_right (by rw [sigN_length]; omega), sigN_length, Nat.sub_self, show 2 * i + 1 - 2 * i = 1 by omega]
      exact ⟨rfl, rfl⟩
    · rw [List.getElem?_append_left (by rw [sigN_length]; omega), List.getElem?_append_left (by rw [sigN_length]; omega)]
      exact sigN_get s d m i (by omega)
theorem sigN_same (s d d' : List UInt8) : ∀ m, (∀ i, i < m → bitN d i = bitN d' i) → sigN s d m = sigN s d' m
  | 0, _ => rfl
  | m + 1, h => by rw [sigN, sigN, sigN_same s d d' m (fun i hi => h i (by omega)), h m (by omega)]
/-- the public part for which the first of the digests L stand -/
def twoL (d : List UInt8) (L : List (List UInt8)) (m : Nat) : List (List UInt8) :=
  if bitN d m = 0 then [sumL (L.getD (2 * m) []), L.getD (2 * m + 1) []] else [L.getD (2 * m + 1) [], sumL (L.getD (2 * m) [])]
def ledN (d : List UInt8) (L : List (List UInt8)) : Nat → List (List UInt8)
  | 0 => []
  | m + 1 => ledN d L m ++ twoL d L m
theorem twoL_length (d : List UInt8) (L : List (List UInt8)) (m : Nat) : (twoL d L m).length = 2 := by unfold twoL; split <;> rfl
theorem ledN_length (d : List UInt8) (L : List (List UInt8)) : ∀ m, (ledN d L m).length = 2 * m
  | 0 => rfl
  | m + 1 => by rw [ledN, List.length_append, ledN_length d L m, twoL_length]; omega
theorem twoL_digs (d : List UInt8) {L : List (List UInt8)} (hL : Digs L) (m : Nat) (h : 2 * m + 1 < L.length) : Digs (twoL d L m) := by
  have h1 : (L.getD (2 * m + 1) []).length = 32 := by
    rw [List.getD_eq_getElem?_getD, List.getElem?_eq_getElem h]
    exact hL _ (List.getElem_mem h)
  unfold twoL
  split
  · exact Digs.two (sumL_length _) h1
  · exact Digs.two h1 (sumL_length _)
theorem ledN_digs (d : List UInt8) {L : List (List UInt8)} (hL : Digs L) : ∀ m, 2 * m ≤ L.length → Digs (ledN d L m)
  | 0, _ => Digs.nil
  | m + 1, h => (ledN_digs d hL m (by omega)).app (twoL_digs d hL m (by omega))
theorem ledN_sig (s d : List UInt8) (n : Nat) : ∀ m, m ≤ n → ledN d (sigN s d n) m = pubN s m
  | 0, _ => rfl
  | m + 1, h => by
    rw [ledN, pubN, ledN_sig s d n m (by omega)]
    congr 1
    obtain ⟨h1, h2⟩ := sigN_get s d n m (by omega)
    unfold twoL
    rw [List.getD_eq_getElem?_getD, List.getD_eq_getElem?_getD, h1, h2]
    rcases bitN_01 d m with e | e
    · rw [e, if_pos rfl]; rfl
    · rw [e, if_neg (by omega)]; rfl
end Go.Proofs.YtghihgmgadaoeaaDoor
