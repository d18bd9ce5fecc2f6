/-
  Lists with one root, plainly: the split, roots, proofs of places and of beginnings; where a proof leads, its last digest first, and from the leaf on.
-/
namespace Go.Proofs.YtbpbpdaohganaaaDoor
def splitN (n : Nat) : Nat := 2 ^ Nat.log2 (n - 1)
theorem splitN_pos (n : Nat) : 0 < splitN n := Nat.pos_of_ne_zero (by simp [splitN])
theorem splitN_lt {n : Nat} (h : 2 ≤ n) : splitN n < n := by
  have := Nat.log2_self_le (n := n - 1) (by omega)
  unfold splitN; omega
theorem splitN_ge {n : Nat} : n ≤ 2 * splitN n := by
  have := Nat.lt_log2_self (n := n - 1)
  unfold splitN
  rw [Nat.pow_succ] at this
  omega
theorem splitN_eq {n s : Nat} (h1 : 2 ^ s < n) (h2 : n ≤ 2 ^ (s + 1)) : splitN n = 2 ^ s := by
  unfold splitN
  rw [(Nat.log2_eq_iff (n := n - 1) (k := s) (by omega)).2 ⟨by omega, by omega⟩]
section
variable {α : Type} (nd : α → α → α) (e0 : α)
/-- the root of a list; of none e0 -/
def rootP (L : List α) : α :=
  if _h : L.length ≤ 1 then L.headD e0
  else nd (rootP (L.take (splitN L.length))) (rootP (L.drop (splitN L.length)))
termination_by L.length
decreasing_by
  · have := splitN_lt (n := L.length) (by omega); rw [List.length_take]; omega
  · have := splitN_pos L.length; rw [List.length_drop]; omega
theorem rootP_nil : rootP nd e0 [] = e0 := by rw [rootP]; simp
theorem rootP_one (d : α) : rootP nd e0 [d] = d := by rw [rootP]; simp
theorem rootP_two {L : List α} (h : 2 ≤ L.length) : rootP nd e0 L = nd (rootP nd e0 (L.take (splitN L.length))) (rootP nd e0 (L.drop (splitN L.length))) := by
  rw [rootP, dif_neg (by omega)]
/-- the proof of a place -/
def incP (L : List α) (i : Nat) : List α :=
  if _h : L.length ≤ 1 then []
  else if i < splitN L.length then incP (L.take (splitN L.length)) i ++ [rootP nd e0 (L.drop (splitN L.length))]
  else incP (L.drop (splitN L.length)) (i - splitN L.length) ++ [rootP nd e0 (L.take (splitN L.length))]
termination_by L.length
decreasing_by
  · have := splitN_lt (n := L.length) (by omega); rw [List.length_take]; omega
  · have := splitN_pos L.length; rw [List.length_drop]; omega
/-- the part of the proof of a beginning -/
def partP (L : List α) (m : Nat) (w : Bool) : List α :=
  if m = L.length then (if w then [] else [rootP nd e0 L])
  else if _h : L.length ≤ 1 then []
  else if m ≤ splitN L.length then partP (L.take (splitN L.length)) m w ++ [rootP nd e0 (L.drop (splitN L.length))]
  else partP (L.drop (splitN L.length)) (m - splitN L.length) false ++ [rootP nd e0 (L.take (splitN L.length))]
termination_by L.length
decreasing_by
  · have := splitN_lt (n := L.length) (by omega); rw [List.length_take]; omega
  · have := splitN_pos L.length; rw [List.length_drop]; omega
/-- where a proof leads, its last digest first -/
def leadR (r : α) : Nat → Nat → List α → Option α
  | _, n, [] => if n = 1 then some r else none
  | i, n, d :: t => if n = 1 then none
    else if i < splitN n then (leadR r i (splitN n) t).map fun x => nd x d
    else (leadR r (i - splitN n) (n - splitN n) t).map fun x => nd d x
/-- the same, from the first digest on: the root of the part, and the digests behind it -/
def frontP (r : α) (i n : Nat) (P : List α) : Option (α × List α) :=
  if _h : n ≤ 1 then some (r, P)
  else if i < splitN n then
    match frontP r i (splitN n) P with
    | some (d, x :: t) => some (nd d x, t)
    | _ => none
  else
    match frontP r (i - splitN n) (n - splitN n) P with
    | some (d, x :: t) => some (nd x d, t)
    | _ => none
termination_by n
decreasing_by
  · exact splitN_lt (by omega)
  · have := splitN_pos n; omega
/-- from the leaf on: the place and the last place of each level -/
def upP (i last : Nat) (r : α) (P : List α) : Option α :=
  if _h : last = 0 then (if P = [] then some r else none)
  else if i % 2 = 0 ∧ i = last then upP (i / 2) (last / 2) r P
  else match P with
    | [] => none
    | d :: t => if i % 2 = 1 then upP (i / 2) (last / 2) (nd d r) t else upP (i / 2) (last / 2) (nd r d) t
termination_by last
decreasing_by all_goals omega
theorem upP_zero (i : Nat) (r : α) (P : List α) : upP nd i 0 r P = if P = [] then some r else none := by
  conv => lhs; rw [upP.eq_def]
  rw [dif_pos rfl]
theorem upP_skip {i last : Nat} (r : α) (P : List α) (h1 : i % 2 = 0) (h2 : i = last) : upP nd i last r P = upP nd (i / 2) (last / 2) r P := by
  by_cases h : last = 0
  · subst h2; subst h; rfl
  · conv => lhs; rw [upP.eq_def]
    rw [dif_neg h, if_pos ⟨h1, h2⟩]
theorem upP_left {i last : Nat} (r : α) (P : List α) (h1 : i % 2 = 0) (h2 : i < last) : upP nd i last r P = match P with | [] => none | d :: t => upP nd (i / 2) (last / 2) (nd r d) t := by
  conv => lhs; rw [upP.eq_def]
  rw [dif_neg (by omega), if_neg (by omega)]
  cases P with
  | nil => rfl
  | cons d t => simp only; rw [if_neg (by omega)]
theorem upP_right {i last : Nat} (r : α) (P : List α) (h1 : i % 2 = 1) (h2 : i ≤ last) : upP nd i last r P = match P with | [] => none | d :: t => upP nd (i / 2) (last / 2) (nd d r) t := by
  conv => lhs; rw [upP.eq_def]
  rw [dif_neg (by omega), if_neg (by omega)]
  cases P with
  | nil => rfl
  | cons d t => simp only; rw [if_pos h1]
theorem upP_skips (j : Nat) (r : α) (P : List α) : ∀ e, upP nd (j * 2 ^ e) (j * 2 ^ e) r P = upP nd j j r P
  | 0 => by rw [Nat.pow_zero, Nat.mul_one]
  | e + 1 => by
    rw [upP_skip nd r P (by rw [Nat.pow_succ, ← Nat.mul_assoc]; exact Nat.mul_mod_left _ _) rfl, Nat.pow_succ, ← Nat.mul_assoc, Nat.mul_div_cancel _ (by decide)]
    exact upP_skips j r P e
theorem frontP_one {i n : Nat} (r : α) (P : List α) (h : n ≤ 1) : frontP nd r i n P = some (r, P) := by rw [frontP, dif_pos h]
theorem frontP_left {i n : Nat} (r : α) (P : List α) (h : 2 ≤ n) (hi : i < splitN n) : frontP nd r i n P = match frontP nd r i (splitN n) P with | some (d, x :: t) => some (nd d x, t) | _ => none := by
  rw [frontP, dif_neg (by omega), if_pos hi]
theorem frontP_right {i n : Nat} (r : α) (P : List α) (h : 2 ≤ n) (hi : ¬ i < splitN n) : frontP nd r i n P = match frontP nd r (i - splitN n) (n - splitN n) P with | some (d, x :: t) => some (nd x d, t) | _ => none := by
  rw [frontP, dif_neg (by omega), if_neg hi]
theorem bits_of {n s : Nat} (h : 1 ≤ n) (hs : n ≤ 2 ^ s) : ∃ e, e ≤ s ∧ n ≤ 2 ^ e ∧ 2 ^ e < 2 * n := by
  induction s with
  | zero => exact ⟨0, Nat.le_refl _, hs, by rw [Nat.pow_zero]; omega⟩
  | succ s ih =>
    by_cases hn : n ≤ 2 ^ s
    · obtain ⟨e, h1, h2, h3⟩ := ih hn
      exact ⟨e, by omega, h2, h3⟩
    · exact ⟨s + 1, Nat.le_refl _, hs, by rw [Nat.pow_succ]; omega⟩
theorem front_up (s : Nat) : ∀ (n i q last : Nat) (r : α) (P : List α), n ≤ 2 ^ s → 2 ^ s < 2 * n → i < n → (last + 1 = q * 2 ^ s + n ∨ (n = 2 ^ s ∧ q * 2 ^ s + n ≤ last)) →
    upP nd (q * 2 ^ s + i) last r P = match frontP nd r i n P with | some (d, P') => upP nd q (last / 2 ^ s) d P' | none => none := by
  induction s using Nat.strongRecOn with
  | _ s ih =>
    intro n i q last r P h1 h2 hi hl
    cases s with
    | zero =>
      rw [Nat.pow_zero] at h1 h2 hl ⊢
      rw [frontP_one nd r P (by omega)]
      simp only
      rw [Nat.mul_one, Nat.div_one, show i = 0 by omega, Nat.add_zero]
    | succ s =>
      have hp : 0 < 2 ^ s := Nat.pos_of_ne_zero (by simp)
      have hps : 2 ^ (s + 1) = 2 * 2 ^ s := by rw [Nat.pow_succ, Nat.mul_comm]
      have hq : q * 2 ^ (s + 1) = (2 * q) * 2 ^ s := by rw [hps, ← Nat.mul_assoc, Nat.mul_comm q 2]
      have hk : splitN n = 2 ^ s := splitN_eq (by omega) h1
      have hdd : last / 2 ^ s / 2 = last / 2 ^ (s + 1) := by rw [Nat.div_div_eq_div_mul, hps, Nat.mul_comm]
      rw [hps] at h1 h2
      rw [hq] at hl ⊢
      by_cases hlt : i < 2 ^ s
      · rw [frontP_left nd r P (by omega) (by rw [hk]; exact hlt), hk, ih s (by omega) (2 ^ s) i (2 * q) last r P (Nat.le_refl _) (by omega) hlt (.inr ⟨rfl, by omega⟩)]
        have hlast : 2 * q + 1 ≤ last / 2 ^ s := by
          rw [Nat.le_div_iff_mul_le hp, Nat.add_mul, Nat.one_mul]; omega
        cases hf : frontP nd r i (2 ^ s) P with
        | none => rfl
        | some v =>
          obtain ⟨d, P'⟩ := v
          simp only
          rw [upP_left nd d P' (by omega) (by omega), hdd, Nat.mul_div_cancel_left _ (by decide)]
          cases P' with
          | nil => rfl
          | cons x t => rfl
      · rw [frontP_right nd r P (by omega) (by rw [hk]; exact hlt), hk]
        obtain ⟨e, he, e1, e2⟩ := bits_of (n := n - 2 ^ s) (s := s) (by omega) (by omega)
        obtain ⟨f, rfl⟩ : ∃ f, s = e + f := ⟨s - e, by omega⟩
        have hpe : 0 < 2 ^ e := Nat.pos_of_ne_zero (by simp)
        have hpf : 2 ^ (e + f) = 2 ^ f * 2 ^ e := by rw [Nat.pow_add, Nat.mul_comm]
        have ho : 2 * q * 2 ^ (e + f) + 2 ^ (e + f) = (2 * q + 1) * 2 ^ f * 2 ^ e := by rw [hpf, Nat.add_mul, Nat.one_mul, Nat.add_mul, Nat.mul_assoc (2 * q)]
        have hfull : n ≠ 2 * 2 ^ (e + f) ∨ f = 0 := by
          by_cases hn : n = 2 * 2 ^ (e + f)
          · right
            have : 2 ^ f * 2 ^ e ≤ 1 * 2 ^ e := by rw [← hpf]; omega
            have h3 := Nat.le_of_mul_le_mul_right this hpe
            cases f with
            | zero => rfl
            | succ f => rw [Nat.pow_succ] at h3; have : 0 < 2 ^ f := Nat.pos_of_ne_zero (by simp); omega
          · exact .inl hn
        have hI := ih e (by omega) (n - 2 ^ (e + f)) (i - 2 ^ (e + f)) ((2 * q + 1) * 2 ^ f) last r P e1 e2 (by omega) (by
          rw [← ho]
          rcases hl with hl | ⟨hl1, hl2⟩
          · exact .inl (by omega)
          · rw [hps] at hl1
            rcases hfull with hx | hx
            · exact absurd hl1 hx
            · subst hx
              simp only [Nat.add_zero, Nat.pow_zero, Nat.mul_one] at hl1 hl2 ho ⊢
              exact .inr ⟨by omega, by omega⟩)
        rw [← ho] at hI
        rw [show 2 * q * 2 ^ (e + f) + i = 2 * q * 2 ^ (e + f) + 2 ^ (e + f) + (i - 2 ^ (e + f)) by omega, hI]
        cases hf : frontP nd r (i - 2 ^ (e + f)) (n - 2 ^ (e + f)) P with
        | none => rfl
        | some v =>
          obtain ⟨d, P'⟩ := v
          simp only
          have hup : upP nd ((2 * q + 1) * 2 ^ f) (last / 2 ^ e) d P' = upP nd (2 * q + 1) (last / 2 ^ (e + f)) d P' := by
            rcases hl with hl | ⟨hl1, hl2⟩
            · have hle : last / 2 ^ e = (2 * q + 1) * 2 ^ f := by
                refine Nat.div_eq_of_lt_le ?_ ?_
                · rw [← ho]; omega
                · rw [Nat.add_mul, Nat.one_mul, ← ho]; omega
              have hls : last / 2 ^ (e + f) = 2 * q + 1 := by
                rw [Nat.pow_add, ← Nat.div_div_eq_div_mul, hle, Nat.mul_div_cancel _ (Nat.pos_of_ne_zero (by simp))]
              rw [hle, hls]
              exact upP_skips nd (2 * q + 1) d P' f
            · rw [hps] at hl1
              rcases hfull with hx | hx
              · exact absurd hl1 hx
              · subst hx; simp
          rw [hup]
          have hlast : 2 * q + 1 ≤ last / 2 ^ (e + f) := by
            rw [Nat.le_div_iff_mul_le hp, Nat.add_mul, Nat.one_mul]; omega
          rw [upP_right nd d P' (by omega) hlast, hdd, show (2 * q + 1) / 2 = q by omega]
          cases P' with
          | nil => rfl
          | cons x t => rfl
theorem up_front {i n : Nat} (hi : i < n) (r : α) (P : List α) : upP nd i (n - 1) r P = match frontP nd r i n P with | some (d, []) => some d | _ => none := by
  obtain ⟨s, _, h1, h2⟩ := bits_of (n := n) (s := n) (by omega) (Nat.le_of_lt Nat.lt_two_pow_self)
  have h := front_up nd s n i 0 (n - 1) r P h1 h2 hi (.inl (by omega))
  rw [Nat.zero_mul, Nat.zero_add, Nat.div_eq_of_lt (by omega)] at h
  rw [h]
  cases frontP nd r i n P with
  | none => rfl
  | some v =>
    obtain ⟨d, P'⟩ := v
    simp only
    rw [upP_zero]
    cases P' with
    | nil => rfl
    | cons x t => rfl
/-- how many digests a proof of a place has -/
def deepP (i n : Nat) : Nat :=
  if _h : n ≤ 1 then 0 else if i < splitN n then deepP i (splitN n) + 1 else deepP (i - splitN n) (n - splitN n) + 1
termination_by n
decreasing_by
  · exact splitN_lt (by omega)
  · have := splitN_pos n; omega
theorem deepP_one {i n : Nat} (h : n ≤ 1) : deepP i n = 0 := by rw [deepP, dif_pos h]
theorem deepP_left {i n : Nat} (h : 2 ≤ n) (hi : i < splitN n) : deepP i n = deepP i (splitN n) + 1 := by rw [deepP, dif_neg (by omega), if_pos hi]
theorem deepP_right {i n : Nat} (h : 2 ≤ n) (hi : ¬ i < splitN n) : deepP i n = deepP (i - splitN n) (n - splitN n) + 1 := by rw [deepP, dif_neg (by omega), if_neg hi]
theorem lead_len (r : α) : ∀ (R : List α) (i n : Nat) (d : α), 1 ≤ n → leadR nd r i n R = some d → R.length = deepP i n
  | [], i, n, d, h1, h => by
    rw [leadR] at h
    split at h
    · rw [deepP_one (by omega)]; rfl
    · cases h
  | x :: t, i, n, d, h1, h => by
    rw [leadR] at h
    have hs := splitN_pos n
    split at h
    · cases h
    · have h2 : 2 ≤ n := by omega
      have h3 := splitN_lt h2
      split at h
      · rename_i hi
        obtain ⟨y, hy, _⟩ := Option.map_eq_some_iff.1 h
        rw [List.length_cons, lead_len r t _ _ y hs hy, deepP_left h2 hi]
      · rename_i hi
        obtain ⟨y, hy, _⟩ := Option.map_eq_some_iff.1 h
        rw [List.length_cons, lead_len r t _ _ y (by omega) hy, deepP_right h2 hi]
theorem front_len (r : α) (n : Nat) : ∀ (i : Nat) (P : List α), 1 ≤ n → (P.length < deepP i n → frontP nd r i n P = none) ∧ (deepP i n ≤ P.length → ∃ d, frontP nd r i n P = some (d, P.drop (deepP i n)) ∧ leadR nd r i n (P.take (deepP i n)).reverse = some d) := by
  induction n using Nat.strongRecOn with
  | _ n ih =>
    intro i P h1
    by_cases h2 : 2 ≤ n
    · have hs := splitN_pos n
      have h3 := splitN_lt h2
      by_cases hi : i < splitN n
      · rw [deepP_left h2 hi, frontP_left nd r P h2 hi]
        obtain ⟨q1, q2⟩ := ih (splitN n) h3 i P hs
        refine ⟨fun hl => ?_, fun hl => ?_⟩
        · by_cases hl2 : P.length < deepP i (splitN n)
          · rw [q1 hl2]
          · obtain ⟨d, hd, _⟩ := q2 (by omega)
            rw [hd, List.drop_eq_nil_of_le (by omega)]
        · obtain ⟨d, hd, hd2⟩ := q2 (by omega)
          have hx := List.drop_eq_getElem_cons (l := P) (i := deepP i (splitN n)) (by omega)
          have ht : P.take (deepP i (splitN n) + 1) = P.take (deepP i (splitN n)) ++ [P[deepP i (splitN n)]] := by rw [List.take_add_one, List.getElem?_eq_getElem (by omega)]; rfl
          refine ⟨_, by rw [hd, hx], ?_⟩
          rw [ht, List.reverse_append, List.reverse_singleton, List.singleton_append, leadR, if_neg (by omega), if_pos hi, hd2]
          rfl
      · rw [deepP_right h2 hi, frontP_right nd r P h2 hi]
        obtain ⟨q1, q2⟩ := ih (n - splitN n) (by omega) (i - splitN n) P (by omega)
        refine ⟨fun hl => ?_, fun hl => ?_⟩
        · by_cases hl2 : P.length < deepP (i - splitN n) (n - splitN n)
          · rw [q1 hl2]
          · obtain ⟨d, hd, _⟩ := q2 (by omega)
            rw [hd, List.drop_eq_nil_of_le (by omega)]
        · obtain ⟨d, hd, hd2⟩ := q2 (by omega)
          have hx := List.drop_eq_getElem_cons (l := P) (i := deepP (i - splitN n) (n - splitN n)) (by omega)
          have ht : P.take (deepP (i - splitN n) (n - splitN n) + 1) = P.take (deepP (i - splitN n) (n - splitN n)) ++ [P[deepP (i - splitN n) (n - splitN n)]] := by rw [List.take_add_one, List.getElem?_eq_getElem (by omega)]; rfl
          refine ⟨_, by rw [hd, hx], ?_⟩
          rw [ht, List.reverse_append, List.reverse_singleton, List.singleton_append, leadR, if_neg (by omega), if_neg hi, hd2]
          rfl
    · rw [deepP_one (by omega), frontP_one nd r P (by omega)]
      refine ⟨fun hl => by omega, fun _ => ⟨r, rfl, ?_⟩⟩
      rw [List.take_zero, List.reverse_nil, leadR, if_pos (by omega)]
/-- from the leaf on a proof leads where it leads its last digest first -/
theorem up_lead {i n : Nat} (hi : i < n) (r : α) (P : List α) : upP nd i (n - 1) r P = leadR nd r i n P.reverse := by
  rw [up_front nd hi]
  obtain ⟨q1, q2⟩ := front_len nd r n i P (by omega)
  by_cases hl : P.length < deepP i n
  · rw [q1 hl]
    cases h : leadR nd r i n P.reverse with
    | none => rfl
    | some d => have := lead_len nd r _ _ _ _ (by omega) h; rw [List.length_reverse] at this; omega
  · obtain ⟨d, hd, hd2⟩ := q2 (by omega)
    rw [hd]
    by_cases he : P.length = deepP i n
    · rw [← he, List.drop_length]
      rw [← he, List.take_length] at hd2
      exact hd2.symm
    · have hx := List.drop_eq_getElem_cons (l := P) (i := deepP i n) (by omega)
      rw [hx]
      cases h : leadR nd r i n P.reverse with
      | none => rfl
      | some d => have := lead_len nd r _ _ _ _ (by omega) h; rw [List.length_reverse] at this; omega
theorem deep_le (s : Nat) : ∀ (n i : Nat), n ≤ 2 ^ s → deepP i n ≤ s := by
  induction s with
  | zero => intro n i h; rw [deepP_one (by simpa using h)]; exact Nat.le_refl _
  | succ s ih =>
    intro n i h
    by_cases h2 : 2 ≤ n
    · have h3 := splitN_lt h2
      have h4 := splitN_ge (n := n)
      have hk : splitN n ≤ 2 ^ s := by
        have : 2 ^ Nat.log2 (n - 1) < 2 ^ (s + 1) := Nat.lt_of_lt_of_le h3 h
        have := (Nat.pow_lt_pow_iff_right (by decide : 1 < 2)).1 this
        exact Nat.pow_le_pow_right (by decide) (by omega)
      by_cases hi : i < splitN n
      · rw [deepP_left h2 hi]; have := ih _ i hk; omega
      · rw [deepP_right h2 hi]; have := ih (n - splitN n) (i - splitN n) (by omega); omega
    · rw [deepP_one (by omega)]; omega
theorem incP_one {L : List α} (i : Nat) (h : L.length ≤ 1) : incP nd e0 L i = [] := by rw [incP, dif_pos h]
theorem incP_left {L : List α} {i : Nat} (h : 2 ≤ L.length) (hi : i < splitN L.length) : incP nd e0 L i = incP nd e0 (L.take (splitN L.length)) i ++ [rootP nd e0 (L.drop (splitN L.length))] := by
  rw [incP, dif_neg (by omega), if_pos hi]
theorem incP_right {L : List α} {i : Nat} (h : 2 ≤ L.length) (hi : ¬ i < splitN L.length) : incP nd e0 L i = incP nd e0 (L.drop (splitN L.length)) (i - splitN L.length) ++ [rootP nd e0 (L.take (splitN L.length))] := by
  rw [incP, dif_neg (by omega), if_neg hi]
theorem inc_len (N : Nat) : ∀ (L : List α) (i : Nat), L.length = N → (incP nd e0 L i).length = deepP i L.length := by
  induction N using Nat.strongRecOn with
  | _ N ih =>
    intro L i hN
    by_cases h2 : 2 ≤ L.length
    · have h3 := splitN_lt h2
      have h4 := splitN_pos L.length
      have e1 : (L.take (splitN L.length)).length = splitN L.length := by rw [List.length_take]; omega
      have e2 : (L.drop (splitN L.length)).length = L.length - splitN L.length := List.length_drop
      by_cases hi : i < splitN L.length
      · rw [incP_left nd e0 h2 hi, deepP_left h2 hi, List.length_append, ih _ (by omega) _ i rfl, e1]; rfl
      · rw [incP_right nd e0 h2 hi, deepP_right h2 hi, List.length_append, ih _ (by omega) _ _ rfl, e2]; rfl
    · rw [incP_one nd e0 i (by omega), deepP_one (by omega)]; rfl
/-- the proof of a place leads from it to the root -/
theorem lead_inc (N : Nat) : ∀ (L : List α) (i : Nat) (d : α), L.length = N → L[i]? = some d → leadR nd d i L.length (incP nd e0 L i).reverse = some (rootP nd e0 L) := by
  induction N using Nat.strongRecOn with
  | _ N ih =>
    intro L i d hN hd
    have hil : i < L.length := (List.getElem?_eq_some_iff.1 hd).1
    by_cases h2 : 2 ≤ L.length
    · have h3 := splitN_lt h2
      have h4 := splitN_pos L.length
      have e1 : (L.take (splitN L.length)).length = splitN L.length := by rw [List.length_take]; omega
      have e2 : (L.drop (splitN L.length)).length = L.length - splitN L.length := List.length_drop
      by_cases hi : i < splitN L.length
      · have h := ih _ (by omega) (L.take (splitN L.length)) i d rfl (by rw [List.getElem?_take, if_pos hi]; exact hd)
        rw [e1] at h
        rw [incP_left nd e0 h2 hi, List.reverse_append, List.reverse_singleton, List.singleton_append, leadR, if_neg (by omega), if_pos hi, h, rootP_two nd e0 h2]
        rfl
      · have h := ih _ (by omega) (L.drop (splitN L.length)) (i - splitN L.length) d rfl (by rw [List.getElem?_drop, show splitN L.length + (i - splitN L.length) = i by omega]; exact hd)
        rw [e2] at h
        rw [incP_right nd e0 h2 hi, List.reverse_append, List.reverse_singleton, List.singleton_append, leadR, if_neg (by omega), if_neg hi, h, rootP_two nd e0 h2]
        rfl
    · rw [incP_one nd e0 i (by omega), List.reverse_nil, leadR, if_pos (by omega)]
      cases L with
      | nil => simp at hil
      | cons x t =>
        simp only [List.length_cons] at h2
        obtain rfl : t = [] := List.eq_nil_of_length_eq_zero (by omega)
        simp only [List.length_cons, List.length_nil] at hil
        obtain rfl : i = 0 := by omega
        rw [rootP_one]
        exact hd.symm
/-- where a part leads, its last digest first: the old root, the new one -/
def leadsR (old : α) : Nat → Nat → Bool → List α → Option (α × α)
  | m, n, w, [] => if m = n ∧ w = true then some (old, old) else none
  | m, n, w, d :: t => if m = n then (if w then none else if t = [] then some (d, d) else none)
    else if m ≤ splitN n then (leadsR old m (splitN n) w t).map fun x => (x.1, nd x.2 d)
    else (leadsR old (m - splitN n) (n - splitN n) false t).map fun x => (nd d x.1, nd d x.2)
/-- the same, from the first digest on -/
def frontC (old : α) (m n : Nat) (w : Bool) (P : List α) : Option ((α × α) × List α) :=
  if m = n then (if w then some ((old, old), P) else match P with | [] => none | d :: t => some ((d, d), t))
  else if _h : n ≤ 1 then none
  else if m ≤ splitN n then
    match frontC old m (splitN n) w P with
    | some (v, x :: t) => some ((v.1, nd v.2 x), t)
    | _ => none
  else
    match frontC old (m - splitN n) (n - splitN n) false P with
    | some (v, x :: t) => some ((nd x v.1, nd x v.2), t)
    | _ => none
termination_by n
decreasing_by
  · exact splitN_lt (by omega)
  · have := splitN_pos n; omega
/-- from the beginning's last place on -/
def upC (i last : Nat) (v : α × α) (P : List α) : Option (α × α) :=
  if _h : last = 0 then (if P = [] then some v else none)
  else if i % 2 = 0 ∧ i = last then upC (i / 2) (last / 2) v P
  else match P with
    | [] => none
    | d :: t => if i % 2 = 1 then upC (i / 2) (last / 2) (nd d v.1, nd d v.2) t else upC (i / 2) (last / 2) (v.1, nd v.2 d) t
termination_by last
decreasing_by all_goals omega
def upS (old : α) (i last : Nat) (P : List α) : Option (α × α) :=
  if _h : i % 2 = 1 then upS old (i / 2) (last / 2) P
  else if i = 0 then upC nd 0 last (old, old) P
  else match P with
    | [] => none
    | d :: t => upC nd i last (d, d) t
termination_by i
decreasing_by omega
theorem upC_zero (i : Nat) (v : α × α) (P : List α) : upC nd i 0 v P = if P = [] then some v else none := by
  conv => lhs; rw [upC.eq_def]
  rw [dif_pos rfl]
theorem upC_skip {i last : Nat} (v : α × α) (P : List α) (h1 : i % 2 = 0) (h2 : i = last) : upC nd i last v P = upC nd (i / 2) (last / 2) v P := by
  by_cases h : last = 0
  · subst h2; subst h; rfl
  · conv => lhs; rw [upC.eq_def]
    rw [dif_neg h, if_pos ⟨h1, h2⟩]
theorem upC_left {i last : Nat} (v : α × α) (P : List α) (h1 : i % 2 = 0) (h2 : i < last) : upC nd i last v P = match P with | [] => none | d :: t => upC nd (i / 2) (last / 2) (v.1, nd v.2 d) t := by
  conv => lhs; rw [upC.eq_def]
  rw [dif_neg (by omega), if_neg (by omega)]
  cases P with
  | nil => rfl
  | cons d t => simp only; rw [if_neg (by omega)]
theorem upC_right {i last : Nat} (v : α × α) (P : List α) (h1 : i % 2 = 1) (h2 : i ≤ last) : upC nd i last v P = match P with | [] => none | d :: t => upC nd (i / 2) (last / 2) (nd d v.1, nd d v.2) t := by
  conv => lhs; rw [upC.eq_def]
  rw [dif_neg (by omega), if_neg (by omega)]
  cases P with
  | nil => rfl
  | cons d t => simp only; rw [if_pos h1]
theorem upC_skips (j : Nat) (v : α × α) (P : List α) : ∀ e, upC nd (j * 2 ^ e) (j * 2 ^ e) v P = upC nd j j v P
  | 0 => by rw [Nat.pow_zero, Nat.mul_one]
  | e + 1 => by
    rw [upC_skip nd v P (by rw [Nat.pow_succ, ← Nat.mul_assoc]; exact Nat.mul_mod_left _ _) rfl, Nat.pow_succ, ← Nat.mul_assoc, Nat.mul_div_cancel _ (by decide)]
    exact upC_skips j v P e
theorem upS_odd {i last : Nat} (old : α) (P : List α) (h : i % 2 = 1) : upS nd old i last P = upS nd old (i / 2) (last / 2) P := by
  conv => lhs; rw [upS.eq_def]
  rw [dif_pos h]
theorem upS_zero (last : Nat) (old : α) (P : List α) : upS nd old 0 last P = upC nd 0 last (old, old) P := by
  conv => lhs; rw [upS.eq_def]
  rw [dif_neg (by decide), if_pos rfl]
theorem upS_even {i last : Nat} (old : α) (P : List α) (h : i % 2 = 0) (h0 : i ≠ 0) : upS nd old i last P = match P with | [] => none | d :: t => upC nd i last (d, d) t := by
  conv => lhs; rw [upS.eq_def]
  rw [dif_neg (by omega), if_neg h0]
theorem upS_strips (old : α) (P : List α) (q : Nat) : ∀ (s last : Nat), upS nd old (q * 2 ^ s + 2 ^ s - 1) last P = upS nd old q (last / 2 ^ s) P
  | 0, last => by rw [Nat.pow_zero, Nat.mul_one, Nat.add_sub_cancel, Nat.div_one]
  | s + 1, last => by
    have hp : 0 < 2 ^ s := Nat.pos_of_ne_zero (by simp)
    have e1 : q * 2 ^ (s + 1) + 2 ^ (s + 1) = 2 * (q * 2 ^ s + 2 ^ s) := by rw [Nat.pow_succ, Nat.mul_add, ← Nat.mul_assoc, Nat.mul_comm 2 (q * 2 ^ s), Nat.mul_comm 2 (2 ^ s)]
    rw [e1, upS_odd nd old P (by omega), show (2 * (q * 2 ^ s + 2 ^ s) - 1) / 2 = q * 2 ^ s + 2 ^ s - 1 by omega, upS_strips old P q s, Nat.div_div_eq_div_mul, Nat.pow_succ, Nat.mul_comm 2]
theorem frontC_all {m n : Nat} (old : α) (w : Bool) (P : List α) (h : m = n) : frontC nd old m n w P = if w then some ((old, old), P) else match P with | [] => none | d :: t => some ((d, d), t) := by
  conv => lhs; rw [frontC.eq_def]
  rw [if_pos h]
theorem frontC_left {m n : Nat} (old : α) (w : Bool) (P : List α) (h : m ≠ n) (h2 : 2 ≤ n) (hm : m ≤ splitN n) : frontC nd old m n w P = match frontC nd old m (splitN n) w P with | some (v, x :: t) => some ((v.1, nd v.2 x), t) | _ => none := by
  conv => lhs; rw [frontC.eq_def]
  rw [if_neg h, dif_neg (by omega), if_pos hm]
theorem frontC_right {m n : Nat} (old : α) (w : Bool) (P : List α) (h : m ≠ n) (h2 : 2 ≤ n) (hm : ¬ m ≤ splitN n) : frontC nd old m n w P = match frontC nd old (m - splitN n) (n - splitN n) false P with | some (v, x :: t) => some ((nd x v.1, nd x v.2), t) | _ => none := by
  conv => lhs; rw [frontC.eq_def]
  rw [if_neg h, dif_neg (by omega), if_neg hm]
theorem front_upC (old : α) (s : Nat) : ∀ (n m q last : Nat) (P : List α), n ≤ 2 ^ s → 2 ^ s < 2 * n → 1 ≤ m → (m < n ∨ (m = n ∧ n = 2 ^ s ∧ q % 2 = 0)) → (last + 1 = q * 2 ^ s + n ∨ (n = 2 ^ s ∧ q * 2 ^ s + n ≤ last)) →
    upS nd old (q * 2 ^ s + m - 1) last P = match frontC nd old m n (decide (q = 0)) P with | some (v, P') => upC nd q (last / 2 ^ s) v P' | none => none := by
  induction s using Nat.strongRecOn with
  | _ s ih =>
    intro n m q last P h1 h2 hm hmn hl
    rcases hmn with hmn | ⟨rfl, hn, hq2⟩
    · cases s with
      | zero => rw [Nat.pow_zero] at h1; omega
      | succ s =>
        have hp : 0 < 2 ^ s := Nat.pos_of_ne_zero (by simp)
        have hps : 2 ^ (s + 1) = 2 * 2 ^ s := by rw [Nat.pow_succ, Nat.mul_comm]
        have hq : q * 2 ^ (s + 1) = (2 * q) * 2 ^ s := by rw [hps, ← Nat.mul_assoc, Nat.mul_comm q 2]
        have hk : splitN n = 2 ^ s := splitN_eq (by omega) h1
        have hdd : last / 2 ^ s / 2 = last / 2 ^ (s + 1) := by rw [Nat.div_div_eq_div_mul, hps, Nat.mul_comm]
        rw [hps] at h1 h2
        rw [hq] at hl ⊢
        by_cases hlt : m ≤ 2 ^ s
        · rw [frontC_left nd old _ P (by omega) (by omega) (by rw [hk]; exact hlt), hk, ih s (by omega) (2 ^ s) m (2 * q) last P (Nat.le_refl _) (by omega) hm (by omega) (.inr ⟨rfl, by omega⟩),
            show decide (2 * q = 0) = decide (q = 0) by congr 1; exact propext ⟨fun _ => by omega, fun _ => by omega⟩]
          have hlast : 2 * q + 1 ≤ last / 2 ^ s := by
            rw [Nat.le_div_iff_mul_le hp, Nat.add_mul, Nat.one_mul]; omega
          cases hf : frontC nd old m (2 ^ s) (decide (q = 0)) P with
          | none => rfl
          | some v =>
            obtain ⟨v, P'⟩ := v
            simp only
            rw [upC_left nd v P' (by omega) (by omega), hdd, Nat.mul_div_cancel_left _ (by decide)]
            cases P' with
            | nil => rfl
            | cons x t => rfl
        · rw [frontC_right nd old _ P (by omega) (by omega) (by rw [hk]; exact hlt), hk]
          obtain ⟨e, he, e1, e2⟩ := bits_of (n := n - 2 ^ s) (s := s) (by omega) (by omega)
          obtain ⟨f, rfl⟩ : ∃ f, s = e + f := ⟨s - e, by omega⟩
          have hpe : 0 < 2 ^ e := Nat.pos_of_ne_zero (by simp)
          have hpf : 2 ^ (e + f) = 2 ^ f * 2 ^ e := by rw [Nat.pow_add, Nat.mul_comm]
          have ho : 2 * q * 2 ^ (e + f) + 2 ^ (e + f) = (2 * q + 1) * 2 ^ f * 2 ^ e := by rw [hpf, Nat.add_mul, Nat.one_mul, Nat.add_mul, Nat.mul_assoc (2 * q)]
          have hq0 : (2 * q + 1) * 2 ^ f ≠ 0 := Nat.ne_of_gt (Nat.mul_pos (by omega) (Nat.pos_of_ne_zero (by simp)))
          have hfull : n ≠ 2 * 2 ^ (e + f) ∨ f = 0 := by
            by_cases hn : n = 2 * 2 ^ (e + f)
            · right
              have : 2 ^ f * 2 ^ e ≤ 1 * 2 ^ e := by rw [← hpf]; omega
              have h3 := Nat.le_of_mul_le_mul_right this hpe
              cases f with
              | zero => rfl
              | succ f => rw [Nat.pow_succ] at h3; have : 0 < 2 ^ f := Nat.pos_of_ne_zero (by simp); omega
            · exact .inl hn
          have hI := ih e (by omega) (n - 2 ^ (e + f)) (m - 2 ^ (e + f)) ((2 * q + 1) * 2 ^ f) last P e1 e2 (by omega) (.inl (by omega)) (by
            rw [← ho]
            rcases hl with hl | ⟨hl1, hl2⟩
            · exact .inl (by omega)
            · rw [hps] at hl1
              rcases hfull with hx | hx
              · exact absurd hl1 hx
              · subst hx
                simp only [Nat.add_zero, Nat.pow_zero, Nat.mul_one] at hl1 hl2 ho ⊢
                exact .inr ⟨by omega, by omega⟩)
          rw [← ho, decide_eq_false hq0] at hI
          rw [show 2 * q * 2 ^ (e + f) + m - 1 = 2 * q * 2 ^ (e + f) + 2 ^ (e + f) + (m - 2 ^ (e + f)) - 1 by omega, hI]
          cases hf : frontC nd old (m - 2 ^ (e + f)) (n - 2 ^ (e + f)) false P with
          | none => rfl
          | some v =>
            obtain ⟨v, P'⟩ := v
            simp only
            have hup : upC nd ((2 * q + 1) * 2 ^ f) (last / 2 ^ e) v P' = upC nd (2 * q + 1) (last / 2 ^ (e + f)) v P' := by
              rcases hl with hl | ⟨hl1, hl2⟩
              · have hle : last / 2 ^ e = (2 * q + 1) * 2 ^ f := by
                  refine Nat.div_eq_of_lt_le ?_ ?_
                  · rw [← ho]; omega
                  · rw [Nat.add_mul, Nat.one_mul, ← ho]; omega
                have hls : last / 2 ^ (e + f) = 2 * q + 1 := by
                  rw [Nat.pow_add, ← Nat.div_div_eq_div_mul, hle, Nat.mul_div_cancel _ (Nat.pos_of_ne_zero (by simp))]
                rw [hle, hls]
                exact upC_skips nd (2 * q + 1) v P' f
              · rw [hps] at hl1
                rcases hfull with hx | hx
                · exact absurd hl1 hx
                · subst hx; simp
            rw [hup]
            have hlast : 2 * q + 1 ≤ last / 2 ^ (e + f) := by
              rw [Nat.le_div_iff_mul_le hp, Nat.add_mul, Nat.one_mul]; omega
            rw [upC_right nd v P' (by omega) hlast, hdd, show (2 * q + 1) / 2 = q by omega]
            cases P' with
            | nil => rfl
            | cons x t => rfl
    · rw [frontC_all nd old _ P rfl, hn, upS_strips]
      by_cases hq : q = 0
      · subst hq
        rw [upS_zero]
        rfl
      · rw [decide_eq_false hq, upS_even nd old P hq2 hq]
        cases P with
        | nil => rfl
        | cons d t => rfl
theorem up_frontC {m n : Nat} (h1 : 1 ≤ m) (h2 : m < n) (old : α) (P : List α) : upS nd old (m - 1) (n - 1) P = match frontC nd old m n true P with | some (v, []) => some v | _ => none := by
  obtain ⟨s, _, e1, e2⟩ := bits_of (n := n) (s := n) (by omega) (Nat.le_of_lt Nat.lt_two_pow_self)
  have h := front_upC nd old s n m 0 (n - 1) P e1 e2 h1 (.inl h2) (.inl (by omega))
  rw [Nat.zero_mul, Nat.zero_add, Nat.div_eq_of_lt (by omega), decide_eq_true rfl] at h
  rw [h]
  cases frontC nd old m n true P with
  | none => rfl
  | some v =>
    obtain ⟨v, P'⟩ := v
    simp only
    rw [upC_zero]
    cases P' with
    | nil => rfl
    | cons x t => rfl
/-- how many digests the part has -/
def deepC (m n : Nat) (w : Bool) : Nat :=
  if m = n then (if w then 0 else 1)
  else if _h : n ≤ 1 then 0
  else if m ≤ splitN n then deepC m (splitN n) w + 1 else deepC (m - splitN n) (n - splitN n) false + 1
termination_by n
decreasing_by
  · exact splitN_lt (by omega)
  · have := splitN_pos n; omega
theorem deepC_all {m n : Nat} (w : Bool) (h : m = n) : deepC m n w = if w then 0 else 1 := by rw [deepC, if_pos h]
theorem deepC_left {m n : Nat} (w : Bool) (h : m ≠ n) (h2 : 2 ≤ n) (hm : m ≤ splitN n) : deepC m n w = deepC m (splitN n) w + 1 := by rw [deepC, if_neg h, dif_neg (by omega), if_pos hm]
theorem deepC_right {m n : Nat} (w : Bool) (h : m ≠ n) (h2 : 2 ≤ n) (hm : ¬ m ≤ splitN n) : deepC m n w = deepC (m - splitN n) (n - splitN n) false + 1 := by rw [deepC, if_neg h, dif_neg (by omega), if_neg hm]
theorem leads_len (old : α) : ∀ (R : List α) (m n : Nat) (w : Bool) (v : α × α), 1 ≤ m → m ≤ n → leadsR nd old m n w R = some v → R.length = deepC m n w
  | [], m, n, w, v, h1, h2, h => by
    rw [leadsR] at h
    split at h
    · rename_i hq
      rw [deepC_all w hq.1, hq.2]; rfl
    · cases h
  | x :: t, m, n, w, v, h1, h2, h => by
    rw [leadsR] at h
    have hs := splitN_pos n
    split at h
    · rename_i hmn
      cases w with
      | true => cases h
      | false =>
        simp only [Bool.false_eq_true, if_false] at h
        split at h
        · rename_i ht
          rw [deepC_all false hmn, ht]; rfl
        · cases h
    · rename_i hmn
      have h2' : 2 ≤ n := by omega
      have h3 := splitN_lt h2'
      split at h
      · rename_i hi
        obtain ⟨y, hy, _⟩ := Option.map_eq_some_iff.1 h
        rw [List.length_cons, leads_len old t _ _ _ y h1 hi hy, deepC_left w hmn h2' hi]
      · rename_i hi
        obtain ⟨y, hy, _⟩ := Option.map_eq_some_iff.1 h
        rw [List.length_cons, leads_len old t _ _ _ y (by omega) (by omega) hy, deepC_right w hmn h2' hi]
theorem frontC_len (old : α) (n : Nat) : ∀ (m : Nat) (w : Bool) (P : List α), 1 ≤ m → m ≤ n → (P.length < deepC m n w → frontC nd old m n w P = none) ∧ (deepC m n w ≤ P.length → ∃ v, frontC nd old m n w P = some (v, P.drop (deepC m n w)) ∧ leadsR nd old m n w (P.take (deepC m n w)).reverse = some v) := by
  induction n using Nat.strongRecOn with
  | _ n ih =>
    intro m w P h1 hmn
    by_cases he : m = n
    · rw [deepC_all w he, frontC_all nd old w P he]
      cases w with
      | true =>
        refine ⟨fun hl => by simp at hl, fun _ => ⟨(old, old), rfl, ?_⟩⟩
        simp only [if_true, List.take_zero, List.reverse_nil]
        rw [leadsR, if_pos ⟨he, rfl⟩]
      | false =>
        simp only [Bool.false_eq_true, if_false]
        cases P with
        | nil => exact ⟨fun _ => rfl, fun hl => by simp at hl⟩
        | cons d t =>
          refine ⟨fun hl => by simp at hl, fun _ => ⟨(d, d), rfl, ?_⟩⟩
          simp only [List.take_succ_cons, List.take_zero, List.reverse_singleton]
          rw [leadsR, if_pos he]
          rfl
    · have h2 : 2 ≤ n := by omega
      have hs := splitN_pos n
      have h3 := splitN_lt h2
      by_cases hi : m ≤ splitN n
      · rw [deepC_left w he h2 hi, frontC_left nd old w P he h2 hi]
        obtain ⟨q1, q2⟩ := ih (splitN n) h3 m w P h1 hi
        refine ⟨fun hl => ?_, fun hl => ?_⟩
        · by_cases hl2 : P.length < deepC m (splitN n) w
          · rw [q1 hl2]
          · obtain ⟨v, hd, _⟩ := q2 (by omega)
            rw [hd, List.drop_eq_nil_of_le (by omega)]
        · obtain ⟨v, hd, hd2⟩ := q2 (by omega)
          have hx := List.drop_eq_getElem_cons (l := P) (i := deepC m (splitN n) w) (by omega)
          have ht : P.take (deepC m (splitN n) w + 1) = P.take (deepC m (splitN n) w) ++ [P[deepC m (splitN n) w]] := by rw [List.take_add_one, List.getElem?_eq_getElem (by omega)]; rfl
          refine ⟨_, by rw [hd, hx], ?_⟩
          rw [ht, List.reverse_append, List.reverse_singleton, List.singleton_append, leadsR, if_neg he, if_pos hi, hd2]
          rfl
      · rw [deepC_right w he h2 hi, frontC_right nd old w P he h2 hi]
        obtain ⟨q1, q2⟩ := ih (n - splitN n) (by omega) (m - splitN n) false P (by omega) (by omega)
        refine ⟨fun hl => ?_, fun hl => ?_⟩
        · by_cases hl2 : P.length < deepC (m - splitN n) (n - splitN n) false
          · rw [q1 hl2]
          · obtain ⟨v, hd, _⟩ := q2 (by omega)
            rw [hd, List.drop_eq_nil_of_le (by omega)]
        · obtain ⟨v, hd, hd2⟩ := q2 (by omega)
          have hx := List.drop_eq_getElem_cons (l := P) (i := deepC (m - splitN n) (n - splitN n) false) (by omega)
          have ht : P.take (deepC (m - splitN n) (n - splitN n) false + 1) = P.take (deepC (m - splitN n) (n - splitN n) false) ++ [P[deepC (m - splitN n) (n - splitN n) false]] := by rw [List.take_add_one, List.getElem?_eq_getElem (by omega)]; rfl
          refine ⟨_, by rw [hd, hx], ?_⟩
          rw [ht, List.reverse_append, List.reverse_singleton, List.singleton_append, leadsR, if_neg he, if_neg hi, hd2]
          rfl
/-- from the beginning's last place on a part leads where it leads its last digest first -/
theorem up_leads {m n : Nat} (h1 : 1 ≤ m) (h2 : m < n) (old : α) (P : List α) : upS nd old (m - 1) (n - 1) P = leadsR nd old m n true P.reverse := by
  rw [up_frontC nd h1 h2]
  obtain ⟨q1, q2⟩ := frontC_len nd old n m true P h1 (by omega)
  by_cases hl : P.length < deepC m n true
  · rw [q1 hl]
    cases h : leadsR nd old m n true P.reverse with
    | none => rfl
    | some d => have := leads_len nd old _ _ _ _ _ h1 (by omega) h; rw [List.length_reverse] at this; omega
  · obtain ⟨d, hd, hd2⟩ := q2 (by omega)
    rw [hd]
    by_cases he : P.length = deepC m n true
    · rw [← he, List.drop_length]
      rw [← he, List.take_length] at hd2
      exact hd2.symm
    · have hx := List.drop_eq_getElem_cons (l := P) (i := deepC m n true) (by omega)
      rw [hx]
      cases h : leadsR nd old m n true P.reverse with
      | none => rfl
      | some d => have := leads_len nd old _ _ _ _ _ h1 (by omega) h; rw [List.length_reverse] at this; omega
theorem deepC_le (s : Nat) : ∀ (n m : Nat) (w : Bool), 1 ≤ m → m ≤ n → n ≤ 2 ^ s → deepC m n w ≤ s + 1 := by
  induction s with
  | zero => intro n m w h1 h2 h; rw [deepC_all w (by rw [Nat.pow_zero] at h; omega)]; split <;> omega
  | succ s ih =>
    intro n m w h1 h2 h
    by_cases he : m = n
    · rw [deepC_all w he]; split <;> omega
    · have h3 := splitN_lt (n := n) (by omega)
      have h4 := splitN_ge (n := n)
      have hk : splitN n ≤ 2 ^ s := by
        have : 2 ^ Nat.log2 (n - 1) < 2 ^ (s + 1) := Nat.lt_of_lt_of_le h3 h
        have := (Nat.pow_lt_pow_iff_right (by decide : 1 < 2)).1 this
        exact Nat.pow_le_pow_right (by decide) (by omega)
      by_cases hi : m ≤ splitN n
      · rw [deepC_left w he (by omega) hi]; have := ih _ m w h1 hi hk; omega
      · rw [deepC_right w he (by omega) hi]; have := ih (n - splitN n) (m - splitN n) false (by omega) (by omega) (by omega); omega
theorem partP_all {L : List α} {m : Nat} (w : Bool) (h : m = L.length) : partP nd e0 L m w = if w then [] else [rootP nd e0 L] := by rw [partP, if_pos h]
theorem partP_left {L : List α} {m : Nat} (w : Bool) (h : m ≠ L.length) (h2 : 2 ≤ L.length) (hm : m ≤ splitN L.length) : partP nd e0 L m w = partP nd e0 (L.take (splitN L.length)) m w ++ [rootP nd e0 (L.drop (splitN L.length))] := by rw [partP, if_neg h, dif_neg (by omega), if_pos hm]
theorem partP_right {L : List α} {m : Nat} (w : Bool) (h : m ≠ L.length) (h2 : 2 ≤ L.length) (hm : ¬ m ≤ splitN L.length) : partP nd e0 L m w = partP nd e0 (L.drop (splitN L.length)) (m - splitN L.length) false ++ [rootP nd e0 (L.take (splitN L.length))] := by rw [partP, if_neg h, dif_neg (by omega), if_neg hm]
theorem part_len (N : Nat) : ∀ (L : List α) (m : Nat) (w : Bool), L.length = N → 1 ≤ m → m ≤ L.length → (partP nd e0 L m w).length = deepC m L.length w := by
  induction N using Nat.strongRecOn with
  | _ N ih =>
    intro L m w hN h1 hm
    by_cases he : m = L.length
    · rw [partP_all nd e0 w he, deepC_all w he]; cases w <;> rfl
    · have h2 : 2 ≤ L.length := by omega
      have h3 := splitN_lt h2
      have h4 := splitN_pos L.length
      have e1 : (L.take (splitN L.length)).length = splitN L.length := by rw [List.length_take]; omega
      have e2 : (L.drop (splitN L.length)).length = L.length - splitN L.length := List.length_drop
      by_cases hi : m ≤ splitN L.length
      · rw [partP_left nd e0 w he h2 hi, deepC_left w he h2 hi, List.length_append, ih _ (by omega) _ m w rfl h1 (by omega), e1]; rfl
      · rw [partP_right nd e0 w he h2 hi, deepC_right w he h2 hi, List.length_append, ih _ (by omega) _ _ false rfl (by omega) (by omega), e2]; rfl
theorem splitN_mid {m n : Nat} (h : splitN n < m) (hm : m ≤ n) : splitN m = splitN n := by
  have h4 := splitN_ge (n := n)
  refine (splitN_eq (s := Nat.log2 (n - 1)) h ?_).trans rfl
  rw [Nat.pow_succ]
  unfold splitN at h4
  omega
/-- the part for a beginning leads to its root and to the list's -/
theorem leads_part (N : Nat) : ∀ (L : List α) (m : Nat) (w : Bool) (old : α), L.length = N → 1 ≤ m → m ≤ L.length → (w = true → old = rootP nd e0 (L.take m)) → leadsR nd old m L.length w (partP nd e0 L m w).reverse = some (rootP nd e0 (L.take m), rootP nd e0 L) := by
  induction N using Nat.strongRecOn with
  | _ N ih =>
    intro L m w old hN h1 hm ho
    by_cases he : m = L.length
    · have ht : L.take m = L := by rw [he, List.take_length]
      rw [partP_all nd e0 w he, ht]
      cases w with
      | true =>
        rw [ht] at ho
        simp only [if_true, List.reverse_nil]
        rw [leadsR, if_pos ⟨he, rfl⟩, ho rfl]
      | false =>
        simp only [Bool.false_eq_true, if_false, List.reverse_singleton]
        rw [leadsR, if_pos he]
        rfl
    · have h2 : 2 ≤ L.length := by omega
      have h3 := splitN_lt h2
      have h4 := splitN_pos L.length
      have e1 : (L.take (splitN L.length)).length = splitN L.length := by rw [List.length_take]; omega
      have e2 : (L.drop (splitN L.length)).length = L.length - splitN L.length := List.length_drop
      by_cases hi : m ≤ splitN L.length
      · have et : (L.take (splitN L.length)).take m = L.take m := by rw [List.take_take, Nat.min_eq_left hi]
        have h := ih _ (by omega) (L.take (splitN L.length)) m w old rfl h1 (by omega) (by rw [et]; exact ho)
        rw [e1, et] at h
        rw [partP_left nd e0 w he h2 hi, List.reverse_append, List.reverse_singleton, List.singleton_append, leadsR, if_neg he, if_pos hi, h, rootP_two nd e0 h2]
        rfl
      · have h := ih _ (by omega) (L.drop (splitN L.length)) (m - splitN L.length) false old rfl (by omega) (by omega) (fun h => by cases h)
        rw [e2] at h
        have eml : (L.take m).length = m := by rw [List.length_take]; omega
        have emk : splitN m = splitN L.length := splitN_mid (by omega) hm
        rw [partP_right nd e0 w he h2 hi, List.reverse_append, List.reverse_singleton, List.singleton_append, leadsR, if_neg he, if_neg hi, h, rootP_two nd e0 h2, rootP_two nd e0 (L := L.take m) (by omega), eml, emk,
          List.take_take, Nat.min_eq_left (by omega), List.drop_take]
        rfl
theorem rootP_all (p : α → Prop) (hn : ∀ a b, p (nd a b)) (h0 : p e0) (L : List α) (hL : ∀ d ∈ L, p d) : p (rootP nd e0 L) := by
  by_cases h2 : 2 ≤ L.length
  · rw [rootP_two nd e0 h2]; exact hn _ _
  · cases L with
    | nil => rw [rootP_nil]; exact h0
    | cons d t =>
      simp only [List.length_cons] at h2
      obtain rfl : t = [] := List.eq_nil_of_length_eq_zero (by omega)
      rw [rootP_one]
      exact hL d (by simp)
end
end Go.Proofs.YtbpbpdaohganaaaDoor
