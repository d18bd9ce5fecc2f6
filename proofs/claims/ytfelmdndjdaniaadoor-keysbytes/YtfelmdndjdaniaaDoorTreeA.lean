/-
  TreeA: ported texts, joined.
-/
import Derived.Test.YtfelmdndjdaniaaDoorDigA
import Derived.Test.YtfelmdndjdaniaaDoorMacA
import Derived.Test.YtfelmdndjdaniaaDoorOnce1
namespace Go.Proofs.YtfelmdndjdaniaaDoor
section
section
variable {α : Type} (ab : α → α → α) (z : α)
/-- the level above: each two that stand side by side -/
def levelT : List α → List α
  | a :: b :: r => ab a b :: levelT r
  | _ => []
theorem levelT_length : ∀ (m : Nat) (L : List α), L.length = 2 * m → (levelT ab L).length = m
  | 0, [], _ => rfl
  | 0, _ :: _, h => by simp at h
  | m + 1, [], h => by simp at h
  | m + 1, [_], h => by simp at h; omega
  | m + 1, a :: b :: r, h => by
    have hr : r.length = 2 * m := by simp at h; omega
    show (levelT ab r).length + 1 = m + 1
    rw [levelT_length m r hr]
theorem levelT_get : ∀ (m : Nat) (L : List α), L.length = 2 * m → ∀ i, i < m → (levelT ab L).getD i z = ab (L.getD (2 * i) z) (L.getD (2 * i + 1) z)
  | 0, _, _, i, h => by omega
  | m + 1, [], h, _, _ => by simp at h
  | m + 1, [_], h, _, _ => by simp at h; omega
  | m + 1, a :: b :: r, h, 0, _ => rfl
  | m + 1, a :: b :: r, h, i + 1, hi => by
    have hr : r.length = 2 * m := by simp at h; omega
    have := levelT_get m r hr i (by omega)
    show (levelT ab r).getD i z = _
    rw [this, show 2 * (i + 1) = 2 * i + 1 + 1 by omega, show 2 * i + 1 + 1 + 1 = (2 * i + 1) + 1 + 1 by omega]
    rfl
theorem levelT_take : ∀ (m : Nat) (L : List α), levelT ab (L.take (2 * m)) = (levelT ab L).take m
  | 0, L => by simp [levelT]
  | m + 1, [] => by simp [levelT]
  | m + 1, [a] => by
    rw [show 2 * (m + 1) = 2 * m + 1 + 1 by omega]
    simp [levelT]
  | m + 1, a :: b :: r => by
    rw [show 2 * (m + 1) = 2 * m + 1 + 1 by omega]
    show ab a b :: levelT ab (r.take (2 * m)) = ab a b :: (levelT ab r).take m
    rw [levelT_take m r]
theorem levelT_drop : ∀ (m : Nat) (L : List α), levelT ab (L.drop (2 * m)) = (levelT ab L).drop m
  | 0, L => by simp
  | m + 1, [] => by simp [levelT]
  | m + 1, [a] => by
    rw [show 2 * (m + 1) = 2 * m + 1 + 1 by omega]
    simp [levelT]
  | m + 1, a :: b :: r => by
    rw [show 2 * (m + 1) = 2 * m + 1 + 1 by omega]
    show levelT ab (r.drop (2 * m)) = (levelT ab r).drop m
    rw [levelT_drop m r]
/-- the root of 2^k leaves, by halves -/
def rootT : Nat → List α → α
  | 0, L => L.getD 0 z
  | k + 1, L => ab (rootT k (L.take (2 ^ k))) (rootT k (L.drop (2 ^ k)))
/-- the same, a level at a time -/
theorem rootT_level : ∀ (k : Nat) (L : List α), L.length = 2 ^ (k + 1) → rootT ab z (k + 1) L = rootT ab z k (levelT ab L)
  | 0, L, h => by
    match L, h with
    | [a, b], _ => rfl
  | k + 1, L, h => by
    have e : 2 ^ (k + 1) = 2 * 2 ^ k := by rw [Nat.pow_succ]; omega
    have h1 : (L.take (2 ^ (k + 1))).length = 2 ^ (k + 1) := by
      rw [List.length_take, h, Nat.pow_succ 2 (k + 1)]; omega
    have h2 : (L.drop (2 ^ (k + 1))).length = 2 ^ (k + 1) := by
      rw [List.length_drop, h, Nat.pow_succ 2 (k + 1)]; omega
    rw [rootT, rootT_level k _ h1, rootT_level k _ h2]
    show ab (rootT ab z k (levelT ab (L.take (2 ^ (k + 1))))) (rootT ab z k (levelT ab (L.drop (2 ^ (k + 1))))) = ab (rootT ab z k ((levelT ab L).take (2 ^ k))) (rootT ab z k ((levelT ab L).drop (2 ^ k)))
    rw [e, levelT_take, levelT_drop]
/-- a leaf's path, by halves -/
def pathT : Nat → List α → Nat → List α
  | 0, _, _ => []
  | k + 1, L, i => if i < 2 ^ k then pathT k (L.take (2 ^ k)) i ++ [rootT ab z k (L.drop (2 ^ k))] else pathT k (L.drop (2 ^ k)) (i - 2 ^ k) ++ [rootT ab z k (L.take (2 ^ k))]
theorem pathT_length : ∀ (k : Nat) (L : List α) (i : Nat), (pathT ab z k L i).length = k
  | 0, _, _ => rfl
  | k + 1, L, i => by
    rw [pathT]
    split
    · rw [List.length_append, pathT_length k]; rfl
    · rw [List.length_append, pathT_length k]; rfl
/-- the one beside -/
def besideN (i : Nat) : Nat := if i % 2 = 0 then i + 1 else i - 1
/-- the same, a level at a time -/
theorem pathT_level : ∀ (k : Nat) (L : List α) (i : Nat), L.length = 2 ^ (k + 1) → i < 2 ^ (k + 1) → pathT ab z (k + 1) L i = L.getD (besideN i) z :: pathT ab z k (levelT ab L) (i / 2)
  | 0, L, i, h, hi => by
    match L, h with
    | [a, b], _ =>
      match i, hi with
      | 0, _ => rfl
      | 1, _ => rfl
  | k + 1, L, i, h, hi => by
    have e : 2 ^ (k + 1) = 2 * 2 ^ k := by rw [Nat.pow_succ]; omega
    have e2 : 2 ^ (k + 2) = 2 * 2 ^ (k + 1) := by rw [Nat.pow_succ 2 (k + 1)]; omega
    have h1 : (L.take (2 ^ (k + 1))).length = 2 ^ (k + 1) := by rw [List.length_take, h]; omega
    have h2 : (L.drop (2 ^ (k + 1))).length = 2 ^ (k + 1) := by rw [List.length_drop, h]; omega
    have hdiv : i / 2 < 2 ^ k ↔ i < 2 ^ (k + 1) := by omega
    rw [pathT]
    by_cases hlt : i < 2 ^ (k + 1)
    · have hb : besideN i < 2 ^ (k + 1) := by unfold besideN; split <;> omega
      rw [if_pos hlt, pathT_level k _ i h1 hlt, rootT_level ab z k _ h2]
      have hg : (L.take (2 ^ (k + 1))).getD (besideN i) z = L.getD (besideN i) z := by
        rw [List.getD_eq_getElem?_getD, List.getD_eq_getElem?_getD, List.getElem?_take, if_pos hb]
      rw [hg, List.cons_append]
      congr 1
      show _ = (if i / 2 < 2 ^ k then _ else _)
      rw [if_pos (hdiv.2 hlt), e, levelT_take, levelT_drop]
    · have hj : i - 2 ^ (k + 1) < 2 ^ (k + 1) := by omega
      have hb : besideN i = 2 ^ (k + 1) + besideN (i - 2 ^ (k + 1)) := by
        unfold besideN
        have : (i - 2 ^ (k + 1)) % 2 = i % 2 := by omega
        rw [this]
        split <;> omega
      rw [if_neg hlt, pathT_level k _ (i - 2 ^ (k + 1)) h2 hj, rootT_level ab z k _ h1]
      have hg : (L.drop (2 ^ (k + 1))).getD (besideN (i - 2 ^ (k + 1))) z = L.getD (besideN i) z := by
        rw [List.getD_eq_getElem?_getD, List.getD_eq_getElem?_getD, List.getElem?_drop, hb]
      rw [hg, List.cons_append]
      congr 1
      show _ = (if i / 2 < 2 ^ k then _ else _)
      rw [if_neg (fun q => hlt (hdiv.1 q)), show (i - 2 ^ (k + 1)) / 2 = i / 2 - 2 ^ k by omega, e, levelT_take, levelT_drop]
/-- up a path -/
def climbT : α → Nat → List α → α
  | d, _, [] => d
  | d, i, p :: r => climbT (if i % 2 = 0 then ab d p else ab p d) (i / 2) r
theorem climb_path : ∀ (k : Nat) (L : List α) (i : Nat), L.length = 2 ^ k → i < 2 ^ k → climbT ab (L.getD i z) i (pathT ab z k L i) = rootT ab z k L
  | 0, L, i, h, hi => by
    obtain rfl : i = 0 := by simp at hi; omega
    rfl
  | k + 1, L, i, h, hi => by
    have e : 2 ^ (k + 1) = 2 * 2 ^ k := by rw [Nat.pow_succ]; omega
    have hl := levelT_length ab (2 ^ k) L (by omega)
    rw [pathT_level ab z k L i h hi, rootT_level ab z k L h, climbT, ← climb_path k (levelT ab L) (i / 2) hl (by omega)]
    congr 1
    rw [levelT_get ab z (2 ^ k) L (by omega) (i / 2) (by omega)]
    unfold besideN
    by_cases h2 : i % 2 = 0
    · rw [if_pos h2, if_pos h2, show 2 * (i / 2) = i by omega]
    · rw [if_neg h2, if_neg h2, show 2 * (i / 2) = i - 1 by omega, show i - 1 + 1 = i by omega]
theorem climb_app : ∀ (p q : List α) (d : α) (i : Nat), climbT ab d i (p ++ q) = climbT ab (climbT ab d i p) (i / 2 ^ p.length) q
  | [], q, d, i => by simp [climbT]
  | x :: p, q, d, i => by
    rw [List.cons_append, climbT, climb_app p q, climbT, List.length_cons, Nat.pow_succ, Nat.mul_comm, Nat.div_div_eq_div_mul]
theorem climb_mod : ∀ (p : List α) (d : α) (i : Nat), climbT ab d (i % 2 ^ p.length) p = climbT ab d i p
  | [], d, i => by simp [climbT]
  | x :: p, d, i => by
    have h1 : i % 2 ^ (p.length + 1) % 2 = i % 2 := by
      rw [Nat.pow_succ, Nat.mul_comm, Nat.mod_mul_right_mod]
    have h2 : i % 2 ^ (p.length + 1) / 2 = i / 2 % 2 ^ p.length := by
      rw [Nat.pow_succ, Nat.mul_comm, Nat.mod_mul_right_div_self]
    rw [List.length_cons, climbT, climbT, h1, h2, climb_mod p]
end
end
section
open Go.RowKit
/-- the node above two -/
def abL (a b : List UInt8) : List UInt8 := sumL (3 :: (a ++ b))
theorem abL_length (a b : List UInt8) : (abL a b).length = 32 := sumL_length _
abbrev rootD (k : Nat) (L : List (List UInt8)) : List UInt8 := rootT abL [] k L
abbrev pathD (k : Nat) (L : List (List UInt8)) (i : Nat) : List (List UInt8) := pathT abL [] k L i
abbrev climbD (d : List UInt8) (i : Nat) (p : List (List UInt8)) : List UInt8 := climbT abL d i p
theorem Digs.getD {L : List (List UInt8)} (h : Digs L) {i : Nat} (hi : i < L.length) : (L.getD i []).length = 32 := by
  rw [List.getD_eq_getElem?_getD, List.getElem?_eq_getElem hi]
  exact h _ (List.getElem_mem hi)
theorem getD_some {L : List (List UInt8)} {i : Nat} (hi : i < L.length) : L[i]? = some (L.getD i []) := by
  rw [List.getD_eq_getElem?_getD, List.getElem?_eq_getElem hi]; rfl
theorem Digs.dropL {L : List (List UInt8)} (h : Digs L) (n : Nat) : Digs (L.drop n) := fun d hd => h d (List.mem_of_mem_drop hd)
theorem Digs.one {d : List UInt8} (h : d.length = 32) : Digs [d] := fun x hx => by simp at hx; subst hx; exact h
theorem levelT_digs : ∀ L : List (List UInt8), Digs (levelT abL L)
  | [] => Digs.nil
  | [_] => Digs.nil
  | a :: b :: r => fun d hd => by
    have hd' : d ∈ abL a b :: levelT abL r := hd
    rcases List.mem_cons.1 hd' with h | h
    · rw [h]; exact abL_length a b
    · exact levelT_digs r d h
theorem rootD_length : ∀ (k : Nat) (L : List (List UInt8)), Digs L → L.length = 2 ^ k → (rootD k L).length = 32
  | 0, L, h, hl => h.getD (by rw [hl]; decide)
  | _ + 1, _, _, _ => abL_length _ _
theorem pathD_digs : ∀ (k : Nat) (L : List (List UInt8)) (i : Nat), Digs L → L.length = 2 ^ k → Digs (pathD k L i)
  | 0, _, _, _, _ => Digs.nil
  | k + 1, L, i, h, hl => by
    have e : 2 ^ (k + 1) = 2 * 2 ^ k := by rw [Nat.pow_succ]; omega
    have h1 : (L.take (2 ^ k)).length = 2 ^ k := by rw [List.length_take]; omega
    have h2 : (L.drop (2 ^ k)).length = 2 ^ k := by rw [List.length_drop]; omega
    show Digs (pathT abL [] (k + 1) L i)
    rw [pathT]
    split
    · exact (pathD_digs k _ i (h.take _) h1).app (Digs.one (rootD_length k _ (h.dropL _) h2))
    · exact (pathD_digs k _ _ (h.dropL _) h2).app (Digs.one (rootD_length k _ (h.take _) h1))
theorem climbD_length : ∀ (p : List (List UInt8)) (d : List UInt8) (i : Nat), d.length = 32 → (climbD d i p).length = 32
  | [], _, _, h => h
  | x :: p, d, i, _ => by
    show (climbT abL (if i % 2 = 0 then abL d x else abL x d) (i / 2) p).length = 32
    refine climbD_length p _ (i / 2) ?_
    split <;> exact abL_length _ _
/-- a digest of a path further up -/
theorem climbD_step (d : List UInt8) (i : Nat) (p : List (List UInt8)) (k : Nat) (hk : k < p.length) :
    climbD d i (p.take (k + 1)) = if (i / 2 ^ k) % 2 = 0 then abL (climbD d i (p.take k)) (p.getD k []) else abL (p.getD k []) (climbD d i (p.take k)) := by
  have e : p.take (k + 1) = p.take k ++ [p.getD k []] := by
    rw [List.take_add_one, getD_some hk]; rfl
  have hl : (p.take k).length = k := by rw [List.length_take]; omega
  show climbT abL d i (p.take (k + 1)) = _
  rw [e, climb_app, hl]
  rfl
/-- the bytes of a level of which the first m nodes above stand at its beginning -/
def lvR (L : List (List UInt8)) (X : List UInt8) (m : Nat) : List UInt8 := flat ((levelT abL L).take m) ++ X.drop (32 * m)
theorem lvR_zero (L : List (List UInt8)) (X : List UInt8) : lvR L X 0 = X := by simp [lvR, flat]
theorem lvF_length (L : List (List UInt8)) (h m : Nat) (hl : L.length = 2 * h) (hm : m ≤ h) : (flat ((levelT abL L).take m)).length = 32 * m := by
  rw [flat_length ((levelT_digs L).take m), List.length_take, levelT_length abL h L hl]; congr 1; omega
theorem lvR_length (L : List (List UInt8)) (X : List UInt8) (h m : Nat) (hl : L.length = 2 * h) (hm : m ≤ h) (hX : 64 * h ≤ X.length) : (lvR L X m).length = X.length := by
  unfold lvR; rw [List.length_append, lvF_length L h m hl hm, List.length_drop]; omega
theorem lvR_get {L : List (List UInt8)} (hD : Digs L) (R : List UInt8) (h m j : Nat) (hl : L.length = 2 * h) (hm : m ≤ h) (h1 : m ≤ j) (h2 : j < 2 * h) : ((lvR L (flat L ++ R) m).drop (32 * j)).take 32 = L.getD j [] := by
  have hf := lvF_length L h m hl hm
  have hfl := flat_length hD
  unfold lvR
  rw [List.drop_append, List.drop_eq_nil_of_le (by omega), List.nil_append, hf, List.drop_drop, show 32 * m + (32 * j - 32 * m) = 32 * j by omega, List.drop_append_of_le_length (by omega), List.take_append_of_le_length (by rw [List.length_drop]; omega)]
  exact flat_get hD (getD_some (by omega))
theorem lvR_step {L : List (List UInt8)} (X : List UInt8) (h m : Nat) (hl : L.length = 2 * h) (hm : m < h) :
    spl (bcells (lvR L X m)) (32 * m) (abL (L.getD (2 * m) []) (L.getD (2 * m + 1) [])) = bcells (lvR L X (m + 1)) := by
  have hf := lvF_length L h m hl (by omega)
  have hlv := levelT_length abL h L hl
  have hg := levelT_get abL [] h L hl m hm
  have ht : (levelT abL L).take (m + 1) = (levelT abL L).take m ++ [abL (L.getD (2 * m) []) (L.getD (2 * m + 1) [])] := by
    rw [List.take_add_one, getD_some (by omega), hg]; rfl
  rw [spl_bcells]
  congr 1
  unfold lvR
  rw [ht, flat_app, show flat [abL (L.getD (2 * m) []) (L.getD (2 * m + 1) [])] = abL (L.getD (2 * m) []) (L.getD (2 * m + 1) []) by simp [flat]]
  have hab := abL_length (L.getD (2 * m) []) (L.getD (2 * m + 1) [])
  generalize abL (L.getD (2 * m) []) (L.getD (2 * m + 1) []) = d at *
  generalize flat ((levelT abL L).take m) = F at *
  unfold splice
  rw [List.take_append_of_le_length (by omega), List.take_of_length_le (by omega), List.drop_append, List.drop_eq_nil_of_le (by omega), List.nil_append, List.drop_drop, List.append_assoc, hab, hf, show 32 * m + (32 * m + 32 - 32 * m) = 32 * (m + 1) by omega]
theorem lvR_all (L : List (List UInt8)) (X : List UInt8) (h : Nat) (hl : L.length = 2 * h) : lvR L X h = flat (levelT abL L) ++ X.drop (32 * h) := by
  unfold lvR; rw [List.take_of_length_le (by rw [levelT_length abL h L hl]; exact Nat.le_refl _)]
/-- may a tree have so many leaves? -/
def okT (n : Int) : Bool := (List.range 11).any fun k => n == ((2 ^ k : Nat) : Int)
theorem okT_yes {n : Nat} (h : okT (n : Int) = true) : ∃ k, k ≤ 10 ∧ n = 2 ^ k := by
  unfold okT at h
  obtain ⟨k, hk, he⟩ := List.any_eq_true.1 h
  exact ⟨k, by have := List.mem_range.1 hk; omega, by have e := beq_iff_eq.1 he; omega⟩
theorem okT_of {k : Nat} (h : k ≤ 10) : okT ((2 ^ k : Nat) : Int) = true := by
  unfold okT
  exact List.any_eq_true.2 ⟨k, List.mem_range.2 (by omega), by simp⟩
theorem okT_ne {n : Int} (h : okT n = false) {k : Nat} (hk : k ≤ 10) : n ≠ ((2 ^ k : Nat) : Int) := fun e => by
  have := okT_of hk
  rw [← e, h] at this
  cases this
theorem okT_bits : ∀ n : Nat, n < 1025 → 0 < n → (bits .and .i64 (n : Int) ((n : Int) - 1) == 0) = okT (n : Int) := by decide +kernel
theorem two_pow_le {k : Nat} (h : k ≤ 10) : 2 ^ k ≤ 1024 := Nat.le_trans (Nat.pow_le_pow_right (by decide) h) (by decide)
theorem beside_bits : ∀ i : Nat, i < 1024 → bits .xor .i64 (i : Int) 1 = (besideN i : Int) := by decide +kernel
theorem odd_bits : ∀ i : Nat, i < 1024 → bits .and .i64 (i : Int) 1 = ((i % 2 : Nat) : Int) := by decide +kernel
theorem besideN_lt {i k : Nat} (h : i < 2 ^ (k + 1)) : besideN i < 2 ^ (k + 1) := by
  have e : 2 ^ (k + 1) = 2 * 2 ^ k := by rw [Nat.pow_succ]; omega
  unfold besideN; split <;> omega
end
section
open Go.RowKit
set_option maxRecDepth 100000 in
set_option maxHeartbeats 2000000 in
theorem Above_any (a b : List UInt8) (w : World) (ha : a.length = 32) (hb : b.length = 32) (hT : Tab 1 w) :
    Calls Tryd.prog 85 #[.agg (bcells a), .agg (bcells b)] w fun e w' => e = .returned (.agg (bcells (abL a b))) ∧ Below w.heap.size w w' := by
  have hcut := run_cut_all (P := Tryd.prog) Tryd.under23 Tryd.size5
  have h2 := hT.1
  have HS := Lib.hid (show (bcells (abL a b)).size = 32 by rw [bcells_size, abL_length])
  have HSM := Lib.hid (fun g w h hT => show Calls Tryd.prog 98 #[.pointer (some ⟨g, 0, none⟩)] w fun e w' => e = .returned (.agg (bcells (abL a b))) ∧ Below w.heap.size w w' from HSum_any g (3 :: (a ++ b)) w h hT (by rw [List.length_cons, List.length_append, ha, hb]; omega))
  have HL := Lib.hid ha
  have HLb := Lib.hid hb
  have hb0 := (((Below.refl w.heap.size w).alloc (Nat.le_refl _) (.cells (bcells a) 23)).alloc (by simp) (.cells (bcells b) 23)).alloc (by simp <;> omega) (.cells lit32 23)
  have HA0 := Lib.hid (((Row.new w 23 (bcells a)).alloc (.cells (bcells b) 23)).alloc (.cells lit32 23))
  have HB0 := Lib.hid ((Row.new1 w (.cells (bcells a) 23) 23 (bcells b)).alloc (.cells lit32 23))
  have HZ0 := Lib.hid (Row.new2 w (.cells (bcells a) 23) (.cells (bcells b) 23) 23 lit32)
  have HT := Lib.hid hT
  generalize abL a b = R at *
  clear hT ha hb
  go_enter Tryd.func85, Tryd.ntmps85
  go_wp2_with (first
    | (go_at_call 96; refine (New_any _).mono ?_; rintro e1 w1 ⟨g, rfl, hg, hh1, hb1⟩; have HH1 := Lib.hid hh1; have hs1 := hb1.size; have hlt1 := hh1.lt; simp at hs1 hg; have hb1' := hb0.trans (hb1.mono (by simp <;> omega)); have HA1 := Lib.hid (HA0.out.below hb1 (by simp <;> omega)); have HB1 := Lib.hid (HB0.out.below hb1 (by simp <;> omega)); have HZ1 := Lib.hid (HZ0.out.below hb1 (by simp <;> omega)); have HTw1 := Lib.hid (HT.out.below hb1'); clear hh1)
    | (go_at_call 97; have hz := HH3; clear hz; refine (Write_any g (([] ++ [3]) ++ a) _ 32 32 b w3 HH3.out (HB3.out.bsB HLb.out) (.inr ⟨_, _, rfl, by omega⟩) (Nat.le_refl _) HTw3.out (by omega) (by rw [List.length_append, HL.out]; simp)).mono ?_; rintro e4 w4 ⟨rfl, hh4, ho4⟩; have HH4 := Lib.hid (show HashAt w4 g (3 :: (a ++ b)) by simpa using hh4); have hs4 := ho4.size; have HZ4 := Lib.hid (HZ3.out.only ho4 (by omega)); have HTw4 := Lib.hid (HTw3.out.only ho4 (by omega)); have hb4' := hb3'.trans (ho4.below (B := w.heap.size) (by omega) hb3'.size); clear hh4)
    | (go_at_call 97; have hz := HH2; clear hz; refine (Write_any g ([] ++ [3]) _ 32 32 a w2 HH2.out (HA2.out.bsB HL.out) (.inr ⟨_, _, rfl, by omega⟩) (Nat.le_refl _) HTw2.out (by omega) (by simp <;> omega)).mono ?_; rintro e3 w3 ⟨rfl, hh3, ho3⟩; have HH3 := Lib.hid hh3; have hs3 := ho3.size; have HB3 := Lib.hid (HB2.out.only ho3 (by omega)); have HZ3 := Lib.hid (HZ2.out.only ho3 (by omega)); have HTw3 := Lib.hid (HTw2.out.only ho3 (by omega)); have hb3' := hb2'.trans (ho3.below (B := w.heap.size) (by omega) hb2'.size); clear hh3)
    | (go_at_call 97; refine (Write_any g [] _ 1 1 [3] (w1.alloc (.cells #[.int .u8 3] 5)) (HH1.out.alloc _) (one_of w1 3 5).bs (.inr ⟨_, _, rfl, by omega⟩) (Nat.le_refl _) (HTw1.out.below ((Below.refl _ _).alloc (Nat.le_refl _) _)) (by omega) (by simp <;> omega)).mono ?_; rintro e2 w2 ⟨rfl, hh2, ho2⟩; have HH2 := Lib.hid hh2; have hs2 := ho2.size; simp at hs2; have HA2 := Lib.hid ((HA1.out.alloc (.cells #[.int .u8 3] 5)).only ho2 (by omega)); have HB2 := Lib.hid ((HB1.out.alloc (.cells #[.int .u8 3] 5)).only ho2 (by omega)); have HZ2 := Lib.hid ((HZ1.out.alloc (.cells #[.int .u8 3] 5)).only ho2 (by omega)); have HTw2 := Lib.hid ((HTw1.out.below ((Below.refl _ _).alloc (Nat.le_refl _) (.cells #[.int .u8 3] 5))).only ho2 (by omega)); have hb2' := (hb1'.alloc hb1'.size (.cells #[.int .u8 3] 5)).trans (ho2.below (B := w.heap.size) (by omega) (by simp <;> omega)); clear hh2)
    | (go_at_call 98; refine (HSM.out g w4 HH4.out HTw4.out).mono ?_; rintro e5 w5 ⟨rfl, hb5⟩; have HZ5 := Lib.hid (HZ4.out.below hb5 (by omega)); have hb5' := hb4'.trans (hb5.mono hb4'.size))
    | (with_reducible refine wpList_store_row Tryd.agg25 rfl (.tmp 4) (.tmp 17) rfl _ _ rfl rfl 23 lit32 HZ5.out HS.out lit32_size (bcells_one _) ?_; intro w9 hr9 ho9; have HR9 := Lib.hid hr9; clear hr9))
  refine bodyPost_ret (results_row1 Tryd.agg25 Tryd.results85 rfl HR9.out HS.out) rfl ⟨rfl, ?_⟩
  exact hb5'.trans (ho9.below (by omega) hb5'.size)
set_option maxRecDepth 100000 in
set_option maxHeartbeats 2000000 in
theorem RefAbove_any (a b : List UInt8) (w : World) (ha : a.length = 32) (hb : b.length = 32) (hF : First w) (hT : Tab 2 w) :
    Calls Tryd.prog 86 #[.agg (bcells a), .agg (bcells b)] w fun e w' => e = .returned (.agg (bcells (abL a b))) ∧ Below w.heap.size w w' := by
  have HS := Lib.hid (show (bcells (abL a b)).size = 32 by rw [bcells_size, abL_length])
  have HSM := Lib.hid (fun A n c w hB hc hF hT hn => show Calls Tryd.prog 99 #[.slice A n c] w fun e w' => e = .returned (.agg (bcells (abL a b))) ∧ Below w.heap.size w w' from RefSum_any A n c (3 :: (a ++ b)) w hB hc hF hT hn)
  have HDA := Lib.hid (fun w => DBytes_any a w ha)
  have HDB := Lib.hid (fun w => DBytes_any b w hb)
  have HL := Lib.hid ha
  have HLb := Lib.hid hb
  have HSa := Lib.hid (show (bcells a).size = 32 by rw [bcells_size, ha])
  have HSb := Lib.hid (show (bcells b).size = 32 by rw [bcells_size, hb])
  have hb0 := ((((Below.refl w.heap.size w).alloc (Nat.le_refl _) (.cells (bcells a) 23)).alloc (by simp) (.cells (bcells b) 23)).alloc (by simp <;> omega) (.cells lit32 23)).alloc (by simp <;> omega) (.cells #[.int .u8 3] 5)
  have HA0 := Lib.hid ((((Row.new w 23 (bcells a)).alloc (.cells (bcells b) 23)).alloc (.cells lit32 23)).alloc (.cells #[.int .u8 3] 5))
  have HB0 := Lib.hid (((Row.new1 w (.cells (bcells a) 23) 23 (bcells b)).alloc (.cells lit32 23)).alloc (.cells #[.int .u8 3] 5))
  have HZ0 := Lib.hid ((Row.new2 w (.cells (bcells a) 23) (.cells (bcells b) 23) 23 lit32).alloc (.cells #[.int .u8 3] 5))
  have HO0 := Lib.hid (show Own ((((w.alloc (.cells (bcells a) 23)).alloc (.cells (bcells b) 23)).alloc (.cells lit32 23)).alloc (.cells #[.int .u8 3] 5)) (w.heap.size + 1 + 1 + 1) 5 (.slice (some ⟨w.heap.size + 1 + 1 + 1, 0, none⟩) 1 1) 1 [3] by
    have h := one_of (((w.alloc (.cells (bcells a) 23)).alloc (.cells (bcells b) 23)).alloc (.cells lit32 23)) 3 5
    simp at h
    exact h)
  have HT := Lib.hid hT
  have HF := Lib.hid hF
  generalize abL a b = R at *
  clear hT hF ha hb
  go_enter Tryd.func86, Tryd.ntmps86
  go_wp2_with (first
    | (with_reducible refine wpList_load_row Tryd.agg25 rfl (.tmp 2) rfl _ rfl 23 _ HA0.out HSa.out ?_)
    | (with_reducible refine wpList_load_row Tryd.agg25 rfl (.tmp 3) rfl _ rfl 23 _ HB2.out HSb.out ?_)
    | (go_at_call_of 60 (Value.agg (bcells a)); refine (HDA.out _).mono ?_; rintro e1 w1 ⟨A1, n1, c1, rfl, hB1, hc1, hb1, -⟩; have HBs1 := Lib.hid hB1; have HN1 := Lib.hid (show n1 = 32 from hB1.1.symm.trans HL.out); have hn1 : n1 ≤ 32 := (by rw [HN1.out]; exact Nat.le_refl _); have hs1 := hb1.size; simp at hs1; have HB1 := Lib.hid (HB0.out.below hb1 (by simp <;> omega)); have HZ1 := Lib.hid (HZ0.out.below hb1 (by simp <;> omega)); have HO1 := Lib.hid (HO0.out.below hb1); have hb1' := hb0.trans (hb1.mono (by simp <;> omega)); clear hB1)
    | (at_builtin; refine wpList_app Tryd.byteTypes rfl (.tmp 7) (.tmp 9) rfl (w.heap.size + 1 + 1 + 1) _ 1 [3] rfl HO1.out A1 n1 c1 a rfl HBs1.out (by omega) (by omega) ?_; intro A2 c2 w2 ho2 hb2 _; have HO2 := Lib.hid ho2; have hs2 := hb2.size; have HB2 := Lib.hid (HB1.out.below hb2 (by omega)); have HZ2 := Lib.hid (HZ1.out.below hb2 (by omega)); have hb2' := hb1'.trans (hb2.mono (by omega)); clear ho2)
    | (go_at_call_of 60 (Value.agg (bcells b)); refine (HDB.out _).mono ?_; rintro e3 w3 ⟨A3, n3, c3, rfl, hB3, hc3, hb3, -⟩; have HBs3 := Lib.hid hB3; have HN3 := Lib.hid (show n3 = 32 from hB3.1.symm.trans HLb.out); have hn3 : n3 ≤ 32 := (by rw [HN3.out]; exact Nat.le_refl _); have hs3 := hb3.size; have HZ3 := Lib.hid (HZ2.out.below hb3 (by omega)); have HO3 := Lib.hid (HO2.out.below hb3); have hb3' := hb2'.trans (hb3.mono (by omega)); clear hB3)
    | (at_builtin; refine wpList_app Tryd.byteTypes rfl (.tmp 11) (.tmp 13) rfl (w.heap.size + 1 + 1 + 1) _ (1 + n1) ([3] ++ a) rfl HO3.out A3 n3 c3 b rfl HBs3.out (by omega) (by omega) ?_; intro A4 c4 w4 ho4 hb4 _; have HO4 := Lib.hid ho4; have hs4 := hb4.size; have HZ4 := Lib.hid (HZ3.out.below hb4 (by omega)); have hb4' := hb3'.trans (hb4.mono (by omega)); obtain ⟨A4q, c4q, hf1, hf2⟩ := ho4.form; injection hf1 with hfa hfb hfc; subst hfa hfc; clear ho4 hfb)
    | (go_at_call 99; refine (HSM.out A4 _ _ w4 (by have h := HO4.out.bs; simpa using h) hf2 (HF.out.below hb4') (HT.out.below hb4') (by omega)).mono ?_; rintro e5 w5 ⟨rfl, hb5⟩; have HZ5 := Lib.hid (HZ4.out.below hb5 (by omega)); have hb5' := hb4'.trans (hb5.mono hb4'.size))
    | (with_reducible refine wpList_store_row Tryd.agg25 rfl (.tmp 4) (.tmp 16) rfl _ _ rfl rfl 23 lit32 HZ5.out HS.out lit32_size (bcells_one _) ?_; intro w9 hr9 ho9; have HR9 := Lib.hid hr9; clear hr9))
  refine bodyPost_ret (results_row1 Tryd.agg25 Tryd.results86 rfl HR9.out HS.out) rfl ⟨rfl, ?_⟩
  exact hb5'.trans (ho9.below (by omega) hb5'.size)
end
section
open Go.RowKit
theorem okT_big {n : Nat} (h : 1024 < n) : okT (n : Int) = false := by
  cases hc : okT (n : Int)
  · rfl
  · obtain ⟨k, hk, e⟩ := okT_yes hc
    have := two_pow_le hk
    omega
set_option maxHeartbeats 400000 in
theorem mayBe_any (n : Nat) (w : World) : Calls Tryd.prog 67 #[.int .i64 (n : Int)] w fun e w' => e = .returned (.bool (okT (n : Int))) ∧ w = w' := by
  by_cases h0 : n = 0
  · subst h0
    have e : okT ((0 : Nat) : Int) = false := by decide
    rw [e]
    go_enter Tryd.func67, Tryd.ntmps67
    go_wp2
    go_ret
    exact ⟨rfl, rfl⟩
  · by_cases h1 : n ≤ 1024
    · have hb := okT_bits n (by omega) (by omega)
      have i0 : (1 : Int) ≤ (n : Int) := by omega
      have i1 : (n : Int) ≤ 1024 := by omega
      generalize okT (n : Int) = t at *
      clear h0 h1
      go_enter Tryd.func67, Tryd.ntmps67
      go_wp2
      go_ret
      exact ⟨rfl, rfl⟩
    · rw [okT_big (by omega)]
      have i0 : (1 : Int) ≤ (n : Int) := by omega
      have i1 : ¬ (n : Int) ≤ 1024 := by omega
      clear h0 h1
      go_enter Tryd.func67, Tryd.ntmps67
      go_wp2
      go_ret
      exact ⟨rfl, rfl⟩
set_option maxHeartbeats 400000 in
theorem Right_any (n : Nat) (w : World) : Calls Tryd.prog 70 #[.int .i64 (n : Int)] w fun e w' => e = .returned (.bool (okT (n : Int))) ∧ w = w' := by
  have HY : Hid (∀ j, j ≤ 10 → n = 2 ^ j → okT (n : Int) = true) := Lib.hid (fun j hj e => by rw [e]; exact okT_of hj)
  have HN : Hid ((∀ i, i < 11 → n ≠ 2 ^ i) → okT (n : Int) = false) := Lib.hid (fun h => by
    cases hc : okT (n : Int)
    · rfl
    · obtain ⟨k, hk, e⟩ := okT_yes hc
      exact absurd e (h k (by omega)))
  generalize okT (n : Int) = t at *
  go_enter Tryd.func70, Tryd.ntmps70
  go_wp2
  go_loop [3] (fun k => ∃ j p : Nat, j ≤ 11 ∧ Hid (p = 2 ^ j) ∧ k = .int .i64 (p : Int) ∧ Hid (∀ i, i < j → n ≠ 2 ^ i)) (fun k => 4096 - (intOf k).toNat)
  case atStart => exact ⟨0, 1, by omega, Lib.hid rfl, rfl, Lib.hid (fun i h => by omega)⟩
  case round =>
    obtain ⟨j, p, hj, HP, rfl, HI⟩ := hrel
    have hp0 : 0 < p := by rw [HP.out]; exact Nat.pow_pos (by decide)
    by_cases h10 : j ≤ 10
    · have hp1 : p ≤ 1024 := by rw [HP.out]; exact two_pow_le h10
      have i0 : (p : Int) ≤ 1024 := by omega
      by_cases he : p = n
      · have hq : ((p : Int) == (n : Int)) = true := by simp; omega
        have HE := Lib.hid he
        clear he
        go_wp2
        go_ret
        rw [HY.out j h10 (by rw [← HE.out]; exact HP.out)]
        exact ⟨rfl, rfl⟩
      · have hq : ((p : Int) == (n : Int)) = false := by simp; omega
        have HE := Lib.hid he
        clear he
        go_wp2
        go_round
        case rel => exact ⟨j + 1, 2 * p, by omega, Lib.hid (by rw [HP.out, Nat.pow_succ]; omega), by go_num, Lib.hid (fun i h => by
          by_cases hij : i = j
          · subst hij; rw [← HP.out]; exact fun e => HE.out e.symm
          · exact HI.out i (by omega))⟩
        case measure => simp [intOf]; omega
    · have hp2 : p = 2048 := by
        rw [HP.out]
        obtain rfl : j = 11 := by omega
        decide
      have HI' := Lib.hid (HN.out (fun i h => HI.out i (by omega)))
      subst hp2
      go_wp2
      go_ret
      rw [HI'.out]
      exact ⟨rfl, rfl⟩
/-- a level of a tree at the beginning of block g -/
def LevAt (w : World) (g n : Nat) (L : List (List UInt8)) : Prop := L.length = n ∧ Digs L ∧ ∃ R, Row w g 23 (bcells (flat L ++ R))
theorem LevAt.ds {w : World} {g n : Nat} {L : List (List UInt8)} (h : LevAt w g n L) : Ds w (some ⟨g, 0, none⟩) n L := by
  obtain ⟨h1, h2, R, hr⟩ := h
  refine ⟨h1, h2, ?_⟩
  have hf := flat_length h2
  have h3 := (hr.bsB (n := (flat L ++ R).length) rfl).take (m := 32 * n) (by rw [List.length_append]; omega)
  rwa [List.take_append_of_le_length (by omega), List.take_of_length_le (by omega)] at h3
theorem LevAt.lt {w : World} {g n : Nat} {L : List (List UInt8)} (h : LevAt w g n L) : g < w.heap.size := by
  obtain ⟨_, _, R, hr⟩ := h
  exact hr.lt
theorem LevAt.only {w w' : World} {g k n : Nat} {L : List (List UInt8)} (h : LevAt w g n L) (ho : Only k w w') (hne : g ≠ k) : LevAt w' g n L := by
  obtain ⟨h1, h2, R, hr⟩ := h
  exact ⟨h1, h2, R, hr.only ho hne⟩
theorem LevAt.below {w w' : World} {g n B : Nat} {L : List (List UInt8)} (h : LevAt w g n L) (hb : Below B w w') (hg : g < B) : LevAt w' g n L := by
  obtain ⟨h1, h2, R, hr⟩ := h
  exact ⟨h1, h2, R, hr.below hb hg⟩
set_option maxRecDepth 100000 in
set_option maxHeartbeats 400000 in
theorem copied_any (A : Option Addr) (n c : Nat) (L : List (List UInt8)) (w : World) (hD : Ds w A n L) (hn : n ≤ 1024) :
    Calls Tryd.prog 68 #[.slice A n c] w fun e w' => ∃ g, e = .returned (.slice (some ⟨g, 0, none⟩) n n) ∧ w.heap.size ≤ g ∧ LevAt w' g n L ∧ Below w.heap.size w w' := by
  have hmk := run_madeD n n (n : Int) (n : Int) rfl rfl (Nat.le_refl _) (by omega)
  have HD := Lib.hid hD
  have HF := Lib.hid (show spl (bcells (List.replicate (n * 32) 0)) 0 (flat (L.take n)) = bcells (flat L ++ []) by
    rw [List.take_of_length_le (by rw [hD.1]; exact Nat.le_refl _), spl_bcells]
    congr 1
    have hl := flat_length hD.2.1
    have h := splice_zero (List.replicate (n * 32) (0 : UInt8)) [] (flat L) (by rw [List.length_replicate, hl, hD.1, Nat.mul_comm])
    rwa [List.append_nil] at h)
  have hb0 := (Below.refl w.heap.size w).alloc (Nat.le_refl _) (.cells (bcells (List.replicate (n * 32) 0)) 23)
  have HR0 := Lib.hid (Row.new w 23 (bcells (List.replicate (n * 32) 0)))
  have HSZ := Lib.hid (show (bcells (List.replicate (n * 32) (0 : UInt8))).size = n * 32 by rw [bcells_size, List.length_replicate])
  generalize bcells (List.replicate (n * 32) 0) = Z at *
  clear hD
  go_enter Tryd.func68, Tryd.ntmps68
  go_wp2_with (with_reducible refine wpList_copyDs rfl (.tmp 7) (.tmp 8) rfl w.heap.size 0 n n A n c rfl rfl L 23 Z HR0.out (HD.out.below hb0) n (Nat.min_self n) (by rw [HSZ.out]; omega) ?_; intro w1 hr1 ho1)
  go_ret
  rw [HF.out] at hr1
  exact ⟨_, rfl, Nat.le_refl _, ⟨HD.out.1, HD.out.2.1, [], hr1⟩, hb0.trans (ho1.below (Nat.le_refl _) (by simp))⟩
theorem wp_loadD {o : Oper} {a : Act} {w : World} {K : Act → World → Prop} {Q : Exit → Act → World → Prop} (x : Operand) (ho : o.op = .load 23 x) (b off : Nat) (d : List UInt8)
    (hx : a.eval x = .pointer (some ⟨b, off, none⟩)) (hc : w.rangeAt b off (d.map bcell)) (hd : d.length = 32) (h : K (a.put o.dst (.agg (bcells d))) w) : o.wp Tryd.prog a w K Q :=
  wp_load_mid 23 x ho b off hx _ _ hc Tryd.under23 rfl (by rw [List.length_map, hd]; exact Tryd.sizeD) h
/-- x[:k] of digests that lie at an address -/
theorem wpList_headAt {ops : Array Oper} {rest : List Oper} {o : Oper} {a : Act} {w : World} {Q : Exit → Act → World → Prop} (hgd : o.guard = none) (x y : Operand) (ho : o.op = .slice 42 x none (some y) none)
    (b off n c k : Nat) (z : Int) (hx : a.eval x = .slice (some ⟨b, off, none⟩) n c) (hy : a.eval y = .int .i64 z) (hz : z = k) (hk : k ≤ c)
    (h : wpList Tryd.prog ops Q rest (a.put o.dst (.slice (some ⟨b, off, none⟩) k c)) w) : wpList Tryd.prog ops Q (o :: rest) a w := by
  subst hz
  have hrun : (Instr.sliceAt 42 (.slice (some ⟨b, off, none⟩) n c) none (some (.int .i64 (k : Int))) none).run Tryd.prog w = .ok (.slice (some ⟨b, off, none⟩) k c) w := by
    have h2 : (k : Int) ≤ c := by omega
    simp [Instr.sliceAt, Instr.slice, run_underlying Tryd.under24, Instr.sliceBounds, run_sliceBound, h2, Addr.add_mid]
  refine wpList_plain hgd fun K hK => ?_
  unfold Oper.wp execOp
  simp [ho, hx, hy, hrun, Result.andThen]
  exact hK _ _ h
/-- a digest that lies in the middle of a row -/
theorem range_mid {w : World} {g j : Nat} {Y d : List UInt8} (h : Row w g 23 (bcells Y)) (hj : 32 * j + 32 ≤ Y.length) (he : (Y.drop (32 * j)).take 32 = d) : w.rangeAt g (32 * j) (d.map bcell) := by
  have h1 := ((h.bsB (n := Y.length) rfl).drop (m := 32 * j)).take (m := 32) (by omega)
  rw [he, Nat.zero_add] at h1
  exact h1.range
set_option maxRecDepth 100000 in
set_option maxHeartbeats 2000000 in
theorem raised_any (g h c : Nat) (L : List (List UInt8)) (w : World) (n : Nat) (hn : n = 2 * h) (hL : LevAt w g n L) (hc : n ≤ c) (hh : h ≤ 1024) (hT : Tab 1 w) (hg : 1 < g) :
    Calls Tryd.prog 69 #[.slice (some ⟨g, 0, none⟩) n c] w fun e w' => e = .returned (.slice (some ⟨g, 0, none⟩) h c) ∧ LevAt w' g h (levelT abL L) ∧ Only g w w' := by
  have HN := Lib.hid hn
  have hdiv : ((n : Int)).tdiv 2 = (h : Int) := by rw [hn, Int.tdiv_eq_ediv_of_nonneg (by omega)]; omega
  obtain ⟨hl, hD, R, hr⟩ := hL
  have HL := Lib.hid (show L.length = 2 * h by rw [hl, hn])
  have HD := Lib.hid hD
  have HFL : Hid (64 * h ≤ (flat L ++ R).length) := Lib.hid (by rw [List.length_append, flat_length hD, hl, hn]; omega)
  have HR := Lib.hid hr
  have HT := Lib.hid hT
  have hglt := hr.lt
  have HX := Lib.hid (lvR_zero L (flat L ++ R))
  clear hr hT hD hl hn
  go_enter Tryd.func69, Tryd.ntmps69
  go_wp2_with fail
  go_loopw [9] (fun i wr => ∃ m : Nat, m ≤ h ∧ i = .int .i64 (m : Int) ∧ Only g w wr ∧ Row wr g 23 (bcells (lvR L (flat L ++ R) m))) (fun i _ => h - (intOf i).toNat)
  case atStart => exact ⟨0, Nat.zero_le _, rfl, Only.refl _ _, by rw [HX.out]; exact HR.out⟩
  case round =>
    obtain ⟨m, hm, rfl, hon, hrow⟩ := hrel
    have hos := hon.size
    have HRr := Lib.hid hrow
    have HO := Lib.hid hon
    clear hrow hon
    by_cases hlt : m < h
    · have him : (m : Int) < (h : Int) := by omega
      have hnn := HN.out
      have hk1 : 2 * m < n := by omega
      have hk2 : 2 * m + 1 < n := by omega
      have hk3 : m < n := by omega
      clear hnn
      have HG1 := Lib.hid (lvR_get HD.out R h m (2 * m) HL.out (by omega) (by omega) (by omega))
      have HG2 := Lib.hid (lvR_get HD.out R h m (2 * m + 1) HL.out (by omega) (by omega) (by omega))
      have HST := Lib.hid (lvR_step (flat L ++ R) h m HL.out hlt)
      have HLN := Lib.hid (lvR_length L (flat L ++ R) h m HL.out (by omega) HFL.out)
      have HX1 : Hid ((L.getD (2 * m) []).length = 32) := Lib.hid (HD.out.getD (by rw [HL.out]; omega))
      have HX2 : Hid ((L.getD (2 * m + 1) []).length = 32) := Lib.hid (HD.out.getD (by rw [HL.out]; omega))
      have HAB := Lib.hid (fun w hT => Above_any (L.getD (2 * m) []) (L.getD (2 * m + 1) []) w HX1.out HX2.out hT)
      have HAL := Lib.hid (abL_length (L.getD (2 * m) []) (L.getD (2 * m + 1) []))
      generalize L.getD (2 * m) [] = x at *
      generalize L.getD (2 * m + 1) [] = y at *
      generalize abL x y = d at *
      obtain ⟨Y1, hY1⟩ : ∃ Y, lvR L (flat L ++ R) (m + 1) = Y := ⟨_, rfl⟩
      rw [hY1] at HST
      have HY1 := Lib.hid hY1
      clear hY1
      have HQ1 := Lib.hid (range_mid HRr.out (j := 2 * m) (by have := HLN.out; have := HFL.out; omega) HG1.out)
      have HQ2 := Lib.hid (range_mid HRr.out (j := 2 * m + 1) (by have := HLN.out; have := HFL.out; omega) HG2.out)
      have HSZ : Hid (32 * m + 32 ≤ (bcells (lvR L (flat L ++ R) m)).size) := Lib.hid (by rw [bcells_size]; have := HLN.out; have := HFL.out; omega)
      generalize lvR L (flat L ++ R) m = Y0 at *
      obtain ⟨o1, ho1⟩ : ∃ o, 0 + 32 * (2 * m) = o := ⟨_, rfl⟩
      obtain ⟨o2, ho2⟩ : ∃ o, 0 + 32 * (2 * m + 1) = o := ⟨_, rfl⟩
      obtain ⟨o3, ho3⟩ : ∃ o, 0 + 32 * m = o := ⟨_, rfl⟩
      rw [Nat.zero_add] at ho1 ho2 ho3
      rw [ho1] at HQ1
      rw [ho2] at HQ2
      rw [ho3] at HST HSZ
      have HO1 := Lib.hid ho1
      have HO2 := Lib.hid ho2
      have HO3 := Lib.hid ho3
      clear ho1 ho2 ho3
      go_wp2_with fail
      refine wp_region_noPanic ?_
      refine wp_region_held_drew (S := fun w' => True) (by kernel_rfl) trivial (fun hHeld => ?_)
      refine takeD (i := 0) (some 12) (.slice (some ⟨g, 0, none⟩) n c) rfl rfl (by kernel_rfl) (by kernel_rfl) (by kernel_rfl) (fun _ _ _ h => h) (Or.inl ⟨by rfl, fun _ _ => rfl⟩) hHeld ?_
      simp only [Act.put, List.setIfInBounds_toArray, List.set_cons_zero, List.set_cons_succ]
      refine takeD (i := 1) (some 13) (.int .i64 (m : Int)) rfl rfl (by kernel_rfl) (by kernel_rfl) (by kernel_rfl) (fun _ _ _ h => h) (Or.inl ⟨by rfl, fun _ _ => rfl⟩) hHeld ?_
      simp only [Act.put, List.setIfInBounds_toArray, List.set_cons_zero, List.set_cons_succ]
      refine takeD (i := 2) (some 14) (.slice (some ⟨g, 0, none⟩) n c) rfl rfl (by kernel_rfl) (by kernel_rfl) (by kernel_rfl) (fun _ _ _ h => h) (Or.inl ⟨by rfl, fun _ _ => rfl⟩) hHeld ?_
      simp only [Act.put, List.setIfInBounds_toArray, List.set_cons_zero, List.set_cons_succ]
      refine takeD (i := 3) (some 15) (.int .i64 (m : Int)) rfl rfl (by kernel_rfl) (by kernel_rfl) (by kernel_rfl) (fun _ _ _ h => h) (Or.inl ⟨by rfl, fun _ _ => rfl⟩) hHeld ?_
      simp only [Act.put, List.setIfInBounds_toArray, List.set_cons_zero, List.set_cons_succ]
      refine takeD (i := 4) (some 16) (.int .i64 (2 * (m : Int))) rfl rfl (by kernel_rfl) (by kernel_rfl) (by kernel_rfl) (fun _ _ _ h => h) (yields_mul rfl _ (.tmp 15) rfl 2 (m : Int) _ rfl rfl rfl (by omega) (by omega)) hHeld ?_
      simp only [Act.put, List.setIfInBounds_toArray, List.set_cons_zero, List.set_cons_succ]
      refine takeD (i := 5) (some 17) (.pointer (some ⟨g, o1, none⟩)) rfl rfl (by kernel_rfl) (by kernel_rfl) (by kernel_rfl) (fun _ _ _ h => h) (yields_indexO rfl (.tmp 14) (.tmp 16) rfl g 0 n c (2 * m) o1 _ rfl rfl (by omega) hk1 (by rw [Nat.zero_add]; exact HO1.out)) hHeld ?_
      simp only [Act.put, List.setIfInBounds_toArray, List.set_cons_zero, List.set_cons_succ]
      refine takeD (i := 7) (some 19) (.slice (some ⟨g, 0, none⟩) n c) rfl rfl (by kernel_rfl) (by kernel_rfl) (by kernel_rfl) (fun _ _ _ h => h) (Or.inl ⟨by rfl, fun _ _ => rfl⟩) hHeld ?_
      simp only [Act.put, List.setIfInBounds_toArray, List.set_cons_zero, List.set_cons_succ]
      refine takeD (i := 8) (some 20) (.int .i64 (m : Int)) rfl rfl (by kernel_rfl) (by kernel_rfl) (by kernel_rfl) (fun _ _ _ h => h) (Or.inl ⟨by rfl, fun _ _ => rfl⟩) hHeld ?_
      simp only [Act.put, List.setIfInBounds_toArray, List.set_cons_zero, List.set_cons_succ]
      refine takeD (i := 9) (some 21) (.int .i64 (2 * (m : Int))) rfl rfl (by kernel_rfl) (by kernel_rfl) (by kernel_rfl) (fun _ _ _ h => h) (yields_mul rfl _ (.tmp 20) rfl 2 (m : Int) _ rfl rfl rfl (by omega) (by omega)) hHeld ?_
      simp only [Act.put, List.setIfInBounds_toArray, List.set_cons_zero, List.set_cons_succ]
      refine takeD (i := 10) (some 22) (.int .i64 (2 * (m : Int) + 1)) rfl rfl (by kernel_rfl) (by kernel_rfl) (by kernel_rfl) (fun _ _ _ h => h) (yields_add rfl (.tmp 21) _ rfl (2 * (m : Int)) 1 _ rfl rfl rfl (by omega) (by omega)) hHeld ?_
      simp only [Act.put, List.setIfInBounds_toArray, List.set_cons_zero, List.set_cons_succ]
      refine takeD (i := 11) (some 23) (.pointer (some ⟨g, o2, none⟩)) rfl rfl (by kernel_rfl) (by kernel_rfl) (by kernel_rfl) (fun _ _ _ h => h) (yields_indexO rfl (.tmp 19) (.tmp 22) rfl g 0 n c (2 * m + 1) o2 _ rfl rfl (by omega) hk2 (by rw [Nat.zero_add]; exact HO2.out)) hHeld ?_
      simp only [Act.put, List.setIfInBounds_toArray, List.set_cons_zero, List.set_cons_succ]
      have B0 : Below wr.heap.size wr wr.drew := (Below.refl wr.heap.size wr).drew
      refine wpAnyH_ready (rs := [6, 12]) (by kernel_rfl) (by decide) ?_
      refine AllReadyH.cons rfl (fun K' hK => ?_) (AllReadyH.cons rfl (fun K' hK => ?_) AllReadyH.nil)
      · refine step_of rfl (wp_loadD (.tmp 17) rfl g o1 x rfl HQ1.out HX1.out ?_)
        refine hK.out _ _ trivial (fun _ => ?_)
        clear hK
        refine wpAnyH_ready (rs := [12]) (by kernel_rfl) (by decide) ?_
        refine AllReadyH.cons rfl (fun K' hK => ?_) AllReadyH.nil
        refine step_of rfl (wp_loadD (.tmp 23) rfl g o2 y rfl HQ2.out HX2.out ?_)
        refine hK.out _ _ trivial (fun hHeld2 => ?_)
        clear hK
        refine wpAnyH_ready (rs := [13]) (by kernel_rfl) (by decide) ?_
        refine AllReadyH.cons rfl (fun K' hK => ?_) AllReadyH.nil
        go_simp
        refine (HAB.out wr.drew ((HT.out.only HO.out (by omega)).below B0)).mono ?_
        rintro e3 w3 ⟨rfl, hb3⟩
        have B3 : Below wr.heap.size wr w3 := B0.trans (hb3.mono B0.size)
        have HR3 := Lib.hid (HRr.out.below B3 (by omega))
        refine hK.out _ _ trivial (fun hHeld3 => ?_)
        clear hK
        (try simp only [Act.put, List.setIfInBounds_toArray, List.set_cons_zero, List.set_cons_succ])
        refine takeD (i := 14) (some 26) (.pointer (some ⟨g, o3, none⟩)) rfl rfl (by kernel_rfl) (by kernel_rfl) (by kernel_rfl) (fun _ _ _ h => h) (yields_indexO rfl (.tmp 12) (.tmp 13) rfl g 0 n c m o3 _ rfl rfl rfl hk3 (by rw [Nat.zero_add]; exact HO3.out)) hHeld ?_
        simp only [Act.put, List.setIfInBounds_toArray, List.set_cons_zero, List.set_cons_succ]
        refine wpAnyH_ready (rs := [15]) (by kernel_rfl) (by decide) ?_
        refine AllReadyH.cons rfl (fun K' hK => ?_) AllReadyH.nil
        refine step_of rfl (wp_storeD (.tmp 26) (.tmp 25) rfl g o3 d rfl rfl 23 _ HR3.out HAL.out HSZ.out ?_)
        intro w9 hr9 ho9
        have HR9 := Lib.hid hr9
        clear hr9
        refine hK.out _ _ trivial (fun hHeld9 => ?_)
        clear hK
        (try simp only [Act.put, List.setIfInBounds_toArray])
        refine wpAnyH_done (by kernel_rfl) ?_ _
        refine NoPanic.normal ?_
        go_wp2_with fail
        refine ⟨⟨m + 1, by omega, by go_num, (HO.out.trans (Only.of_below B3)).trans ho9, ?_⟩, by simp [intOf]; omega⟩
        rw [HY1.out, ← HST.out]
        exact HR9.out
      · refine step_of rfl (wp_loadD (.tmp 23) rfl g o2 y rfl HQ2.out HX2.out ?_)
        refine hK.out _ _ trivial (fun _ => ?_)
        clear hK
        refine wpAnyH_ready (rs := [6]) (by kernel_rfl) (by decide) ?_
        refine AllReadyH.cons rfl (fun K' hK => ?_) AllReadyH.nil
        refine step_of rfl (wp_loadD (.tmp 17) rfl g o1 x rfl HQ1.out HX1.out ?_)
        refine hK.out _ _ trivial (fun hHeld2 => ?_)
        clear hK
        refine wpAnyH_ready (rs := [13]) (by kernel_rfl) (by decide) ?_
        refine AllReadyH.cons rfl (fun K' hK => ?_) AllReadyH.nil
        go_simp
        refine (HAB.out wr.drew ((HT.out.only HO.out (by omega)).below B0)).mono ?_
        rintro e3 w3 ⟨rfl, hb3⟩
        have B3 : Below wr.heap.size wr w3 := B0.trans (hb3.mono B0.size)
        have HR3 := Lib.hid (HRr.out.below B3 (by omega))
        refine hK.out _ _ trivial (fun hHeld3 => ?_)
        clear hK
        (try simp only [Act.put, List.setIfInBounds_toArray, List.set_cons_zero, List.set_cons_succ])
        refine takeD (i := 14) (some 26) (.pointer (some ⟨g, o3, none⟩)) rfl rfl (by kernel_rfl) (by kernel_rfl) (by kernel_rfl) (fun _ _ _ h => h) (yields_indexO rfl (.tmp 12) (.tmp 13) rfl g 0 n c m o3 _ rfl rfl rfl hk3 (by rw [Nat.zero_add]; exact HO3.out)) hHeld ?_
        simp only [Act.put, List.setIfInBounds_toArray, List.set_cons_zero, List.set_cons_succ]
        refine wpAnyH_ready (rs := [15]) (by kernel_rfl) (by decide) ?_
        refine AllReadyH.cons rfl (fun K' hK => ?_) AllReadyH.nil
        refine step_of rfl (wp_storeD (.tmp 26) (.tmp 25) rfl g o3 d rfl rfl 23 _ HR3.out HAL.out HSZ.out ?_)
        intro w9 hr9 ho9
        have HR9 := Lib.hid hr9
        clear hr9
        refine hK.out _ _ trivial (fun hHeld9 => ?_)
        clear hK
        (try simp only [Act.put, List.setIfInBounds_toArray])
        refine wpAnyH_done (by kernel_rfl) ?_ _
        refine NoPanic.normal ?_
        go_wp2_with fail
        refine ⟨⟨m + 1, by omega, by go_num, (HO.out.trans (Only.of_below B3)).trans ho9, ?_⟩, by simp [intOf]; omega⟩
        rw [HY1.out, ← HST.out]
        exact HR9.out
    · obtain rfl : h = m := by omega
      have HE := Lib.hid (lvR_all L (flat L ++ R) h HL.out)
      have HLL := Lib.hid (levelT_length abL h L HL.out)
      have hhc : h ≤ c := by have := HN.out; omega
      rw [HE.out] at HRr
      go_wp2_with (with_reducible refine wpList_headAt rfl (.tmp 28) (.tmp 29) rfl g 0 n c h _ rfl rfl rfl hhc ?_)
      go_ret
      exact ⟨rfl, ⟨HLL.out, levelT_digs L, _, HRr.out⟩, HO.out⟩
end
section
open Go.RowKit
def lenV : Value → Nat | .slice _ n _ => n | _ => 0
theorem LevAt.range {w : World} {g n : Nat} {L : List (List UInt8)} (h : LevAt w g n L) {j : Nat} (hj : j < n) : w.rangeAt g (32 * j) ((L.getD j []).map bcell) := by
  obtain ⟨b, off, d, e, _, hd, _, hB⟩ := h.ds.get hj
  injection e with e
  injection e with e1 e2
  subst e1 e2
  have he : L.getD j [] = d := by rw [List.getD_eq_getElem?_getD, hd]; rfl
  rw [he]
  have hr := hB.range
  rwa [Nat.zero_add] at hr
theorem OwnD.only {w w' : World} {base g : Nat} {v : Value} {n : Nat} {L : List (List UInt8)} (h : OwnD w base v n L) (ho : Only g w w') (hg : g < base) : OwnD w' base v n L := by
  refine ⟨h.1, h.2.1, ?_⟩
  rcases h.2.2 with h0 | ⟨b, cap, cur, hv, hge, hb, hr⟩
  · exact .inl h0
  · exact .inr ⟨b, cap, cur, hv, hge, (ho.block b (Array.getElem?_eq_some_iff.1 hb).1 (by omega)).trans hb, hr⟩
/-- []Digest of one -/
theorem run_build1 (p : List UInt8) (hp : p.length = 32) (w : World) :
    (Instr.buildSlice 42 1 #[(0, .agg (bcells p))]).run Tryd.prog w = .ok (.slice (some ⟨w.heap.size, 0, none⟩) 1 1) (w.alloc (.cells (bcells p) 23)) := by
  obtain ⟨i, hi, hz, hsize, hby⟩ := info_parts Tryd.infoD
  refine run_buildSlice w 42 23 1 _ _ i _ Tryd.under24 hi hz (by rw [hsize]; decide) (by rw [hsize]; decide) ?_
  rw [hsize]
  have hf := Great.fill_whole (s := 32) (by omega) [.agg (bcells p)] ((Array.range (1 * 32)).map ((Value.agg (bcells zero32)).cells[· % (Value.agg (bcells zero32)).cells.size]!))
    (fun v hv => by simp at hv; rw [hv]; simp [Value.cells, bcells_size, hp]) (by simp)
  have e : (([.agg (bcells p)] : List Value).flatMap fun v => v.cells.toList).toArray = bcells p := by
    simp [Value.cells, bcells]
  rw [e] at hf
  exact hf
theorem wpList_build1 {ops : Array Oper} {rest : List Oper} {o : Oper} {a : Act} {w : World} {Q : Exit → Act → World → Prop} (hgd : o.guard = none) (x : Operand) (ho : o.op = .buildSlice 42 1 #[(0, x)]) (p : List UInt8)
    (hx : a.eval x = .agg (bcells p)) (hp : p.length = 32)
    (h : ∀ g w', g = w.heap.size → Ds w' (some ⟨g, 0, none⟩) 1 [p] → Below w.heap.size w w' → wpList Tryd.prog ops Q rest (a.put o.dst (.slice (some ⟨g, 0, none⟩) 1 1)) w') : wpList Tryd.prog ops Q (o :: rest) a w := by
  refine wpList_plain hgd fun K hK => ?_
  have hd : Ds (w.alloc (.cells (bcells p) 23)) (some ⟨w.heap.size, 0, none⟩) 1 [p] := by
    refine ⟨rfl, Digs.one hp, ?_⟩
    have e : flat [p] = p := by simp [flat]
    rw [e]
    exact (Row.new w 23 (bcells p)).bsB hp
  unfold Oper.wp execOp
  simp only [ho, List.map_toArray, List.map_cons, List.map_nil, hx, Sem.run_bind, run_build1 p hp, Result.andThen_ok]
  exact hK _ _ (h _ _ rfl hd ((Below.refl _ _).alloc (Nat.le_refl _) _))
set_option maxRecDepth 100000 in
set_option maxHeartbeats 400000 in
theorem Root_no (A : Option Addr) (n c : Nat) (w : World) (h : okT (n : Int) = false) : Calls Tryd.prog 38 #[.slice A n c] w (RecD w zero32 1) := by
  have HM := Lib.hid (fun w => show Calls Tryd.prog 67 #[.int .i64 (n : Int)] w fun e w' => e = .returned (.bool false) ∧ w = w' by have q := mayBe_any n w; rwa [h] at q)
  clear h
  go_enter Tryd.func38, Tryd.ntmps38
  go_wp2_with (first
    | (go_at_call 67; refine (HM.out _).mono ?_; rintro e1 w1 ⟨rfl, rfl⟩)
    | (with_reducible refine wpList_store_row Tryd.agg25 rfl (.tmp 2) (.tmp 9) rfl _ _ rfl rfl 23 lit32 (Row.new w 23 lit32) lit32_size lit32_size lit32_one ?_; intro w9 hr9 ho9; have HR9 := Lib.hid hr9; clear hr9))
  exact bodyPost_ret (results_row2 Tryd.agg25 Tryd.results38 rfl rfl HR9.out lit32_size) rfl ⟨rfl, ((Below.refl _ _).alloc (Nat.le_refl _) _).trans (ho9.below (Nat.le_refl _) (by simp))⟩
set_option maxRecDepth 100000 in
set_option maxHeartbeats 2000000 in
theorem Root_ok (k : Nat) (A : Option Addr) (n c : Nat) (L : List (List UInt8)) (w : World) (hk : k ≤ 10) (hn : n = 2 ^ k) (hD : Ds w A n L) (hT : Tab 1 w) : Calls Tryd.prog 38 #[.slice A n c] w (RecD w (rootD k L) 0) := by
  have HM := Lib.hid (fun w => show Calls Tryd.prog 67 #[.int .i64 (n : Int)] w fun e w' => e = .returned (.bool true) ∧ w = w' by have q := mayBe_any n w; rwa [hn, okT_of hk, ← hn] at q)
  have hn1 : n ≤ 1024 := by rw [hn]; exact two_pow_le hk
  have HN := Lib.hid hn
  have HT := Lib.hid hT
  have h2 := hT.1
  have hb0 := (Below.refl w.heap.size w).alloc (Nat.le_refl _) (.cells lit32 23)
  have HC := Lib.hid (copied_any A n c L (w.alloc (.cells lit32 23)) (hD.below hb0) hn1)
  have HRS := Lib.hid (show (bcells (rootD k L)).size = 32 by rw [bcells_size, rootD_length k L hD.2.1 (by rw [hD.1, hn])])
  have HRL := Lib.hid (rootD_length k L hD.2.1 (by rw [hD.1, hn]))
  obtain ⟨R, hR⟩ : ∃ R, rootD k L = R := ⟨_, rfl⟩
  rw [hR] at HRS HRL ⊢
  have HR := Lib.hid hR
  clear hD hn hT hR
  go_enter Tryd.func38, Tryd.ntmps38
  go_wp2_with (first
    | (go_at_call 67; refine (HM.out _).mono ?_; rintro e1 w1 ⟨rfl, rfl⟩)
    | (go_at_call 68; refine HC.out.mono ?_; rintro e1 w1 ⟨g, rfl, hg, hl1, hb1⟩; have HL1 := Lib.hid hl1; simp at hg; have hs1 := hb1.size; simp at hs1; have HZ1 := Lib.hid ((Row.new w 23 lit32).below hb1 (by simp)); have hb1' := hb0.trans (hb1.mono (by simp)); clear hl1))
  go_loopw [4] (fun v wr => ∃ (j m : Nat) (M : List (List UInt8)), j ≤ 10 ∧ v = .slice (some ⟨g, 0, none⟩) m n ∧ Hid (m = 2 ^ j) ∧ m ≤ n ∧ LevAt wr g m M ∧ Hid (rootD j M = R) ∧ Below w.heap.size w wr ∧ Row wr w.heap.size 23 lit32) (fun v _ => lenV v)
  case atStart => exact ⟨k, n, L, hk, rfl, HN, Nat.le_refl _, HL1.out, HR, hb1', HZ1.out⟩
  case round =>
    obtain ⟨j, m, M, hj, rfl, HJ, hmn, hlev, HM2, hbel, hz⟩ := hrel
    have hbs := hbel.size
    have HLv := Lib.hid hlev
    have hglt := hlev.lt
    have HZr := Lib.hid hz
    have HTr := Lib.hid (HT.out.below hbel)
    clear hlev hz
    rcases j with _ | j
    · have hm1 : m = 1 := HJ.out
      subst hm1
      have HD0 := Lib.hid (show M.getD 0 [] = R from HM2.out)
      have HRG := Lib.hid (show wr.rangeAt g 0 (R.map bcell) by have q := HLv.out.range (j := 0) (by omega); rwa [HD0.out] at q)
      go_wp2_with (first
        | (with_reducible refine wpList_indexO rfl (.tmp 17) _ rfl g 0 1 n 0 0 _ rfl rfl rfl (by omega) rfl ?_)
        | (with_reducible refine wpList_loadD rfl (.tmp 18) rfl g 0 R rfl HRG.out HRL.out ?_)
        | (with_reducible refine wpList_store_row Tryd.agg25 rfl (.tmp 2) (.tmp 19) rfl _ _ rfl rfl 23 lit32 HZr.out HRS.out lit32_size (bcells_one _) ?_; intro w9 hr9 ho9; have HR9 := Lib.hid hr9; clear hr9))
      exact bodyPost_ret (results_row2 Tryd.agg25 Tryd.results38 rfl rfl HR9.out HRS.out) rfl ⟨rfl, hbel.trans (ho9.below (Nat.le_refl _) hbs)⟩
    · obtain ⟨h, hh⟩ : ∃ h, 2 ^ j = h := ⟨_, rfl⟩
      have hm2 : m = 2 * h := by have := HJ.out; rw [Nat.pow_succ] at this; omega
      have hh0 : 0 < h := by rw [← hh]; exact Nat.pow_pos (by decide)
      have i0 : (1 : Int) < (m : Int) := by omega
      have HH := Lib.hid hh
      have HRA := Lib.hid (raised_any g h n M wr m hm2 HLv.out hmn (by omega) HTr.out (by omega))
      have HLL := Lib.hid (rootT_level abL [] j M (by rw [HLv.out.1]; exact HJ.out))
      have hhm : h < m := by omega
      clear hh hm2
      go_wp2_with (go_at_call 69; refine HRA.out.mono ?_; rintro e3 w3 ⟨rfl, hl3, ho3⟩; have HL3 := Lib.hid hl3; have HZ3 := Lib.hid (HZr.out.only ho3 (by omega)); have hb3 := hbel.trans (ho3.below (B := w.heap.size) (by omega) hbs); clear hl3)
      go_roundw
      case rel => exact ⟨j, h, levelT abL M, by omega, rfl, Lib.hid HH.out.symm, by omega, HL3.out, Lib.hid (by rw [← HM2.out]; exact HLL.out.symm), hb3, HZ3.out⟩
      case measure => simp [lenV]; omega
set_option maxRecDepth 100000 in
set_option maxHeartbeats 400000 in
theorem Path_no (A : Option Addr) (n c : Nat) (i : Int) (w : World) (h : okT (n : Int) = false ∨ i < 0 ∨ (n : Int) ≤ i) : Calls Tryd.prog 42 #[.slice A n c, .int .i64 i] w (NewD w [] 1) := by
  have HM := Lib.hid (fun w => mayBe_any n w)
  cases ht : okT (n : Int)
  · rw [ht] at HM
    clear h ht
    go_enter Tryd.func42, Tryd.ntmps42
    go_wp2_with (go_at_call 67; refine (HM.out _).mono ?_; rintro e1 w1 ⟨rfl, rfl⟩)
    go_ret2
    exact NewD.nil w 1
  · rw [ht] at HM
    by_cases h0 : i < 0
    · clear h ht
      go_enter Tryd.func42, Tryd.ntmps42
      go_wp2_with (go_at_call 67; refine (HM.out _).mono ?_; rintro e1 w1 ⟨rfl, rfl⟩)
      go_ret2
      exact NewD.nil w 1
    · have h1 : (n : Int) ≤ i := by
        rcases h with h | h | h
        · rw [ht] at h; cases h
        · omega
        · exact h
      clear h ht
      go_enter Tryd.func42, Tryd.ntmps42
      go_wp2_with (go_at_call 67; refine (HM.out _).mono ?_; rintro e1 w1 ⟨rfl, rfl⟩)
      go_ret2
      exact NewD.nil w 1
set_option maxRecDepth 100000 in
set_option maxHeartbeats 2000000 in
theorem Path_ok (k : Nat) (A : Option Addr) (n c i : Nat) (L : List (List UInt8)) (w : World) (hk : k ≤ 10) (hn : n = 2 ^ k) (hi : i < n) (hD : Ds w A n L) (hT : Tab 1 w) : Calls Tryd.prog 42 #[.slice A n c, .int .i64 (i : Int)] w (NewD w (pathD k L i) 0) := by
  have HM := Lib.hid (fun w => show Calls Tryd.prog 67 #[.int .i64 (n : Int)] w fun e w' => e = .returned (.bool true) ∧ w = w' by have q := mayBe_any n w; rwa [hn, okT_of hk, ← hn] at q)
  have hn1 : n ≤ 1024 := by rw [hn]; exact two_pow_le hk
  have HN := Lib.hid hn
  have HT := Lib.hid hT
  have h2 := hT.1
  have i0 : ¬ (i : Int) < 0 := by omega
  have i1 : ¬ (n : Int) ≤ (i : Int) := by omega
  have hmk := run_madeD 0 10 0 10 rfl rfl (by omega) (by omega)
  have HC := Lib.hid (copied_any A n c L w hD hn1)
  obtain ⟨P, hP⟩ : ∃ P, pathD k L i = P := ⟨_, rfl⟩
  rw [hP]
  have HP := Lib.hid hP
  have HSZ := Lib.hid (show (bcells (List.replicate (10 * 32) (0 : UInt8))).size = 10 * 32 by rw [bcells_size, List.length_replicate])
  generalize bcells (List.replicate (10 * 32) 0) = Z at *
  clear hD hn hT hP
  go_enter Tryd.func42, Tryd.ntmps42
  go_wp2_with (first
    | (go_at_call 67; refine (HM.out _).mono ?_; rintro e1 w1 ⟨rfl, rfl⟩)
    | (go_at_call 68; refine HC.out.mono ?_; rintro e1 w1 ⟨g, rfl, hg, hl1, hb1⟩; have HL1 := Lib.hid hl1; have hs1 := hb1.size; have hg1 := hl1.lt; clear hl1))
  obtain ⟨B, hB⟩ : ∃ B, B = w1.heap.size := ⟨_, rfl⟩
  have HO1 := Lib.hid (show OwnD (w1.alloc (.cells Z 23)) B (.slice (some ⟨w1.heap.size, 0, none⟩) 0 10) 0 [] from OwnD.made w1 B 10 Z (by omega) (by omega) HSZ.out)
  have hB0 : B ≤ (w1.alloc (.cells Z 23)).heap.size := by simp; omega
  have hgB : g < B := by omega
  have HLz := Lib.hid (show LevAt (w1.alloc (.cells Z 23)) g n L by obtain ⟨q1, q2, R, q3⟩ := HL1.out; exact ⟨q1, q2, R, q3.alloc _⟩)
  have hbz : Below w.heap.size w (w1.alloc (.cells Z 23)) := hb1.alloc hs1 _
  clear hB
  go_loopw [1, 6, 7] (fun vi v pv wr => ∃ (j m x q : Nat) (M Y : List (List UInt8)) (A1 : Option Addr) (c1 : Nat), j ≤ 10 ∧ vi = .int .i64 (x : Int) ∧ v = .slice (some ⟨g, 0, none⟩) m n ∧ pv = .slice A1 q c1 ∧ Hid (m = 2 ^ j) ∧ m ≤ n ∧ x < m ∧ q + j ≤ 10 ∧ LevAt wr g m M ∧ OwnD wr B (.slice A1 q c1) q Y ∧ Hid (P = Y ++ pathD j M x) ∧ Below w.heap.size w wr ∧ B ≤ wr.heap.size) (fun _ v _ _ => lenV v)
  case atStart => exact ⟨k, n, i, 0, L, [], _, 10, hk, rfl, rfl, rfl, HN, Nat.le_refl _, hi, by omega, HLz.out, HO1.out, Lib.hid HP.out.symm, hbz, hB0⟩
  case round =>
    obtain ⟨j, m, x, q, M, Y, A1, c1, hj, rfl, rfl, rfl, HJ, hmn, hxm, hqj, hlev, hown, HY, hbel, hBr⟩ := hrel
    have hbs := hbel.size
    have HLv := Lib.hid hlev
    have hglt := hlev.lt
    have HO := Lib.hid hown
    have HTr := Lib.hid (HT.out.below hbel)
    clear hlev hown
    rcases j with _ | j
    · have hm1 : m = 1 := HJ.out
      subst hm1
      have HE := Lib.hid (show P = Y by have e := HY.out; rwa [show pathD 0 M x = [] from rfl, List.append_nil] at e)
      go_wp2_with fail
      go_ret2
      rw [HE.out]
      exact (HO.out.mono (by omega)).new hbel
    · obtain ⟨h, hh⟩ : ∃ h, 2 ^ j = h := ⟨_, rfl⟩
      have hm2 : m = 2 * h := by have := HJ.out; rw [Nat.pow_succ] at this; omega
      have hh0 : 0 < h := by rw [← hh]; exact Nat.pow_pos (by decide)
      have i2 : (1 : Int) < (m : Int) := by omega
      have HH := Lib.hid hh
      obtain ⟨b, hb⟩ : ∃ b, besideN x = b := ⟨_, rfl⟩
      have hbm : b < m := by rw [← hb, HJ.out]; exact besideN_lt (by rw [← HJ.out]; exact hxm)
      have hxor : bits .xor .i64 (x : Int) 1 = (b : Int) := by rw [beside_bits x (by omega), hb]
      have HPT := Lib.hid (show pathD (j + 1) M x = M.getD b [] :: pathD j (levelT abL M) (x / 2) by
        have e := pathT_level abL [] j M x (by rw [HLv.out.1]; exact HJ.out) (by rw [← HJ.out]; exact hxm)
        rwa [hb] at e)
      have HDL : Hid ((M.getD b []).length = 32) := Lib.hid (HLv.out.2.1.getD (by rw [HLv.out.1]; exact hbm))
      have HRG := Lib.hid (HLv.out.range hbm)
      have hdiv : ((x : Int)).tdiv 2 = ((x / 2 : Nat) : Int) := by rw [Int.tdiv_eq_ediv_of_nonneg (by omega)]; omega
      obtain ⟨o1, ho1⟩ : ∃ o, 0 + 32 * b = o := ⟨_, rfl⟩
      have HO1 := Lib.hid ho1
      rw [Nat.zero_add] at ho1
      rw [ho1] at HRG
      generalize M.getD b [] = d at *
      have HRA := Lib.hid (fun wq hl hT => raised_any g h n M wq m hm2 hl hmn (by omega) hT (by omega))
      have hhm : h < m := by omega
      have hx2 : x / 2 < h := by omega
      clear hh hm2 hb ho1
      go_wp2_with (first
        | (with_reducible refine wpList_indexO rfl (.tmp 29) (.tmp 31) rfl g 0 m n b o1 _ rfl rfl rfl hbm HO1.out ?_)
        | (with_reducible refine wpList_loadD rfl (.tmp 32) rfl g o1 d rfl HRG.out HDL.out ?_)
        | (with_reducible refine wpList_build1 rfl (.tmp 33) rfl d rfl HDL.out ?_; intro g4 w4 hg4 hd4 hb4; have HD4 := Lib.hid hd4; have hs4 := hb4.size; clear hd4 hg4)
        | (at_builtin; refine wpList_appD rfl (.tmp 28) (.tmp 34) rfl B _ q Y rfl (HO.out.below hb4) _ 1 1 [d] rfl HD4.out (by omega) (by omega) ?_; intro A5 c5 w5 ho5 hb5; have HO5 := Lib.hid ho5; have HL5 := Lib.hid ((HLv.out.below hb4 hglt).below hb5 hgB); have hs5 := hb5.size; have hb5' := (hbel.trans (hb4.mono hbs)).trans (hb5.mono (by omega)); have HT5 := Lib.hid (HT.out.below hb5'); clear ho5)
        | (go_at_call 69; refine (HRA.out w5 HL5.out HT5.out).mono ?_; rintro e6 w6 ⟨rfl, hl6, ho6⟩; have HL6 := Lib.hid hl6; have HO6 := Lib.hid (HO5.out.only ho6 hgB); have hs6 := ho6.size; have hb6 := hb5'.trans (ho6.below (B := w.heap.size) (by omega) hb5'.size); clear hl6))
      go_roundw
      case rel => exact ⟨j, h, x / 2, q + 1, levelT abL M, Y ++ [d], A5, c5, by omega, by go_num, rfl, rfl, Lib.hid HH.out.symm, by omega, hx2, by omega, HL6.out, HO6.out, Lib.hid (by rw [HY.out, HPT.out]; simp), hb6, by omega⟩
      case measure => simp [lenV]; omega
end
section
open Go.RowKit
theorem wrap_pow {n : Nat} (h : n ≤ 10) : wrap64 ((2 : Int) ^ n) = ((2 ^ n : Nat) : Int) := by
  have e : ((2 : Int) ^ n) = ((2 ^ n : Nat) : Int) := by simp
  have h1 := two_pow_le h
  rw [e]
  generalize 2 ^ n = p at *
  unfold wrap64
  omega
theorem div_pow (i m : Nat) : ((i : Int)) / 2 ^ m = ((i / 2 ^ m : Nat) : Int) := by simp
set_option maxRecDepth 100000 in
set_option maxHeartbeats 400000 in
theorem Climb_long (d : List UInt8) (A : Option Addr) (n c : Nat) (i : Int) (w : World) (h : 10 < n) : Calls Tryd.prog 48 #[.agg (bcells d), .int .i64 i, .slice A n c] w (RecD w zero32 1) := by
  have i0 : (10 : Int) < (n : Int) := by omega
  clear h
  have hb0 := ((Below.refl w.heap.size w).alloc (Nat.le_refl _) (.cells (bcells d) 23)).alloc (by simp) (.cells lit32 23)
  go_enter Tryd.func48, Tryd.ntmps48
  go_wp2_with (with_reducible refine wpList_store_row Tryd.agg25 rfl (.tmp 6) (.tmp 24) rfl _ _ rfl rfl 23 lit32 (Row.new1 w (.cells (bcells d) 23) 23 lit32) lit32_size lit32_size lit32_one ?_; intro w9 hr9 ho9; have HR9 := Lib.hid hr9; clear hr9)
  exact bodyPost_ret (results_row2 Tryd.agg25 Tryd.results48 rfl rfl HR9.out lit32_size) rfl ⟨rfl, hb0.trans (ho9.below (by omega) (by simp; omega))⟩
set_option maxRecDepth 100000 in
set_option maxHeartbeats 400000 in
theorem Climb_neg (d : List UInt8) (A : Option Addr) (n c : Nat) (i : Int) (w : World) (h : n ≤ 10) (hi : i < 0) : Calls Tryd.prog 48 #[.agg (bcells d), .int .i64 i, .slice A n c] w (RecD w zero32 1) := by
  have i0 : ¬ (10 : Int) < (n : Int) := by omega
  clear h
  have hb0 := ((Below.refl w.heap.size w).alloc (Nat.le_refl _) (.cells (bcells d) 23)).alloc (by simp) (.cells lit32 23)
  go_enter Tryd.func48, Tryd.ntmps48
  go_wp2_with (with_reducible refine wpList_store_row Tryd.agg25 rfl (.tmp 6) (.tmp 24) rfl _ _ rfl rfl 23 lit32 (Row.new1 w (.cells (bcells d) 23) 23 lit32) lit32_size lit32_size lit32_one ?_; intro w9 hr9 ho9; have HR9 := Lib.hid hr9; clear hr9)
  exact bodyPost_ret (results_row2 Tryd.agg25 Tryd.results48 rfl rfl HR9.out lit32_size) rfl ⟨rfl, hb0.trans (ho9.below (by omega) (by simp; omega))⟩
set_option maxRecDepth 100000 in
set_option maxHeartbeats 400000 in
theorem Climb_far (d : List UInt8) (A : Option Addr) (n c : Nat) (i : Int) (w : World) (h : n ≤ 10) (hi : ¬ i < 0) (hf : ((2 ^ n : Nat) : Int) ≤ i) : Calls Tryd.prog 48 #[.agg (bcells d), .int .i64 i, .slice A n c] w (RecD w zero32 1) := by
  have i0 : ¬ (10 : Int) < (n : Int) := by omega
  have i1 : wrap64 ((2 : Int) ^ n) ≤ i := by rw [wrap_pow h]; exact hf
  clear h hf
  have hb0 := ((Below.refl w.heap.size w).alloc (Nat.le_refl _) (.cells (bcells d) 23)).alloc (by simp) (.cells lit32 23)
  go_enter Tryd.func48, Tryd.ntmps48
  go_wp2_with (with_reducible refine wpList_store_row Tryd.agg25 rfl (.tmp 6) (.tmp 24) rfl _ _ rfl rfl 23 lit32 (Row.new1 w (.cells (bcells d) 23) 23 lit32) lit32_size lit32_size lit32_one ?_; intro w9 hr9 ho9; have HR9 := Lib.hid hr9; clear hr9)
  exact bodyPost_ret (results_row2 Tryd.agg25 Tryd.results48 rfl rfl HR9.out lit32_size) rfl ⟨rfl, hb0.trans (ho9.below (by omega) (by simp; omega))⟩
set_option maxRecDepth 100000 in
set_option maxHeartbeats 2000000 in
theorem Climb_ok (d : List UInt8) (A : Option Addr) (n c i : Nat) (P : List (List UInt8)) (w : World) (hd : d.length = 32) (hn : n ≤ 10) (hi : i < 2 ^ n) (hD : Ds w A n P) (hT : Tab 1 w) :
    Calls Tryd.prog 48 #[.agg (bcells d), .int .i64 (i : Int), .slice A n c] w (RecD w (climbD d i P) 0) := by
  have i0 : ¬ (10 : Int) < (n : Int) := by omega
  have i1 : ¬ (i : Int) < 0 := by omega
  have hp := two_pow_le hn
  have hi2 : i < 1024 := by omega
  have hw := wrap_pow hn
  have i2 : ¬ wrap64 ((2 : Int) ^ n) ≤ (i : Int) := by rw [hw]; omega
  have HD := Lib.hid hD
  have HT := Lib.hid hT
  have h2 := hT.1
  have HKS := Lib.hid (show (bcells d).size = 32 by rw [bcells_size, hd])
  have HDL := Lib.hid hd
  have HRS := Lib.hid (show (bcells (climbD d i P)).size = 32 by rw [bcells_size, climbD_length P d i hd])
  have HTK := Lib.hid (show P.take n = P from List.take_of_length_le (by rw [hD.1]; exact Nat.le_refl _))
  have hb0 := (((Below.refl w.heap.size w).alloc (Nat.le_refl _) (.cells (bcells d) 23)).alloc (by simp) (.cells lit32 23)).alloc (by simp; omega) (.cells lit32 23)
  have HB0 := Lib.hid (((Row.new w 23 (bcells d)).alloc (.cells lit32 23)))
  have HZ0 := Lib.hid (((Row.new1 w (.cells (bcells d) 23) 23 lit32).alloc (.cells lit32 23)))
  have HN0 := Lib.hid (Row.new2 w (.cells (bcells d) 23) (.cells lit32 23) 23 lit32)
  have HSZ := Lib.hid (show w.heap.size + 1 + 1 + 1 = (((w.alloc (.cells (bcells d) 23)).alloc (.cells lit32 23)).alloc (.cells lit32 23)).heap.size by simp)
  clear hD hT hd hw hp hi
  go_enter Tryd.func48, Tryd.ntmps48
  go_wp2_with (first
    | (with_reducible refine wpList_load_row Tryd.agg25 rfl (.tmp 3) rfl _ rfl 23 _ HB0.out HKS.out ?_)
    | (with_reducible refine wpList_store_row Tryd.agg25 rfl (.tmp 8) (.tmp 25) rfl _ _ rfl rfl 23 lit32 HN0.out HKS.out lit32_size (bcells_one _) ?_; intro w1 hr1 ho1; have HN1 := Lib.hid hr1; have hs1 := ho1.size; simp at hs1; have HZ1 := Lib.hid (HZ0.out.only ho1 (by omega)); have hb1 := hb0.trans (ho1.below (B := w.heap.size) (by omega) (by simp; omega)); clear hr1))
  obtain ⟨gn, hgn⟩ : ∃ g, g = w.heap.size + 1 + 1 := ⟨_, rfl⟩
  rw [← hgn] at HN1 ⊢
  have hgn1 : w.heap.size + 1 < gn := by omega
  clear hgn
  go_loopw [28] (fun v wr => ∃ m : Nat, m ≤ n ∧ v = .int .i64 (m : Int) ∧ Below w.heap.size w wr ∧ Row wr (w.heap.size + 1) 23 lit32 ∧ Row wr gn 23 (bcells (climbD d i (P.take m)))) (fun v _ => n - (intOf v).toNat)
  case atStart => exact ⟨0, Nat.zero_le _, rfl, hb1, HZ1.out, by rw [List.take_zero]; exact HN1.out⟩
  case round =>
    obtain ⟨m, hm, rfl, hbel, hz, hnode⟩ := hrel
    have hbs := hbel.size
    have HZr := Lib.hid hz
    have hzlt := hz.lt
    have HNr := Lib.hid hnode
    have hnlt := hnode.lt
    have HTr := Lib.hid (HT.out.below hbel)
    clear hz hnode
    by_cases hlt : m < n
    · have him : (m : Int) < (n : Int) := by omega
      obtain ⟨b, off, x, rfl, hb, hx, hxl, hBx⟩ := HD.out.get hlt
      have HBX := Lib.hid (hBx.below hbel).range
      have HXL := Lib.hid hxl
      have hst := climbD_step d i P m (by rw [HD.out.1]; exact hlt)
      have hgx : P.getD m [] = x := by rw [List.getD_eq_getElem?_getD, hx]; rfl
      rw [hgx] at hst
      have hcl : (climbD d i (P.take m)).length = 32 := climbD_length _ d i HDL.out
      have HCL := Lib.hid hcl
      obtain ⟨y, hy⟩ : ∃ y, climbD d i (P.take m) = y := ⟨_, rfl⟩
      rw [hy] at HNr HCL hst
      have HNX := Lib.hid (range_row HNr.out)
      have HYS : Hid ((bcells y).size = 32) := Lib.hid (by rw [bcells_size]; exact HCL.out)
      have hdv := div_pow i m
      have hev := odd_bits (i / 2 ^ m) (Nat.lt_of_le_of_lt (Nat.div_le_self _ _) hi2)
      obtain ⟨t, ht⟩ : ∃ t, i / 2 ^ m = t := ⟨_, rfl⟩
      rw [ht] at hst hdv hev
      obtain ⟨o1, ho1⟩ : ∃ o, off + 32 * m = o := ⟨_, rfl⟩
      have HO1 := Lib.hid ho1
      rw [ho1] at HBX
      have hmt : t % 2 = 0 ∨ t % 2 = 1 := by omega
      clear hx hBx hxl hgx hcl hy ht ho1
      rcases hmt with h0 | h0
      · rw [h0] at hev
        rw [if_pos h0] at hst
        have HST := Lib.hid hst
        have HAB := Lib.hid (fun w hT => Above_any y x w HCL.out HXL.out hT)
        have HAS := Lib.hid (show (bcells (abL y x)).size = 32 by rw [bcells_size, abL_length])
        generalize abL y x = z at *
        clear hst h0
        go_wp2_with fail
        refine wp_region_noPanic ?_
        refine wp_region_held_drew (S := fun w' => True) (by kernel_rfl) trivial (fun hHeld => ?_)
        refine takeD (i := 1) (some 37) (.slice (some ⟨b, off, none⟩) n c) rfl rfl (by kernel_rfl) (by kernel_rfl) (by kernel_rfl) (fun _ _ _ h => h) (Or.inl ⟨by rfl, fun _ _ => rfl⟩) hHeld ?_
        simp only [Act.put, List.setIfInBounds_toArray, List.set_cons_zero, List.set_cons_succ]
        refine takeD (i := 2) (some 38) (.int .i64 (m : Int)) rfl rfl (by kernel_rfl) (by kernel_rfl) (by kernel_rfl) (fun _ _ _ h => h) (Or.inl ⟨by rfl, fun _ _ => rfl⟩) hHeld ?_
        simp only [Act.put, List.setIfInBounds_toArray, List.set_cons_zero, List.set_cons_succ]
        refine takeD (i := 3) (some 39) (.pointer (some ⟨b, o1, none⟩)) rfl rfl (by kernel_rfl) (by kernel_rfl) (by kernel_rfl) (fun _ _ _ h => h) (yields_indexO rfl (.tmp 37) (.tmp 38) rfl b off n c m o1 _ rfl rfl rfl hlt HO1.out) hHeld ?_
        simp only [Act.put, List.setIfInBounds_toArray, List.set_cons_zero, List.set_cons_succ]
        have B0 : Below wr.heap.size wr wr.drew := (Below.refl wr.heap.size wr).drew
        refine wpAnyH_ready (rs := [0, 4]) (by kernel_rfl) (by decide) ?_
        refine AllReadyH.cons rfl (fun K' hK => ?_) (AllReadyH.cons rfl (fun K' hK => ?_) AllReadyH.nil)
        · refine step_of rfl (wp_loadD (.tmp 8) rfl gn 0 y rfl HNX.out HCL.out ?_)
          refine hK.out _ _ trivial (fun _ => ?_)
          clear hK
          refine wpAnyH_ready (rs := [4]) (by kernel_rfl) (by decide) ?_
          refine AllReadyH.cons rfl (fun K' hK => ?_) AllReadyH.nil
          refine step_of rfl (wp_loadD (.tmp 39) rfl b o1 x rfl HBX.out HXL.out ?_)
          refine hK.out _ _ trivial (fun hHeld2 => ?_)
          clear hK
          refine wpAnyH_ready (rs := [5]) (by kernel_rfl) (by decide) ?_
          refine AllReadyH.cons rfl (fun K' hK => ?_) AllReadyH.nil
          go_simp
          refine (HAB.out wr.drew (HTr.out.below B0)).mono ?_
          rintro e3 w3 ⟨rfl, hb3⟩
          have B3 : Below wr.heap.size wr w3 := B0.trans (hb3.mono B0.size)
          have HN3 := Lib.hid (HNr.out.below B3 hnlt)
          have HZ3 := Lib.hid (HZr.out.below B3 hzlt)
          refine hK.out _ _ trivial (fun hHeld3 => ?_)
          clear hK
          refine wpAnyH_ready (rs := [6]) (by kernel_rfl) (by decide) ?_
          refine AllReadyH.cons rfl (fun K' hK => ?_) AllReadyH.nil
          refine step_store_row Tryd.agg25 rfl (.tmp 8) (.tmp 41) rfl _ _ rfl rfl 23 _ HN3.out HAS.out HYS.out (bcells_one _) ?_
          intro w9 hr9 ho9
          have HR9 := Lib.hid hr9
          have HZ9 := Lib.hid (HZ3.out.only ho9 (by omega))
          clear hr9
          refine hK.out _ _ trivial (fun hHeld9 => ?_)
          clear hK
          (try simp only [Act.put, List.setIfInBounds_toArray])
          refine wpAnyH_done (by kernel_rfl) ?_ _
          refine NoPanic.normal ?_
          go_wp2_with fail
          have hb3' := hbel.trans (B3.mono hbs)
          refine ⟨⟨m + 1, by omega, by go_num, hb3'.trans (ho9.below (by omega) hb3'.size), HZ9.out, ?_⟩, by simp [intOf]; omega⟩
          rw [HST.out]
          exact HR9.out
        · refine step_of rfl (wp_loadD (.tmp 39) rfl b o1 x rfl HBX.out HXL.out ?_)
          refine hK.out _ _ trivial (fun _ => ?_)
          clear hK
          refine wpAnyH_ready (rs := [0]) (by kernel_rfl) (by decide) ?_
          refine AllReadyH.cons rfl (fun K' hK => ?_) AllReadyH.nil
          refine step_of rfl (wp_loadD (.tmp 8) rfl gn 0 y rfl HNX.out HCL.out ?_)
          refine hK.out _ _ trivial (fun hHeld2 => ?_)
          clear hK
          refine wpAnyH_ready (rs := [5]) (by kernel_rfl) (by decide) ?_
          refine AllReadyH.cons rfl (fun K' hK => ?_) AllReadyH.nil
          go_simp
          refine (HAB.out wr.drew (HTr.out.below B0)).mono ?_
          rintro e3 w3 ⟨rfl, hb3⟩
          have B3 : Below wr.heap.size wr w3 := B0.trans (hb3.mono B0.size)
          have HN3 := Lib.hid (HNr.out.below B3 hnlt)
          have HZ3 := Lib.hid (HZr.out.below B3 hzlt)
          refine hK.out _ _ trivial (fun hHeld3 => ?_)
          clear hK
          refine wpAnyH_ready (rs := [6]) (by kernel_rfl) (by decide) ?_
          refine AllReadyH.cons rfl (fun K' hK => ?_) AllReadyH.nil
          refine step_store_row Tryd.agg25 rfl (.tmp 8) (.tmp 41) rfl _ _ rfl rfl 23 _ HN3.out HAS.out HYS.out (bcells_one _) ?_
          intro w9 hr9 ho9
          have HR9 := Lib.hid hr9
          have HZ9 := Lib.hid (HZ3.out.only ho9 (by omega))
          clear hr9
          refine hK.out _ _ trivial (fun hHeld9 => ?_)
          clear hK
          (try simp only [Act.put, List.setIfInBounds_toArray])
          refine wpAnyH_done (by kernel_rfl) ?_ _
          refine NoPanic.normal ?_
          go_wp2_with fail
          have hb3' := hbel.trans (B3.mono hbs)
          refine ⟨⟨m + 1, by omega, by go_num, hb3'.trans (ho9.below (by omega) hb3'.size), HZ9.out, ?_⟩, by simp [intOf]; omega⟩
          rw [HST.out]
          exact HR9.out
      · rw [h0] at hev
        rw [if_neg (by omega)] at hst
        have HST := Lib.hid hst
        have HAB := Lib.hid (fun w hT => Above_any x y w HXL.out HCL.out hT)
        have HAS := Lib.hid (show (bcells (abL x y)).size = 32 by rw [bcells_size, abL_length])
        generalize abL x y = z at *
        clear hst h0
        go_wp2_with fail
        refine wp_region_noPanic ?_
        refine wp_region_held_drew (S := fun w' => True) (by kernel_rfl) trivial (fun hHeld => ?_)
        refine takeD (i := 0) (some 42) (.slice (some ⟨b, off, none⟩) n c) rfl rfl (by kernel_rfl) (by kernel_rfl) (by kernel_rfl) (fun _ _ _ h => h) (Or.inl ⟨by rfl, fun _ _ => rfl⟩) hHeld ?_
        simp only [Act.put, List.setIfInBounds_toArray, List.set_cons_zero, List.set_cons_succ]
        refine takeD (i := 1) (some 43) (.int .i64 (m : Int)) rfl rfl (by kernel_rfl) (by kernel_rfl) (by kernel_rfl) (fun _ _ _ h => h) (Or.inl ⟨by rfl, fun _ _ => rfl⟩) hHeld ?_
        simp only [Act.put, List.setIfInBounds_toArray, List.set_cons_zero, List.set_cons_succ]
        refine takeD (i := 2) (some 44) (.pointer (some ⟨b, o1, none⟩)) rfl rfl (by kernel_rfl) (by kernel_rfl) (by kernel_rfl) (fun _ _ _ h => h) (yields_indexO rfl (.tmp 42) (.tmp 43) rfl b off n c m o1 _ rfl rfl rfl hlt HO1.out) hHeld ?_
        simp only [Act.put, List.setIfInBounds_toArray, List.set_cons_zero, List.set_cons_succ]
        have B0 : Below wr.heap.size wr wr.drew := (Below.refl wr.heap.size wr).drew
        refine wpAnyH_ready (rs := [3, 4]) (by kernel_rfl) (by decide) ?_
        refine AllReadyH.cons rfl (fun K' hK => ?_) (AllReadyH.cons rfl (fun K' hK => ?_) AllReadyH.nil)
        · refine step_of rfl (wp_loadD (.tmp 44) rfl b o1 x rfl HBX.out HXL.out ?_)
          refine hK.out _ _ trivial (fun _ => ?_)
          clear hK
          refine wpAnyH_ready (rs := [4]) (by kernel_rfl) (by decide) ?_
          refine AllReadyH.cons rfl (fun K' hK => ?_) AllReadyH.nil
          refine step_of rfl (wp_loadD (.tmp 8) rfl gn 0 y rfl HNX.out HCL.out ?_)
          refine hK.out _ _ trivial (fun hHeld2 => ?_)
          clear hK
          refine wpAnyH_ready (rs := [5]) (by kernel_rfl) (by decide) ?_
          refine AllReadyH.cons rfl (fun K' hK => ?_) AllReadyH.nil
          go_simp
          refine (HAB.out wr.drew (HTr.out.below B0)).mono ?_
          rintro e3 w3 ⟨rfl, hb3⟩
          have B3 : Below wr.heap.size wr w3 := B0.trans (hb3.mono B0.size)
          have HN3 := Lib.hid (HNr.out.below B3 hnlt)
          have HZ3 := Lib.hid (HZr.out.below B3 hzlt)
          refine hK.out _ _ trivial (fun hHeld3 => ?_)
          clear hK
          refine wpAnyH_ready (rs := [6]) (by kernel_rfl) (by decide) ?_
          refine AllReadyH.cons rfl (fun K' hK => ?_) AllReadyH.nil
          refine step_store_row Tryd.agg25 rfl (.tmp 8) (.tmp 47) rfl _ _ rfl rfl 23 _ HN3.out HAS.out HYS.out (bcells_one _) ?_
          intro w9 hr9 ho9
          have HR9 := Lib.hid hr9
          have HZ9 := Lib.hid (HZ3.out.only ho9 (by omega))
          clear hr9
          refine hK.out _ _ trivial (fun hHeld9 => ?_)
          clear hK
          (try simp only [Act.put, List.setIfInBounds_toArray])
          refine wpAnyH_done (by kernel_rfl) ?_ _
          refine NoPanic.normal ?_
          go_wp2_with fail
          have hb3' := hbel.trans (B3.mono hbs)
          refine ⟨⟨m + 1, by omega, by go_num, hb3'.trans (ho9.below (by omega) hb3'.size), HZ9.out, ?_⟩, by simp [intOf]; omega⟩
          rw [HST.out]
          exact HR9.out
        · refine step_of rfl (wp_loadD (.tmp 8) rfl gn 0 y rfl HNX.out HCL.out ?_)
          refine hK.out _ _ trivial (fun _ => ?_)
          clear hK
          refine wpAnyH_ready (rs := [3]) (by kernel_rfl) (by decide) ?_
          refine AllReadyH.cons rfl (fun K' hK => ?_) AllReadyH.nil
          refine step_of rfl (wp_loadD (.tmp 44) rfl b o1 x rfl HBX.out HXL.out ?_)
          refine hK.out _ _ trivial (fun hHeld2 => ?_)
          clear hK
          refine wpAnyH_ready (rs := [5]) (by kernel_rfl) (by decide) ?_
          refine AllReadyH.cons rfl (fun K' hK => ?_) AllReadyH.nil
          go_simp
          refine (HAB.out wr.drew (HTr.out.below B0)).mono ?_
          rintro e3 w3 ⟨rfl, hb3⟩
          have B3 : Below wr.heap.size wr w3 := B0.trans (hb3.mono B0.size)
          have HN3 := Lib.hid (HNr.out.below B3 hnlt)
          have HZ3 := Lib.hid (HZr.out.below B3 hzlt)
          refine hK.out _ _ trivial (fun hHeld3 => ?_)
          clear hK
          refine wpAnyH_ready (rs := [6]) (by kernel_rfl) (by decide) ?_
          refine AllReadyH.cons rfl (fun K' hK => ?_) AllReadyH.nil
          refine step_store_row Tryd.agg25 rfl (.tmp 8) (.tmp 47) rfl _ _ rfl rfl 23 _ HN3.out HAS.out HYS.out (bcells_one _) ?_
          intro w9 hr9 ho9
          have HR9 := Lib.hid hr9
          have HZ9 := Lib.hid (HZ3.out.only ho9 (by omega))
          clear hr9
          refine hK.out _ _ trivial (fun hHeld9 => ?_)
          clear hK
          (try simp only [Act.put, List.setIfInBounds_toArray])
          refine wpAnyH_done (by kernel_rfl) ?_ _
          refine NoPanic.normal ?_
          go_wp2_with fail
          have hb3' := hbel.trans (B3.mono hbs)
          refine ⟨⟨m + 1, by omega, by go_num, hb3'.trans (ho9.below (by omega) hb3'.size), HZ9.out, ?_⟩, by simp [intOf]; omega⟩
          rw [HST.out]
          exact HR9.out
    · obtain rfl : n = m := by omega
      rw [HTK.out] at HNr
      generalize climbD d i P = R at *
      go_wp2_with (first
        | (with_reducible refine wpList_load_row Tryd.agg25 rfl (.tmp 8) rfl _ rfl 23 _ HNr.out HRS.out ?_)
        | (with_reducible refine wpList_store_row Tryd.agg25 rfl (.tmp 6) (.tmp 49) rfl _ _ rfl rfl 23 lit32 HZr.out HRS.out lit32_size (bcells_one _) ?_; intro w9 hr9 ho9; have HR9 := Lib.hid hr9; clear hr9))
      exact bodyPost_ret (results_row2 Tryd.agg25 Tryd.results48 rfl rfl HR9.out HRS.out) rfl ⟨rfl, hbel.trans (ho9.below (by omega) hbs)⟩
end
section
/-- a byte, and zeros behind it -/
def oneD (x : UInt8) : List UInt8 := x :: List.replicate 31 0
theorem oneD_length (x : UInt8) : (oneD x).length = 32 := by simp [oneD]
theorem awake_node : (abL (oneD 1) (oneD 2) == zero32) = false := by decide +kernel
end
section
open Go.RowKit
def errT (n : Nat) : Int := if okT (n : Int) then 0 else 1
def rootI (L : List (List UInt8)) : List UInt8 := if okT (L.length : Int) then rootD (Nat.log2 L.length) L else zero32
def okP (n : Nat) (i : Int) : Bool := okT (n : Int) && (decide (0 ≤ i) && decide (i < (n : Int)))
def errP (n : Nat) (i : Int) : Int := if okP n i then 0 else 1
def pathI (L : List (List UInt8)) (i : Int) : List (List UInt8) := if okP L.length i then pathD (Nat.log2 L.length) L i.toNat else []
def okC (n : Nat) (i : Int) : Bool := decide (n ≤ 10) && (decide (0 ≤ i) && decide (i < ((2 ^ n : Nat) : Int)))
def errC (n : Nat) (i : Int) : Int := if okC n i then 0 else 1
def climbI (d : List UInt8) (i : Int) (P : List (List UInt8)) : List UInt8 := if okC P.length i then climbD d i.toNat P else zero32
theorem okT_log {n : Nat} (h : okT (n : Int) = true) : Nat.log2 n ≤ 10 ∧ n = 2 ^ Nat.log2 n := by
  obtain ⟨k, hk, rfl⟩ := okT_yes h
  rw [Nat.log2_two_pow]
  exact ⟨hk, rfl⟩
theorem rootI_length (L : List (List UInt8)) (h : Digs L) : (rootI L).length = 32 := by
  unfold rootI
  cases ho : okT (L.length : Int)
  · exact zero32_length
  · exact rootD_length _ L h (okT_log ho).2
theorem climbI_length (d : List UInt8) (i : Int) (P : List (List UInt8)) (h : d.length = 32) : (climbI d i P).length = 32 := by
  unfold climbI
  split
  · exact climbD_length _ _ _ h
  · exact zero32_length
theorem okP_yes {n : Nat} {i : Int} (h : okP n i = true) : okT (n : Int) = true ∧ ∃ j : Nat, i = (j : Int) ∧ j < n := by
  unfold okP at h
  simp only [Bool.and_eq_true, decide_eq_true_eq] at h
  exact ⟨h.1, i.toNat, by omega, by omega⟩
theorem okP_no {n : Nat} {i : Int} (h : okP n i = false) : okT (n : Int) = false ∨ i < 0 ∨ (n : Int) ≤ i := by
  unfold okP at h
  simp only [Bool.and_eq_false_iff, decide_eq_false_iff_not] at h
  rcases h with h | h | h
  · exact .inl h
  · exact .inr (.inl (by omega))
  · exact .inr (.inr (by omega))
theorem okC_yes {n : Nat} {i : Int} (h : okC n i = true) : n ≤ 10 ∧ ∃ j : Nat, i = (j : Int) ∧ j < 2 ^ n := by
  unfold okC at h
  simp only [Bool.and_eq_true, decide_eq_true_eq] at h
  exact ⟨h.1, i.toNat, by omega, by omega⟩
theorem pathI_length (L : List (List UInt8)) (i : Int) : (pathI L i).length ≤ 10 := by
  unfold pathI
  cases ho : okP L.length i
  · simp
  · rw [if_pos rfl, show (pathD (Nat.log2 L.length) L i.toNat).length = _ from pathT_length abL [] _ L _]
    exact (okT_log (okP_yes ho).1).1
theorem S6Root_any (A : Option Addr) (n c : Nat) (L : List (List UInt8)) (w : World) (hD : Ds w A n L) (hT : Tab 1 w) : Calls Tryd.prog 38 #[.slice A n c] w (RecD w (rootI L) (errT L.length)) := by
  unfold rootI errT
  have hl := hD.1
  cases ho : okT (L.length : Int)
  · exact Root_no A n c w (by rw [← hl]; exact ho)
  · obtain ⟨h1, h2⟩ := okT_log ho
    exact Root_ok (Nat.log2 L.length) A n c L w h1 (by rw [← h2]; exact hl.symm) hD hT
theorem Path_any (A : Option Addr) (n c : Nat) (i : Int) (L : List (List UInt8)) (w : World) (hD : Ds w A n L) (hT : Tab 1 w) : Calls Tryd.prog 42 #[.slice A n c, .int .i64 i] w (NewD w (pathI L i) (errP L.length i)) := by
  unfold pathI errP
  have hl := hD.1
  cases ho : okP L.length i
  · exact Path_no A n c i w (by rw [← hl]; exact okP_no ho)
  · obtain ⟨h0, j, rfl, hj⟩ := okP_yes ho
    obtain ⟨h1, h2⟩ := okT_log h0
    exact Path_ok (Nat.log2 L.length) A n c j L w h1 (by rw [← h2]; exact hl.symm) (by omega) hD hT
theorem Climb_any (d : List UInt8) (i : Int) (A : Option Addr) (n c : Nat) (P : List (List UInt8)) (w : World) (hd : d.length = 32) (hD : Ds w A n P) (hT : Tab 1 w) :
    Calls Tryd.prog 48 #[.agg (bcells d), .int .i64 i, .slice A n c] w (RecD w (climbI d i P) (errC P.length i)) := by
  unfold climbI errC
  have hl := hD.1
  rw [hl]
  cases ho : okC n i
  · by_cases h1 : n ≤ 10
    · by_cases h2 : i < 0
      · exact Climb_neg d A n c i w h1 h2
      · refine Climb_far d A n c i w h1 h2 ?_
        unfold okC at ho
        simp only [Bool.and_eq_false_iff, decide_eq_false_iff_not] at ho
        omega
    · exact Climb_long d A n c i w (by omega)
  · obtain ⟨h0, j, rfl, hj⟩ := okC_yes ho
    exact Climb_ok d A n c j P w hd h0 hj hD hT
/-- digests, as many as a power of two, at most 64, in new memory -/
def CutD (w : World) (e : Ending) (w' : World) : Prop :=
  ∃ (k m : Nat) (A : Option Addr) (c : Nat) (M : List (List UInt8)), k ≤ 6 ∧ m = 2 ^ k ∧ e = .returned (.slice A m c) ∧ m ≤ c ∧ Ds w' A m M ∧ Below w.heap.size w w'
theorem yields_eqE {ops : Array Oper} {S : World → Prop} {o : Oper} {a : Act} (hw : Region.wanted o (yielded ops a.tmps) = true) (x y : Operand) (ho : o.op = .binOp .eql 27 x y 27) (p q : Int) (b : Bool)
    (hx : a.eval x = .int .i64 p) (hy : a.eval y = .int .i64 q) (hb : (p == q) = b) : YieldsIf Tryd.prog ops S o (.bool b) a :=
  .inl ⟨hw, fun w _ => by
    unfold execOp
    simp only [ho, hx, hy]
    go_simp⟩
theorem yields_neqX {ops : Array Oper} {S : World → Prop} {o : Oper} {a : Act} (hw : Region.wanted o (yielded ops a.tmps) = true) (x y : Operand) (ho : o.op = .binOp .neq 23 x y 23) (d r : List UInt8)
    (hx : a.eval x = .agg (bcells d)) (hy : a.eval y = .agg (bcells r)) (hd : d.length = 32) (hr : r.length = 32) (hb : decide (d = r) = false) : YieldsIf Tryd.prog ops S o (.bool true) a :=
  .inl ⟨hw, fun w _ => by
    have he := eqD d r hd hr w
    rw [hb] at he
    unfold execOp
    simp only [ho, hx, hy]
    go_simp⟩
theorem yields_zero {ops : Array Oper} {S : World → Prop} {o : Oper} {a : Act} (hw : Region.wanted o (yielded ops a.tmps) = true) (ho : o.op = .build 23 #[]) : YieldsIf Tryd.prog ops S o (.agg (bcells zero32)) a :=
  .inl ⟨hw, fun w _ => by
    unfold execOp
    simp only [ho]
    go_simp
    rfl⟩
/-- a digest's literal of one byte -/
theorem wpList_buildC {ops : Array Oper} {rest : List Oper} {o : Oper} {a : Act} {w : World} {Q : Exit → Act → World → Prop} (hgd : o.guard = none) (x : Value) (ho : o.op = .build 23 #[(0, .const x)]) (D : List UInt8) (hb : Tryd.prog.built 23 [(0, x)] = some (bcells D))
    (h : wpList Tryd.prog ops Q rest (a.put o.dst (.agg (bcells D))) w) : wpList Tryd.prog ops Q (o :: rest) a w := by
  have e : Tryd.prog.built 23 ((#[(0, Operand.const x)] : Array (Nat × Operand)).map fun (i, x) => (i, a.eval x)).toList = some (bcells D) := by rw [List.map_toArray]; exact hb
  refine wpList_build hgd 23 _ ho (by rw [e]; rfl) ?_
  rw [e]
  exact h
theorem built_1 : Tryd.prog.built 23 [(0, .int .u8 1)] = some (bcells (oneD 1)) := by kernel_rfl
theorem built_2 : Tryd.prog.built 23 [(0, .int .u8 2)] = some (bcells (oneD 2)) := by kernel_rfl
end
end Go.Proofs.YtfelmdndjdaniaaDoor
