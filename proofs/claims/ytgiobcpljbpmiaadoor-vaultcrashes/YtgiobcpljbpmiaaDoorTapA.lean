/-
  The program's tape in memory: what lies in its blocks; what stays where one file, or the power alone, changes; power, a file's place, a new tape.
-/
import Derived.Test.YtgiobcpljbpmiaaDoorSetA
namespace Go.Proofs.YtgiobcpljbpmiaaDoor
open Go.RowKit
/-- the i-th file, its blocks among G -/
def FilC (w : World) (G : Nat → Prop) (cs : Array Value) (i : Nat) (f : Fl) : Prop :=
  ∃ A1 n1 c1 A2 m c2, cs[3 * i]? = some (.slice A1 n1 c1) ∧ cs[3 * i + 1]? = some (.slice A2 m c2) ∧ cs[3 * i + 2]? = some (.int .i64 (f.now.length : Int)) ∧
    Own w 0 5 (.slice A1 n1 c1) n1 f.sure ∧ OwnS Tryd.stP w (.slice A2 m c2) m f.opn ∧ (∀ b, OB (.slice A1 n1 c1) b → G b) ∧ (∀ b, OB (.slice A2 m c2) b → G b)
/-- the tape at block g is S; the i-th file lies in the blocks F i -/
structure Tap (w : World) (g : Nat) (F : Nat → Nat → Prop) (S : Tp) : Prop where
  lt : ∀ i b, F i b → b < w.heap.size
  off : ∀ i b, F i b → b ≠ g
  apart : ∀ i j b, F i b → F j b → i = j
  fz : S.fuse < 9223372036854775808
  row : ∃ cs, Row w g 66 cs ∧ cs.size = 14 ∧ cs[12]? = some (.int .i64 S.fuse) ∧ cs[13]? = some (.bool S.down) ∧ ∀ i, i < 4 → FilC w (F i) cs i (S.f i)
/-- all its blocks -/
def Foot (g : Nat) (F : Nat → Nat → Prop) : Nat → Prop := fun b => b = g ∨ ∃ i, F i b
def Within (w : World) (F F' : Nat → Nat → Prop) : Prop := ∀ i b, F' i b → F i b ∨ w.heap.size ≤ b
def Grow (w : World) (g : Nat) (F : Nat → Nat → Prop) (S : Tp) (w' : World) : Prop := (∃ F', Within w F F' ∧ Tap w' g F' S) ∧ Off (Foot g F) w w'
theorem Tap.glt {w : World} {g : Nat} {F : Nat → Nat → Prop} {S : Tp} (h : Tap w g F S) : g < w.heap.size := by
  obtain ⟨cs, hr, _⟩ := h.row
  exact hr.lt
theorem Tap.foot {w : World} {g : Nat} {F : Nat → Nat → Prop} {S : Tp} (h : Tap w g F S) {b : Nat} (hb : Foot g F b) : b < w.heap.size := by
  rcases hb with rfl | ⟨i, q⟩
  · exact h.glt
  · exact h.lt i b q
theorem FilC.keep {w w' : World} {G G' : Nat → Prop} {cs cs' : Array Value} {i : Nat} {f : Fl} (h : FilC w G cs i f) (hc : ∀ k, k < 3 → cs'[3 * i + k]? = cs[3 * i + k]?) (hk : ∀ b, G b → w'.heap[b]? = w.heap[b]?) (hG : ∀ b, G b → G' b) : FilC w' G' cs' i f := by
  obtain ⟨A1, n1, c1, A2, m, c2, h1, h2, h3, h4, h5, h6, h7⟩ := h
  exact ⟨A1, n1, c1, A2, m, c2, (hc 0 (by omega)).trans h1, (hc 1 (by omega)).trans h2, (hc 2 (by omega)).trans h3, h4.keep (fun b q => hk b (h6 b q)), h5.keep (fun b q => hk b (h7 b q)), fun b q => hG b (h6 b q), fun b q => hG b (h7 b q)⟩
/-- nothing of it was written -/
theorem Tap.same {w w' : World} {g : Nat} {F : Nat → Nat → Prop} {S : Tp} (h : Tap w g F S) (hk : ∀ b, Foot g F b → w'.heap[b]? = w.heap[b]?) (hs : w.heap.size ≤ w'.heap.size) : Tap w' g F S := by
  obtain ⟨cs, hr, h1, h2, h3, h4⟩ := h.row
  exact ⟨fun i b q => Nat.lt_of_lt_of_le (h.lt i b q) hs, h.off, h.apart, h.fz, cs, (hk g (.inl rfl)).trans hr, h1, h2, h3, fun i hi => (h4 i hi).keep (fun _ _ => rfl) (fun b q => hk b (.inr ⟨i, q⟩)) (fun _ q => q)⟩
theorem Tap.below {w w' : World} {g : Nat} {F : Nat → Nat → Prop} {S : Tp} (h : Tap w g F S) (hb : Below w.heap.size w w') : Tap w' g F S := h.same (fun b q => hb.block b (h.foot q)) hb.size
theorem Tap.outside {w w' : World} {g : Nat} {F : Nat → Nat → Prop} {G : Nat → Prop} {S : Tp} (h : Tap w g F S) (ho : Off G w w') (hG : ∀ b, Foot g F b → ¬ G b) : Tap w' g F S := h.same (fun b q => ho.block b (h.foot q) (hG b q)) ho.size
theorem Tap.drewN {w : World} {g : Nat} {F : Nat → Nat → Prop} {S : Tp} (h : Tap w g F S) (k : Nat) : Tap (w.drewN k) g F S := h.below (below_drewN (Below.refl _ _) k)
theorem Grow.refl {w : World} {g : Nat} {F : Nat → Nat → Prop} {S : Tp} (h : Tap w g F S) : Grow w g F S w := ⟨⟨F, fun _ _ q => .inl q, h⟩, Off.of_below (Below.refl _ _)⟩
theorem Within.trans {a b : World} {F F' F'' : Nat → Nat → Prop} (h : Within a F F') (k : Within b F' F'') (hs : a.heap.size ≤ b.heap.size) : Within a F F'' := fun i x q => by
  rcases k i x q with q | q
  · exact h i x q
  · exact .inr (Nat.le_trans hs q)
theorem Within.foot {a : World} {g : Nat} {F F' : Nat → Nat → Prop} (h : Within a F F') : ∀ x, Foot g F' x → Foot g F x ∨ a.heap.size ≤ x := fun x q => by
  rcases q with rfl | ⟨i, q⟩
  · exact .inl (.inl rfl)
  · rcases h i x q with q | q
    · exact .inl (.inr ⟨i, q⟩)
    · exact .inr q
theorem Grow.trans {w w1 w2 : World} {g : Nat} {F F' : Nat → Nat → Prop} {T : Tp} (hF : Within w F F') (ho : Off (Foot g F) w w1) (k : Grow w1 g F' T w2) : Grow w g F T w2 := by
  obtain ⟨⟨F'', h1, h2⟩, h3⟩ := k
  exact ⟨⟨F'', hF.trans h1 ho.size, h2⟩, ho.trans h3 hF.foot⟩
theorem Tap.put {w w' : World} {g i : Nat} {F : Nat → Nat → Prop} {S : Tp} {cs cs' : Array Value} {f' : Fl} {fuse' : Int} {down' : Bool} (h : Tap w g F S) (hr : Row w g 66 cs) (hr' : Row w' g 66 cs') (hs' : cs'.size = 14) (h12 : cs'[12]? = some (.int .i64 fuse')) (h13 : cs'[13]? = some (.bool down')) (hz : fuse' < 9223372036854775808) (hi : i < 4)
    (hsame : ∀ j, j < 4 → j ≠ i → ∀ k, k < 3 → cs'[3 * j + k]? = cs[3 * j + k]?) (hoff : Off (fun b => b = g ∨ F i b) w w') (hf : FilC w' (More (F i) w) cs' i f') : Grow w g F ⟨upd S.f i f', fuse', down'⟩ w' := by
  obtain ⟨cs0, hr0, _, _, _, h4⟩ := h.row
  obtain rfl : cs0 = cs := by
    have : some (Obj.cells cs0 66 (0, 0)) = some (Obj.cells cs 66 (0, 0)) := hr0.symm.trans hr
    injection this with this
    injection this
  have hgl := h.glt
  refine ⟨⟨fun j b => (F j b ∨ (j = i ∧ w.heap.size ≤ b)) ∧ b < w'.heap.size, fun j b q => q.1.imp id (fun q => q.2), ⟨fun j b q => q.2, fun j b q => ?_, fun j k b q1 q2 => ?_, hz, cs', hr', hs', h12, h13, fun j hj => ?_⟩⟩, hoff.mono (fun x q => q.imp id (fun q => ⟨i, q⟩))⟩
  · rcases q.1 with q | ⟨_, q⟩
    · exact h.off j b q
    · omega
  · rcases q1.1 with q1 | ⟨e1, q1⟩
    · rcases q2.1 with q2 | ⟨_, q2⟩
      · exact h.apart j k b q1 q2
      · have := h.lt j b q1; omega
    · rcases q2.1 with q2 | ⟨e2, _⟩
      · have := h.lt k b q2; omega
      · rw [e1, e2]
  · by_cases hji : j = i
    · subst hji
      show FilC w' _ cs' j (upd S.f j f' j)
      rw [upd_same]
      obtain ⟨A1, n1, c1, A2, m, c2, q1, q2, q3, q4, q5, q6, q7⟩ := hf
      exact ⟨A1, n1, c1, A2, m, c2, q1, q2, q3, q4, q5, fun b q => ⟨(q6 b q).imp id (fun q => ⟨rfl, q⟩), (q4.lt b q).2⟩, fun b q => ⟨(q7 b q).imp id (fun q => ⟨rfl, q⟩), (q5.lt b q).2⟩⟩
    · show FilC w' _ cs' j (upd S.f i f' j)
      rw [upd_other _ _ hji]
      refine (h4 j hj).keep (hsame j hj hji) (fun b q => hoff.block b (h.lt j b q) (fun q2 => ?_)) (fun b q => ⟨.inl q, Nat.lt_of_lt_of_le (h.lt j b q) hoff.size⟩)
      rcases q2 with q2 | q2
      · exact h.off j b q q2
      · exact hji (h.apart j i b q q2)
theorem Tap.head {w w' : World} {g : Nat} {F : Nat → Nat → Prop} {S : Tp} {cs cs' : Array Value} {fuse' : Int} {down' : Bool} (h : Tap w g F S) (hr : Row w g 66 cs) (hr' : Row w' g 66 cs') (hs' : cs'.size = 14) (h12 : cs'[12]? = some (.int .i64 fuse')) (h13 : cs'[13]? = some (.bool down')) (hz : fuse' < 9223372036854775808)
    (hsame : ∀ k, k < 12 → cs'[k]? = cs[k]?) (hoff : Off (· = g) w w') : Tap w' g F ⟨S.f, fuse', down'⟩ := by
  obtain ⟨cs0, hr0, _, _, _, h4⟩ := h.row
  obtain rfl : cs0 = cs := by
    have : some (Obj.cells cs0 66 (0, 0)) = some (Obj.cells cs 66 (0, 0)) := hr0.symm.trans hr
    injection this with this
    injection this
  exact ⟨fun i b q => Nat.lt_of_lt_of_le (h.lt i b q) hoff.size, h.off, h.apart, hz, cs', hr', hs', h12, h13, fun i hi => (h4 i hi).keep (fun k hk => hsame _ (by omega)) (fun b q => hoff.block b (h.lt i b q) (h.off i b q)) (fun _ q => q)⟩
theorem set_same {cs : Array Value} {k : Nat} {v : Value} (h : cs[k]? = some v) : cs.setIfInBounds k v = cs := by
  apply Array.ext_getElem?
  intro i
  rw [Array.getElem?_setIfInBounds]
  split
  · rename_i e
    subst e
    rw [h]
    split
    · rfl
    · rename_i q
      rw [Array.getElem?_eq_none (by omega)] at h
      cases h
  · rfl
theorem Row.setSame {w : World} {g t k : Nat} {cs : Array Value} {v : Value} (h : Row w g t cs) (hk : cs[k]? = some v) : Row w g t (cs.setIfInBounds k v) := by rw [set_same hk]; exact h
set_option maxRecDepth 100000 in
set_option maxHeartbeats 1000000 in
theorem pow_none {S : Tp} (g : Nat) (F : Nat → Nat → Prop) (w : World) (h : Tap w g F S) (hp : S.pow = none) : Calls Tryd.prog 43 #[.pointer (some ⟨g, 0, none⟩)] w fun e w' => e = .returned (.bool false) ∧ Tap w' g F S.dead ∧ Off (· = g) w w' := by
  obtain ⟨cs, hr, hs, h12, h13, _⟩ := h.row
  have HT := Lib.hid h
  have HR := Lib.hid hr
  have H12 := Lib.hid h12
  have H13 := Lib.hid h13
  have HS := Lib.hid hs
  have c12 : w.cell? ⟨g, 12, none⟩ = some (.int .i64 S.fuse) := (hr.cell 12).trans h12
  have c13 : w.cell? ⟨g, 13, none⟩ = some (.bool S.down) := (hr.cell 13).trans h13
  have f13 := hr.frozen 13
  have hp' : S.down = true ∨ S.fuse = 0 := by
    unfold Tp.pow at hp
    split at hp
    · assumption
    · cases hp
  clear hp h hr h12 h13 hs
  unfold Tp.dead
  by_cases h0 : S.fuse = 0
  · have HF := Lib.hid h0
    obtain ⟨z, hz⟩ : ∃ z, S.fuse = z := ⟨_, rfl⟩
    obtain rfl : z = 0 := by omega
    rw [hz] at c12
    clear h0 hp' hz
    go_enter Tryd.func43, Tryd.ntmps43
    go_wp2
    go_ret
    refine ⟨rfl, HT.out.head HR.out (HR.out.set 13 (.bool true)) (by rw [Array.size_setIfInBounds]; exact HS.out) ?_ ?_ HT.out.fz ?_ (Off.setCell w g 13 _ rfl), Off.setCell w g 13 _ rfl⟩
    · rw [Array.getElem?_setIfInBounds, if_neg (by omega)]; exact H12.out
    · rw [Array.getElem?_setIfInBounds, if_pos rfl, if_pos (by rw [HS.out]; omega)]
    · intro k hk; rw [Array.getElem?_setIfInBounds, if_neg (by omega)]
  · have hd : S.down = true := hp'.resolve_right h0
    have HD := Lib.hid hd
    rw [hd] at c13
    have hz : (S.fuse == 0) = false := by simp [h0]
    have HHZ := Lib.hid HT.out.fz
    generalize S.fuse = z at *
    clear hd hp'
    go_enter Tryd.func43, Tryd.ntmps43
    go_wp2
    go_ret
    exact ⟨rfl, HT.out.head HR.out HR.out HS.out H12.out (by rw [H13.out, HD.out]) HHZ.out (fun _ _ => rfl) (Off.of_below (Below.refl _ _)), Off.of_below (Below.refl _ _)⟩
set_option maxRecDepth 100000 in
set_option maxHeartbeats 1000000 in
theorem pow_some {S T : Tp} (g : Nat) (F : Nat → Nat → Prop) (w : World) (h : Tap w g F S) (hp : S.pow = some T) : Calls Tryd.prog 43 #[.pointer (some ⟨g, 0, none⟩)] w fun e w' => e = .returned (.bool true) ∧ Tap w' g F T ∧ Off (· = g) w w' := by
  obtain ⟨cs, hr, hs, h12, h13, _⟩ := h.row
  have HT := Lib.hid h
  have HR := Lib.hid hr
  have H12 := Lib.hid h12
  have H13 := Lib.hid h13
  have HS := Lib.hid hs
  have c12 : w.cell? ⟨g, 12, none⟩ = some (.int .i64 S.fuse) := (hr.cell 12).trans h12
  have c13 : w.cell? ⟨g, 13, none⟩ = some (.bool S.down) := (hr.cell 13).trans h13
  have f12 := hr.frozen 12
  have hp' : S.down = false ∧ S.fuse ≠ 0 ∧ T = ⟨S.f, if 0 < S.fuse then S.fuse - 1 else S.fuse, false⟩ := by
    unfold Tp.pow at hp
    split at hp
    · cases hp
    · rename_i q
      injection hp with hp
      exact ⟨by cases hd : S.down; rfl; exact absurd (.inl hd) q, fun e => q (.inr e), hp.symm⟩
  obtain ⟨hd, h0, rfl⟩ := hp'
  have HD := Lib.hid hd
  have H0 := Lib.hid h0
  rw [hd] at c13
  have hz : (S.fuse == 0) = false := by simp [h0]
  have hhi := h.fz
  have hw : 0 < S.fuse → IntKind.i64.wrap (S.fuse - 1) = S.fuse - 1 := fun q => by rw [IntKind.wrap_i64]; omega
  generalize hfz : S.fuse = z at *
  have HFZ := Lib.hid hfz
  have HHI := Lib.hid hhi
  clear h hp hr hs h12 h13 hd h0 hfz hhi
  by_cases hpos : 0 < z
  · have hw' : wrap64 (z - 1) = z - 1 := by have := HHI.out; unfold wrap64; omega
    have hpos' : (0 : Int) < z := hpos
    clear hw
    go_enter Tryd.func43, Tryd.ntmps43
    go_wp2
    go_ret
    refine ⟨rfl, HT.out.head HR.out (HR.out.set 12 _) (by rw [Array.size_setIfInBounds]; exact HS.out) ?_ ?_ (by have := HHI.out; omega) ?_ (Off.setCell w g 12 _ rfl), Off.setCell w g 12 _ rfl⟩
    · rw [Array.getElem?_setIfInBounds, if_pos rfl, if_pos (by rw [HS.out]; omega)]
    · rw [Array.getElem?_setIfInBounds, if_neg (by omega), H13.out, HD.out]
    · intro k hk; rw [Array.getElem?_setIfInBounds, if_neg (by omega)]
  · have HI := Lib.hid (show (if 0 < z then z - 1 else z) = z from if_neg hpos)
    have hpos' : ¬ (0 : Int) < z := hpos
    clear hw
    go_enter Tryd.func43, Tryd.ntmps43
    go_wp2
    go_ret
    exact ⟨rfl, HT.out.head HR.out HR.out HS.out H12.out (by rw [H13.out, HD.out]) HHI.out (fun _ _ => rfl) (Off.of_below (Below.refl _ _)), Off.of_below (Below.refl _ _)⟩
end Go.Proofs.YtgiobcpljbpmiaaDoor
