/-
  The document's tape in memory: what lies in its blocks; what stays where one file, or the power alone, changes; step, Now, a new tape.
-/
import Derived.Test.YtpnllbadalcnaaaRefA
namespace Go.Proofs.Ytpnllbadalcnaaa
open Go.RowKit
/-- the i-th file, its blocks among G -/
def FilM (w : World) (G : Nat → Prop) (cs : Array Value) (i : Nat) (f : Fl) : Prop :=
  ∃ A1 n1 c1 A2 m c2, cs[2 * i]? = some (.slice A1 n1 c1) ∧ cs[2 * i + 1]? = some (.slice A2 m c2) ∧ Own w 0 5 (.slice A1 n1 c1) n1 f.sure ∧ OwnS Try.stR w (.slice A2 m c2) m f.opn ∧ (∀ b, OB (.slice A1 n1 c1) b → G b) ∧ (∀ b, OB (.slice A2 m c2) b → G b)
/-- the document's tape at block g is S; the i-th file lies in the blocks F i -/
structure TapM (w : World) (g : Nat) (F : Nat → Nat → Prop) (S : Tp) : Prop where
  lt : ∀ i b, F i b → b < w.heap.size
  off : ∀ i b, F i b → b ≠ g
  apart : ∀ i j b, F i b → F j b → i = j
  fz : S.fuse < 9223372036854775808
  row : ∃ cs, Row w g 41 cs ∧ cs.size = 10 ∧ cs[8]? = some (.int .i64 S.fuse) ∧ cs[9]? = some (.bool S.down) ∧ ∀ i, i < 4 → FilM w (F i) cs i (S.f i)
def GrowM (w : World) (g : Nat) (F : Nat → Nat → Prop) (S : Tp) (w' : World) : Prop := (∃ F', Within w F F' ∧ TapM w' g F' S) ∧ Off (Foot g F) w w'
theorem TapM.glt {w : World} {g : Nat} {F : Nat → Nat → Prop} {S : Tp} (h : TapM w g F S) : g < w.heap.size := by
  obtain ⟨cs, hr, _⟩ := h.row
  exact hr.lt
theorem TapM.foot {w : World} {g : Nat} {F : Nat → Nat → Prop} {S : Tp} (h : TapM w g F S) {b : Nat} (hb : Foot g F b) : b < w.heap.size := by
  rcases hb with rfl | ⟨i, q⟩
  · exact h.glt
  · exact h.lt i b q
theorem FilM.keep {w w' : World} {G G' : Nat → Prop} {cs cs' : Array Value} {i : Nat} {f : Fl} (h : FilM w G cs i f) (hc : ∀ k, k < 2 → cs'[2 * i + k]? = cs[2 * i + k]?) (hk : ∀ b, G b → w'.heap[b]? = w.heap[b]?) (hG : ∀ b, G b → G' b) : FilM w' G' cs' i f := by
  obtain ⟨A1, n1, c1, A2, m, c2, h1, h2, h4, h5, h6, h7⟩ := h
  exact ⟨A1, n1, c1, A2, m, c2, (hc 0 (by omega)).trans h1, (hc 1 (by omega)).trans h2, h4.keep (fun b q => hk b (h6 b q)), h5.keep (fun b q => hk b (h7 b q)), fun b q => hG b (h6 b q), fun b q => hG b (h7 b q)⟩
/-- nothing of it was written -/
theorem TapM.same {w w' : World} {g : Nat} {F : Nat → Nat → Prop} {S : Tp} (h : TapM w g F S) (hk : ∀ b, Foot g F b → w'.heap[b]? = w.heap[b]?) (hs : w.heap.size ≤ w'.heap.size) : TapM w' g F S := by
  obtain ⟨cs, hr, h1, h2, h3, h4⟩ := h.row
  exact ⟨fun i b q => Nat.lt_of_lt_of_le (h.lt i b q) hs, h.off, h.apart, h.fz, cs, (hk g (.inl rfl)).trans hr, h1, h2, h3, fun i hi => (h4 i hi).keep (fun _ _ => rfl) (fun b q => hk b (.inr ⟨i, q⟩)) (fun _ q => q)⟩
theorem TapM.below {w w' : World} {g : Nat} {F : Nat → Nat → Prop} {S : Tp} (h : TapM w g F S) (hb : Below w.heap.size w w') : TapM w' g F S := h.same (fun b q => hb.block b (h.foot q)) hb.size
theorem TapM.outside {w w' : World} {g : Nat} {F : Nat → Nat → Prop} {G : Nat → Prop} {S : Tp} (h : TapM w g F S) (ho : Off G w w') (hG : ∀ b, Foot g F b → ¬ G b) : TapM w' g F S := h.same (fun b q => ho.block b (h.foot q) (hG b q)) ho.size
theorem TapM.drewN {w : World} {g : Nat} {F : Nat → Nat → Prop} {S : Tp} (h : TapM w g F S) (k : Nat) : TapM (w.drewN k) g F S := h.below (below_drewN (Below.refl _ _) k)
theorem GrowM.refl {w : World} {g : Nat} {F : Nat → Nat → Prop} {S : Tp} (h : TapM w g F S) : GrowM w g F S w := ⟨⟨F, fun _ _ q => .inl q, h⟩, Off.of_below (Below.refl _ _)⟩
theorem GrowM.trans {w w1 w2 : World} {g : Nat} {F F' : Nat → Nat → Prop} {T : Tp} (hF : Within w F F') (ho : Off (Foot g F) w w1) (k : GrowM w1 g F' T w2) : GrowM w g F T w2 := by
  obtain ⟨⟨F'', h1, h2⟩, h3⟩ := k
  exact ⟨⟨F'', hF.trans h1 ho.size, h2⟩, ho.trans h3 hF.foot⟩
theorem TapM.put {w w' : World} {g i : Nat} {F : Nat → Nat → Prop} {S : Tp} {cs cs' : Array Value} {f' : Fl} {fuse' : Int} {down' : Bool} (h : TapM w g F S) (hr : Row w g 41 cs) (hr' : Row w' g 41 cs') (hs' : cs'.size = 10) (h12 : cs'[8]? = some (.int .i64 fuse')) (h13 : cs'[9]? = some (.bool down')) (hz : fuse' < 9223372036854775808) (hi : i < 4)
    (hsame : ∀ j, j < 4 → j ≠ i → ∀ k, k < 2 → cs'[2 * j + k]? = cs[2 * j + k]?) (hoff : Off (fun b => b = g ∨ F i b) w w') (hf : FilM w' (More (F i) w) cs' i f') : GrowM w g F ⟨upd S.f i f', fuse', down'⟩ w' := by
  obtain ⟨cs0, hr0, _, _, _, h4⟩ := h.row
  obtain rfl : cs0 = cs := by
    have : some (Obj.cells cs0 41 (0, 0)) = some (Obj.cells cs 41 (0, 0)) := hr0.symm.trans hr
    injection this with this
    injection this
  have hgl := h.glt
  refine ⟨⟨fun j b => (F j b ∨ (j = i ∧ w.heap.size ≤ b)) ∧ b < w'.heap.size, fun j b q => q.1.imp id (fun q => q.2), ⟨fun j b q => q.2, fun j b q => ?_, fun j k b q1 q2 => ?_, hz, cs', hr', hs', h12, h13, fun j hj => ?_⟩⟩, hoff.mono (fun x q => q.imp id (fun q => ⟨i, q⟩))⟩
  · rcases q.1 with q | ⟨_, q⟩
    · exact h.off j b q
    · omega
  · rcases q1.1 with q1 | ⟨e1, q1⟩
    · rcases q2.1 with q2 | ⟨_, q2⟩
      · exact h.apart j k b q1 q2
      · have := h.lt j b q1; omega
    · rcases q2.1 with q2 | ⟨e2, _⟩
      · have := h.lt k b q2; omega
      · rw [e1, e2]
  · by_cases hji : j = i
    · subst hji
      show FilM w' _ cs' j (upd S.f j f' j)
      rw [upd_same]
      obtain ⟨A1, n1, c1, A2, m, c2, q1, q2, q4, q5, q6, q7⟩ := hf
      exact ⟨A1, n1, c1, A2, m, c2, q1, q2, q4, q5, fun b q => ⟨(q6 b q).imp id (fun q => ⟨rfl, q⟩), (q4.lt b q).2⟩, fun b q => ⟨(q7 b q).imp id (fun q => ⟨rfl, q⟩), (q5.lt b q).2⟩⟩
    · show FilM w' _ cs' j (upd S.f i f' j)
      rw [upd_other _ _ hji]
      refine (h4 j hj).keep (hsame j hj hji) (fun b q => hoff.block b (h.lt j b q) (fun q2 => ?_)) (fun b q => ⟨.inl q, Nat.lt_of_lt_of_le (h.lt j b q) hoff.size⟩)
      rcases q2 with q2 | q2
      · exact h.off j b q q2
      · exact hji (h.apart j i b q q2)
theorem TapM.head {w w' : World} {g : Nat} {F : Nat → Nat → Prop} {S : Tp} {cs cs' : Array Value} {fuse' : Int} {down' : Bool} (h : TapM w g F S) (hr : Row w g 41 cs) (hr' : Row w' g 41 cs') (hs' : cs'.size = 10) (h12 : cs'[8]? = some (.int .i64 fuse')) (h13 : cs'[9]? = some (.bool down')) (hz : fuse' < 9223372036854775808)
    (hsame : ∀ k, k < 8 → cs'[k]? = cs[k]?) (hoff : Off (· = g) w w') : TapM w' g F ⟨S.f, fuse', down'⟩ := by
  obtain ⟨cs0, hr0, _, _, _, h4⟩ := h.row
  obtain rfl : cs0 = cs := by
    have : some (Obj.cells cs0 41 (0, 0)) = some (Obj.cells cs 41 (0, 0)) := hr0.symm.trans hr
    injection this with this
    injection this
  exact ⟨fun i b q => Nat.lt_of_lt_of_le (h.lt i b q) hoff.size, h.off, h.apart, hz, cs', hr', hs', h12, h13, fun i hi => (h4 i hi).keep (fun k hk => hsame _ (by omega)) (fun b q => hoff.block b (h.lt i b q) (h.off i b q)) (fun _ q => q)⟩
set_option maxRecDepth 100000 in
set_option maxHeartbeats 1000000 in
theorem mpow_none {S : Tp} (g : Nat) (F : Nat → Nat → Prop) (w : World) (h : TapM w g F S) (hp : S.pow = none) (hd : S.down = false) : Calls Try.prog 44 #[.pointer (some ⟨g, 0, none⟩)] w fun e w' => e = .returned (.bool false) ∧ TapM w' g F S.dead ∧ Off (· = g) w w' := by
  obtain ⟨cs, hr, hs, h12, h13, _⟩ := h.row
  have HT := Lib.hid h
  have HR := Lib.hid hr
  have H12 := Lib.hid h12
  have H13 := Lib.hid h13
  have HS := Lib.hid hs
  have c12 : w.cell? ⟨g, 8, none⟩ = some (.int .i64 S.fuse) := (hr.cell 8).trans h12
  have c13 : w.cell? ⟨g, 9, none⟩ = some (.bool S.down) := (hr.cell 9).trans h13
  have f13 := hr.frozen 9
  have h0 : S.fuse = 0 := by
    unfold Tp.pow at hp
    split at hp
    · rename_i q
      rcases q with q | q
      · rw [hd] at q; cases q
      · exact q
    · cases hp
  clear hp h hr h12 h13 hs
  unfold Tp.dead
  obtain ⟨z, hz⟩ : ∃ z, S.fuse = z := ⟨_, rfl⟩
  obtain rfl : z = 0 := by omega
  rw [hz] at c12
  clear h0 hz hd
  go_enter Try.func44, Try.ntmps44
  go_wp2
  go_ret
  refine ⟨rfl, HT.out.head HR.out (HR.out.set 9 (.bool true)) (by rw [Array.size_setIfInBounds]; exact HS.out) ?_ ?_ HT.out.fz ?_ (Off.setCell w g 9 _ rfl), Off.setCell w g 9 _ rfl⟩
  · rw [Array.getElem?_setIfInBounds, if_neg (by omega)]; exact H12.out
  · rw [Array.getElem?_setIfInBounds, if_pos rfl, if_pos (by rw [HS.out]; omega)]
  · intro k hk; rw [Array.getElem?_setIfInBounds, if_neg (by omega)]
set_option maxRecDepth 100000 in
set_option maxHeartbeats 1000000 in
theorem mpow_some {S T : Tp} (g : Nat) (F : Nat → Nat → Prop) (w : World) (h : TapM w g F S) (hp : S.pow = some T) : Calls Try.prog 44 #[.pointer (some ⟨g, 0, none⟩)] w fun e w' => e = .returned (.bool true) ∧ TapM w' g F T ∧ Off (· = g) w w' := by
  obtain ⟨cs, hr, hs, h12, h13, _⟩ := h.row
  have HT := Lib.hid h
  have HR := Lib.hid hr
  have H12 := Lib.hid h12
  have H13 := Lib.hid h13
  have HS := Lib.hid hs
  have c12 : w.cell? ⟨g, 8, none⟩ = some (.int .i64 S.fuse) := (hr.cell 8).trans h12
  have f12 := hr.frozen 8
  have hp' : S.down = false ∧ S.fuse ≠ 0 ∧ T = ⟨S.f, if 0 < S.fuse then S.fuse - 1 else S.fuse, false⟩ := by
    unfold Tp.pow at hp
    split at hp
    · cases hp
    · rename_i q
      injection hp with hp
      exact ⟨by cases hd : S.down; rfl; exact absurd (.inl hd) q, fun e => q (.inr e), hp.symm⟩
  obtain ⟨hd, h0, rfl⟩ := hp'
  have HD := Lib.hid hd
  have hz : (S.fuse == 0) = false := by simp [h0]
  have hhi := h.fz
  generalize hfz : S.fuse = z at *
  have HHI := Lib.hid hhi
  clear h hp hr hs h12 h13 hd h0 hfz hhi
  by_cases hpos : 0 < z
  · have hw' : wrap64 (z - 1) = z - 1 := by have := HHI.out; unfold wrap64; omega
    have hpos' : (0 : Int) < z := hpos
    go_enter Try.func44, Try.ntmps44
    go_wp2
    go_ret
    refine ⟨rfl, HT.out.head HR.out (HR.out.set 8 _) (by rw [Array.size_setIfInBounds]; exact HS.out) ?_ ?_ (by have := HHI.out; omega) ?_ (Off.setCell w g 8 _ rfl), Off.setCell w g 8 _ rfl⟩
    · rw [Array.getElem?_setIfInBounds, if_pos rfl, if_pos (by rw [HS.out]; omega)]
    · rw [Array.getElem?_setIfInBounds, if_neg (by omega), H13.out, HD.out]
    · intro k hk; rw [Array.getElem?_setIfInBounds, if_neg (by omega)]
  · have hpos' : ¬ (0 : Int) < z := hpos
    go_enter Try.func44, Try.ntmps44
    go_wp2
    go_ret
    exact ⟨rfl, HT.out.head HR.out HR.out HS.out H12.out (by rw [H13.out, HD.out]) HHI.out (fun _ _ => rfl) (Off.of_below (Below.refl _ _)), Off.of_below (Below.refl _ _)⟩
abbrev tapM0 : Array Value := #[.slice none 0 0, .slice none 0 0, .slice none 0 0, .slice none 0 0, .slice none 0 0, .slice none 0 0, .slice none 0 0, .slice none 0 0, .int .i64 (-1), .bool false]
theorem tapM0_tap {w : World} {g : Nat} (h : Row w g 41 tapM0) : TapM w g (fun _ _ => False) Tp.new :=
  ⟨fun i b q => q.elim, fun i b q => q.elim, fun i j b q => q.elim, by decide, tapM0, h, rfl, rfl, rfl, fun i hi => by
    have h3 : tapM0[2 * i]? = some (.slice none 0 0) ∧ tapM0[2 * i + 1]? = some (.slice none 0 0) := by
      rcases i with _ | _ | _ | _ | i
      · exact ⟨rfl, rfl⟩
      · exact ⟨rfl, rfl⟩
      · exact ⟨rfl, rfl⟩
      · exact ⟨rfl, rfl⟩
      · omega
    exact ⟨none, 0, 0, none, 0, 0, h3.1, h3.2, Own.nil _ _ _, OwnS.nil _ _, (fun b (q : none = some b) => by cases q), (fun b (q : none = some b) => by cases q)⟩⟩
set_option maxRecDepth 100000 in
theorem MNew_any (w : World) : Calls Try.prog 13 #[] w fun e w' => ∃ g, e = .returned (.pointer (some ⟨g, 0, none⟩)) ∧ w.heap.size ≤ g ∧ TapM w' g (fun _ _ => False) Tp.new ∧ Below w.heap.size w w' := by
  go_enter Try.func13, Try.ntmps13
  go_wp2
  go_ret
  exact ⟨_, rfl, Nat.le_refl _, tapM0_tap (Row.new w 41 tapM0), (Below.refl _ _).alloc (Nat.le_refl _) _⟩
theorem TapM.cell {w : World} {g : Nat} {F : Nat → Nat → Prop} {S : Tp} (h : TapM w g F S) : w.cell? ⟨g, 8, none⟩ = some (.int .i64 S.fuse) ∧ w.cell? ⟨g, 9, none⟩ = some (.bool S.down) := by
  obtain ⟨cs, hr, _, h12, h13, _⟩ := h.row
  exact ⟨(hr.cell 8).trans h12, (hr.cell 9).trans h13⟩
theorem TapM.file {w : World} {g i : Nat} {F : Nat → Nat → Prop} {S : Tp} (h : TapM w g F S) (hi : i < 4) : ∃ A1 n1 c1 A2 c2, w.rangeAt g (2 * i) (filR A1 n1 c1 A2 (S.f i).opn.length c2).toList ∧ Own w 0 5 (.slice A1 n1 c1) n1 (S.f i).sure ∧ OwnS Try.stR w (.slice A2 (S.f i).opn.length c2) (S.f i).opn.length (S.f i).opn ∧ (∀ b, OB (.slice A1 n1 c1) b → F i b) ∧ (∀ b, OB (.slice A2 (S.f i).opn.length c2) b → F i b) := by
  obtain ⟨cs, hr, _, _, _, h4⟩ := h.row
  obtain ⟨A1, n1, c1, A2, m, c2, h1, h2, h5, h6, h7, h8⟩ := h4 i hi
  have hm := h6.length
  subst hm
  refine ⟨A1, n1, c1, A2, c2, fun j v hj => ?_, h5, h6, h7, h8⟩
  rcases j with _ | _ | j
  · simp at hj; subst hj; exact (hr.cell _).trans h1
  · simp at hj; subst hj; exact (hr.cell _).trans h2
  · simp at hj
end Go.Proofs.Ytpnllbadalcnaaa
