/-
  The journal's records are taken, and its end is mended.
-/
import Derived.Test.YtgiobcpljbpmiaaDoorVltE
namespace Go.Proofs.YtgiobcpljbpmiaaDoor
open Go.RowKit
theorem Texts.cap {w : World} {F : Nat → Prop} {v : Value} {n : Nat} {L : List (List UInt8)} (h : Texts w F v n L) : Texts w (fun b => F b ∧ b < w.heap.size) v n L := by
  obtain ⟨vs, h1, h2, h3, h4⟩ := h
  refine ⟨vs, h1, fun b hb => ⟨h2 b hb, ?_⟩, h3, fun k x l hx hl => ⟨(h4 k x l hx hl).1, fun b hb => ⟨(h4 k x l hx hl).2 b hb, ?_⟩⟩⟩
  · obtain ⟨_, cs, q⟩ := ownsRow_block h1 hb
    exact (Array.getElem?_eq_some_iff.1 q).1
  · obtain ⟨_, cs, q⟩ := ownsRow_block (h4 k x l hx hl).1 hb
    exact (Array.getElem?_eq_some_iff.1 q).1
/-- a record is appended, and written into the vault -/
theorem Vlt.added {w w4 w5 : World} {v g n c : Nat} {H : Nat → Prop} {V : Vs} {A : Option Addr} {rv vl' : Value} {l : List UInt8} (h1 : H v) (h2 : ∀ b, H b → b < w.heap.size) (hr : Row w v 70 #[.pointer (some ⟨g, 0, none⟩), .int .i64 (V.gen : Int), .slice A n c, rv, .bool false]) (ho : Own w 0 5 (.slice A n c) n V.text) (hf : ∀ b, (Value.slice A n c).ownBlock = some b → H b) (ht : Texts w H rv V.recs.length V.recs)
    (hb : Below w.heap.size w w4) (h4 : w4.grownBy w5 rv.ownBlock) (h5 : ∀ F' : Nat → Prop, (∀ b, More H w b → F' b) → F' w4.heap.size → Texts w5 F' vl' (V.recs.length + 1) (V.recs ++ [l])) :
    Row w5 v 70 #[.pointer (some ⟨g, 0, none⟩), .int .i64 (V.gen : Int), .slice A n c, rv, .bool false] ∧ (∃ H' : Nat → Prop, (∀ b, H' b → H b ∨ w.heap.size ≤ b) ∧ Vlt (w5.setCell ⟨v, 3, none⟩ vl') v g H' (V.add l)) ∧ Off H w (w5.setCell ⟨v, 3, none⟩ vl') := by
  have hgl := hr.lt
  obtain ⟨vs, t1, t2, _⟩ := id ht
  have hblk : ∀ (b : Nat) (cs : Array Value) (e : TypeId), w.heap[b]? = some (.cells cs e (0, 0)) → e ≠ 32 → w5.heap[b]? = some (.cells cs e (0, 0)) := fun b cs e q hne => by
    have hlt := (Array.getElem?_eq_some_iff.1 q).1
    rw [h4.block b (Nat.lt_of_lt_of_le hlt hb.size) (fun e1 => ?_), hb.block b hlt]; exact q
    obtain ⟨_, cs', q'⟩ := ownsRow_block t1 e1.symm
    exact hne (cells_inj q q')
  have hr5 := hblk v _ 70 hr (by decide)
  have hs5 : w.heap.size ≤ w5.heap.size := Nat.le_trans hb.size (Off.grown (F := H) h4 t2).size
  have hss : (w5.setCell ⟨v, 3, none⟩ vl').heap.size = w5.heap.size := by simp [World.setCell]
  have hoff : Off H w (w5.setCell ⟨v, 3, none⟩ vl') := ((Off.of_below hb).trans (Off.grown (F := H) h4 t2) (fun x q => .inl q)).trans (Off.setCell w5 v 3 vl' h1) (fun x q => .inl q)
  refine ⟨hr5, ⟨fun b => More H w b ∧ b < w5.heap.size, fun b q => q.1, ⟨⟨.inl h1, Nat.lt_of_lt_of_le hgl hs5⟩, fun b q => by rw [hss]; exact q.2, A, n, c, vl', Row.set (show Row w5 v 70 _ from hr5) 3 vl', ?_, fun b hb => ⟨.inl (hf b hb), Nat.lt_of_lt_of_le (h2 b (hf b hb)) hs5⟩, ?_⟩⟩, hoff⟩
  · refine ownsRow_keep ho fun b cs _ q => ?_
    rw [Below.heap_setCell _ _ _ _ (fun q2 => ?_)]; exact hblk b cs 5 q (by decide)
    have q2' : b = v := q2
    subst q2'
    exact absurd (cells_inj hr q) (by decide)
  · show Texts _ _ vl' (V.recs ++ [l]).length (V.recs ++ [l])
    rw [List.length_append]
    refine (h5 (More H w) (fun _ q => q) (.inr hb.size)).cap.keep fun b cs e _ he q => ?_
    rw [Below.heap_setCell _ _ _ _ (fun q2 => ?_)]; exact q
    have q2' : b = v := q2
    subst q2'
    have := cells_inj hr5 q
    rcases he with rfl | rfl <;> exact absurd this (by decide)
theorem Texts.of_row {w : World} {H : Nat → Prop} {rv : Value} {L : List (List UInt8)} (h : Texts w H rv L.length L) : ∃ B m d, rv = .slice B m d ∧ m = L.length := by
  obtain ⟨A, c, e, _⟩ := h.form
  exact ⟨A, _, c, e, rfl⟩
theorem Vlt.tape {w : World} {v g : Nat} {H : Nat → Prop} {V : Vs} (h : Vlt w v g H V) : w.cell? ⟨v, 0, none⟩ = some (.pointer (some ⟨g, 0, none⟩)) := by
  obtain ⟨_, _, A, n, c, rv, hr, _⟩ := h
  exact hr.cell 0
/-- the k-th text of a slice of texts of the call's own -/
theorem OwnL.get {w : World} {base : Nat} {A : Option Addr} {n c k : Nat} {L : List (List UInt8)} (h : OwnL w base (.slice A n c) n L) (hk : k < n) :
    ∃ b A' c' l, A = some ⟨b, 0, none⟩ ∧ base ≤ b ∧ b < w.heap.size ∧ L[k]? = some l ∧ w.cell? ⟨b, k, none⟩ = some (.slice A' l.length c') ∧ l.length ≤ c' ∧ Own w base 5 (.slice A' l.length c') l.length l := by
  have hlen := h.length
  obtain ⟨vs, h1, h3, h4⟩ := h
  have hkv : k < vs.length := by omega
  have hkL : k < L.length := by omega
  have ho := h4 k vs[k] L[k] (List.getElem?_eq_getElem hkv) (List.getElem?_eq_getElem hkL)
  rcases h1.2 with ⟨hv, hn⟩ | ⟨g, cap, cur, hv, hbg, hg, hnc, _, hcs, ht⟩
  · omega
  · injection hv with q1 q2 q3
    subst q1 q3
    obtain ⟨A', c', hv', hc'⟩ := ho.form
    refine ⟨g, A', c', L[k], rfl, hbg, (Array.getElem?_eq_some_iff.1 hg).1, List.getElem?_eq_getElem hkL, ?_, hc', by rw [hv'] at ho; exact ho⟩
    rw [cell_of_row w g k cur 32 (0, 0) hg, ← hv', ← List.getElem?_eq_getElem hkv, ← ht, List.getElem?_take, if_pos (by omega)]; simp
set_option maxRecDepth 100000 in
theorem wp_loadX {o : Oper} {a : Act} {w : World} {K : Act → World → Prop} {Q : Exit → Act → World → Prop} (x : Operand) (ho : o.op = .load 33 x) (g k : Nat) (v : Value)
    (hx : a.eval x = .pointer (some ⟨g, k, none⟩)) (hc : w.cell? ⟨g, k, none⟩ = some v) (h : K (a.put o.dst v) w) : o.wp Tryd.prog a w K Q := by
  unfold Oper.wp execOp
  simp only [ho, hx]
  go_simp
  exact h
set_option maxRecDepth 100000 in
theorem wp_storeX {o : Oper} {a : Act} {w : World} {K : Act → World → Prop} {Q : Exit → Act → World → Prop} (x y : Operand) (ho : o.op = .store 33 x y) (g k : Nat) (A : Option Addr) (n c : Nat) (T : TypeId) (cs : Array Value)
    (hx : a.eval x = .pointer (some ⟨g, k, none⟩)) (hy : a.eval y = .slice A n c) (hr : Row w g T cs) (hk : k < cs.size) (h : K (a.put o.dst undef) (w.setCell ⟨g, k, none⟩ (.slice A n c))) : o.wp Tryd.prog a w K Q := by
  have hc : w.cell? ⟨g, k, none⟩ = some cs[k] := by rw [hr.cell k]; exact Array.getElem?_eq_getElem hk
  have hf := hr.frozen k
  unfold Oper.wp execOp
  simp only [ho, hx, hy]
  go_simp
  exact h
theorem recsP_le (g : Nat) (L : List (Nat × List UInt8)) : (recsP g L).length ≤ L.length := by
  unfold recsP; rw [List.length_map]; exact List.length_filter_le _ _
def Tp.mendT (S : Tp) (n : Nat) : Tp × Int := if n = (S.cont 0).length then (S, 0) else S.cutT 0 (n : Int)
theorem Scans.at {b t : List UInt8} {L : List (List UInt8)} {n j : Nat} (h : Scans b L n) (hj : L[j]? = some t) : rdFr (b.drop (frsB (L.take j)).length) = (true, t, (frB t).length) := by
  have hb : b = frsB (L.take j) ++ (frB t ++ (frsB (L.drop (j + 1)) ++ b.drop n)) := by
    rw [← List.append_assoc (frB t), ← drop_frames hj, ← List.append_assoc, ← frsB_append, List.take_append_drop, h.1.1, List.take_append_drop]
  have ht := h.1.2.2 t (List.mem_of_getElem? hj)
  obtain ⟨P, hP⟩ : ∃ P, frsB (L.take j) = P := ⟨_, rfl⟩
  rw [hP] at hb ⊢
  rw [hb, List.drop_left]
  exact rdFr_back t _ ht
def Replayed (w : World) (v g : Nat) (S : Tp) (H : Nat → Prop) (F : Nat → Nat → Prop) (V : Vs) (e : Ending) (w' : World) : Prop :=
  ∃ L n, codeV.All (S.cont 0) L n ∧ e = .returned (.int .i64 (S.mendT n).2) ∧ Off (fun b => H b ∨ Foot g F b) w w' ∧ ∃ (H' : Nat → Prop) (F' : Nat → Nat → Prop), (∀ b, H' b → H b ∨ w.heap.size ≤ b) ∧ Within w F F' ∧ Vlt w' v g H' ⟨V.gen, V.text, recsP V.gen L⟩ ∧ Tap w' g F' (S.mendT n).1 ∧ ∀ b, H' b → ¬ Foot g F' b
/-- what is there when all records are taken -/
theorem Replayed.of {w w2 wr w' : World} {v g n : Nat} {S : Tp} {H H' : Nat → Prop} {F : Nat → Nat → Prop} {V : Vs} {L : List (Nat × List UInt8)} {e : Ending} (hA : codeV.All (S.cont 0) L n) (hw2 : Below w.heap.size w w2) (ho : Off H w2 wr) (_hH : ∀ b, H b → b < w.heap.size) (hH' : ∀ b, H' b → H b ∨ w2.heap.size ≤ b) (hV : Vlt wr v g H' ⟨V.gen, V.text, recsP V.gen L⟩) (hT : Tap w g F S) (hsep : ∀ b, H b → ¬ Foot g F b) (hd : Did wr g F (S.mendT n) e w') : Replayed w v g S H F V e w' := by
  obtain ⟨he, ⟨F', h2, h3⟩, h4⟩ := hd
  have ho1 : Off H w wr := (Off.of_below hw2).trans ho (fun x q => .inl q)
  refine ⟨L, n, hA, he, (ho1.mono (fun _ q => .inl q)).trans h4 (fun x q => .inl (.inr q)), H', F', fun b q => ?_, fun i b q => ?_, hV.off h4 (fun b q => ?_), h3, fun b q => ?_⟩
  · rcases hH' b q with q | q
    · exact .inl q
    · exact .inr (Nat.le_trans hw2.size q)
  · rcases h2 i b q with q | q
    · exact .inl q
    · exact .inr (Nat.le_trans ho1.size q)
  · rcases hH' b q with q | q
    · exact hsep b q
    · intro hf
      have := hT.foot hf
      have := hw2.size
      omega
  · intro hf
    have hlt := hV.2.1 b q
    have hw2s := hw2.size
    rcases hf with rfl | ⟨i, hf⟩
    · rcases hH' b q with q | q
      · exact hsep b q (.inl rfl)
      · have := hT.glt; omega
    · rcases h2 i b hf with hf | hf
      · rcases hH' b q with q | q
        · exact hsep b q (.inr ⟨i, hf⟩)
        · have := hT.lt i b hf; omega
      · omega
set_option maxRecDepth 100000 in
set_option maxHeartbeats 8000000 in
theorem replay_any {S : Tp} (v g K : Nat) (H : Nat → Prop) (V : Vs) (F : Nat → Nat → Prop) (w : World) (hV : Vlt w v g H V) (h0 : V.recs = []) (h : Tap w g F S) (hok : S.ok K) (hK : K ≤ 100000000) (hTb : Tab 2 w) (hsep : ∀ b, H b → ¬ Foot g F b) (hd : S.down = false) (HT2 : ¬ H 2) :
    Calls Tryd.prog 34 #[.pointer (some ⟨v, 0, none⟩)] w (Replayed w v g S H F V) := by
  obtain ⟨H1, H2, A, n0, c0, rv, hr, ho, hf, ht⟩ := id hV
  have HFr := Lib.hid (frames_any (S := S) v g K 0 _ F w hr rfl h hok hK hTb)
  have hl : S.readL 0 = S.cont 0 := by unfold Tp.readL; rw [if_pos ⟨⟨by omega, by omega⟩, hd⟩]; rfl
  have hE : S.readE 0 = 0 := by unfold Tp.readE; rw [if_pos ⟨by omega, by omega⟩, if_neg (by rw [hd]; simp)]
  have hlen : (S.cont 0).length ≤ 1048576 := hok.now 0
  obtain ⟨L0, s, hS⟩ := Scans.exists (S.cont 0)
  rw [hl, hE] at HFr
  have HS := Lib.hid hS
  have HRd := Lib.hid (fun t A n c w hB hn => read_any A n c t w hB hn)
  have HFa := Lib.hid (fun (q : Nat) (u : List UInt8) (hv : okV (q, u)) A c w hB hT => frame_any q u.length c A u w hB hv hT)
  have HCut := Lib.hid (fun (k : Nat) w h => Cut_any (S := S) g K 0 (k : Int) F w h hok hK)
  have HEnd := Lib.hid (fun (L : List (Nat × List UInt8)) (n : Nat) (w2 wr w' : World) (H' : Nat → Prop) (e : Ending) (hA : codeV.All (S.cont 0) L n) (a1 : Below w.heap.size w w2) (a2 : Off H w2 wr) (a3 : ∀ b, H' b → H b ∨ w2.heap.size ≤ b) (a4 : Vlt wr v g H' ⟨V.gen, V.text, recsP V.gen L⟩) (a5 : Did wr g F (S.mendT n) e w') => Replayed.of hA a1 a2 H2 a3 a4 h hsep a5)
  have HTs := Lib.hid (fun w2 wr (a1 : Below w.heap.size w w2) (a2 : Off H w2 wr) => show Tap wr g F S from (h.below a1).outside a2 (fun b q q2 => hsep b q2 q))
  have HM1 := Lib.hid (show ∀ n, n = (S.cont 0).length → S.mendT n = (S, 0) from fun n e => by unfold Tp.mendT; rw [if_pos e])
  have HM2 := Lib.hid (show ∀ n, n ≠ (S.cont 0).length → S.mendT n = S.cutT 0 (n : Int) from fun n e => by unfold Tp.mendT; rw [if_neg e])
  have HV0 := Lib.hid (fun w2 (a1 : Below w.heap.size w w2) => show Vlt w2 v g H ⟨V.gen, V.text, recsP V.gen []⟩ from by have := hV.below a1; obtain ⟨vg, vt, vr⟩ := V; simp only at h0; subst h0; exact this)
  have HH2 := Lib.hid H2
  have hvw := hV.lt
  have HTw := Lib.hid (fun w2 (a1 : Below w.heap.size w w2) (wr : World) (a2 : Off H w2 wr) => show Tab 2 wr from ⟨Nat.lt_of_lt_of_le hTb.1 (Nat.le_trans a1.size a2.size), fun t ht => (World.cell?_of_block (a := ⟨2, t, none⟩) (a2.block 2 (Nat.lt_of_lt_of_le hTb.1 a1.size) HT2)).trans ((hTb.below a1).2 t ht)⟩)
  generalize S.cont 0 = l at *
  clear hV hr ho hf ht h0 h hok hK hTb hsep hd hl hE H1 H2 rv A n0 c0
  obtain ⟨m, hm⟩ : ∃ m, l.length = m := ⟨_, rfl⟩
  have HM := Lib.hid hm
  unfold FramesE at HFr
  rw [hm] at HFr HM1 HM2 hlen
  clear hm hS
  go_enter Tryd.func34, Tryd.ntmps34
  go_wp2_with (go_at_call 50; refine HFr.out.mono ?_; rintro e1 w1 ⟨L', k, s', A1, c1, rfl, hs1, ho1, hb1⟩; obtain ⟨rfl, rfl⟩ := (by exact Scans.one hs1 HS.out); have HO1 := Lib.hid ho1; have hkl := ho1.length; have hkb : k ≤ 1048576 := (by have q1 := HS.out.1.count; have q2 := HS.out.1.2.1; have q3 := HM.out; omega); have HB1 := Lib.hid hb1; clear hs1 ho1)
  have hs1 := HB1.out.size
  clear HFr hb1
  go_loopw [6, 19] (fun z i wr => ∃ (j nn : Nat) (Lp : List (Nat × List UInt8)) (H' : Nat → Prop), j ≤ k ∧ i = .int .i64 (j : Int) ∧ z = .int .i64 (nn : Int) ∧ Hid (codeV.Part l Lp nn) ∧ Hid (nn = (frsB (L'.take j)).length) ∧ nn ≤ m ∧ Hid (Off H w1 wr) ∧ Hid (∀ b, H' b → H b ∨ w1.heap.size ≤ b) ∧ Hid (Vlt wr v g H' ⟨V.gen, V.text, recsP V.gen Lp⟩)) (fun _ i _ => k - (intOf i).toNat)
  case atStart => exact ⟨0, 0, [], H, Nat.zero_le _, rfl, rfl, Lib.hid (Code.Part.nil _), Lib.hid (by simp [frsB]), Nat.zero_le _, Lib.hid (Off.of_below (Below.refl _ _)), Lib.hid (fun _ q => .inl q), Lib.hid (HV0.out _ HB1.out)⟩
  case round =>
    obtain ⟨j, nn, Lp, H', hj, rfl, rfl, HPt, HNN, hnm, HOf, HHs, HVr⟩ := hrel
    have hszr := HOf.out.size
    clear HV0
    by_cases hlt : j < k
    · obtain ⟨bb, A2, c2, t, rfl, hbbw, hlt2, hg2, hcell2, hcc2, hO2⟩ := HO1.out.get hlt
      have hcell : wr.cell? ⟨bb, j, none⟩ = some (.slice A2 t.length c2) := (World.cell?_of_block (a := ⟨bb, j, none⟩) (HOf.out.block bb hlt2 (fun q => by have := HH2.out bb q; omega))).trans hcell2
      have HBt := Lib.hid (show Bs wr A2 t.length t from hO2.bs.off (fun b off e q => by have q1 := hO2.fresh b off e; have q2 := HH2.out b q; omega) HOf.out)
      have hrd := HS.out.at hg2
      rw [← HNN.out] at hrd
      have htl := HS.out.1.2.2 t (List.mem_of_getElem? hg2)
      obtain ⟨ok, q, u, hp⟩ : ∃ ok q u, partP t = (ok, q, u) := ⟨_, _, _, rfl⟩
      have HP := Lib.hid hp
      have HTk := Lib.hid (show (frsB (L'.take (j + 1))).length = nn + (frB t).length by rw [frsB_take L' j t hg2, List.length_append, ← HNN.out])
      cases ok with
      | false =>
        have HA := Lib.hid (show codeV.All l Lp nn from ⟨HPt.out, rdV_other _ t _ hrd (by rw [hp])⟩)
        have HTl := Lib.hid htl
        clear hcell2 hO2 hg2 hrd hp htl HTk HNN HPt
        by_cases hnq : nn = m
        · have dn : ((nn : Int) == (m : Int)) = true := by rw [hnq]; simp
          have HMq := HM1.out nn hnq
          have HMe := Lib.hid HMq
          clear hnq HMq
          go_wp2_with (first
            | (go_at_call 51; refine (HRd.out t A2 t.length c2 wr HBt.out (by have := HTl.out; omega)).mono ?_; rintro e3 w3 ⟨ok3, q3, u3, A3, c3, rfl, hp3, hp4, hc3, ho3, hb3⟩; obtain rfl : false = ok3 := (by rw [← hp3, HP.out]); clear hp3 hp4; have hsz3 := hb3.size; have HO3 := Lib.hid ho3; have HBc := Lib.hid (hb3.alloc hsz3 (.cells #[.int .i64 0, .slice none 0 0] 68)); clear ho3 hc3)
            | ((with_reducible refine wpList_store_row Tryd.agg68 rfl (.tmp 9) (.tmp 26) rfl w3.heap.size #[.int .i64 (q3 : Int), .slice A3 u3.length c3] rfl rfl 68 #[.int .i64 0, .slice none 0 0] (Row.new w3 68 _) (size2 _ _ _ _) (size2 _ _ _ _) (one2 _ _ _ _) ?_); intro w5 hr5 ho5; have HR5 := Lib.hid hr5; have k51 : w5.cell? ⟨w3.heap.size, 0, none⟩ = some (.int .i64 (q3 : Int)) := hr5.cell 0; have k52 : w5.cell? ⟨w3.heap.size, 1, none⟩ = some (.slice A3 u3.length c3) := hr5.cell 1; have HO5 := Lib.hid ho5; have BC : Below wr.heap.size wr w5 := HBc.out.trans (ho5.below hsz3 (by simp; omega)); have B35 : Below w3.heap.size w3 w5 := ((Below.refl w3.heap.size w3).alloc (Nat.le_refl _) _).trans (ho5.below (Nat.le_refl _) (by simp)); have HO35 := Lib.hid (HO3.out.below B35); clear hr5 ho5))
          (try rw [Exit.noGoto_ret])
          go_ret
          exact HEnd.out Lp nn w1 w5 _ H' _ HA.out HB1.out (HOf.out.trans (Off.of_below BC) (fun x q => .inl q)) HHs.out (HVr.out.below BC) (by rw [HMe.out]; exact ⟨rfl, Grow.refl (HTs.out w1 _ HB1.out (HOf.out.trans (Off.of_below BC) (fun x q => .inl q)))⟩)
        · have dn : ((nn : Int) == (m : Int)) = false := by simp; omega
          have HMq := HM2.out nn hnq
          have HMe := Lib.hid HMq
          clear hnq HMq
          go_wp2_with (first
            | (go_at_call 51; refine (HRd.out t A2 t.length c2 wr HBt.out (by have := HTl.out; omega)).mono ?_; rintro e3 w3 ⟨ok3, q3, u3, A3, c3, rfl, hp3, hp4, hc3, ho3, hb3⟩; obtain rfl : false = ok3 := (by rw [← hp3, HP.out]); clear hp3 hp4; have hsz3 := hb3.size; have HO3 := Lib.hid ho3; have HBc := Lib.hid (hb3.alloc hsz3 (.cells #[.int .i64 0, .slice none 0 0] 68)); clear ho3 hc3)
            | ((with_reducible refine wpList_store_row Tryd.agg68 rfl (.tmp 9) (.tmp 26) rfl w3.heap.size #[.int .i64 (q3 : Int), .slice A3 u3.length c3] rfl rfl 68 #[.int .i64 0, .slice none 0 0] (Row.new w3 68 _) (size2 _ _ _ _) (size2 _ _ _ _) (one2 _ _ _ _) ?_); intro w5 hr5 ho5; have HR5 := Lib.hid hr5; have k51 : w5.cell? ⟨w3.heap.size, 0, none⟩ = some (.int .i64 (q3 : Int)) := hr5.cell 0; have k52 : w5.cell? ⟨w3.heap.size, 1, none⟩ = some (.slice A3 u3.length c3) := hr5.cell 1; have HO5 := Lib.hid ho5; have BC : Below wr.heap.size wr w5 := HBc.out.trans (ho5.below hsz3 (by simp; omega)); have B35 : Below w3.heap.size w3 w5 := ((Below.refl w3.heap.size w3).alloc (Nat.le_refl _) _).trans (ho5.below (Nat.le_refl _) (by simp)); have HO35 := Lib.hid (HO3.out.below B35); have kg : w5.cell? ⟨v, 0, none⟩ = some (.pointer (some ⟨g, 0, none⟩)) := Vlt.tape ((HVr.out.below BC)); clear hr5 ho5)
            | (go_at_call 53; refine (HCut.out nn w5 (HTs.out w1 _ HB1.out (HOf.out.trans (Off.of_below BC) (fun x q => .inl q)))).mono ?_; rintro e9 w9 hd9; obtain ⟨rfl, hg9⟩ := hd9; have HG9 := Lib.hid hg9; clear hg9))
          go_ret
          exact HEnd.out Lp nn w1 w5 _ H' _ HA.out HB1.out (HOf.out.trans (Off.of_below BC) (fun x q => .inl q)) HHs.out (HVr.out.below BC) (by rw [HMe.out]; exact ⟨rfl, HG9.out⟩)
      | true =>
        obtain ⟨e1, e2, e3⟩ := partP_is t q u hp
        have hov : okV (q, u) := (partP_bound t q u hp).2 htl
        have hfl : (vFr (q, u)).length = (frB t).length := by unfold vFr; rw [← e1]
        have hst := HPt.out.step (q, u) (frB t).length (rdV_yes _ t _ q u hrd hp)
        have hle : nn + (frB t).length ≤ m := by have := hst.2.1; have := HM.out; omega
        have HST := Lib.hid hst
        obtain ⟨fl, hfl2⟩ : ∃ fl, (frB t).length = fl := ⟨_, rfl⟩
        have HFu := Lib.hid (HFa.out q u hov)
        unfold S4NewSlice at HFu
        rw [hfl, hfl2] at HFu
        rw [hfl2] at HST HTk hle
        have HTl := Lib.hid htl
        have hq63 : (q : Int) < 9223372036854775808 := by omega
        clear hcell2 hO2 hg2 hrd hp htl HNN HPt hst hfl hfl2 hov e1 e3 HFa
        by_cases hqg : q = V.gen
        · have HRS := Lib.hid (show recsP V.gen (Lp ++ [(q, u)]) = recsP V.gen Lp ++ [u] by rw [recsP_snoc, if_pos hqg])
          have dq : ((q : Int) == (V.gen : Int)) = true := by rw [hqg]; simp
          clear hqg
          obtain ⟨G1, G2, A, n0, c0, rv, hrv, hov, hfv, htv⟩ := HVr.out
          have HRV := Lib.hid hrv
          go_wp2_with (first
            | (go_at_call 51; refine (HRd.out t A2 t.length c2 wr HBt.out (by have := HTl.out; omega)).mono ?_; rintro e3 w3 ⟨ok3, q3, u3, A3, c3, rfl, hp3, hp4, hc3, ho3, hb3⟩; obtain rfl : true = ok3 := (by rw [← hp3, HP.out]); have hp5 := hp4 rfl; rw [HP.out] at hp5; obtain ⟨rfl, rfl⟩ : q = q3 ∧ u = u3 := (by simpa using hp5); clear hp3 hp4 hp5; have hsz3 := hb3.size; have HO3 := Lib.hid ho3; have HBc := Lib.hid (hb3.alloc hsz3 (.cells #[.int .i64 0, .slice none 0 0] 68)); clear ho3 hc3)
            | ((with_reducible refine wpList_store_row Tryd.agg68 rfl (.tmp 9) (.tmp 26) rfl w3.heap.size #[.int .i64 (q : Int), .slice A3 u.length c3] rfl rfl 68 #[.int .i64 0, .slice none 0 0] (Row.new w3 68 _) (size2 _ _ _ _) (size2 _ _ _ _) (one2 _ _ _ _) ?_); intro w5 hr5 ho5; have HR5 := Lib.hid hr5; have k51 : w5.cell? ⟨w3.heap.size, 0, none⟩ = some (.int .i64 (q : Int)) := hr5.cell 0; have k52 : w5.cell? ⟨w3.heap.size, 1, none⟩ = some (.slice A3 u.length c3) := hr5.cell 1; have HO5 := Lib.hid ho5; have BC : Below wr.heap.size wr w5 := HBc.out.trans (ho5.below hsz3 (by simp; omega)); have B35 : Below w3.heap.size w3 w5 := ((Below.refl w3.heap.size w3).alloc (Nat.le_refl _) _).trans (ho5.below (Nat.le_refl _) (by simp)); have HO35 := Lib.hid (HO3.out.below B35); clear hr5 ho5)
            | (go_at_call 52; refine (HFu.out A3 c3 w5 HO35.out.bs (HTw.out w1 HB1.out w5 (HOf.out.trans (Off.of_below BC) (fun x q => .inl q)))).mono ?_; rintro e6 w6 ⟨A6, c6, rfl, hc6, hb6, ho6⟩; have B6 : Below wr.heap.size wr w6 := BC.trans (hb6.mono BC.size); have HR6 := Lib.hid (HR5.out.below hb6 HR5.out.lt); have hs6 := hb6.size; have HO36 := Lib.hid (HO35.out.below hb6); have HB6 := Lib.hid hb6; clear ho6 hc6 hb6))
          have q1 : w6.cell? ⟨w3.heap.size, 0, none⟩ = some (.int .i64 (q : Int)) := HR6.out.cell 0
          have q2 : w6.cell? ⟨w3.heap.size, 1, none⟩ = some (.slice A3 u.length c3) := HR6.out.cell 1
          have q3 : w6.cell? ⟨v, 1, none⟩ = some (.int .i64 (V.gen : Int)) := (HRV.out.below B6 HRV.out.lt).cell 1
          go_quiet (fail)
          have Bz : Below wr.heap.size wr (w6.drewN nq) := below_drewN B6 nq
          have HOz := Lib.hid (show Own (w6.drewN nq) wr.heap.size 5 (.slice A3 u.length c3) u.length u from HO36.out)
          have HRz := Lib.hid (show Row (w6.drewN nq) w3.heap.size 68 #[.int .i64 (q : Int), .slice A3 u.length c3] from HR6.out)
          have hzz : w3.heap.size < (w6.drewN nq).heap.size := HRz.out.lt
          obtain ⟨wz, hwz⟩ : ∃ wz, w6.drewN nq = wz := ⟨_, rfl⟩
          rw [hwz] at Bz HOz HRz hzz
          rw [hwz]
          obtain ⟨B0, m0, d0, rfl, hm0⟩ := Texts.of_row htv
          have HC := Lib.hid (fun wq (hb : Below wr.heap.size wr wq) => show wq.cell? ⟨v, 3, none⟩ = some (.slice B0 m0 d0) from (HRV.out.below hb HRV.out.lt).cell 3)
          have KP : Hid (∀ wq, Below wz.heap.size wz wq → Row wq w3.heap.size 68 #[.int .i64 (q : Int), .slice A3 u.length c3]) := Lib.hid (fun wq hb => HRz.out.below hb hzz)
          have HTx := Lib.hid htv
          have HLt := Lib.hid G2
          have HOn := Lib.hid (fun b (hb : (Value.slice A3 u.length c3).ownBlock = some b) => (HO3.out.lt b hb).1)
          have HNr : Hid ((recsP V.gen Lp).length + 1 ≤ 1000000000) := Lib.hid (by have q1 := HST.out.count; have q2 := HST.out.2.1; have q3 := HM.out; have q4 := recsP_le V.gen Lp; rw [List.length_append] at q1; simp only [List.length_cons, List.length_nil] at q1; omega)
          have HAd := Lib.hid (fun A5 c5 (w4 w5 : World) hb hg h5 => Vlt.added (V := ⟨V.gen, V.text, recsP V.gen Lp⟩) (w4 := w4) (w5 := w5) (vl' := .slice A5 ((recsP V.gen Lp).length + 1) c5) (l := u) G1 G2 hrv hov hfv htv hb hg h5)
          have HhL := Lib.hid hzz
          have HhN := Lib.hid (show ∀ b, (Value.slice B0 m0 d0).ownBlock = some b → w3.heap.size = b → False from fun b hb e => by obtain ⟨_, _, hv2, _⟩ := htv; have q1 := G2 b (hv2 b hb); omega)
          have HhV := Lib.hid (show w3.heap.size ≠ v by have := HRV.out.lt; omega)
          clear hwz hrv hov hfv htv G1 G2 hzz q1 q2 q3
          go_wp2_with fail
          have Z0 : Below wz.heap.size wz wz.drew := (Below.refl wz.heap.size wz).drew
          have B0z : Below wr.heap.size wr wz.drew := Bz.drew
          refine wp_region_noPanic ?_
          refine wp_region_held_drew (S := fun w' => Row w' (w3.heap.size) 68 #[.int .i64 (q : Int), .slice A3 u.length c3]) (by kernel_rfl) (KP.out _ Z0) (fun hHeld => ?_)
          refine takeD (i := 0) (some 43) (.pointer (some ⟨v, 0, none⟩)) rfl rfl (by kernel_rfl) (by kernel_rfl) (by kernel_rfl) (fun _ _ _ h => h) (Or.inl ⟨by rfl, fun _ _ => rfl⟩) hHeld ?_
          simp only [Act.put, List.setIfInBounds_toArray, List.set_cons_zero, List.set_cons_succ]
          refine takeD (i := 1) (some 44) (.pointer (some ⟨v, 0, none⟩)) rfl rfl (by kernel_rfl) (by kernel_rfl) (by kernel_rfl) (fun _ _ _ h => h) (Or.inl ⟨by rfl, fun _ _ => rfl⟩) hHeld ?_
          simp only [Act.put, List.setIfInBounds_toArray, List.set_cons_zero, List.set_cons_succ]
          refine takeD (i := 2) (some 45) (.pointer (some ⟨v, 0, none⟩)) rfl rfl (by kernel_rfl) (by kernel_rfl) (by kernel_rfl) (fun _ _ _ h => h) (yields_nil (by rfl) (.tmp 44) rfl _ rfl) hHeld ?_
          simp only [Act.put, List.setIfInBounds_toArray, List.set_cons_zero, List.set_cons_succ]
          refine takeD (i := 3) (some 46) (.pointer (some ⟨v, 3, none⟩)) rfl rfl (by kernel_rfl) (by kernel_rfl) (by kernel_rfl) (fun _ _ _ h => h) (yields_fldV (by rfl) 70 (.tmp 45) 2 rfl (d := 3) (by decide) (v) 0 _ rfl rfl) hHeld ?_
          simp only [Act.put, List.setIfInBounds_toArray, List.set_cons_zero, List.set_cons_succ]
          refine takeD (i := 5) (some 48) (.pointer (some ⟨w3.heap.size, 1, none⟩)) rfl rfl (by kernel_rfl) (by kernel_rfl) (by kernel_rfl) (fun _ _ _ h => h) (yields_fldV (by rfl) 68 (.tmp 9) 1 rfl (d := 1) (by decide) (w3.heap.size) 0 _ rfl rfl) hHeld ?_
          simp only [Act.put, List.setIfInBounds_toArray, List.set_cons_zero, List.set_cons_succ]
          refine takeD (i := 6) (some 49) (.slice A3 u.length c3) rfl rfl (by kernel_rfl) (by kernel_rfl) (by kernel_rfl) (fun _ _ _ h => h) (yieldsC (by rfl) 32 (.tmp 48) rfl (by decide) (w3.heap.size) 1 _ rfl (fun _ h => h.cell 1)) hHeld ?_
          simp only [Act.put, List.setIfInBounds_toArray, List.set_cons_zero, List.set_cons_succ]
          refine wpAnyH_ready (rs := [4, 7]) (by kernel_rfl) (by decide) ?_
          refine AllReadyH.cons rfl (fun K' hK => ?_) (AllReadyH.cons rfl (fun K' hK => ?_) AllReadyH.nil)
          · skip
            refine step_of rfl (wp_loadX (.tmp 46) rfl v 3 (.slice B0 m0 d0) rfl (HC.out _ B0z) ?_)
            refine hK.out _ _ (KP.out _ Z0) (fun hHeld1 => ?_)
            clear hK
            simp only [List.getElem_toArray, List.getElem_cons_succ, List.getElem_cons_zero, Act.put, List.setIfInBounds_toArray, List.set_cons_zero, List.set_cons_succ]
            refine wpAnyH_ready (rs := [7]) (by kernel_rfl) (by decide) ?_
            refine AllReadyH.cons rfl (fun K' hK => ?_) AllReadyH.nil
            refine step_of rfl (wp_buildT (.tmp 49) rfl A3 u.length c3 rfl ?_)
            obtain ⟨w4, hw4⟩ : ∃ w4, wz.drew.alloc (.cells #[.slice A3 u.length c3] 32) = w4 := ⟨_, rfl⟩
            obtain ⟨g4, hg4⟩ : ∃ g4, wz.drew.heap.size = g4 := ⟨_, rfl⟩
            have HX4 := Lib.hid ((Row.new wz.drew 32 #[.slice A3 u.length c3]).cell 0)
            have Z4 : Below wz.heap.size wz w4 := by rw [← hw4]; exact Z0.alloc (Nat.le_refl _) _
            have B4 : Below wr.heap.size wr w4 := by rw [← hw4]; exact B0z.alloc B0z.size _
            rw [hw4, hg4] at HX4
            rw [hw4, hg4]
            clear hw4 hg4
            refine hK.out _ _ (KP.out _ Z4) (fun hHeld2 => ?_)
            clear hK
            simp only [List.getElem_toArray, List.getElem_cons_succ, List.getElem_cons_zero, Act.put, List.setIfInBounds_toArray, List.set_cons_zero, List.set_cons_succ]
            refine wpAnyH_ready (rs := [8]) (by kernel_rfl) (by decide) ?_
            refine AllReadyH.cons rfl (fun K' hK => ?_) AllReadyH.nil
            refine step_of rfl (wp_appTF (.tmp 47) (.tmp 50) rfl (More H' wr) (.slice B0 m0 d0) ((recsP V.gen Lp).length) (recsP V.gen Lp) rfl ((HTx.out.same (fun b q => B4.block b (HLt.out b q))).mono (fun b q => .inl q)) (.slice A3 u.length c3) (u) ((HOz.out.below Z4).mono (Nat.zero_le _)) (fun b q => .inr (HOn.out b q)) g4 0 1 rfl HX4.out HNr.out ?_)
            intro A5 c5 w5b h5 hg5
            obtain ⟨S5r, S5v, S5o⟩ := HAd.out A5 c5 w4 w5b B4 hg5 h5
            have HS5r := Lib.hid S5r
            have HS5v := Lib.hid S5v
            have HS5o := Lib.hid S5o
            have KZ5 := Lib.hid (show Row w5b (w3.heap.size) 68 #[.int .i64 (q : Int), .slice A3 u.length c3] from (hg5.block _ (Nat.lt_of_lt_of_le HhL.out Z4.size) (fun q => HhN.out _ q.symm rfl)).trans (KP.out _ Z4))
            clear h5 hg5 S5r S5v S5o
            refine hK.out _ _ KZ5.out (fun hHeld3 => ?_)
            clear hK
            simp only [List.getElem_toArray, List.getElem_cons_succ, List.getElem_cons_zero, Act.put, List.setIfInBounds_toArray, List.set_cons_zero, List.set_cons_succ]
            refine takeD (i := 9) (some 52) (.pointer (some ⟨v, 0, none⟩)) rfl rfl (by kernel_rfl) (by kernel_rfl) (by kernel_rfl) (fun _ _ _ h => h) (yields_nil (by rfl) (.tmp 43) rfl _ rfl) hHeld3 ?_
            simp only [Act.put, List.setIfInBounds_toArray, List.set_cons_zero, List.set_cons_succ]
            refine takeD (i := 10) (some 53) (.pointer (some ⟨v, 3, none⟩)) rfl rfl (by kernel_rfl) (by kernel_rfl) (by kernel_rfl) (fun _ _ _ h => h) (yields_fldV (by rfl) 70 (.tmp 52) 2 rfl (d := 3) (by decide) (v) 0 _ rfl rfl) hHeld3 ?_
            simp only [Act.put, List.setIfInBounds_toArray, List.set_cons_zero, List.set_cons_succ]
            refine wpAnyH_ready (rs := [11]) (by kernel_rfl) (by decide) ?_
            refine AllReadyH.cons rfl (fun K' hK => ?_) AllReadyH.nil
            refine step_of rfl (wp_storeX (.tmp 53) (.tmp 51) rfl v 3 A5 ((recsP V.gen Lp).length + 1) c5 70 _ rfl rfl HS5r.out (by show 3 < 5; omega) ?_)
            refine hK.out _ _ (KZ5.out.far (by show w3.heap.size ≠ v; exact HhV.out) _) (fun hHeld4 => ?_)
            clear hK
            refine wpAnyH_done (by kernel_rfl) ?_ _
            refine NoPanic.normal ?_
            go_wp2_with fail
            go_roundw
            case rel => obtain ⟨H3, hh3, hv3⟩ := HS5v.out; exact ⟨j + 1, nn + fl, _, H3, by omega, by go_num, by go_num, HST, Lib.hid HTk.out.symm, hle, Lib.hid (HOf.out.trans HS5o.out HHs.out), Lib.hid (fun b q => (by rcases hh3 b q with q | q; exact HHs.out b q; exact .inr (Nat.le_trans hszr q))), Lib.hid (by rw [HRS.out]; exact hv3)⟩
            case measure => simp [intOf]; omega
          · skip
            refine step_of rfl (wp_buildT (.tmp 49) rfl A3 u.length c3 rfl ?_)
            obtain ⟨w4, hw4⟩ : ∃ w4, wz.drew.alloc (.cells #[.slice A3 u.length c3] 32) = w4 := ⟨_, rfl⟩
            obtain ⟨g4, hg4⟩ : ∃ g4, wz.drew.heap.size = g4 := ⟨_, rfl⟩
            have HX4 := Lib.hid ((Row.new wz.drew 32 #[.slice A3 u.length c3]).cell 0)
            have Z4 : Below wz.heap.size wz w4 := by rw [← hw4]; exact Z0.alloc (Nat.le_refl _) _
            have B4 : Below wr.heap.size wr w4 := by rw [← hw4]; exact B0z.alloc B0z.size _
            rw [hw4, hg4] at HX4
            rw [hw4, hg4]
            clear hw4 hg4
            refine hK.out _ _ (KP.out _ Z4) (fun hHeld5 => ?_)
            clear hK
            simp only [List.getElem_toArray, List.getElem_cons_succ, List.getElem_cons_zero, Act.put, List.setIfInBounds_toArray, List.set_cons_zero, List.set_cons_succ]
            refine wpAnyH_ready (rs := [4]) (by kernel_rfl) (by decide) ?_
            refine AllReadyH.cons rfl (fun K' hK => ?_) AllReadyH.nil
            refine step_of rfl (wp_loadX (.tmp 46) rfl v 3 (.slice B0 m0 d0) rfl (HC.out _ B4) ?_)
            refine hK.out _ _ (KP.out _ Z4) (fun hHeld6 => ?_)
            clear hK
            simp only [List.getElem_toArray, List.getElem_cons_succ, List.getElem_cons_zero, Act.put, List.setIfInBounds_toArray, List.set_cons_zero, List.set_cons_succ]
            refine wpAnyH_ready (rs := [8]) (by kernel_rfl) (by decide) ?_
            refine AllReadyH.cons rfl (fun K' hK => ?_) AllReadyH.nil
            refine step_of rfl (wp_appTF (.tmp 47) (.tmp 50) rfl (More H' wr) (.slice B0 m0 d0) ((recsP V.gen Lp).length) (recsP V.gen Lp) rfl ((HTx.out.same (fun b q => B4.block b (HLt.out b q))).mono (fun b q => .inl q)) (.slice A3 u.length c3) (u) ((HOz.out.below Z4).mono (Nat.zero_le _)) (fun b q => .inr (HOn.out b q)) g4 0 1 rfl HX4.out HNr.out ?_)
            intro A5 c5 w5b h5 hg5
            obtain ⟨S5r, S5v, S5o⟩ := HAd.out A5 c5 w4 w5b B4 hg5 h5
            have HS5r := Lib.hid S5r
            have HS5v := Lib.hid S5v
            have HS5o := Lib.hid S5o
            have KZ5 := Lib.hid (show Row w5b (w3.heap.size) 68 #[.int .i64 (q : Int), .slice A3 u.length c3] from (hg5.block _ (Nat.lt_of_lt_of_le HhL.out Z4.size) (fun q => HhN.out _ q.symm rfl)).trans (KP.out _ Z4))
            clear h5 hg5 S5r S5v S5o
            refine hK.out _ _ KZ5.out (fun hHeld7 => ?_)
            clear hK
            simp only [List.getElem_toArray, List.getElem_cons_succ, List.getElem_cons_zero, Act.put, List.setIfInBounds_toArray, List.set_cons_zero, List.set_cons_succ]
            refine takeD (i := 9) (some 52) (.pointer (some ⟨v, 0, none⟩)) rfl rfl (by kernel_rfl) (by kernel_rfl) (by kernel_rfl) (fun _ _ _ h => h) (yields_nil (by rfl) (.tmp 43) rfl _ rfl) hHeld7 ?_
            simp only [Act.put, List.setIfInBounds_toArray, List.set_cons_zero, List.set_cons_succ]
            refine takeD (i := 10) (some 53) (.pointer (some ⟨v, 3, none⟩)) rfl rfl (by kernel_rfl) (by kernel_rfl) (by kernel_rfl) (fun _ _ _ h => h) (yields_fldV (by rfl) 70 (.tmp 52) 2 rfl (d := 3) (by decide) (v) 0 _ rfl rfl) hHeld7 ?_
            simp only [Act.put, List.setIfInBounds_toArray, List.set_cons_zero, List.set_cons_succ]
            refine wpAnyH_ready (rs := [11]) (by kernel_rfl) (by decide) ?_
            refine AllReadyH.cons rfl (fun K' hK => ?_) AllReadyH.nil
            refine step_of rfl (wp_storeX (.tmp 53) (.tmp 51) rfl v 3 A5 ((recsP V.gen Lp).length + 1) c5 70 _ rfl rfl HS5r.out (by show 3 < 5; omega) ?_)
            refine hK.out _ _ (KZ5.out.far (by show w3.heap.size ≠ v; exact HhV.out) _) (fun hHeld8 => ?_)
            clear hK
            refine wpAnyH_done (by kernel_rfl) ?_ _
            refine NoPanic.normal ?_
            go_wp2_with fail
            go_roundw
            case rel => obtain ⟨H3, hh3, hv3⟩ := HS5v.out; exact ⟨j + 1, nn + fl, _, H3, by omega, by go_num, by go_num, HST, Lib.hid HTk.out.symm, hle, Lib.hid (HOf.out.trans HS5o.out HHs.out), Lib.hid (fun b q => (by rcases hh3 b q with q | q; exact HHs.out b q; exact .inr (Nat.le_trans hszr q))), Lib.hid (by rw [HRS.out]; exact hv3)⟩
            case measure => simp [intOf]; omega
        · have HRS := Lib.hid (show recsP V.gen (Lp ++ [(q, u)]) = recsP V.gen Lp by rw [recsP_snoc, if_neg hqg, List.append_nil])
          have dq : ((q : Int) == (V.gen : Int)) = false := by simp; omega
          clear hqg
          obtain ⟨G1, G2, A, n0, c0, rv, hrv, hov, hfv, htv⟩ := HVr.out
          have HRV := Lib.hid hrv
          go_wp2_with (first
            | (go_at_call 51; refine (HRd.out t A2 t.length c2 wr HBt.out (by have := HTl.out; omega)).mono ?_; rintro e3 w3 ⟨ok3, q3, u3, A3, c3, rfl, hp3, hp4, hc3, ho3, hb3⟩; obtain rfl : true = ok3 := (by rw [← hp3, HP.out]); have hp5 := hp4 rfl; rw [HP.out] at hp5; obtain ⟨rfl, rfl⟩ : q = q3 ∧ u = u3 := (by simpa using hp5); clear hp3 hp4 hp5; have hsz3 := hb3.size; have HO3 := Lib.hid ho3; have HBc := Lib.hid (hb3.alloc hsz3 (.cells #[.int .i64 0, .slice none 0 0] 68)); clear ho3 hc3)
            | ((with_reducible refine wpList_store_row Tryd.agg68 rfl (.tmp 9) (.tmp 26) rfl w3.heap.size #[.int .i64 (q : Int), .slice A3 u.length c3] rfl rfl 68 #[.int .i64 0, .slice none 0 0] (Row.new w3 68 _) (size2 _ _ _ _) (size2 _ _ _ _) (one2 _ _ _ _) ?_); intro w5 hr5 ho5; have HR5 := Lib.hid hr5; have k51 : w5.cell? ⟨w3.heap.size, 0, none⟩ = some (.int .i64 (q : Int)) := hr5.cell 0; have k52 : w5.cell? ⟨w3.heap.size, 1, none⟩ = some (.slice A3 u.length c3) := hr5.cell 1; have HO5 := Lib.hid ho5; have BC : Below wr.heap.size wr w5 := HBc.out.trans (ho5.below hsz3 (by simp; omega)); have B35 : Below w3.heap.size w3 w5 := ((Below.refl w3.heap.size w3).alloc (Nat.le_refl _) _).trans (ho5.below (Nat.le_refl _) (by simp)); have HO35 := Lib.hid (HO3.out.below B35); clear hr5 ho5)
            | (go_at_call 52; refine (HFu.out A3 c3 w5 HO35.out.bs (HTw.out w1 HB1.out w5 (HOf.out.trans (Off.of_below BC) (fun x q => .inl q)))).mono ?_; rintro e6 w6 ⟨A6, c6, rfl, hc6, hb6, ho6⟩; have B6 : Below wr.heap.size wr w6 := BC.trans (hb6.mono BC.size); have HR6 := Lib.hid (HR5.out.below hb6 HR5.out.lt); have hs6 := hb6.size; have HO36 := Lib.hid (HO35.out.below hb6); have HB6 := Lib.hid hb6; clear ho6 hc6 hb6))
          have q1 : w6.cell? ⟨w3.heap.size, 0, none⟩ = some (.int .i64 (q : Int)) := HR6.out.cell 0
          have q2 : w6.cell? ⟨w3.heap.size, 1, none⟩ = some (.slice A3 u.length c3) := HR6.out.cell 1
          have q3 : w6.cell? ⟨v, 1, none⟩ = some (.int .i64 (V.gen : Int)) := (HRV.out.below B6 HRV.out.lt).cell 1
          go_quiet (fail)
          go_wp2_with fail
          go_roundw
          case rel => exact ⟨j + 1, nn + fl, _, H', by omega, by go_num, by go_num, HST, Lib.hid HTk.out.symm, hle, Lib.hid (HOf.out.trans (Off.of_below (below_drewN B6 _)) (fun x q => .inl q)), HHs, Lib.hid (by rw [HRS.out]; exact HVr.out.below (below_drewN B6 _))⟩
          case measure => simp [intOf]; omega
    · obtain rfl : j = k := by omega
      have hnl : nn = s' := by
        have h1 := HNN.out
        rw [List.take_of_length_le (by omega)] at h1
        rw [h1]; exact HS.out.1.size
      have HA := Lib.hid (show codeV.All l Lp nn from ⟨HPt.out, rdV_no _ (by rw [hnl]; exact HS.out.2)⟩)
      clear HNN HPt hnl
      by_cases hnq : nn = m
      · have dn : ((nn : Int) == (m : Int)) = true := by rw [hnq]; simp
        have HMq := HM1.out nn hnq
        have HMe := Lib.hid HMq
        clear hnq HMq
        go_wp2_with fail
        (try rw [Exit.noGoto_ret])
        go_ret
        exact HEnd.out Lp nn w1 wr _ H' _ HA.out HB1.out HOf.out HHs.out HVr.out (by rw [HMe.out]; exact ⟨rfl, Grow.refl (HTs.out w1 _ HB1.out HOf.out)⟩)
      · have dn : ((nn : Int) == (m : Int)) = false := by simp; omega
        have HMq := HM2.out nn hnq
        have HMe := Lib.hid HMq
        clear hnq HMq
        have kg : wr.cell? ⟨v, 0, none⟩ = some (.pointer (some ⟨g, 0, none⟩)) := Vlt.tape (HVr.out)
        go_wp2_with (first
          | (go_at_call 53; refine (HCut.out nn wr (HTs.out w1 _ HB1.out HOf.out)).mono ?_; rintro e9 w9 hd9; obtain ⟨rfl, hg9⟩ := hd9; have HG9 := Lib.hid hg9; clear hg9))
        go_ret
        exact HEnd.out Lp nn w1 wr _ H' _ HA.out HB1.out HOf.out HHs.out HVr.out (by rw [HMe.out]; exact ⟨rfl, HG9.out⟩)
end Go.Proofs.YtgiobcpljbpmiaaDoor
