/-
  Steps that are a tape's calls alone: a list of them is run.
-/
import Derived.Test.YtgiobcpljbpmiaaDoorVltF
namespace Go.Proofs.YtgiobcpljbpmiaaDoor
open Go.RowKit
def seqT : List (Tp → Tp × Int) → Tp → Tp × Int
  | [], S => (S, 0)
  | f :: l, S => andThen (f S) (seqT l)
theorem seqT_ok {f : Tp → Tp × Int} {l : List (Tp → Tp × Int)} {S : Tp} (h : (f S).2 = 0) : seqT (f :: l) S = seqT l (f S).1 := andThen_ok h
theorem seqT_no {f : Tp → Tp × Int} {l : List (Tp → Tp × Int)} {S : Tp} (h : (f S).2 ≠ 0) : seqT (f :: l) S = f S := andThen_no h
theorem andThen_last (p : Tp × Int) : andThen p (seqT []) = p := by
  unfold andThen; split
  · rename_i h; show (p.1, (0 : Int)) = p; rw [← h]
  · rfl
/-- a step is a call of the tape -/
def StepOf (w1 : World) (g : Nat) (F : Nat → Nat → Prop) (f : Value) (φ : Tp → Tp × Int) : Prop :=
  ∃ N us vs, f = .func (.func N) us vs ∧ (∀ xs w, (callFunc N xs).run Tryd.prog w = .ok (.enter N xs) w) ∧
    ∀ (wr : World) (X : Tp) (F' : Nat → Nat → Prop) (K : Nat), Off (Foot g F) w1 wr → Within w1 F F' → Tap wr g F' X → X.ok K → K ≤ 90000000 → Calls Tryd.prog N (us ++ vs) wr (Did wr g F' (φ X)) ∧ (φ X).1.ok (K + 300000)
theorem box_free {w1 : World} {g b : Nat} {F F' : Nat → Nat → Prop} {t : TypeId} {cs : Array Value} (hr : Row w1 b t cs) (hb : ¬ Foot g F b) (hw : Within w1 F F') : ¬ Foot g F' b := by
  intro h
  rcases h with h | ⟨i, h⟩
  · exact hb (.inl h)
  · rcases hw i b h with q | q
    · exact hb (.inr ⟨i, q⟩)
    · have := hr.lt; omega
theorem StepOf.sync {w1 : World} {B v g : Nat} {z : Int} {f : Value} {F : Nat → Nat → Prop} {cs : Array Value} (hc : Clo w1 B 54 v z f) (hB : ∀ b, Foot g F b → b < B) (h3 : Row w1 v 70 cs) (h0 : cs[0]? = some (.pointer (some ⟨g, 0, none⟩))) (hv : ¬ Foot g F v) : StepOf w1 g F f (fun X => X.syncT z) := by
  obtain ⟨b1, b2, rfl, q1, q2, r1, r2⟩ := hc
  have n1 : ¬ Foot g F b1 := fun h => by have := hB _ h; omega
  have n2 : ¬ Foot g F b2 := fun h => by have := hB _ h; omega
  refine ⟨54, _, _, rfl, en54, fun wr X F' K ho hw hT hok hK => ⟨?_, (sync_ok z hok).mono (by omega)⟩⟩
  exact sync1_any b1 b2 v g K z cs F' wr (r1.off ho n1) (r2.off ho n2) (h3.off ho hv) h0 (box_free r1 n1 hw) (box_free r2 n2 hw) (box_free h3 hv hw) hT hok (by omega)
theorem StepOf.empty {w1 : World} {B v g : Nat} {z : Int} {f : Value} {F : Nat → Nat → Prop} {cs : Array Value} (hc : Clo w1 B 58 v z f) (hB : ∀ b, Foot g F b → b < B) (h3 : Row w1 v 70 cs) (h0 : cs[0]? = some (.pointer (some ⟨g, 0, none⟩))) (hv : ¬ Foot g F v) : StepOf w1 g F f (fun X => X.cutT z 0) := by
  obtain ⟨b1, b2, rfl, q1, q2, r1, r2⟩ := hc
  have n1 : ¬ Foot g F b1 := fun h => by have := hB _ h; omega
  have n2 : ¬ Foot g F b2 := fun h => by have := hB _ h; omega
  refine ⟨58, _, _, rfl, en58, fun wr X F' K ho hw hT hok hK => ⟨?_, (cut_ok z 0 hok).mono (by omega)⟩⟩
  exact empty1_any b1 b2 v g K z cs F' wr (r1.off ho n1) (r2.off ho n2) (h3.off ho hv) h0 (box_free r1 n1 hw) (box_free r2 n2 hw) (box_free h3 hv hw) hT hok (by omega)
theorem Tab.off {G : Nat → Prop} {b : Nat} {w w' : World} (h : Tab b w) (ho : Off G w w') (hG : ¬ G b) : Tab b w' :=
  ⟨Nat.lt_of_lt_of_le h.1 ho.size, fun t ht => (World.cell?_of_block (a := ⟨b, t, none⟩) (ho.block b h.1 hG)).trans (h.2 t ht)⟩
theorem StepOf.put {w1 : World} {B v g q : Nat} {z : Int} {t : List UInt8} {f : Value} {F : Nat → Nat → Prop} {cs : Array Value} (hc : CloP w1 B v z q t f) (hV : okV (q, t)) (hB : ∀ b, Foot g F b → b < B) (h3 : Row w1 v 70 cs) (h0 : cs[0]? = some (.pointer (some ⟨g, 0, none⟩))) (hv : ¬ Foot g F v) (hTb : Tab 2 w1) (hF2 : ¬ Foot g F 2) : StepOf w1 g F f (fun X => X.append z (vFr (q, t))) := by
  obtain ⟨b1, b2, b3, A, n, c, rfl, q1, q2, q3, r1, r2, r3, ho3⟩ := hc
  have n1 : ¬ Foot g F b1 := fun h => by have := hB _ h; omega
  have n2 : ¬ Foot g F b2 := fun h => by have := hB _ h; omega
  have n3 : ¬ Foot g F b3 := fun h => by have := hB _ h; omega
  have hle := vFr_le hV
  refine ⟨57, _, _, rfl, en57, fun wr X F' K ho hw hT hok hK => ⟨?_, (append_ok z _ hok).mono (by omega)⟩⟩
  exact put1_any b1 b2 v g K z cs F' wr (r1.off ho n1) (r2.off ho n2) (h3.off ho hv) h0 (box_free r1 n1 hw) (box_free r2 n2 hw) (box_free h3 hv hw) hT hok b3 q n c A t (r3.off ho n3) (box_free r3 n3 hw) (ho3.bs.off (fun b off e hf => by have q1 := ho3.fresh b off e; have q2 := hB b hf; omega) ho) hV (hTb.off ho hF2) (by omega)
/-- behind a list of steps -/
def Ran (w1 : World) (v g : Nat) (F : Nat → Nat → Prop) (r : Tp × Int) (e : Ending) (w' : World) : Prop :=
  e = .returned (.int .i64 r.2) ∧ (∃ F', Within w1 F F' ∧ Tap w' g F' r.1) ∧ (r.2 ≠ 100 → Off (Foot g F) w1 w') ∧ (r.2 = 100 → Row w' v 70 vDown ∧ Off (fun b => Foot g F b ∨ b = v) w1 w')
theorem Only.off {g : Nat} {w w' : World} (h : Only g w w') : Off (· = g) w w' := ⟨h.os, h.tape, h.output, h.size, fun k hk q => h.block k hk q⟩
theorem runT_any {S : Tp} (v g b c : Nat) (fs : Nat → Value) (φs : List (Tp → Tp × Int)) (F : Nat → Nat → Prop) (w1 : World) (cs : Array Value) (hn : φs.length ≤ 100) (h3 : Row w1 v 70 cs) (h5 : cs.size = 5) (hv : ¬ Foot g F v) (h : Tap w1 g F S) (hok : S.ok 0)
    (hb : b < w1.heap.size) (hbF : ¬ Foot g F b) (hc : ∀ k, k < φs.length → w1.cell? ⟨b, k, none⟩ = some (fs k)) (hf : ∀ k φ, φs[k]? = some φ → StepOf w1 g F (fs k) φ) :
    Calls Tryd.prog 32 #[.pointer (some ⟨v, 0, none⟩), .slice (some ⟨b, 0, none⟩) φs.length c] w1 (Ran w1 v g F (seqT φs S)) := by
  refine (run_any v φs.length b c fs (fun k wr => ∃ X, X.ok (k * 300000) ∧ Grow w1 g F X wr ∧ seqT φs S = seqT (φs.drop k) X) (fun x wr => x = (seqT φs S).2 ∧ Grow w1 g F (seqT φs S).1 wr) w1 hn ⟨S, hok.mono (by omega), Grow.refl h, rfl⟩ ?_ ?_ ?_).mono ?_
  · rintro k wr hk ⟨X, _, hg, _⟩
    rw [World.cell?_of_block (a := ⟨b, k, none⟩) (hg.2.block b hb hbF)]
    exact hc k hk
  · intro k hk
    obtain ⟨N, us, vs, e1, e2, e3⟩ := hf k φs[k] (List.getElem?_eq_getElem hk)
    refine ⟨N, us, vs, e1, e2, ?_⟩
    rintro wr ⟨X, hX, ⟨⟨F', hw, hT⟩, ho⟩, hs⟩
    obtain ⟨hcall, hok'⟩ := e3 wr X F' (k * 300000) ho hw hT hX (by omega)
    refine hcall.mono ?_
    rintro e w' ⟨rfl, hg⟩
    rw [List.drop_eq_getElem_cons hk] at hs
    refine ⟨_, rfl, fun h0 => ⟨(φs[k] X).1, hok'.mono (by omega), Grow.trans hw ho hg, by rw [hs, seqT_ok h0]⟩, fun h0 => ?_⟩
    rw [hs, seqT_no h0]
    exact ⟨rfl, Grow.trans hw ho hg⟩
  · rintro wr ⟨_, hg⟩
    exact ⟨cs, h3.off hg.2 hv, h5⟩
  · rintro e w' (⟨rfl, X, _, hg, hs⟩ | ⟨x, w2, hx, rfl, ⟨rfl, hg⟩, hq⟩)
    · rw [List.drop_of_length_le (Nat.le_refl _)] at hs
      rw [hs]
      exact ⟨rfl, hg.1, fun _ => hg.2, fun h => absurd h (by show (0 : Int) ≠ 100; omega)⟩
    · rcases hq with ⟨q1, rfl⟩ | ⟨q1, q2, q3⟩
      · exact ⟨rfl, hg.1, fun _ => hg.2, fun h => absurd h q1⟩
      · obtain ⟨F', hw, hT⟩ := hg.1
        refine ⟨rfl, ⟨F', hw, hT.outside q3.off (fun b hb he => ?_)⟩, fun h => absurd q1 h, fun _ => ⟨q2, (hg.2.mono (fun _ q => .inl q)).trans q3.off (fun x q => .inl (.inr q))⟩⟩
        subst he
        exact box_free h3 hv hw hb
end Go.Proofs.YtgiobcpljbpmiaaDoor
