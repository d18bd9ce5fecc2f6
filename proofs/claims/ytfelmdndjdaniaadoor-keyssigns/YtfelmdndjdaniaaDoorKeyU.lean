/-
  A key and the document's key side by side: a signature, a skip.
-/
import Derived.Test.YtfelmdndjdaniaaDoorKeyT
import Derived.Test.YtfelmdndjdaniaaDoorKeyH
namespace Go.Proofs.YtfelmdndjdaniaaDoor
open Go.RowKit
theorem KeyAt.below2 {w w' : World} {T g : Nat} {s : List UInt8} {b h nx : Nat} (k : KeyAt w T g s b h nx) (hT : T ≤ w.heap.size) (hb : Below w.heap.size w w') : KeyAt w' T g s b h nx := k.below (hb.mono hT)
/-- a signature by a key and by the document's -/
theorem sign_pair (g gm b h nx : Nat) (s l : List UInt8) (hs : s.length = 32) (h1 : 1 ≤ b) (h2 : b ≤ 256) (h3 : h ≤ 6) (hn : nx ≤ 2 ^ h) : ∃ (nx' : Nat) (E i : Int) (O P : List (List UInt8)), nx' ≤ 2 ^ h ∧ O.length ≤ 1000000 ∧ P.length ≤ 1000000 ∧
    (∀ T A nt ct w, T ≤ w.heap.size → KeyAt w T g s b h nx → Bs w A nt l → nt ≤ ct → nt ≤ 1000000 → Tab 1 w → 1 < g → Calls Tryd.prog 21 #[.pointer (some ⟨g, 0, none⟩), .slice A nt ct] w fun e w' =>
      ∃ A1 n1 c1 A2 n2 c2, e = .returned (.tuple #[.agg (sigC i A1 n1 c1 A2 n2 c2), .int .i64 E]) ∧ Ds w' A1 n1 O ∧ Ds w' A2 n2 P ∧ KeyAt w' T g s b h nx' ∧ Only g w w' ∧ Keeps w w') ∧
    (∀ A nt ct w, Row w gm 32 (rkC s b h nx) → Bs w A nt l → nt ≤ ct → nt ≤ 1000000 → First w → Tab 2 w → 2 < gm → Calls Tryd.prog 23 #[.pointer (some ⟨gm, 0, none⟩), .slice A nt ct] w fun e w' =>
      ∃ A1 n1 c1 A2 n2 c2, e = .returned (.tuple #[.agg (sigC i A1 n1 c1 A2 n2 c2), .int .i64 E]) ∧ Ds w' A1 n1 O ∧ Ds w' A2 n2 P ∧ Row w' gm 32 (rkC s b h nx') ∧ Only gm w w' ∧ Keeps w w') := by
  have hp6 := pow_le6 h3
  by_cases hl : nx < 2 ^ h
  · refine ⟨nx + 1, 0, nx, sigN (ksL s nx) (sumL l) b, pathD h (leavesL s b (2 ^ h)) nx, hl, by rw [sigN_length]; omega, ?_, fun T A nt ct w _ hK hB hnc hnt hT hg => ?_, fun A nt ct w hK hB hnc hnt hF hT hg => ?_⟩
    · have e2 : (pathD h (leavesL s b (2 ^ h)) nx).length = h := pathT_length _ _ h _ nx
      omega
    · refine (kSign_ok T g b h nx nt ct s l A w hs h1 h2 h3 hl hK hB hnc hnt hT hg).mono ?_
      rintro e w' ⟨A1, n1, c1, A2, n2, c2, rfl, q1, _, q2, _, q3, q4, q5⟩
      exact ⟨A1, n1, c1, A2, n2, c2, rfl, q1, q2, q3, q4, q5⟩
    · refine (mSign_ok gm b h nx nt ct s l A w hs h1 h2 h3 hl hK hB hnc hnt hF hT hg).mono ?_
      rintro e w' ⟨A1, n1, c1, A2, n2, c2, rfl, q1, q2, q3, q4, q5⟩
      exact ⟨A1, n1, c1, A2, n2, c2, rfl, q1, q2, q3, q4, q5⟩
  · obtain rfl : nx = 2 ^ h := by omega
    refine ⟨2 ^ h, 70, 0, [], [], hn, by simp, by simp, fun T A nt ct w hT hK hB hnc hnt hT1 hg => ?_, fun A nt ct w hK hB hnc hnt hF hT hg => ?_⟩
    · refine (kSign_spent T g b h A nt ct s w h3 hK).mono ?_
      rintro e w' ⟨rfl, hb⟩
      exact ⟨none, 0, 0, none, 0, 0, rfl, Ds.nil _ _, Ds.nil _ _, hK.below2 hT hb, Only.of_below hb, Keeps.of_below hb⟩
    · refine (mSign_spent gm b h (2 ^ h) A nt ct s w hs h3 rfl hK).mono ?_
      rintro e w' ⟨rfl, hb⟩
      exact ⟨none, 0, 0, none, 0, 0, rfl, Ds.nil _ _, Ds.nil _ _, hK.below hb hK.lt, Only.of_below hb, Keeps.of_below hb⟩
/-- skipped by a key and by the document's -/
theorem skip_pair (g gm b h nx : Nat) (to : Int) (s : List UInt8) (hs : s.length = 32) (h3 : h ≤ 6) (hn : nx ≤ 2 ^ h) : ∃ (nx' : Nat) (E : Int), nx' ≤ 2 ^ h ∧
    (∀ T w, KeyAt w T g s b h nx → Calls Tryd.prog 19 #[.pointer (some ⟨g, 0, none⟩), .int .i64 to] w fun e w' => e = .returned (.int .i64 E) ∧ KeyAt w' T g s b h nx' ∧ Only g w w') ∧
    (∀ w, Row w gm 32 (rkC s b h nx) → Calls Tryd.prog 20 #[.pointer (some ⟨gm, 0, none⟩), .int .i64 to] w fun e w' => e = .returned (.int .i64 E) ∧ Row w' gm 32 (rkC s b h nx') ∧ Only gm w w') :=
  ⟨skN nx (2 ^ h) to, skE nx (2 ^ h) to, (skN_le to hn).2, fun T w hK => (kSkip_any T g b h nx to s w hK).mono fun _ _ ⟨q1, q2, q3, _⟩ => ⟨q1, q2, q3⟩, fun w hK => (mSkip_any gm b h nx to s w hs h3 hK).mono fun _ _ ⟨q1, q2, q3, _⟩ => ⟨q1, q2, q3⟩⟩
end Go.Proofs.YtfelmdndjdaniaaDoor
