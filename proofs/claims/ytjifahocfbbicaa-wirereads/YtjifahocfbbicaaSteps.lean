/-
  One step of a reader over what was written: a number, a text, a list.
-/
import Derived.Test.YtjifahocfbbicaaOpens
namespace Go.Proofs.Ytjifahocfbbicaa
open Go.RowKit
theorem Err_rdr (g b : Nat) (E : Int) (l : List UInt8) (w : World) (h : Rdr w 61 g b E l) : Calls Try.prog 35 #[.pointer (some ⟨g, 0, none⟩)] w fun e w' => e = .returned (.int .i64 E) ∧ w = w' := by
  obtain ⟨A, n, c, hr, _⟩ := h; exact Err_any g _ E w hr
theorem num_step (N : Nat) (hN : N < 18446744073709551616) (M1 : List UInt8) (hl : (numB N ++ M1).length ≤ 1000000000) (g b : Nat) (w : World) (h : Rdr w 61 g b 0 (numB N ++ M1)) :
    Calls Try.prog 22 #[.pointer (some ⟨g, 0, none⟩), .int .u64 18446744073709551615] w fun e w' => e = .returned (.int .u64 (N : Int)) ∧ Rdr w' 61 g b 0 M1 ∧ Only g w w' := by
  have h1 := RNum_any g b 0 _ 18446744073709551615 w h hl (by omega) (by omega)
  have e : sNum 0 (numB N ++ M1) 18446744073709551615 = (0, N, wide N + 1) := by
    unfold sNum; rw [if_pos rfl, rdLen_max, rdNum_back N hN]
  rw [e] at h1
  refine h1.mono fun e w' ⟨h2, h3, h4⟩ => ⟨h2, ?_, h4⟩
  simp only at h3
  rwa [← numB_length, List.drop_left' rfl] at h3
theorem list_step (L : List (List UInt8)) (n : Nat) (hn : L.length = n) (hn1 : n ≤ 100) (h500 : ∀ l ∈ L, l.length ≤ 500) (M2 : List UInt8) (hl : (listB L ++ M2).length ≤ 1000000000) (g b : Nat) (w : World) (h : Rdr w 61 g b 0 (listB L ++ M2)) (most : Int) (hm : (n : Int) ≤ most) (hm2 : most ≤ 100) :
    Calls Try.prog 27 #[.pointer (some ⟨g, 0, none⟩), .int .i64 most, .int .i64 500] w fun e w' => ∃ A c, e = .returned (.slice A n c) ∧ OwnL w' w.heap.size (.slice A n c) n L ∧ Rdr w' 61 g b 0 M2 ∧ Only g w w' := by
  have h1 := RList_any g b 0 _ most 500 w h hl (by omega) (by omega)
  have e : sList 0 (listB L ++ M2) most 500 = (0, L, (listB L).length) := by
    unfold sList; rw [if_pos rfl, rdList_back L M2 most 500 (fun t ht => by have := h500 t ht; omega) (by omega) (by omega)]
  rw [e] at h1
  refine h1.mono fun e w' ⟨A, c, h2, _, h3, h4, h5⟩ => ?_
  simp only at h2 h3 h4
  rw [hn] at h2 h3
  rw [List.drop_left' rfl] at h4
  exact ⟨A, c, h2, h3, h4, h5⟩
theorem text_step (l M2 : List UInt8) (hl5 : l.length ≤ 500) (hl : (textB l ++ M2).length ≤ 1000000000) (g b : Nat) (w : World) (h : Rdr w 61 g b 0 (textB l ++ M2)) (most : Int) (hm : (l.length : Int) ≤ most) (hm2 : most ≤ 500) :
    Calls Try.prog 24 #[.pointer (some ⟨g, 0, none⟩), .int .i64 most] w fun e w' => ∃ A c, e = .returned (.slice A l.length c) ∧ Own w' w.heap.size 5 (.slice A l.length c) l.length l ∧ Rdr w' 61 g b 0 M2 ∧ Only g w w' := by
  have h1 := RText_any g b 0 _ most w h hl (by omega)
  have e : sText 0 (textB l ++ M2) most = (0, l, (textB l).length) := by
    unfold sText; rw [if_pos rfl, rdText_back l M2 most (by omega) (by omega)]
  rw [e] at h1
  refine h1.mono fun e w' ⟨A, c, h2, _, h3, h4, h5⟩ => ?_
  simp only at h2 h3 h4
  rw [List.drop_left' rfl] at h4
  exact ⟨A, c, h2, h3, h4, h5⟩
theorem drop_texts {L : List (List UInt8)} {k : Nat} {l : List UInt8} (h : L[k]? = some l) : textsB (L.drop k) = textB l ++ textsB (L.drop (k + 1)) := by
  obtain ⟨hk, rfl⟩ := List.getElem?_eq_some_iff.1 h
  rw [List.drop_eq_getElem_cons hk, textsB_cons]
theorem texts_le {L : List (List UInt8)} (h1 : L.length ≤ 100) (h5 : ∀ l ∈ L, l.length ≤ 500) : (textsB L).length ≤ 50900 := by
  have h := textsB_le 500 (by omega) L h5
  have : L.length * (9 + 500) ≤ 100 * (9 + 500) := Nat.mul_le_mul_right _ h1
  omega
theorem lists_le {L : List (List UInt8)} (h1 : L.length ≤ 100) (h5 : ∀ l ∈ L, l.length ≤ 500) : (listB L).length ≤ 50909 := by
  have h := texts_le h1 h5
  have := wide8 (N := L.length) (by omega)
  rw [listB, List.length_append, numB_length]
  omega
end Go.Proofs.Ytjifahocfbbicaa
