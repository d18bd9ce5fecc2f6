/-
  A record's frame, the program's and the document's; a copy of bytes.
-/
import Derived.Test.YtgiobcpljbpmiaaDoorFrA
namespace Go.Proofs.YtgiobcpljbpmiaaDoor
open Go.RowKit
/-- a slice of bytes in new memory, and an error -/
def NewErr (w : World) (k : IntKind) (l : List UInt8) (E : Int) (e : Ending) (w' : World) : Prop :=
  ∃ A c, e = .returned (.tuple #[.slice A l.length c, .int k E]) ∧ l.length ≤ c ∧ Below w.heap.size w w' ∧ Own w' w.heap.size 5 (.slice A l.length c) l.length l
theorem Own.newErr {w w' : World} {k : IntKind} {E : Int} {A : Option Addr} {n c : Nat} {l : List UInt8} (h : Own w' w.heap.size 5 (.slice A n c) n l) (hb : Below w.heap.size w w') : NewErr w k l E (.returned (.tuple #[.slice A n c, .int k E])) w' := by
  have hl := h.length
  subst hl
  obtain ⟨A', c', hv, hc⟩ := h.form
  injection hv with h1 h2 h3
  subst h1 h3
  exact ⟨A, c, rfl, hc, hb, h⟩
set_option maxRecDepth 100000 in
set_option maxHeartbeats 1000000 in
theorem Wrap_any (A : Option Addr) (n c : Nat) (l : List UInt8) (w : World) (hB : Bs w A n l) (hn : n ≤ 262144) (hT : Tab 2 w) : Calls Tryd.prog 69 #[.slice A n c] w (NewErr w .i64 (frB l) 0) := by
  have HX := Lib.hid (Text_any A n c l w hB (by omega))
  have hlt : (textB l).length ≤ 262200 := by have := wide8 (N := l.length) (by have := hB.1; omega); rw [textB_length]; have := hB.1; omega
  have HS := Lib.hid (fun A c w hB hc hT => sumOf_any A (textB l).length c (textB l) w hB hc hT (by omega))
  have HE := Lib.hid (show frB l = textB l ++ sum8 (textB l) from rfl)
  have HL := Lib.hid (sum8_length (textB l))
  have HL8 := Lib.hid (show (bcells (sum8 (textB l))).size = 8 by rw [bcells_size, sum8_length])
  have HT := Lib.hid hT
  have hcut := fun G W => run_cut_all (P := Tryd.prog) Tryd.under41' Tryd.size5 G 0 W
  unfold S4NewSlice at HX
  generalize sum8 (textB l) = R at *
  generalize textB l = T at *
  obtain ⟨m, hm⟩ : ∃ m, T.length = m := ⟨_, rfl⟩
  rw [hm] at HX HS hlt
  clear hB hT hm
  go_enter Tryd.func69, Tryd.ntmps69
  go_wp2_with (first
    | (go_at_call 71; refine HX.out.mono ?_; rintro e1 w1 ⟨A1, c1, rfl, hc1, hb1, ho1⟩; have hs1 := hb1.size)
    | (go_at_call 78; refine (HS.out A1 c1 w1 ho1.bs hc1 (HT.out.below hb1)).mono ?_; rintro e2 w2 ⟨rfl, hb2⟩; have hs2 := hb2.size; have HO2 := Lib.hid (own_below ho1 hb2); have hb2' := hb1.trans (hb2.mono hs1))
    | ((with_reducible refine wpList_store_row Tryd.agg41 rfl (.tmp 5) (.tmp 12) rfl w2.heap.size (bcells R) rfl rfl 119 lit8 (Row.new w2 119 lit8) HL8.out rfl (bcells_one _) ?_); intro w3 hr3 ho3; have HR3 := Lib.hid hr3; have hb3 : Below w2.heap.size w2 w3 := (((Below.refl _ _).alloc (Nat.le_refl _) _).trans (ho3.below (Nat.le_refl _) (by simp))); have hs3 := hb3.size; have HO3 := Lib.hid (own_below HO2.out hb3); clear hr3 ho3)
    | (at_builtin; refine wpList_app Tryd.byteTypes rfl (.tmp 13) (.tmp 14) rfl w.heap.size (.slice A1 m c1) m T rfl HO3.out (some ⟨w2.heap.size, 0, none⟩) 8 8 R rfl (HR3.out.bsB HL.out) (by omega) (by omega) ?_; intro A' c' w' hown hbel hgr))
  go_ret2
  rw [HE.out]
  exact hown.newErr ((hb2'.trans (hb3.mono (by omega))).trans hbel)
set_option maxHeartbeats 400000 in
theorem Wrap_long (A : Option Addr) (n c : Nat) (w : World) (hn : 262144 < n) (hm : n ≤ 9223372036854775807) : Calls Tryd.prog 69 #[.slice A n c] w fun e w' => e = .returned (.tuple #[.slice none 0 0, .int .i64 42]) ∧ w = w' := by
  go_enter Tryd.func69, Tryd.ntmps69
  go_wp2
  go_ret2
  exact ⟨rfl, rfl⟩
end Go.Proofs.YtgiobcpljbpmiaaDoor
