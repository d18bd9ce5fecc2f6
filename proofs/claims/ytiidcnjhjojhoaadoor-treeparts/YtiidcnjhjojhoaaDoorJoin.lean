/-
  What sha.join answers: the bytes of eight words.
-/
import Derived.Test.YtiidcnjhjojhoaaDoorSpread
import Derived.Test.YtiidcnjhjojhoaaDoorRefBlock
import Derived.Test.YtiidcnjhjojhoaaDoorCopy
namespace Go.Proofs.YtiidcnjhjojhoaaDoor
open Go.RowKit
theorem Tryd.agg25 : AggType Tryd.prog 24 32 := ⟨_, Tryd.underlying24, rfl, by kernel_rfl⟩
theorem Tryd.underlying24' : Tryd.prog.underlying 24 = some (.array 32 5) := by kernel_rfl
theorem Tryd.size5 : (Tryd.prog.info? 5).map (·.size) = some 1 := by kernel_rfl
theorem S8.at_W32 (s : S8) (h : s.ok) (k : Nat) : W32 (s.at k) := by
  obtain ⟨h1, h2, h3, h4, h5, h6, h7, h8⟩ := h
  unfold S8.at; split <;> first | assumption | exact ⟨by decide, by decide⟩
theorem bytesOf4_get (N j : Nat) (h : j < 4) : (bytesOf N 4).getD j 0 = UInt8.ofNat (N / 256 ^ (3 - j)) := by
  rw [List.getD_eq_getElem?_getD, bytesOf_get N 4 j h]; rfl
theorem digestS_get (s : S8) (j : Nat) (h : j < 32) : (digestS s).getD j 0 = (bytesOf (s.at (j / 4)).toNat 4).getD (j % 4) 0 := by
  match j, h with
  | 0, _ | 1, _ | 2, _ | 3, _ | 4, _ | 5, _ | 6, _ | 7, _ | 8, _ | 9, _ | 10, _ | 11, _ | 12, _ | 13, _ | 14, _ | 15, _ | 16, _ | 17, _ | 18, _ | 19, _ | 20, _ | 21, _ | 22, _ | 23, _ | 24, _ | 25, _ | 26, _ | 27, _ | 28, _ | 29, _ | 30, _ | 31, _ => rfl
  | n + 32, h => exact absurd h (by omega)
/-- the bytes of the first k words stand -/
def Dig (s : S8) (k : Nat) (cs : Array Value) : Prop := cs.size = 32 ∧ ∀ j, j < 4 * k → cs[j]? = some (bcell ((digestS s).getD j 0))
theorem Dig.step {s : S8} {k : Nat} {cs : Array Value} (h : Dig s k cs) (hk : k < 8) : Dig s (k + 1) (spl cs (4 * k) (bytesOf (s.at k).toNat 4)) := by
  have hl := bytesOf_length (s.at k).toNat 4
  refine ⟨by rw [spl_size _ _ _ (by rw [hl, h.1]; omega)]; exact h.1, fun j hj => ?_⟩
  rw [spl_get _ _ _ (by rw [hl, h.1]; omega), hl]
  by_cases h1 : 4 * k ≤ j
  · rw [if_pos (by omega), digestS_get s j (by omega), show j / 4 = k by omega, show j - 4 * k = j % 4 by omega, bytesOf4_get _ _ (by omega), bytesOf_get _ _ _ (by omega)]; rfl
  · rw [if_neg (by omega), h.2 j (by omega)]
theorem Dig.all {s : S8} {cs : Array Value} (h : Dig s 8 cs) : cs = bcells (digestS s) := by
  apply Array.ext_getElem?
  intro j
  by_cases hj : j < 32
  · rw [h.2 j (by omega), bcells_get _ _ (by rw [digestS_length]; exact hj)]; rfl
  · rw [Array.getElem?_eq_none (by rw [h.1]; omega), Array.getElem?_eq_none (by rw [bcells_size, digestS_length]; omega)]
set_option maxRecDepth 100000 in
set_option maxHeartbeats 1000000 in
theorem join8_any (s : S8) (w : World) (hok : s.ok) :
    Calls Tryd.prog 36 #[v8 s] w fun en w' => en = .returned (.agg (bcells (digestS s))) ∧ Below w.heap.size w w' := by
  obtain ⟨a, b, c, d, e, f, g, h⟩ := s
  have HO := Lib.hid hok
  clear hok
  unfold v8
  simp only
  go_enter Tryd.func36, Tryd.ntmps36
  go_wp2_with fail
  go_loopw [7] (fun i wr => ∃ (k : Nat) (cs zs : Array Value), k ≤ 8 ∧ i = .int .i64 (k : Int) ∧ Below w.heap.size w wr ∧ Row wr w.heap.size 57 #[.int .u32 a, .int .u32 b, .int .u32 c, .int .u32 d, .int .u32 e, .int .u32 f, .int .u32 g, .int .u32 h] ∧ Row wr (w.heap.size + 1) 24 zs ∧ Hid (zs.size = 32) ∧ Row wr (w.heap.size + 1 + 1) 24 cs ∧ Dig ⟨a, b, c, d, e, f, g, h⟩ k cs) (fun i _ => 8 - (intOf i).toNat)
  case atStart =>
    exact ⟨0, _, _, Nat.zero_le _, rfl, (((Below.refl _ _).alloc (Nat.le_refl _) _).alloc (by simp) _).alloc (by simp; omega) _, ((Row.new _ _ _).alloc _).alloc _, (Row.new1 _ _ _ _).alloc _, Lib.hid rfl, Row.new2 _ _ _ _ _, rfl, fun j hj => by omega⟩
  case round =>
    obtain ⟨k, cs, zs, hk, rfl, hbel, hr0, hz, HZ, hr, hd⟩ := hrel
    have HR0 := Lib.hid hr0
    have HZR := Lib.hid hz
    have HR := Lib.hid hr
    have HD := Lib.hid hd
    have hbs := hbel.size
    by_cases hlt : k < 8
    · have x1 := (hr0.cell k).trans (v8_get ⟨a, b, c, d, e, f, g, h⟩ k hlt)
      have hX := S8.at_W32 _ HO.out k
      have i0 : (0 : Int) ≤ (k : Int) := by omega
      have i8 : (k : Int) < 8 := by omega
      have HX := Lib.hid (S8.at_W32 _ HO.out k)
      generalize hxe : S8.at ⟨a, b, c, d, e, f, g, h⟩ k = X at *
      have HXe := Lib.hid hxe
      obtain ⟨g1, g2⟩ := hX
      have hsz : cs.size = 32 := hd.1
      have HSZ := Lib.hid hsz
      have hne : ¬ 32 = k * 4 := by omega
      have hcut := run_cut (P := Tryd.prog) Tryd.underlying24' Tryd.size5 (w.heap.size + 1 + 1) 0 (k * 4) ((k : Int) * 4) (by omega) (by omega)
      rw [Nat.zero_add] at hcut
      clear hr0 hz hr hd hxe hsz
      go_wp2_with (first
        | (go_at_call 46; refine (Bytes_any _ _ _ (by omega) (by omega)).mono ?_; rintro e2 w2 ⟨A2, k2, c2, rfl, hB2, hc2, hb2, ho2⟩; have HB2 := Lib.hid hB2; have hb2' := hbel.trans (hb2.mono hbs); have HR2 := Lib.hid (HR.out.below hb2 HR.out.lt); clear hB2 ho2)
        | (refine wpList_copyB Tryd.byteTypes rfl (.tmp 20) (.tmp 21) rfl _ _ _ _ _ _ _ rfl rfl (bytesL X 4) 24 cs HR2.out HB2.out ?hfit ?_; rotate_left; intro w3 hr3 ho3; have HR3 := Lib.hid hr3; clear hr3))
      · have hk2 : k2 = 4 := by rw [← HB2.out.1]; exact bytesOf_length _ _
        have hm : Nat.min k2 (32 - k * 4) = 4 := by rw [hk2]; exact Nat.min_eq_left (by omega)
        refine ⟨⟨k + 1, _, zs, by omega, by go_num, hb2'.trans (ho3.below (by omega) hb2'.size), (HR0.out.below hb2 HR0.out.lt).only ho3 (by omega), (HZR.out.below hb2 HZR.out.lt).only ho3 (by omega), HZ, HR3.out, ?_⟩, by simp [intOf]; omega⟩
        rw [hm, List.take_of_length_le (by rw [HB2.out.1, hk2]; exact Nat.le_refl _), Nat.mul_comm]
        have hst := HD.out.step hlt
        rw [HXe.out] at hst
        exact hst
      case hfit => rw [HSZ.out]; have hle : Nat.min k2 (32 - k * 4) ≤ 32 - k * 4 := Nat.min_le_right _ _; omega
    · obtain rfl : k = 8 := by omega
      have hcs := hd.all
      have h32 := hd.1
      subst hcs
      have H32 := Lib.hid h32
      clear hr0 hz hr hd h32
      go_wp2_with (first | (with_reducible refine wpList_load_row Tryd.agg25 rfl (.tmp 3) rfl _ rfl 24 _ HR.out H32.out ?_) | (with_reducible refine wpList_store_row Tryd.agg25 rfl (.tmp 2) (.tmp 24) rfl _ _ rfl rfl 24 zs HZR.out H32.out HZ.out (bcells_one _) ?_; intro w9 hr9 ho9; have HR9 := Lib.hid hr9; clear hr9))
      exact bodyPost_ret (results_row1 Tryd.agg25 Tryd.results36 rfl HR9.out H32.out) rfl ⟨rfl, hbel.trans (ho9.below (by omega) hbs)⟩
end Go.Proofs.YtiidcnjhjojhoaaDoor
