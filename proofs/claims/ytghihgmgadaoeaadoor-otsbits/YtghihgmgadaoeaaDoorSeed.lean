/-
  A digest that came in by value, opened; what mac.Seed and the document's own Seed answer.
-/
import Derived.Test.YtghihgmgadaoeaaDoorRefMac
import Derived.Test.YtghihgmgadaoeaaDoorConv
import Derived.Deep.Matrix
namespace Go.Proofs.YtghihgmgadaoeaaDoor
open Go.ChangeShapes Go.WideShapes Go.ChangeAt Go.RowKit
theorem byte_of {k : Int} (hw : (Lit.int .u8 k).wf = true) : ∃ x : UInt8, k = (x.toNat : Int) := by
  simp only [Lit.wf, Bool.and_eq_true, IntKind.min, IntKind.max] at hw
  obtain ⟨h1, h2⟩ := hw
  refine ⟨UInt8.ofNat k.toNat, ?_⟩
  simp [IntKind.bits, IntKind.signed] at h1 h2
  rw [UInt8.toNat_ofNat']
  omega
theorem cells_bytes (cs : Array Value) : ∀ n, n ≤ cs.size → (∀ i, i < n → ∃ x : UInt8, cs[i]? = some (bcell x)) → ∃ l : List UInt8, l.length = n ∧ ∀ i, i < n → cs[i]? = (l[i]?).map bcell
  | 0, _, _ => ⟨[], rfl, fun i h => by omega⟩
  | n + 1, hn, h => by
    obtain ⟨l, hl, hg⟩ := cells_bytes cs n (by omega) (fun i hi => h i (by omega))
    obtain ⟨x, hx⟩ := h n (by omega)
    refine ⟨l ++ [x], by simp [hl], fun i hi => ?_⟩
    by_cases e : i = n
    · subst e; rw [List.getElem?_append_right (by omega), hl, Nat.sub_self, hx]; rfl
    · rw [List.getElem?_append_left (by omega)]; exact hg i (by omega)
theorem open_digest {H : Type} {enc : TypeId × Value → H} {W : World} {base : Nat} {v : Value} {d : DataW H} {p : List MemPlace} (hv : Value.okWide Tryd.prog W .any base 23 v)
    (h : DataW.Trod enc Tryd.prog W 0 (fun _ => true) true 23 v d p) : ∃ s : List UInt8, s.length = 32 ∧ v = .agg (bcells s) := by
  obtain ⟨cs, rfl, hsz⟩ : ∃ cs, v = .agg cs ∧ cs.size = Tryd.prog.cellsOf 23 := by
    simp only [Value.okWide, Tryd.underlying24'] at hv
    obtain ⟨cs, h1, h2, _⟩ := hv
    exact ⟨cs, h1, h2⟩
  obtain ⟨fuel, hf⟩ := h
  obtain ⟨xs, m, rfl, hx, hlen, hxl, hel⟩ := DataW.trod_array Tryd.underlying24' hf
  have c5 : Tryd.prog.cellsOf 5 = 1 := by kernel_rfl
  have c25 : Tryd.prog.cellsOf 23 = 32 := by kernel_rfl
  rw [c25] at hsz
  obtain ⟨l, hl, hg⟩ := cells_bytes cs 32 (by omega) (fun i hi => by
    have hi' := hel i hi
    rw [c5, Nat.mul_one] at hi'
    obtain ⟨x, hx'⟩ : ∃ x, xs[i]? = some x := ⟨_, List.getElem?_eq_getElem (by omega)⟩
    rw [hx'] at hi'
    obtain ⟨k, e1, e2, hw⟩ := DataW.trod_int Tryd.underlying5 hi'
    have e3 := congrArg (·[0]?) e1
    simp [Value.cells, List.getElem?_drop] at e3
    obtain ⟨y, rfl⟩ := byte_of hw
    exact ⟨y, e3⟩)
  refine ⟨l, hl, ?_⟩
  congr 1
  apply Array.ext_getElem?
  intro j
  rw [bcells_get?]
  by_cases hj : j < 32
  · exact hg j hj
  · rw [Array.getElem?_eq_none (by omega), List.getElem?_eq_none (by omega)]; rfl
/-- a label, a byte 0, and a number's lowest eight bytes -/
def seedL (s : ByteArray) (i : Int) : List UInt8 := closedL s ++ bytesL (u64 i) 8
theorem bytesL8_length (N : Int) : (bytesL N 8).length = 8 := by
  unfold bytesL; rw [if_pos (by omega)]; exact bytesOf_length _ _
theorem bytesL4_length (N : Int) : (bytesL N 4).length = 4 := by
  unfold bytesL; rw [if_pos (by omega)]; exact bytesOf_length _ _
theorem Bs.addr {w : World} {A : Option Addr} {n : Nat} {l : List UInt8} (h : Bs w A n l) (hn : 0 < n) : ∃ b off, A = some ⟨b, off, none⟩ := by
  obtain ⟨b, off, x, e, _⟩ := h.get hn; exact ⟨b, off, e⟩
set_option maxRecDepth 100000 in
set_option maxHeartbeats 1000000 in
theorem Seed_any (k : List UInt8) (s : ByteArray) (i : Int) (w : World) (hk : k.length = 32) (hs : s.size ≤ 200) (hT : Tab 2 w) :
    Calls Tryd.prog 45 #[.agg (bcells k), .string s, .int .i64 i] w fun e w' => e = .returned (.agg (bcells (macL k (seedL s i)))) ∧ Below w.heap.size w w' := by
  have l3 := closedL_length s
  have l2 := bytesL8_length (u64 i)
  have HI := Lib.hid (bytesOf_any i 8)
  have HC := Lib.hid (fun w => closed_any s w (by omega))
  have HKey := Lib.hid (fun g w hB hT => blockOf_any (some ⟨g, 0, none⟩) 32 32 k w hB (Nat.le_refl _) hT (by omega))
  have HS := Lib.hid (show (bcells (macL k (seedL s i))).size = 32 by rw [bcells_size, macL_length])
  have HM := Lib.hid (fun A n c w hB hc hT hn => bmac_any (padK k) A n c (seedL s i) w (padK_length k) hB hc hT hn)
  have HK := Lib.hid hk
  have HT := Lib.hid hT
  have h2 := hT.1
  have hcut := run_cut_all (P := Tryd.prog) Tryd.underlying24' Tryd.size5 w.heap.size 0
  unfold macL seedL at *
  generalize padK k = K at *
  generalize closedL s = L3 at *
  generalize bytesL (u64 i) 8 = L2 at *
  generalize macB K (L3 ++ L2) = R at *
  have hb0 := ((Below.refl w.heap.size w).alloc (Nat.le_refl _) (.cells (bcells k) 23)).alloc (by simp) (.cells lit32 23)
  have HKR := Lib.hid ((Row.new w 23 (bcells k)).alloc (.cells lit32 23))
  have HZR := Lib.hid (Row.new1 w (.cells (bcells k) 23) 23 lit32)
  clear hT hk
  go_enter Tryd.func45, Tryd.ntmps45
  go_wp2_with (first
    | (go_at_call 58; refine (HI.out _).mono ?_; rintro e1 w1 ⟨A1, n1, c1, rfl, hB1, hc1, hb1, -⟩; have HB1 := Lib.hid hB1; have hn1 := hB1.1; have hs1 := hb1.size; simp at hs1; have hb1' := hb0.trans (hb1.mono (by simp; omega)); clear hB1)
    | (go_at_call 59; refine (HKey.out _ w1 ((HKR.out.below hb1 (by simp; omega)).bsB HK.out) (HT.out.below hb1')).mono ?_; rintro e2 w2 ⟨rfl, hb2⟩; have hb2' := hb1'.trans (hb2.mono hb1'.size); have hs2 := hb2.size)
    | (go_at_call 61; refine (HC.out w2).mono ?_; rintro e3 w3 ⟨A3, n3, c3, rfl, hc3, hb3, ho3⟩; have HO3 := Lib.hid ho3; have hn3 := ho3.1; have hb3' := hb2'.trans (hb3.mono hb2'.size); have hs3 := hb3.size; obtain ⟨g1, off1, hA1⟩ := HB1.out.addr (by omega); subst hA1; clear ho3)
    | (at_builtin; refine wpList_appM Tryd.byteTypes rfl (.tmp 13) (.tmp 14) rfl w2.heap.size _ n3 L3 rfl HO3.out _ _ n1 c1 L2 rfl ((HB1.out.below hb2).below hb3) (by omega) (by omega) ?_; intro A4 c4 w4 ho4 hb4; have HB4 := Lib.hid ho4.bs; have hb4' := hb3'.trans (hb4.mono hb2'.size); have hs4 := hb4.size; obtain ⟨_, _, e4, hc4⟩ := ho4.form; injection e4 with e5 e6 e7; subst e5 e7; clear ho4)
    | (go_at_call 60; refine (HM.out _ _ _ w4 HB4.out hc4 (HT.out.below hb4') (by omega)).mono ?_; rintro e5 w5 ⟨rfl, hb5⟩; have hb5' := hb4'.trans (hb5.mono hb4'.size); have HZ5 := Lib.hid (((((HZR.out.below hb1 (by simp)).below hb2 (by omega)).below hb3 (by omega)).below hb4 (by omega)).below hb5 (by omega)))
    | (with_reducible refine wpList_store_row Tryd.agg25 rfl (.tmp 6) (.tmp 16) rfl _ _ rfl rfl 23 lit32 HZ5.out HS.out lit32_size (bcells_one _) ?_; intro w9 hr9 ho9; have HR9 := Lib.hid hr9; clear hr9))
  refine bodyPost_ret (results_row1 Tryd.agg25 Tryd.results45 rfl HR9.out HS.out) rfl ⟨rfl, ?_⟩
  exact hb5'.trans (ho9.below (by omega) hb5'.size)
set_option maxRecDepth 100000 in
set_option maxHeartbeats 1000000 in
theorem RefSeed_any (k : List UInt8) (s : ByteArray) (i : Int) (w : World) (hk : k.length = 32) (hs : s.size ≤ 200) (hF : First w) (hT : Tab 1 w) :
    Calls Tryd.prog 38 #[.agg (bcells k), .string s, .int .i64 i] w fun e w' => e = .returned (.agg (bcells (macL k (seedL s i)))) ∧ Below w.heap.size w w' := by
  have l3 := closedL_length s
  have l2 := bytesL8_length (u64 i)
  have hu := u64_ok i
  have HI := Lib.hid (fun w => RefBytes_any (u64 i) 8 w hu.1 hu.2)
  have HS := Lib.hid (show (bcells (macL k (seedL s i))).size = 32 by rw [bcells_size, macL_length])
  have HM := Lib.hid (fun A B n m c d w hA hB hc hF hT hn hm => RefMac_any A B n m c d k (seedL s i) w hA hB hc hF hT hn hm)
  have HK := Lib.hid hk
  have HKS := Lib.hid (show (bcells k).size = 32 by rw [bcells_size, hk])
  have HT := Lib.hid hT
  have HF := Lib.hid hF
  have h2 := hT.1
  unfold u64 at HI
  unfold seedL closedL u64 at *
  generalize bytesL (i % 18446744073709551616) 8 = L2 at *
  obtain ⟨L3, hL3⟩ : ∃ L3, s.data.toList = L3 := ⟨_, rfl⟩
  rw [hL3] at HM HS l3 ⊢
  generalize macL k (L3 ++ [0] ++ L2) = R at *
  have hb0 := ((Below.refl w.heap.size w).alloc (Nat.le_refl _) (.cells (bcells k) 23)).alloc (by simp) (.cells lit32 23)
  have HKR := Lib.hid ((Row.new w 23 (bcells k)).alloc (.cells lit32 23))
  have HZR := Lib.hid (Row.new1 w (.cells (bcells k) 23) 23 lit32)
  have HL3 := Lib.hid hL3
  clear hT hF hk hL3
  go_enter Tryd.func38, Tryd.ntmps38
  go_wp2_with (first
    | (with_reducible refine wpList_bytes Tryd.byteTypes Tryd.underlying9 Tryd.underlying5 rfl (.tmp 10) rfl s rfl (by omega) ?_; intro A1 c1 w1 ho1 hc1 hb1; rw [HL3.out] at ho1; have HO1 := Lib.hid ho1; have hs1 := hb1.size; simp at hs1; have hb1' := hb0.trans (hb1.mono (by simp; omega)); clear ho1)
    | (at_builtin; refine wpList_appM Tryd.byteTypes rfl (.tmp 11) (.tmp 12) rfl (w.heap.size + 1 + 1) _ s.size L3 rfl ((HO1.out.mono (by simp)).below ((Below.refl _ _).alloc (Nat.le_refl _) _)) _ _ 1 1 [0] rfl (zero_new w1 5) (by omega) (by simp; omega) ?_; intro A2 c2 w2 ho2 hb2; have HO2 := Lib.hid ho2; have hs2 := hb2.size; simp at hs2; have hb2' := (hb1'.alloc hb1'.size (.cells #[.int .u8 0] 5)).trans (hb2.mono (by omega)); have HKR2 := Lib.hid (((HKR.out.below hb1 (by simp; omega)).alloc (.cells #[.int .u8 0] 5)).below hb2 (by omega)); have HZR2 := Lib.hid (((HZR.out.below hb1 (by simp)).alloc (.cells #[.int .u8 0] 5)).below hb2 (by omega)); clear ho2)
    | (go_at_call 46; refine (HI.out _).mono ?_; rintro e3 w3 ⟨A3, n3, c3, rfl, hB3, hc3, hb3, -⟩; have HB3 := Lib.hid hB3; have hn3 := hB3.1; have hb3' := hb2'.trans (hb3.mono hb2'.size); have hs3 := hb3.size; obtain ⟨g3, off3, hA3⟩ := HB3.out.addr (by omega); subst hA3; clear hB3)
    | (at_builtin; refine wpList_appM Tryd.byteTypes rfl (.tmp 20) (.tmp 21) rfl (w.heap.size + 1 + 1) _ (s.size + 1) (L3 ++ [0]) rfl (HO2.out.below hb3) _ _ n3 c3 L2 rfl HB3.out (by omega) (by omega) ?_; intro A4 c4 w4 ho4 hb4; have HB4 := Lib.hid ho4.bs; have hb4' := hb3'.trans (hb4.mono (by omega)); have hs4 := hb4.size; have HKR4 := Lib.hid ((HKR2.out.below hb3 (by omega)).below hb4 (by omega)); have HZR4 := Lib.hid ((HZR2.out.below hb3 (by omega)).below hb4 (by omega)); clear ho4)
    | (with_reducible refine wpList_load_row Tryd.agg25 rfl (.tmp 3) rfl _ rfl 23 _ HKR4.out HKS.out ?_)
    | (go_at_call 22; refine (DBytes_any k w4 HK.out).mono ?_; rintro e5 w5 ⟨A5, n5, c5, rfl, hB5, hc5, hb5, -⟩; have HB5 := Lib.hid hB5; have hn5 := hB5.1; rw [HK.out] at hn5; have hb5' := hb4'.trans (hb5.mono hb4'.size); have hs5 := hb5.size; clear hB5)
    | (go_at_call 49; refine (HM.out _ _ _ _ _ _ w5 HB5.out (HB4.out.below hb5) hc5 (HF.out.below hb5') (HT.out.below hb5') (by omega) (by omega)).mono ?_; rintro e6 w6 ⟨rfl, hb6⟩; have hb6' := hb5'.trans (hb6.mono hb5'.size); have hs6 := hb6.size; have HZR6 := Lib.hid ((HZR4.out.below hb5 (by omega)).below hb6 (by omega)))
    | (with_reducible refine wpList_store_row Tryd.agg25 rfl (.tmp 6) (.tmp 26) rfl _ _ rfl rfl 23 lit32 HZR6.out HS.out lit32_size (bcells_one _) ?_; intro w9 hr9 ho9; have HR9 := Lib.hid hr9; clear hr9))
  refine bodyPost_ret (results_row1 Tryd.agg25 Tryd.results38 rfl HR9.out HS.out) rfl ⟨rfl, ?_⟩
  exact hb6'.trans (ho9.below (by omega) hb6'.size)
end Go.Proofs.YtghihgmgadaoeaaDoor
