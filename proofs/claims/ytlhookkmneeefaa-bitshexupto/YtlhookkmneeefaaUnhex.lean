/-
  What bits.Unhex and juratref01.Unhex answer, of whatever text.
-/
import Derived.Test.YtlhookkmneeefaaHex
import Derived.IntWalk
namespace Go.Proofs.Ytlhookkmneeefaa
open Go.RowKit
theorem quietL {P : Program} {f : FuncId} {args : Array Value} {w : World} {n : Nat} {v : Value}
    (h : Calls P f args (w.drewN n) fun e w' => e = .returned v ∧ w.drewN n = w') : Calls P f args (w.drewN n) fun e w'' => e = .returned v ∧ ∃ m, w'' = w.drewN m :=
  h.mono fun _ _ ⟨he, hm⟩ => ⟨he, n, hm.symm⟩
theorem sget (s : ByteArray) (i : Nat) (h : i < s.size) : s.data.toList[i]? = some s[i] := by
  rw [Array.getElem?_toList, Array.getElem?_eq_getElem (show i < s.data.size from h)]; rfl
def unhexV (l : List UInt8) : List UInt8 := (unhexL l).getD []
def unhexE (l : List UInt8) : Int := if (unhexL l).isSome then 0 else 1
theorem or_digits (a b : Int) (ha0 : 0 ≤ a) (ha : a < 16) (hb0 : 0 ≤ b) (hb : b < 16) : bits .or .i64 (a * 16) b = a * 16 + b := by
  obtain ⟨x, rfl⟩ := Int.eq_ofNat_of_zero_le ha0
  obtain ⟨y, rfl⟩ := Int.eq_ofNat_of_zero_le hb0
  have hy : y < 2 ^ 4 := by omega
  have e : (x : Int) * 16 = ((2 ^ 4 * x : Nat) : Int) := by omega
  have hx' : 2 ^ 4 * x < 9223372036854775808 := by omega
  have hy' : y < 9223372036854775808 := by omega
  rw [e]
  show IntKind.i64.wrap ((BitVec.ofInt 64 ((2 ^ 4 * x : Nat) : Int) ||| BitVec.ofInt 64 (y : Int)).toNat : Int) = _
  have o : ∀ a : Nat, a < 9223372036854775808 → (BitVec.ofInt 64 (a : Int)).toNat = a := fun a ha => by
    rw [BitVec.ofInt_natCast, BitVec.toNat_ofNat]; exact Nat.mod_eq_of_lt (by omega)
  rw [BitVec.toNat_or, o _ hx', o _ hy', ← Nat.two_pow_add_eq_or_of_lt hy, IntKind.wrap_i64]
  omega
set_option maxHeartbeats 1000000 in
theorem Unhex_any (s : ByteArray) (w : World) (hs : s.size ≤ 140737488355328) :
    Calls Try.prog 19 #[.string s] w (NewBytesE w 5 (unhexV s.data.toList) (unhexE s.data.toList)) := by
  have hlen : s.data.toList.length = s.size := Array.length_toList
  by_cases hodd : s.size % 2 = 1
  · have HU := Lib.hid (unhexL_odd s.data.toList (by omega))
    have ht : ((s.size : Int) % 2 != 0) = true := by rw [bne_iff_ne]; omega
    clear hlen hodd
    go_enter Try.func19, Try.ntmps19
    go_wp2
    go_ret2
    exact ⟨none, 0, 0, by unfold unhexE; rw [HU.out]; rfl, by unfold unhexV; rw [HU.out]; exact Bs.nil _ _, Nat.le_refl _, Below.refl _ _, by unfold unhexV; rw [HU.out]; exact Own.nil _ _ _⟩
  · have ht : ((s.size : Int) % 2 != 0) = false := by simp; omega
    have hmk := made_byte Try.prog Try.byteTypes (s.size / 2) (by omega)
    rw [show ((s.size / 2 : Nat) : Int) = (s.size : Int) / 2 by omega] at hmk
    have HL := Lib.hid hlen
    have HE := Lib.hid (show s.size = 2 * (s.size / 2) by omega)
    clear hlen hodd
    go_enter Try.func19, Try.ntmps19
    go_wp2
    go_loopw [18] (fun i wr => ∃ (k : Nat) (r : List UInt8) (cs : Array Value), k ≤ s.size / 2 ∧ i = .int .i64 (k : Int) ∧ Hid (unhexL (s.data.toList.take (2 * k)) = some r) ∧ Below w.heap.size w wr ∧ Row wr w.heap.size 5 cs ∧ Hid (cs.size = s.size / 2) ∧ Hid (∀ (j : Nat) (x : UInt8), r[j]? = some x → cs[j]? = some (.int .u8 (x.toNat : Int)))) (fun i _ => s.size / 2 - (intOf i).toNat)
    case atStart =>
      exact ⟨0, [], _, by omega, rfl, Lib.hid (by simp [unhexL]), (Below.refl _ _).alloc (Nat.le_refl _) _, Row.new _ _ _, Lib.hid (size_madeCells _ _), Lib.hid fun j x h => by simp at h⟩
    case round =>
      obtain ⟨k, r, cs, hk, rfl, HR, hbel, hrow, HS, HC⟩ := hrel
      clear hmk
      by_cases hlt : k < s.size / 2
      · have j1 : 2 * k < s.size := by omega
        have j2 : 2 * k + 1 < s.size := by omega
        have i1 : IntKind.i64.wrap (2 * (k : Int)) = 2 * (k : Int) := IntWalk.i64_in _ (by omega)
        have i2 : IntKind.i64.wrap (2 * (k : Int) + 1) = 2 * (k : Int) + 1 := IntWalk.i64_in _ (by omega)
        have i3 : (0 : Int) ≤ 2 * (k : Int) := by omega
        have i4 : (0 : Int) ≤ 2 * (k : Int) + 1 := by omega
        have i5 : (2 * (k : Int)).toNat = 2 * k := by omega
        have i6 : (2 * (k : Int) + 1).toNat = 2 * k + 1 := by omega
        have i7 : 2 * (k : Int) < (s.size : Int) := by omega
        have i8 : 2 * (k : Int) + 1 < (s.size : Int) := by omega
        have b1 := byte_lt s[2 * k]
        have b2 := byte_lt s[2 * k + 1]
        have lx := dv_lt s[2 * k].toNat
        have ly := dv_lt s[2 * k + 1].toNat
        have gx := Lib.hid (sget s (2 * k) j1)
        have gy := Lib.hid (sget s (2 * k + 1) j2)
        by_cases hx : 0 ≤ dv s[2 * k].toNat
        · by_cases hy : 0 ≤ dv s[2 * k + 1].toNat
          · have HP := Lib.hid (unhexL_pair HR.out gx.out gy.out ⟨hx, hy⟩)
            have hor := or_digits (dv s[2 * k].toNat) (dv s[2 * k + 1].toNat) hx lx.2 hy ly.2
            have hcell := hrow.cell k
            have hfz := hrow.frozen k
            have hin : k < cs.size := by rw [HS.out]; exact hlt
            rw [Array.getElem?_eq_getElem hin] at hcell
            have hrl := Lib.hid (unhexL_length _ _ HR.out)
            generalize hda : dv s[2 * k].toNat = da at *
            generalize hdb : dv s[2 * k + 1].toNat = db at *
            go_wp2
            go_quiet ((go_at_call 25; exact quietL (digitValue_any _ _ (by omega) (by omega))))
            go_wp2
            go_roundw
            case rel =>
              refine ⟨k + 1, _, _, by omega, by go_num, HP, (below_drewN hbel _).setCell (Nat.le_refl _) _, (hrow.drewN _).set _ _, Lib.hid (by rw [Array.size_setIfInBounds]; exact HS.out), Lib.hid ?_⟩
              have hk2 : r.length = k := by
                have := hrl.out
                rw [List.length_take, HL.out] at this
                omega
              intro j x hj
              rw [Array.getElem?_setIfInBounds]
              by_cases hjk : k = j
              · subst hjk
                rw [if_pos rfl, if_pos hin]
                rw [← hk2, List.getElem?_concat_length] at hj
                injection hj with hj
                rw [← hj, UInt8.toNat_ofNat']
                congr 2
                omega
              · rw [if_neg hjk]
                refine HC.out j x ?_
                have hj2 : j < k := by
                  have := (List.getElem?_eq_some_iff.1 hj).1
                  simp [hk2] at this
                  omega
                rwa [List.getElem?_append_left (by omega)] at hj
            case measure => simp [intOf]; omega
          · have HN := Lib.hid (unhexL_bad HR.out gx.out gy.out (fun h => hy h.2))
            go_wp2
            go_quiet ((go_at_call 25; exact quietL (digitValue_any _ _ (by omega) (by omega))))
            go_wp2
            go_ret2
            exact ⟨none, 0, 0, by unfold unhexE; rw [HN.out]; rfl, by unfold unhexV; rw [HN.out]; exact Bs.nil _ _, Nat.le_refl _, below_drewN hbel _, by unfold unhexV; rw [HN.out]; exact Own.nil _ _ _⟩
        · have HN := Lib.hid (unhexL_bad HR.out gx.out gy.out (fun h => hx h.1))
          go_wp2
          go_quiet ((go_at_call 25; exact quietL (digitValue_any _ _ (by omega) (by omega))))
          go_wp2
          go_ret2
          exact ⟨none, 0, 0, by unfold unhexE; rw [HN.out]; rfl, by unfold unhexV; rw [HN.out]; exact Bs.nil _ _, Nat.le_refl _, below_drewN hbel _, by unfold unhexV; rw [HN.out]; exact Own.nil _ _ _⟩
      · have hU : unhexL s.data.toList = some r := by
          have := HR.out
          rwa [List.take_of_length_le (by rw [HL.out]; have := HE.out; omega)] at this
        have HU := Lib.hid hU
        have hrl := Lib.hid (unhexL_length _ _ hU)
        clear hU
        go_wp2
        go_ret2
        have hr2 : r.length = s.size / 2 := by
          have := hrl.out
          rw [HL.out] at this
          omega
        have hown := hrow.own (base := w.heap.size) (Nat.le_refl _) hr2 HS.out (by omega) HC.out
        refine ⟨_, _, _, by unfold unhexE; rw [HU.out]; rfl, ?_, Nat.le_refl _, hbel, ?_⟩
        · unfold unhexV; rw [HU.out]; exact hown.bs
        · unfold unhexV; rw [HU.out]; exact hown
end Go.Proofs.Ytlhookkmneeefaa
