/-
  What juratref01.Unhex answers, of whatever text.
-/
import Derived.Test.YtlhookkmneeefaaUnhex
namespace Go.Proofs.Ytlhookkmneeefaa
open Go.RowKit
theorem one_byte (w : World) (v : Int) (t : TypeId) (h0 : 0 ≤ v) (h : v < 256) : Own (w.alloc (.cells #[.int .u8 v] t)) w.heap.size t (.slice (some ⟨w.heap.size, 0, none⟩) 1 1) 1 [UInt8.ofNat v.toNat] := by
  have := one_new w v.toNat t
  rwa [show ((v.toNat : Nat) : Int) % 256 = v by omega] at this
set_option maxHeartbeats 1000000 in
theorem RefUnhex_any (s : ByteArray) (w : World) (hs : s.size ≤ 140737488355328) :
    Calls Try.prog 20 #[.string s] w (NewBytesE w 5 (unhexV s.data.toList) (unhexE s.data.toList)) := by
  have hlen : s.data.toList.length = s.size := Array.length_toList
  by_cases hodd : s.size % 2 = 1
  · have HU := Lib.hid (unhexL_odd s.data.toList (by omega))
    have ht : ((s.size : Int) % 2 != 0) = true := by rw [bne_iff_ne]; omega
    clear hlen hodd
    go_enter Try.func20, Try.ntmps20
    go_wp2
    go_ret2
    exact ⟨none, 0, 0, by unfold unhexE; rw [HU.out]; rfl, by unfold unhexV; rw [HU.out]; exact Bs.nil _ _, Nat.le_refl _, Below.refl _ _, by unfold unhexV; rw [HU.out]; exact Own.nil _ _ _⟩
  · have ht : ((s.size : Int) % 2 != 0) = false := by simp; omega
    have HL := Lib.hid hlen
    have HE := Lib.hid (show s.size % 2 = 0 by omega)
    clear hlen hodd
    go_enter Try.func20, Try.ntmps20
    go_wp2
    go_loopw [4, 5] (fun o i wr => ∃ (k : Nat) (r : List UInt8) (A : Option Addr) (c : Nat), 2 * k ≤ s.size ∧ i = .int .i64 (2 * (k : Int)) ∧ o = .slice A k c ∧ Hid (unhexL (s.data.toList.take (2 * k)) = some r) ∧ Below w.heap.size w wr ∧ Hid (Own wr w.heap.size 5 (.slice A k c) k r)) (fun _ i _ => s.size - (intOf i).toNat)
    case atStart =>
      exact ⟨0, [], none, 0, by omega, rfl, rfl, Lib.hid (by simp [unhexL]), Below.refl _ _, Lib.hid (Own.nil _ _ _)⟩
    case round =>
      obtain ⟨k, r, A, c, hk, rfl, rfl, HR, hbel, HO⟩ := hrel
      have hsz := hbel.size
      by_cases hlt : 2 * k < s.size
      · have j2 : 2 * k + 1 < s.size := by have := HE.out; omega
        have i1 : IntKind.i64.wrap (2 * (k : Int)) = 2 * (k : Int) := IntWalk.i64_in _ (by omega)
        have i2 : IntKind.i64.wrap (2 * (k : Int) + 1) = 2 * (k : Int) + 1 := IntWalk.i64_in _ (by omega)
        have i3 : (0 : Int) ≤ 2 * (k : Int) := by omega
        have i4 : (0 : Int) ≤ 2 * (k : Int) + 1 := by omega
        have i5 : (2 * (k : Int)).toNat = 2 * k := by omega
        have i6 : (2 * (k : Int) + 1).toNat = 2 * k + 1 := by omega
        have i7 : 2 * (k : Int) < (s.size : Int) := by omega
        have i8 : 2 * (k : Int) + 1 < (s.size : Int) := by omega
        have b1 := byte_lt s[2 * k]
        have b2 := byte_lt s[2 * k + 1]
        have lx := dv_lt s[2 * k].toNat
        have ly := dv_lt s[2 * k + 1].toNat
        have gx := Lib.hid (sget s (2 * k) hlt)
        have gy := Lib.hid (sget s (2 * k + 1) j2)
        by_cases hx : 0 ≤ dv s[2 * k].toNat
        · by_cases hy : 0 ≤ dv s[2 * k + 1].toNat
          · have HP := Lib.hid (unhexL_pair HR.out gx.out gy.out ⟨hx, hy⟩)
            generalize hda : dv s[2 * k].toNat = da at *
            generalize hdb : dv s[2 * k + 1].toNat = db at *
            have hm : (16 * da + db) % 256 = 16 * da + db := by omega
            go_wp2
            go_quiet ((go_at_call 26; exact quietL (worth_any _ _ (by omega) (by omega))))
            go_wp2_with (at_builtin; refine wpList_app Try.byteTypes rfl (.tmp 33) (.tmp 39) rfl w.heap.size _ k r rfl (Own.alloc (w := wr.drewN _) HO.out _) _ 1 1 [UInt8.ofNat (16 * da + db).toNat] rfl (by exact (one_byte (wr.drewN _) (16 * da + db) 5 (by omega) (by omega)).bs) (by omega) (by simp; omega) ?_; intro A' c' w1 hown1 hbel1 hgr1; clear hgr1)
            go_roundw
            case rel =>
              exact ⟨k + 1, _, A', c', by omega, by go_num, rfl, HP, ((below_drewN hbel _).alloc hsz _).trans hbel1, Lib.hid hown1⟩
            case measure => simp [intOf]; omega
          · have HN := Lib.hid (unhexL_bad HR.out gx.out gy.out (fun h => hy h.2))
            go_wp2
            go_quiet ((go_at_call 26; exact quietL (worth_any _ _ (by omega) (by omega))))
            go_wp2
            go_ret2
            exact ⟨none, 0, 0, by unfold unhexE; rw [HN.out]; rfl, by unfold unhexV; rw [HN.out]; exact Bs.nil _ _, Nat.le_refl _, below_drewN hbel _, by unfold unhexV; rw [HN.out]; exact Own.nil _ _ _⟩
        · have HN := Lib.hid (unhexL_bad HR.out gx.out gy.out (fun h => hx h.1))
          go_wp2
          go_quiet ((go_at_call 26; exact quietL (worth_any _ _ (by omega) (by omega))))
          go_wp2
          go_ret2
          exact ⟨none, 0, 0, by unfold unhexE; rw [HN.out]; rfl, by unfold unhexV; rw [HN.out]; exact Bs.nil _ _, Nat.le_refl _, below_drewN hbel _, by unfold unhexV; rw [HN.out]; exact Own.nil _ _ _⟩
      · have hU : unhexL s.data.toList = some r := by
          have := HR.out
          rwa [List.take_of_length_le (by rw [HL.out]; omega)] at this
        have HU := Lib.hid hU
        clear hU
        go_wp2
        go_ret2
        obtain ⟨A', c', hv, hc⟩ := HO.out.form
        injection hv with h1 h2 h3
        subst h1 h3
        refine ⟨_, _, _, by unfold unhexE; rw [HU.out]; rfl, ?_, hc, hbel, ?_⟩
        · unfold unhexV; rw [HU.out]; exact HO.out.bs
        · unfold unhexV; rw [HU.out]; exact HO.out
end Go.Proofs.Ytlhookkmneeefaa
