/- thriftref.Decimal, walked: the number's decimal numeral. -/
import Derived.Test.YtlcmllmphpllbaaGreatDoorWa
import Derived.Lib.ItoaLen
namespace Go.Proofs.YtlcmllmphpllbaaGreatDoor
open Go.RowKit

/-- a text of these bytes -/
def bs (l : List UInt8) : ByteArray := ⟨l.toArray⟩
theorem bs_size (l : List UInt8) : (bs l).size = l.length := by simp [bs, ByteArray.size]
theorem bs_add (a b : List UInt8) : bs a ++ bs b = bs (a ++ b) := by
  apply ByteArray.ext
  simp [bs, ByteArray.data_append]
theorem dec_big (u : Nat) (h : ¬ u < 10) : Lib.decDigits u = Lib.decDigits (u / 10) ++ [UInt8.ofNat (48 + u % 10)] := by rw [Lib.decDigits, dif_neg h]
theorem ten_fin : ∀ d : Fin 10, (⟨#[48, 49, 50, 51, 52, 53, 54, 55, 56, 57]⟩ : ByteArray).extract d.val (d.val + 1) = bs [UInt8.ofNat (48 + d.val)] := by decide +kernel
theorem ten_at (d : Nat) (h : d < 10) : (⟨#[48, 49, 50, 51, 52, 53, 54, 55, 56, 57]⟩ : ByteArray).extract d (d + 1) = bs [UInt8.ofNat (48 + d)] := ten_fin ⟨d, h⟩
theorem itoa_nat (u : Nat) : Lib.itoa (u : Int) = Lib.decDigits u := by unfold Lib.itoa; rw [if_neg (by omega)]; simp
theorem itoa_len (n : Int) (h0 : -9223372036854775808 ≤ n) (h1 : n ≤ 9223372036854775807) : (bs (Lib.itoa n)).size ≤ 21 := by rw [bs_size]; exact Lib.itoa_length_le n h0 h1

theorem pos_small (n : Int) (h0 : 0 ≤ n) (h1 : n < 10) : (⟨#[48, 49, 50, 51, 52, 53, 54, 55, 56, 57]⟩ : ByteArray).extract (n % 10).toNat (n % 10 + 1).toNat = bs (Lib.itoa n) := by
  obtain ⟨u, rfl⟩ := Int.eq_ofNat_of_zero_le h0
  have hu : u < 10 := by omega
  have e1 : ((u : Int) % 10).toNat = u := by omega
  have e2 : ((u : Int) % 10 + 1).toNat = u + 1 := by omega
  rw [e1, e2, ten_at u hu, itoa_nat, Lib.decDigits_one hu]
theorem pos_big (n : Int) (h0 : 0 ≤ n) (h1 : ¬ n < 10) : bs (Lib.itoa (n / 10)) ++ (⟨#[48, 49, 50, 51, 52, 53, 54, 55, 56, 57]⟩ : ByteArray).extract (n % 10).toNat (n % 10 + 1).toNat = bs (Lib.itoa n) := by
  obtain ⟨u, rfl⟩ := Int.eq_ofNat_of_zero_le h0
  have e1 : ((u : Int) % 10).toNat = u % 10 := by omega
  have e2 : ((u : Int) % 10 + 1).toNat = u % 10 + 1 := by omega
  have e3 : (u : Int) / 10 = ((u / 10 : Nat) : Int) := by omega
  rw [e1, e2, e3, ten_at _ (by omega), bs_add, itoa_nat, itoa_nat, dec_big u (by omega)]

set_option maxHeartbeats 400000 in
theorem decimal_pos (k : Nat) : ∀ (n : Int) (w : World) (_ : n.toNat ≤ k) (_ : 0 ≤ n) (_ : n ≤ 9223372036854775807),
    Calls Tryz.prog 26 #[.int .i64 n] w fun e w' => e = .returned (.string (bs (Lib.itoa n))) ∧ w' = w := by
  induction k using Nat.strongRecOn with
  | ind k ih =>
    intro n w hk h0 h1
    by_cases hn : n < 10
    · go_enter Tryz.func26, Tryz.ntmps26
      go_wp2_with fail
      go_ret
      exact ⟨congrArg (fun s => Ending.returned (.string s)) (pos_small n h0 hn), rfl⟩
    · have IH : Hid (∀ (m : Int) (w : World), m.toNat < k → 0 ≤ m → m ≤ 9223372036854775807 → Calls Tryz.prog 26 #[.int .i64 m] w fun e w' => e = .returned (.string (bs (Lib.itoa m))) ∧ w' = w) :=
        fun m w a b c => ih m.toNat a m w (Nat.le_refl _) b c
      clear ih
      have hl := itoa_len (n / 10) (by omega) (by omega)
      go_enter Tryz.func26, Tryz.ntmps26
      go_wp2_with (go_at_call 26; refine (IH.out _ _ (by omega) (by omega) (by omega)).mono ?_; rintro e w' ⟨rfl, rfl⟩)
      go_ret
      exact ⟨congrArg (fun s => Ending.returned (.string s)) (pos_big n h0 (by omega)), rfl⟩

theorem tm10 (n : Int) (h : n ≤ 0) : n.tmod 10 = -((n.natAbs % 10 : Nat) : Int) := by
  obtain ⟨u, rfl⟩ : ∃ u : Nat, n = -(u : Int) := ⟨n.natAbs, by omega⟩
  rw [Int.neg_tmod, Int.natAbs_neg, Int.natAbs_natCast]; rfl
theorem td10 (n : Int) (h : n ≤ 0) : n.tdiv 10 = -((n.natAbs / 10 : Nat) : Int) := by
  obtain ⟨u, rfl⟩ : ∃ u : Nat, n = -(u : Int) := ⟨n.natAbs, by omega⟩
  rw [Int.neg_tdiv, Int.natAbs_neg, Int.natAbs_natCast]; rfl
theorem itoa_neg (n : Int) (h : n < 0) : Lib.itoa n = 45 :: Lib.decDigits n.natAbs := by unfold Lib.itoa; rw [if_pos h]
theorem neg_small (n : Int) (h0 : n < 0) (h1 : -10 < n) : (⟨#[45]⟩ : ByteArray) ++ bs (Lib.itoa (-(n.tmod 10))) = bs (Lib.itoa n) := by
  have e : -(n.tmod 10) = (n.natAbs : Int) := by rw [tm10 n (by omega)]; omega
  have e2 : (⟨#[45]⟩ : ByteArray) = bs [45] := rfl
  rw [e, e2, bs_add, itoa_nat, itoa_neg n h0]
  rfl
theorem neg_big (n : Int) (h1 : n ≤ -10) : bs (Lib.itoa (n.tdiv 10)) ++ bs (Lib.itoa (-(n.tmod 10))) = bs (Lib.itoa n) := by
  have e : -(n.tmod 10) = ((n.natAbs % 10 : Nat) : Int) := by rw [tm10 n (by omega)]; omega
  have e4 := td10 n (by omega)
  have e3 : (n.tdiv 10).natAbs = n.natAbs / 10 := by omega
  rw [e, bs_add, itoa_nat, itoa_neg n (by omega), itoa_neg (n.tdiv 10) (by omega), e3, Lib.decDigits_one (i := n.natAbs % 10) (by omega), dec_big n.natAbs (by omega)]
  rfl

set_option maxHeartbeats 400000 in
theorem decimal_neg (k : Nat) : ∀ (n : Int) (w : World) (_ : n.natAbs ≤ k) (_ : n < 0) (_ : -9223372036854775808 ≤ n),
    Calls Tryz.prog 26 #[.int .i64 n] w fun e w' => e = .returned (.string (bs (Lib.itoa n))) ∧ w' = w := by
  induction k using Nat.strongRecOn with
  | ind k ih =>
    intro n w hk h0 h1
    have hd : -9 ≤ n.tmod 10 ∧ n.tmod 10 ≤ 0 := by rw [tm10 n (by omega)]; omega
    have hl := itoa_len (-(n.tmod 10)) (by omega) (by omega)
    by_cases hn : -10 < n
    · clear ih
      go_enter Tryz.func26, Tryz.ntmps26
      go_wp2_with (go_at_call 26; refine (decimal_pos 10 _ _ (by omega) (by omega) (by omega)).mono ?_; rintro e w' ⟨rfl, rfl⟩)
      go_ret
      exact ⟨congrArg (fun s => Ending.returned (.string s)) (neg_small n h0 hn), rfl⟩
    · have IH : Hid (∀ (m : Int) (w : World), m.natAbs < k → m < 0 → -9223372036854775808 ≤ m → Calls Tryz.prog 26 #[.int .i64 m] w fun e w' => e = .returned (.string (bs (Lib.itoa m))) ∧ w' = w) :=
        fun m w a b c => ih m.natAbs a m w (Nat.le_refl _) b c
      clear ih
      have hq : (n.tdiv 10).natAbs < k ∧ n.tdiv 10 < 0 ∧ -9223372036854775808 ≤ n.tdiv 10 := by rw [td10 n (by omega)]; omega
      have hl2 := itoa_len (n.tdiv 10) (by omega) (by omega)
      go_enter Tryz.func26, Tryz.ntmps26
      go_wp2_with fail
      refine (IH.out _ _ hq.1 hq.2.1 hq.2.2).mono ?_
      rintro e w' ⟨rfl, rfl⟩
      go_wp2_with fail
      refine (decimal_pos 10 _ _ (by omega) (by omega) (by omega)).mono ?_
      rintro e w' ⟨rfl, rfl⟩
      go_wp2_with fail
      go_ret
      exact ⟨congrArg (fun s => Ending.returned (.string s)) (neg_big n (by omega)), rfl⟩
theorem decimal_any (n : Int) (w : World) (h0 : -9223372036854775808 ≤ n) (h1 : n ≤ 9223372036854775807) :
    Calls Tryz.prog 26 #[.int .i64 n] w fun e w' => e = .returned (.string (bs (Lib.itoa n))) ∧ w' = w := by
  by_cases h : n < 0
  · exact decimal_neg n.natAbs n w (Nat.le_refl _) h h0
  · exact decimal_pos n.toNat n w (Nat.le_refl _) (by omega) h1
end Go.Proofs.YtlcmllmphpllbaaGreatDoor
