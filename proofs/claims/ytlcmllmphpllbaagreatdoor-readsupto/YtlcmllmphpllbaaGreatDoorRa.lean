/- thriftref.split and thriftref.Number, walked; decimal numerals in plain words. -/
import Derived.Test.YtlcmllmphpllbaaGreatDoorKp
import Derived.Test.YtlcmllmphpllbaaGreatDoorWg
import Derived.Lib.AtoiAll
namespace Go.Proofs.YtlcmllmphpllbaaGreatDoor
open Go.RowKit

/-- what stands between the places of a byte, as far as the first i bytes tell; where the next begins -/
def splitTo (s : ByteArray) (b : UInt8) : Nat → List ByteArray × Nat
  | 0 => ([], 0)
  | i + 1 => if s.data.toList[i]? = some b then ((splitTo s b i).1 ++ [s.extract (splitTo s b i).2 i], i + 1) else splitTo s b i
theorem splitTo_le (s : ByteArray) (b : UInt8) : ∀ i, (splitTo s b i).2 ≤ i ∧ (splitTo s b i).1.length ≤ i
  | 0 => ⟨Nat.le_refl _, Nat.le_refl _⟩
  | i + 1 => by
    have := splitTo_le s b i
    rw [splitTo]
    split
    · simp; omega
    · omega
theorem splitTo_hit {s : ByteArray} {b : UInt8} {i : Nat} (h : i < s.size) (e : s[i] = b) : splitTo s b (i + 1) = ((splitTo s b i).1 ++ [s.extract (splitTo s b i).2 i], i + 1) := by
  rw [splitTo, if_pos]
  have : s.data.toList[i]? = some s[i] := by simp [h]; rfl
  rw [this, e]
theorem splitTo_miss {s : ByteArray} {b : UInt8} {i : Nat} (h : i < s.size) (e : ¬ s[i] = b) : splitTo s b (i + 1) = splitTo s b i := by
  rw [splitTo, if_neg]
  have : s.data.toList[i]? = some s[i] := by simp [h]; rfl
  rw [this]
  simpa using e
def segs (s : ByteArray) (b : UInt8) : List ByteArray := (splitTo s b s.size).1 ++ [s.extract (splitTo s b s.size).2 s.size]
theorem sInfo : (Tryz.prog.info? 9).map (fun i => (i.zero, i.size, i.bytes)) = some (some (.string ⟨#[]⟩), 1, 16) := by kernel_rfl
theorem sUnder : Tryz.prog.underlying 22 = some (.slice 9) := by kernel_rfl
theorem sinfo_parts {P : Program} {t : TypeId} {z : Option Value} {a b : Nat} (h : (P.info? t).map (fun i => (i.zero, i.size, i.bytes)) = some (z, a, b)) : ∃ i, P.info? t = some i ∧ i.zero = z ∧ i.size = a ∧ i.bytes = b := by
  cases hi : P.info? t with
  | none => rw [hi] at h; cases h
  | some i =>
    rw [hi] at h
    simp only [Option.map_some, Option.some.injEq, Prod.mk.injEq] at h
    exact ⟨i, rfl, h.1, h.2.1, h.2.2⟩
set_option maxHeartbeats 2000000 in
theorem rsplit_any (s : ByteArray) (b : UInt8) (w : World) (hs : s.size ≤ 5000) :
    Calls Tryz.prog 12 #[.string s, .int .u8 (b.toNat : Int)] w fun e w' => ∃ v, e = .returned v ∧ w'.ownsRow w.heap.size 9 1 v (segs s b).length ((segs s b).map Value.string) ∧ Below w.heap.size w w' := by
  obtain ⟨i0, hi, hz0, hz1, hz2⟩ := sinfo_parts sInfo
  have HI : Hid (i0.zero = some (.string ⟨#[]⟩) ∧ i0.size = 1 ∧ i0.bytes = 16 ∧ Tryz.prog.info? 9 = some i0) := ⟨hz0, hz1, hz2, hi⟩
  clear hi hz0 hz1 hz2
  go_enter Tryz.func12, Tryz.ntmps12
  go_wp2
  go_loopw [5, 6, 7] (fun v f i wr => ∃ k : Nat, k ≤ s.size ∧ i = .int .i64 k ∧ f = .int .i64 ((splitTo s b k).2 : Int) ∧ wr.ownsRow w.heap.size 9 1 v (splitTo s b k).1.length ((splitTo s b k).1.map Value.string) ∧ Below w.heap.size w wr) (fun _ _ i _ => s.size - (intOf i).toNat)
  case atStart => exact ⟨0, Nat.zero_le _, rfl, rfl, World.ownsRow_nil _ _ _ _, Bl.refl _⟩
  case round =>
    obtain ⟨k, hk, rfl, rfl, hown, hbr⟩ := hrel
    have hle := splitTo_le s b k
    obtain ⟨h1, h2⟩ := hle
    have hsz := hbr.size
    by_cases hlt : k < s.size
    · by_cases e : s[k] = b
      · have HS : Hid (splitTo s b (k + 1) = ((splitTo s b k).1 ++ [s.extract (splitTo s b k).2 k], k + 1)) := splitTo_hit hlt e
        have hb : ((s[k].toNat : Int) == (b.toNat : Int)) = true := by simp [e]
        clear e
        go_wp2_with (at_builtin; refine wpList_append_own _ rfl _ _ 22 rfl w.heap.size 9 i0 _ 1 16 sUnder HI.out.2.2.2 HI.out.1 HI.out.2.1 HI.out.2.2.1 rfl (by decide) _ _ _ rfl (hown.alloc _) ⟨wr.heap.size, 0, none⟩ 1 1 [.string (s.extract (splitTo s b k).2 k)] rfl rfl ?c1 ?c2 ?c3 ?c4 ?c5 ?_)
        case c1 =>
          intro j u hj
          match j, hj with
          | 0, hj => simp at hj; subst hj; simp [Addr.add, go_sem]
          | j + 1, hj => simp at hj
        case c2 => intro u hu; simp at hu; subst hu; rfl
        case c3 => unfold maxLen; omega
        case c4 => omega
        case c5 => simp; omega
        intro v' w1 hown' hgrow _
        have hb1 : Below w.heap.size w w1 := (hbr.alloc hsz _).grown hgrow (by simp; omega) (fun j e => (hown.lt j e).1)
        have HO : Hid (w1.ownsRow w.heap.size 9 1 v' (splitTo s b (k + 1)).1.length ((splitTo s b (k + 1)).1.map Value.string)) := by
          show w1.ownsRow _ _ _ _ _ _
          rw [HS.out]
          simpa using hown'
        have HF : Hid (((splitTo s b (k + 1)).2 : Int) = (k : Int) + 1) := by show _ = _; rw [HS.out]; simp
        clear hgrow hown hown'
        go_wp2
        go_roundw
        case rel => exact ⟨k + 1, by omega, by go_num, by rw [HF.out], HO.out, hb1⟩
        case measure => simp [intOf]; omega
      · have HS : Hid (splitTo s b (k + 1) = splitTo s b k) := splitTo_miss hlt e
        have hb : ((s[k].toNat : Int) == (b.toNat : Int)) = false := by
          have : s[k].toNat ≠ b.toNat := fun h => e (UInt8.toNat_inj.1 h)
          simp; omega
        clear e
        go_wp2
        go_roundw
        case rel => exact ⟨k + 1, by omega, by go_num, by rw [HS.out], by rw [HS.out]; exact hown, hbr⟩
        case measure => simp [intOf]; omega
    · have hke : k = s.size := by omega
      subst hke
      clear hk hlt
      go_wp2_with (at_builtin; refine wpList_append_own _ rfl _ _ 22 rfl w.heap.size 9 i0 _ 1 16 sUnder HI.out.2.2.2 HI.out.1 HI.out.2.1 HI.out.2.2.1 rfl (by decide) _ _ _ rfl (hown.alloc _) ⟨wr.heap.size, 0, none⟩ 1 1 [.string (s.extract (splitTo s b s.size).2 s.size)] rfl rfl ?d1 ?d2 ?d3 ?d4 ?d5 ?_)
      case d1 =>
        intro j u hj
        match j, hj with
        | 0, hj => simp at hj; subst hj; simp [Addr.add, go_sem]
        | j + 1, hj => simp at hj
      case d2 => intro u hu; simp at hu; subst hu; rfl
      case d3 => unfold maxLen; omega
      case d4 => omega
      case d5 => simp; omega
      intro v' w1 hown' hgrow _
      have hb1 : Below w.heap.size w w1 := (hbr.alloc hsz _).grown hgrow (by simp; omega) (fun j e => (hown.lt j e).1)
      have HO : Hid (w1.ownsRow w.heap.size 9 1 v' (segs s b).length ((segs s b).map Value.string)) := by
        show w1.ownsRow _ _ _ _ _ _
        simpa [segs] using hown'
      clear hgrow hown hown'
      go_wp2
      go_ret
      exact ⟨v', rfl, HO.out, hb1⟩
end Go.Proofs.YtlcmllmphpllbaaGreatDoor
namespace Go.Proofs.YtlcmllmphpllbaaGreatDoor

/-- what digits tell, behind others that tell acc -/
def valTo (acc : Nat) : List UInt8 → Nat
  | [] => acc
  | c :: r => valTo (acc * 10 + (c.toNat - 48)) r
def IsDig (c : UInt8) : Prop := 48 ≤ c.toNat ∧ c.toNat ≤ 57
theorem valTo_append (acc : Nat) (a b : List UInt8) : valTo acc (a ++ b) = valTo (valTo acc a) b := by
  induction a generalizing acc with
  | nil => rfl
  | cons c r ih => exact ih _
theorem valTo_le (acc : Nat) (l : List UInt8) : acc ≤ valTo acc l := by
  induction l generalizing acc with
  | nil => exact Nat.le_refl _
  | cons c r ih => exact Nat.le_trans (by omega) (ih _)
theorem digit_ofNat {d : Nat} (h : d < 10) : (UInt8.ofNat (48 + d)).toNat = 48 + d := by
  rw [UInt8.toNat_ofNat', Nat.mod_eq_of_lt (by omega)]
theorem valTo_snoc (acc : Nat) (l : List UInt8) (c : UInt8) : valTo acc (l ++ [c]) = valTo acc l * 10 + (c.toNat - 48) := by rw [valTo_append]; rfl
theorem dec_val (u : Nat) : valTo 0 (Lib.decDigits u) = u := by
  induction u using Nat.strongRecOn with
  | ind u ih =>
    by_cases h : u < 10
    · rw [Lib.decDigits_one h]
      have e : valTo 0 [UInt8.ofNat (48 + u)] = 0 * 10 + ((UInt8.ofNat (48 + u)).toNat - 48) := rfl
      rw [e, digit_ofNat h]
      omega
    · rw [dec_big u h, valTo_snoc, ih (u / 10) (by omega), digit_ofNat (Nat.mod_lt u (by decide))]
      omega
theorem dec_digs (u : Nat) : ∀ c ∈ Lib.decDigits u, IsDig c := by
  induction u using Nat.strongRecOn with
  | ind u ih =>
    intro c hc
    by_cases h : u < 10
    · rw [Lib.decDigits_one h] at hc
      rw [List.mem_singleton.1 hc, IsDig, digit_ofNat h]
      omega
    · rw [dec_big u h] at hc
      rcases List.mem_append.1 hc with hc | hc
      · exact ih (u / 10) (by omega) c hc
      · rw [List.mem_singleton.1 hc, IsDig, digit_ofNat (Nat.mod_lt u (by decide : 0 < 10))]
        omega
theorem dec_len_pos (u : Nat) : 1 ≤ (Lib.decDigits u).length := by rw [Lib.decDigits_length]; exact Lib.nDigits_pos u
theorem nDigits_le : ∀ (k u : Nat), u < 10 ^ (k + 1) → Lib.nDigits u ≤ k + 1
  | 0, u, h => by rw [Lib.nDigits_small (by simpa using h)]; exact Nat.le_refl _
  | k + 1, u, h => by
    by_cases h10 : u < 10
    · rw [Lib.nDigits_small h10]; omega
    · rw [Lib.nDigits_big h10]
      have := nDigits_le k (u / 10) (by rw [Nat.pow_succ] at h; omega)
      omega
theorem dec_len_le {u : Nat} (h : u ≤ 9223372036854775808) : (Lib.decDigits u).length ≤ 19 := by
  rw [Lib.decDigits_length]
  exact nDigits_le 18 u (by omega)
/-- s is the numeral of n, an int -/
structure IsNum (s : List UInt8) (n : Int) : Prop where
  lo : -9223372036854775808 ≤ n
  hi : n ≤ 9223372036854775807
  eq : Lib.itoa n = s
theorem parseUint10_ok : ∀ (l : List UInt8) (acc : Nat), (∀ c ∈ l, IsDig c) → valTo acc l < 18446744073709551616 → Lib.parseUint10 acc l = .ok (valTo acc l)
  | [], acc, _, _ => rfl
  | c :: r, acc, hd, hv => by
    have h1 := hd c (List.mem_cons_self)
    have h2 := valTo_le (acc * 10 + (c.toNat - 48)) r
    have h3 : valTo acc (c :: r) = valTo (acc * 10 + (c.toNat - 48)) r := rfl
    rw [h3] at hv ⊢
    rw [Lib.parseUint10, if_pos (show 48 ≤ c.toNat ∧ c.toNat ≤ 57 from h1), if_neg (by omega), if_neg (by omega)]
    exact parseUint10_ok r _ (fun x hx => hd x (List.mem_cons_of_mem _ hx)) hv
theorem parseMag_dec {u : Nat} (h : u < 18446744073709551616) : Lib.parseMag (Lib.decDigits u) = .ok u := by
  have hl := dec_len_pos u
  rw [Lib.parseMag, if_neg (by intro e; rw [e] at hl; simp at hl), parseUint10_ok _ _ (dec_digs u) (by rw [dec_val]; exact h), dec_val]
theorem dec_cons (u : Nat) : ∃ c r, Lib.decDigits u = c :: r ∧ IsDig c := by
  have hl := dec_len_pos u
  have hd := dec_digs u
  cases h : Lib.decDigits u with
  | nil => rw [h] at hl; simp at hl
  | cons c r => exact ⟨c, r, rfl, hd c (by rw [h]; exact List.mem_cons_self)⟩
theorem atoi_itoa {n : Int} (h0 : -9223372036854775808 ≤ n) (h1 : n ≤ 9223372036854775807) : Lib.atoiAll (Lib.itoa n) = .ok n := by
  by_cases h : n < 0
  · rw [itoa_neg n h]
    have e45 : (45 : UInt8).toNat = 45 := rfl
    simp only [Lib.atoiAll, e45, or_true, if_true, parseMag_dec (show n.natAbs < 18446744073709551616 by omega), not_true_eq_false, false_and, if_false, true_and]
    rw [if_neg (by omega)]
    congr 1
    omega
  · obtain ⟨u, rfl⟩ := Int.eq_ofNat_of_zero_le (Int.not_lt.1 h)
    rw [itoa_nat]
    obtain ⟨c, r, e, hc⟩ := dec_cons u
    have hp := parseMag_dec (show u < 18446744073709551616 by omega)
    rw [e] at hp ⊢
    obtain ⟨c1, c2⟩ := hc
    have n43 : ¬ c.toNat = 43 := by omega
    have n45 : ¬ c.toNat = 45 := by omega
    simp only [Lib.atoiAll, n43, n45, or_self, if_false, hp, not_false_eq_true, true_and, false_and]
    rw [if_neg (by omega)]
theorem IsNum.atoi {s : List UInt8} {n : Int} (h : IsNum s n) : Lib.atoiAll s = .ok n := by rw [← h.eq]; exact atoi_itoa h.lo h.hi
theorem IsNum.unique {s : List UInt8} {n m : Int} (h : IsNum s n) (g : IsNum s m) : n = m := by
  have := h.atoi.symm.trans g.atoi
  injection this
/-- the digits of a numeral, as the document's reader takes them -/
theorem IsNum.parts {s : List UInt8} {n : Int} (h : IsNum s n) : (n < 0 ∧ s = 45 :: Lib.decDigits n.natAbs) ∨ (0 ≤ n ∧ s = Lib.decDigits n.natAbs) := by
  by_cases hn : n < 0
  · exact .inl ⟨hn, by rw [← h.eq, itoa_neg n hn]⟩
  · refine .inr ⟨by omega, ?_⟩
    rw [← h.eq, Lib.itoa, if_neg hn]
    congr 1
    omega
/-- what the first i digits tell -/
def upTo (l : List UInt8) (i : Nat) : Nat := valTo 0 (l.take i)
theorem upTo_zero (l : List UInt8) : upTo l 0 = 0 := rfl
theorem upTo_succ {l : List UInt8} {i : Nat} (h : i < l.length) : upTo l (i + 1) = upTo l i * 10 + (l[i].toNat - 48) := by
  unfold upTo
  rw [List.take_succ_eq_append_getElem h, valTo_append]
  rfl
theorem upTo_all (l : List UInt8) : upTo l l.length = valTo 0 l := by unfold upTo; rw [List.take_length]
theorem upTo_le (l : List UInt8) (i : Nat) : upTo l i ≤ valTo 0 l := by
  have := valTo_append 0 (l.take i) (l.drop i)
  rw [List.take_append_drop] at this
  rw [this]
  exact valTo_le _ _
end Go.Proofs.YtlcmllmphpllbaaGreatDoor
namespace Go.Proofs.YtlcmllmphpllbaaGreatDoor
open Go.RowKit

/-- dl are the digits of the text sl, mn tells whether a sign is ahead of them -/
def Src (sl dl : List UInt8) (mn : Bool) : Prop := (mn = true ∧ sl = 45 :: dl) ∨ (mn = false ∧ sl = dl ∧ dl.head? ≠ some 45)
theorem Src.num {sl dl : List UInt8} {mn : Bool} (h : Src sl dl mn) {m : Int} (hn : IsNum sl m) : dl = Lib.decDigits m.natAbs ∧ ((mn = true ∧ m < 0) ∨ (mn = false ∧ 0 ≤ m)) := by
  obtain ⟨c, r, e, hc⟩ := dec_cons m.natAbs
  have hc45 : c ≠ 45 := by intro e'; rw [e'] at hc; exact absurd hc.1 (by decide)
  rcases hn.parts with ⟨h1, h2⟩ | ⟨h1, h2⟩ <;> rcases h with ⟨rfl, g⟩ | ⟨rfl, g, g'⟩
  · rw [h2] at g
    injection g with _ g
    exact ⟨g.symm, .inl ⟨rfl, h1⟩⟩
  · rw [← g, h2] at g'
    exact absurd rfl g'
  · rw [h2, e] at g
    injection g with g
    exact absurd g hc45
  · exact ⟨g.symm.trans h2, .inr ⟨rfl, h1⟩⟩
def NoNum (sl : List UInt8) : Prop := ∀ m, ¬ IsNum sl m
theorem Src.no_empty {sl dl : List UInt8} {mn : Bool} (h : Src sl dl mn) (he : dl.length = 0) : NoNum sl := fun m hn => by
  have := dec_len_pos m.natAbs
  rw [← (h.num hn).1] at this
  omega
theorem abs_le {sl : List UInt8} {m : Int} (hn : IsNum sl m) : m.natAbs ≤ 9223372036854775808 := by have := hn.lo; have := hn.hi; omega
theorem Src.no_long {sl dl : List UInt8} {mn : Bool} (h : Src sl dl mn) (he : 19 < dl.length) : NoNum sl := fun m hn => by
  have := dec_len_le (abs_le hn)
  rw [← (h.num hn).1] at this
  omega
theorem Src.no_digit {sl dl : List UInt8} {mn : Bool} (h : Src sl dl mn) {k : Nat} (hk : k < dl.length) (he : ¬ IsDig dl[k]) : NoNum sl := fun m hn => by
  have := dec_digs m.natAbs
  rw [← (h.num hn).1] at this
  exact he (this _ (List.getElem_mem hk))
theorem Src.no_big {sl dl : List UInt8} {mn : Bool} (h : Src sl dl mn) {k : Nat} (he : 9223372036854775808 < upTo dl k) : NoNum sl := fun m hn => by
  have h1 := upTo_le dl k
  have h2 := dec_val m.natAbs
  rw [← (h.num hn).1] at h2
  have := abs_le hn
  omega
theorem Src.no_top {sl dl : List UInt8} {mn : Bool} (h : Src sl dl mn) (hm : mn = false) (he : upTo dl dl.length = 9223372036854775808) : NoNum sl := fun m hn => by
  have h2 := dec_val m.natAbs
  obtain ⟨g1, g2⟩ := h.num hn
  rw [← g1] at h2
  rw [upTo_all] at he
  have := hn.hi
  rcases g2 with g2 | g2
  · rw [hm] at g2; exact absurd g2.1 (by decide)
  · omega
/-- what it answers at the end -/
theorem Src.last {sl dl : List UInt8} {mn : Bool} (h : Src sl dl mn) {n : Int} (hn : n = if mn then -(upTo dl dl.length : Int) else (upTo dl dl.length : Int)) (he : Lib.itoa n ≠ sl) : NoNum sl := fun m hm => by
  have h2 := dec_val m.natAbs
  obtain ⟨g1, g2⟩ := h.num hm
  rw [← g1, ← upTo_all] at h2
  apply he
  rw [← hm.eq]
  congr 1
  rcases g2 with ⟨rfl, g2⟩ | ⟨rfl, g2⟩
  · simp only [if_true] at hn; omega
  · simp only [Bool.false_eq_true, if_false] at hn; omega
/-- what Number answers -/
def NumPost (s : ByteArray) (w : World) (e : Ending) (w' : World) : Prop := ∃ (n : Int) (ok : Bool), e = .returned (.tuple #[.int .i64 n, .bool ok]) ∧ w' = w ∧ (ok = true → IsNum s.data.toList n) ∧ (ok = false → NoNum s.data.toList)
theorem NumPost.no {s : ByteArray} {w : World} {n : Int} (h : NoNum s.data.toList) : NumPost s w (.returned (.tuple #[.int .i64 n, .bool false])) w := ⟨n, false, rfl, rfl, fun e => (by cases e), fun _ => h⟩
theorem bs_list (s : ByteArray) : bs s.data.toList = s := by cases s; rfl
theorem bs_eq {l : List UInt8} {s : ByteArray} : bs l = s ↔ l = s.data.toList := by
  constructor
  · intro h; rw [← h]; simp [bs]
  · intro h; rw [h]; exact bs_list s
theorem NumPost.last {s : ByteArray} {w : World} {dl : List UInt8} {mn : Bool} (h : Src s.data.toList dl mn) {n : Int} {ok : Bool} (hn : n = if mn then -(upTo dl dl.length : Int) else (upTo dl dl.length : Int)) (h0 : -9223372036854775808 ≤ n) (h1 : n ≤ 9223372036854775807) (hok : ok = true ↔ bs (Lib.itoa n) = s) :
    NumPost s w (.returned (.tuple #[.int .i64 n, .bool ok])) w := by
  refine ⟨n, ok, rfl, rfl, fun e => ⟨h0, h1, bs_eq.1 (hok.1 e)⟩, fun e => h.last hn (fun e' => ?_)⟩
  have := hok.2 (bs_eq.2 e')
  rw [e] at this
  cases this
theorem sizeList (s : ByteArray) : s.data.toList.length = s.size := by rw [Array.length_toList]; rfl
theorem not_empty {s : ByteArray} (h : 0 < s.size) : s.toList.isEmpty = false := by
  rw [Go.ByteArray.toList_eq]
  cases hd : s.data.toList with
  | nil => have : s.data.toList.length = 0 := by rw [hd]; rfl
           have e : s.data.toList.length = s.size := sizeList s
           omega
  | cons => rfl
theorem is_empty {s : ByteArray} (h : s.size = 0) : s.toList.isEmpty = true := by
  rw [Go.ByteArray.toList_eq]
  have e : s.data.toList.length = s.size := sizeList s
  rw [h] at e
  rw [List.length_eq_zero_iff.1 e]
  rfl
theorem list_at (d : ByteArray) {k : Nat} (h : k < d.size) : ∃ hk : k < d.data.toList.length, d.data.toList[k] = d[k] := ⟨by rw [sizeList]; exact h, rfl⟩
theorem upTo_next (d : ByteArray) {k : Nat} (h : k < d.size) : upTo d.data.toList (k + 1) = upTo d.data.toList k * 10 + (d[k].toNat - 48) := by
  obtain ⟨hl, hg⟩ := list_at d h
  rw [upTo_succ hl, hg]
theorem no_digit_at {d : ByteArray} {sl : List UInt8} {mn : Bool} (hs : Src sl d.data.toList mn) {k : Nat} (h : k < d.size) (he : ¬ IsDig d[k]) : NoNum sl := by
  obtain ⟨hl, hg⟩ := list_at d h
  exact hs.no_digit hl (by rw [hg]; exact he)
theorem str_eq {a b : ByteArray} : (a.toList == b.toList) = true ↔ a = b := by
  rw [Go.ByteArray.toList_eq, Go.ByteArray.toList_eq, beq_iff_eq]
  constructor
  · intro h; exact ByteArray.ext (Array.toList_inj.1 h)
  · intro h; rw [h]
theorem src_minus {s : ByteArray} (h : 0 < s.size) (hm : s[0] = 45) : Src s.data.toList (s.extract 1 s.size).data.toList true := by
  refine .inl ⟨rfl, ?_⟩
  have e : s.data.toList.length = s.size := sizeList s
  have h0 : s.data.toList[0]'(by omega) = 45 := by rw [← hm]; rfl
  rw [ByteArray.data_extract, Array.toList_extract]
  cases hl : s.data.toList with
  | nil => rw [hl] at e; simp at e; omega
  | cons c r =>
    rw [hl] at e
    simp only [hl, List.getElem_cons_zero] at h0
    simp only [List.length_cons] at e
    rw [h0, List.extract, ← e]
    simp
theorem src_plain {s : ByteArray} (h : 0 < s.size) (hm : ¬ s[0] = 45) : Src s.data.toList s.data.toList false := by
  refine .inr ⟨rfl, rfl, fun e => hm ?_⟩
  have e2 : s.data.toList.length = s.size := sizeList s
  cases hl : s.data.toList with
  | nil => rw [hl] at e; cases e
  | cons c r =>
    rw [hl] at e
    have h0 : s.data.toList[0]'(by omega) = s[0] := rfl
    simp only [hl, List.getElem_cons_zero] at h0
    rw [← h0]
    simpa using e
set_option maxHeartbeats 2000000 in
set_option maxRecDepth 100000 in
theorem rnumber_any (s : ByteArray) (w : World) (hs : s.size ≤ 5000) :
    Calls Tryz.prog 17 #[.string s] w fun e w' => NumPost s w e w' := by
  by_cases h0 : s.size = 0
  · have e0 : s.data.toList.length = 0 := by rw [sizeList]; exact h0
    have HN : Hid (NoNum s.data.toList) := Src.no_empty (dl := s.data.toList) (mn := false) (.inr ⟨rfl, rfl, by rw [List.length_eq_zero_iff.1 e0]; simp⟩) e0
    clear e0
    have hse := is_empty h0
    clear h0
    go_enter Tryz.func17, Tryz.ntmps17
    go_wp2
    go_ret2
    exact NumPost.no HN.out
  have hpos : 0 < s.size := by omega
  have hse := not_empty hpos
  clear h0
  by_cases hm : s[0] = 45
  · have HSRC : Hid (Src s.data.toList (s.extract 1 s.size).data.toList true) := src_minus hpos hm
    have hdz : (s.extract 1 s.size).size ≤ 5000 := by simp; omega
    generalize hd : s.extract 1 s.size = d at *
    have HD : Hid (s.extract 1 s.size = d) := hd
    by_cases hd0 : d.size = 0
    · have HN : Hid (NoNum s.data.toList) := HSRC.out.no_empty (by rw [sizeList]; exact hd0)
      have hde := is_empty hd0
      clear hd0
      go_enter Tryz.func17, Tryz.ntmps17
      go_wp2
      go_ret2
      exact NumPost.no HN.out
    have hde := not_empty (Nat.pos_of_ne_zero hd0)
    clear hd0
    by_cases hd1 : 19 < d.size
    · have HN : Hid (NoNum s.data.toList) := HSRC.out.no_long (by rw [sizeList]; exact hd1)
      go_enter Tryz.func17, Tryz.ntmps17
      go_wp2
      go_ret2
      exact NumPost.no HN.out
    go_enter Tryz.func17, Tryz.ntmps17
    go_wp2
    go_loopw [6, 7] (fun n i wr => ∃ k : Nat, k ≤ d.size ∧ i = .int .i64 k ∧ n = .int .i64 (-(upTo d.data.toList k : Int)) ∧ upTo d.data.toList k ≤ 9223372036854775808 ∧ wr = w) (fun _ i _ => d.size - (intOf i).toNat)
    case atStart => exact ⟨0, Nat.zero_le _, rfl, rfl, Nat.zero_le _, rfl⟩
    case round =>
      obtain ⟨k, hk, rfl, rfl, hup, rfl⟩ := hrel
      by_cases hlt : k < d.size
      · have HSUC : Hid (upTo d.data.toList (k + 1) = upTo d.data.toList k * 10 + (d[k].toNat - 48)) := upTo_next d hlt
        have HNO : Hid (¬ IsDig d[k] → NoNum s.data.toList) := fun h => no_digit_at HSRC.out hlt h
        have HBIG : Hid (9223372036854775808 < upTo d.data.toList (k + 1) → NoNum s.data.toList) := fun h => HSRC.out.no_big h
        generalize hv : upTo d.data.toList k = v at *
        clear hv
        by_cases hdg : IsDig d[k]
        · obtain ⟨hd2, hd3⟩ := hdg
          by_cases hov : 9223372036854775808 < v * 10 + (d[k].toNat - 48)
          · have HN : Hid (NoNum s.data.toList) := HBIG.out (by rw [HSUC.out]; exact hov)
            clear HBIG HNO HSUC
            by_cases hv1 : 922337203685477580 < v
            · go_wp2
              go_ret2
              exact NumPost.no HN.out
            · have hv2 : v = 922337203685477580 := by omega
              have hv3 : 56 < d[k].toNat := by omega
              subst hv2
              go_wp2
              go_ret2
              exact NumPost.no HN.out
          · have hv4 : v ≤ 922337203685477580 := by omega
            go_wp2
            all_goals exact ⟨⟨k + 1, by omega, by go_num, by rw [HSUC.out]; exact congrArg (Value.int .i64) (by omega), by rw [HSUC.out]; omega, trivial⟩, by simp [intOf]; omega⟩
        · have HN : Hid (NoNum s.data.toList) := HNO.out hdg
          have hdg' : d[k].toNat < 48 ∨ 57 < d[k].toNat := by unfold IsDig at hdg; omega
          clear HBIG HNO HSUC hdg
          rcases hdg' with hd2 | hd2
          · go_wp2
            go_ret2
            exact NumPost.no HN.out
          · go_wp2
            go_ret2
            exact NumPost.no HN.out
      · have hke : k = d.size := by omega
        subst hke
        clear hlt hk
        have HV : Hid (upTo d.data.toList d.data.toList.length = upTo d.data.toList d.size) := by show _ = _; rw [sizeList]
        generalize hV : upTo d.data.toList d.size = V at *
        clear hV
        go_wp2_with (go_at_call 26; refine (decimal_any _ _ (by omega) (by omega)).mono ?_; rintro e w' ⟨rfl, rfl⟩)
        go_ret2
        exact NumPost.last HSRC.out (by rw [HV.out]; rfl) (by omega) (by omega) str_eq
  · have HSRC : Hid (Src s.data.toList s.data.toList false) := src_plain hpos hm
    have hm' : ¬ s[0].toNat = 45 := fun e => hm (UInt8.toNat_inj.1 e)
    have hb0 : ((s[0].toNat : Int) == 45) = false := by simp; omega
    by_cases hd1 : 19 < s.size
    · have HN : Hid (NoNum s.data.toList) := HSRC.out.no_long (by rw [sizeList]; exact hd1)
      go_enter Tryz.func17, Tryz.ntmps17
      go_wp2
      go_ret2
      exact NumPost.no HN.out
    go_enter Tryz.func17, Tryz.ntmps17
    go_wp2
    go_loopw [6, 7] (fun n i wr => ∃ k : Nat, k ≤ s.size ∧ i = .int .i64 k ∧ n = .int .i64 (-(upTo s.data.toList k : Int)) ∧ upTo s.data.toList k ≤ 9223372036854775808 ∧ wr = w) (fun _ i _ => s.size - (intOf i).toNat)
    case atStart => exact ⟨0, Nat.zero_le _, rfl, rfl, Nat.zero_le _, rfl⟩
    case round =>
      obtain ⟨k, hk, rfl, rfl, hup, rfl⟩ := hrel
      by_cases hlt : k < s.size
      · have HSUC : Hid (upTo s.data.toList (k + 1) = upTo s.data.toList k * 10 + (s[k].toNat - 48)) := upTo_next s hlt
        have HNO : Hid (¬ IsDig s[k] → NoNum s.data.toList) := fun h => no_digit_at HSRC.out hlt h
        have HBIG : Hid (9223372036854775808 < upTo s.data.toList (k + 1) → NoNum s.data.toList) := fun h => HSRC.out.no_big h
        generalize hv : upTo s.data.toList k = v at *
        clear hv
        by_cases hdg : IsDig s[k]
        · obtain ⟨hd2, hd3⟩ := hdg
          by_cases hov : 9223372036854775808 < v * 10 + (s[k].toNat - 48)
          · have HN : Hid (NoNum s.data.toList) := HBIG.out (by rw [HSUC.out]; exact hov)
            clear HBIG HNO HSUC
            by_cases hv1 : 922337203685477580 < v
            · go_wp2
              go_ret2
              exact NumPost.no HN.out
            · have hv2 : v = 922337203685477580 := by omega
              have hv3 : 56 < s[k].toNat := by omega
              subst hv2
              go_wp2
              go_ret2
              exact NumPost.no HN.out
          · have hv4 : v ≤ 922337203685477580 := by omega
            go_wp2
            all_goals exact ⟨⟨k + 1, by omega, by go_num, by rw [HSUC.out]; exact congrArg (Value.int .i64) (by omega), by rw [HSUC.out]; omega, trivial⟩, by simp [intOf]; omega⟩
        · have HN : Hid (NoNum s.data.toList) := HNO.out hdg
          have hdg' : s[k].toNat < 48 ∨ 57 < s[k].toNat := by unfold IsDig at hdg; omega
          clear HBIG HNO HSUC hdg
          rcases hdg' with hd2 | hd2
          · go_wp2
            go_ret2
            exact NumPost.no HN.out
          · go_wp2
            go_ret2
            exact NumPost.no HN.out
      · have hke : k = s.size := by omega
        subst hke
        clear hlt hk
        have HV : Hid (upTo s.data.toList s.data.toList.length = upTo s.data.toList s.size) := by show _ = _; rw [sizeList]
        generalize hV : upTo s.data.toList s.size = V at *
        clear hV
        by_cases htop : V = 9223372036854775808
        · have HN : Hid (NoNum s.data.toList) := HSRC.out.no_top rfl (by rw [HV.out]; exact htop)
          subst htop
          go_wp2
          go_ret2
          exact NumPost.no HN.out
        · have hwr : wrap64 (V : Int) = (V : Int) := by simp only [wrap64]; omega
          go_wp2_with (go_at_call 26; refine (decimal_any _ _ (by omega) (by omega)).mono ?_; rintro e w' ⟨rfl, rfl⟩)
          go_ret2
          exact NumPost.last HSRC.out (by rw [HV.out]; rfl) (by omega) (by omega) str_eq
end Go.Proofs.YtlcmllmphpllbaaGreatDoor
