/- ops.Named, texts.readLine, readLines, build, Read, thrift.Read, the book's read and the law Reads, walked. -/
import Derived.Test.YtlcmllmphpllbaaGreatDoorRi
import Derived.Test.YtlcmllmphpllbaaGreatDoorRe
import Derived.Test.YtlcmllmphpllbaaGreatDoorXh
import Derived.Test.YtlcmllmphpllbaaGreatDoorRg
import Derived.Test.YtlcmllmphpllbaaGreatDoorRd
import Derived.Test.YtlcmllmphpllbaaGreatDoorXm
import Derived.Test.YtlcmllmphpllbaaGreatDoorNb
import Derived.Test.YtlcmllmphpllbaaGreatDoorNc
namespace Go.Proofs.YtlcmllmphpllbaaGreatDoor
open Go.RowKit

/-- the words below i are not t -/
def NotTo (t : ByteArray) (i : Nat) : Prop := ∀ j : Nat, 1 ≤ j → j < i → bs (wordL (j : Int)) ≠ t
theorem opTo_hit {t : ByteArray} {i : Nat} (h1 : 1 ≤ i) (h2 : i ≤ 8) (h : bs (wordL (i : Int)) = t) : opTo t 8 = i := by
  by_cases e : opTo t 8 = 0
  · exact absurd h (opTo_none t 8 e i h1 h2)
  · have hw := opTo_word t 8 e
    have := word_inj (nat_known (by omega) (opTo_le t 8)) (nat_known h1 h2) (hw.trans h.symm)
    omega
theorem opTo_miss {t : ByteArray} (h : NotTo t 9) : opTo t 8 = 0 := by
  by_cases e : opTo t 8 = 0
  · exact e
  · have := opTo_le t 8
    exact absurd (opTo_word t 8 e) (h (opTo t 8) (by omega) (by omega))
/-- what Named answers -/
def NamedPost (t : ByteArray) (w : World) (e : Ending) (w' : World) : Prop := Below w.heap.size w w' ∧
  ((opTo t 8 = 0 ∧ e = .returned (.tuple #[.int .i64 0, .agg #[.string ⟨#[]⟩, .slice none 0 0, .nilFunc, .nilFunc, .nilFunc], .bool false])) ∨ (opTo t 8 ≠ 0 ∧ ∃ b, e = .returned (.tuple #[.int .i64 (opTo t 8 : Nat), .agg (kindCells (opTo t 8 : Nat) b), .bool true]) ∧ SaysAt w' b (opTo t 8 : Nat)))
theorem kind_lit (op : Int) (b : Nat) : Value.agg (kindCells op b) = .agg #[.string (bs (wordL op)), .slice (some ⟨b, 0, none⟩) (saysZ op).length (saysZ op).length, .func (.func (shapeF op)) #[] #[], .func (.func (costF op)) #[] #[], .func (.func (atF op)) #[] #[]] := rfl
theorem alX {b : Nat} (X : World) (o : Obj) (x : Nat) (h : b < X.heap.size) : (X.alloc o).cell? ⟨b, x, none⟩ = X.cell? ⟨b, x, none⟩ := al1 h o x
theorem SaysAt.keeps {w w' : World} {b : Nat} {op : Int} {S : Nat → Prop} (h : SaysAt w b op) (hk : Keeps S w w') (hs : ¬ S b) : SaysAt w' b op :=
  ⟨Nat.lt_of_lt_of_le h.1 hk.size, fun j hj => (hk.cell (by exact h.1) hs).trans (h.2 j hj)⟩
theorem says_ne {w : World} {b g : Nat} {op : Int} {t : ByteArray} (h : SaysAt w b op) (z : w.cell? ⟨g, 0, none⟩ = some (.string t)) : ¬ b = g := fun e => by
  subst e
  have := h.2 0 (says_len op).1
  rw [z] at this
  cases this
theorem five_keeps (w : World) (b : Nat) (c0 c1 c2 c3 c4 : Value) : Keeps (fun k => k = b) w (((((w.setCell ⟨b, 0, none⟩ c0).setCell ⟨b, 1, none⟩ c1).setCell ⟨b, 2, none⟩ c2).setCell ⟨b, 3, none⟩ c3).setCell ⟨b, 4, none⟩ c4) := by
  refine Keeps.setCell (S := fun k => k = b) (p := ⟨b, 4, none⟩) ?_ (.inl rfl) _
  refine Keeps.setCell (S := fun k => k = b) (p := ⟨b, 3, none⟩) ?_ (.inl rfl) _
  refine Keeps.setCell (S := fun k => k = b) (p := ⟨b, 2, none⟩) ?_ (.inl rfl) _
  refine Keeps.setCell (S := fun k => k = b) (p := ⟨b, 1, none⟩) ?_ (.inl rfl) _
  refine Keeps.setCell (S := fun k => k = b) (p := ⟨b, 0, none⟩) ?_ (.inl rfl) _
  exact Keeps.refl _ _
/-- five cells in a block -/
structure Cells5 (w : World) (b : Nat) (c0 c1 c2 c3 c4 : Value) : Prop where
  lt : b < w.heap.size
  x0 : w.cell? ⟨b, 0, none⟩ = some c0
  x1 : w.cell? ⟨b, 1, none⟩ = some c1
  x2 : w.cell? ⟨b, 2, none⟩ = some c2
  x3 : w.cell? ⟨b, 3, none⟩ = some c3
  x4 : w.cell? ⟨b, 4, none⟩ = some c4
  fz : ∀ i, w.frozen? ⟨b, i, none⟩ = false
theorem Cells5.below {w w' : World} {b B : Nat} {c0 c1 c2 c3 c4 : Value} (h : Cells5 w b c0 c1 c2 c3 c4) (hb : Below B w w') (hB : b < B) : Cells5 w' b c0 c1 c2 c3 c4 :=
  ⟨Nat.lt_of_lt_of_le h.lt hb.size, (hb.cell (by exact hB)).trans h.x0, (hb.cell (by exact hB)).trans h.x1, (hb.cell (by exact hB)).trans h.x2, (hb.cell (by exact hB)).trans h.x3, (hb.cell (by exact hB)).trans h.x4, fun i => (hb.frozen (by exact hB)).trans (h.fz i)⟩
set_option maxHeartbeats 4000000 in
set_option maxRecDepth 100000 in
theorem named_any (t : ByteArray) (w : World) :
    Calls Tryz.prog 30 #[.string t] w fun e w' => NamedPost t w e w' := by
  go_enter Tryz.func30, Tryz.ntmps30
  go_wp2
  go_loopw [5] (fun v wr => ∃ i : Nat, 1 ≤ i ∧ i ≤ 9 ∧ v = .int .i64 i ∧ Hid (NotTo t i) ∧ Cells5 wr w.heap.size (.string ⟨#[]⟩) (.slice none 0 0) .nilFunc .nilFunc .nilFunc ∧ Below w.heap.size w wr) (fun v _ => 9 - (intOf v).toNat)
  case atStart => exact ⟨1, Nat.le_refl _, by omega, rfl, (fun j h1 h2 => by omega : NotTo t 1), ⟨by simp, by simp [go_sem], by simp [go_sem], by simp [go_sem], by simp [go_sem], by simp [go_sem], by simp [go_sem]⟩, Bl.more (Bl.refl _) _⟩
  case round =>
    obtain ⟨i, h1, h2, rfl, HN, hC, hbr⟩ := hrel
    have HC : Hid (Cells5 wr w.heap.size (.string ⟨#[]⟩) (.slice none 0 0) .nilFunc .nilFunc .nilFunc) := hC
    have hcl := hC.lt
    by_cases hlt : i ≤ 8
    · have HO : Hid ((i : Int) = 1 ∨ (i : Int) = 2 ∨ (i : Int) = 3 ∨ (i : Int) = 4 ∨ (i : Int) = 5 ∨ (i : Int) = 6 ∨ (i : Int) = 7 ∨ (i : Int) = 8) := nat_known h1 hlt
      by_cases e : bs (wordL (i : Int)) = t
      · have HOP : Hid (opTo t 8 = i) := opTo_hit h1 hlt e
        have hb : ((bs (wordL (i : Int))).toList == t.toList) = true := str_eq.2 e
        clear e
        go_wp2_with (first
          | (go_at_call 33; refine (known_yes (i : Int) _ HO.out).mono ?_; rintro e w1 ⟨b, rfl, hs1, hb1⟩; rw [kind_lit]; have HS1 : Hid (SaysAt w1 b i) := hs1; have HB1 : Hid (Below w.heap.size w w1) := Bl.trans hbr hb1; have HC1 := HC.out.below hb1 hcl; obtain ⟨zl, z0, z1, z2, z3, z4, zf⟩ := HC1; clear hs1)
          | fail)
        go_region_with (fail)
        all_goals
          go_wp2
          refine bodyPost_ret (v := .tuple #[.int .i64 (i : Nat), .agg #[.string (bs (wordL (i : Int))), .slice (some ⟨b, 0, none⟩) (saysZ (i : Int)).length (saysZ (i : Int)).length, .func (.func (shapeF (i : Int))) #[] #[], .func (.func (costF (i : Int))) #[] #[], .func (.func (atF (i : Int))) #[] #[]], .bool true]) (by simp [results, Tryz.results30, go_sem, alX, zl, z0, z1, z2, z3, z4]) rfl ?_
          refine ⟨?_, .inr ⟨by rw [HOP.out]; omega, b, by rw [HOP.out, kind_lit], ?_⟩⟩
          · exact Below.drew (Below.alloc (((((HB1.out.setCell (by exact Nat.le_refl _) _).setCell (by exact Nat.le_refl _) _).setCell (by exact Nat.le_refl _) _).setCell (by exact Nat.le_refl _) _).setCell (by exact Nat.le_refl _) _) (by simp; omega) _)
          · rw [HOP.out]
            refine HS1.out.keeps (S := fun k => k = w.heap.size) ?_ (says_ne HS1.out z0)
            refine Keeps.drew (Keeps.alloc ?_ _)
            exact five_keeps w1 w.heap.size _ _ _ _ _
      · have hb : ((bs (wordL (i : Int))).toList == t.toList) = false := by
          cases hq : ((bs (wordL (i : Int))).toList == t.toList) with
          | false => rfl
          | true => exact absurd (str_eq.1 hq) e
        have HN2 : Hid (NotTo t (i + 1)) := fun j g1 g2 => by
          by_cases ej : j = i
          · subst ej; exact e
          · exact HN.out j g1 (by omega)
        clear e
        go_wp2_with (first
          | (go_at_call 33; refine (known_yes (i : Int) _ HO.out).mono ?_; rintro e w1 ⟨b, rfl, hs1, hb1⟩; rw [kind_lit]; have HB1 : Hid (Below w.heap.size w w1) := Bl.trans hbr hb1; have HC1 : Hid (Cells5 w1 w.heap.size (.string ⟨#[]⟩) (.slice none 0 0) .nilFunc .nilFunc .nilFunc) := HC.out.below hb1 hcl; clear hs1)
          | fail)
        exact ⟨⟨i + 1, by omega, by omega, by go_num, HN2, HC1.out.below (Bl.more (Bl.refl _) _) HC1.out.lt, Bl.more HB1.out _⟩, by simp [intOf]; omega⟩
    · have hi9 : i = 9 := by omega
      subst hi9
      have HOP : Hid (opTo t 8 = 0) := opTo_miss HN.out
      obtain ⟨zl, z0, z1, z2, z3, z4, zf⟩ := hC
      go_wp2
      refine bodyPost_ret (v := .tuple #[.int .i64 0, .agg #[.string ⟨#[]⟩, .slice none 0 0, .nilFunc, .nilFunc, .nilFunc], .bool false]) (by simp [results, Tryz.results30, go_sem, z0, z1, z2, z3, z4]) rfl ⟨?_, .inl ⟨HOP.out, rfl⟩⟩
      exact ((((hbr.setCell (by exact Nat.le_refl _) _).setCell (by exact Nat.le_refl _) _).setCell (by exact Nat.le_refl _) _).setCell (by exact Nat.le_refl _) _).setCell (by exact Nat.le_refl _) _
end Go.Proofs.YtlcmllmphpllbaaGreatDoor
namespace Go.Proofs.YtlcmllmphpllbaaGreatDoor
open Go.RowKit

theorem alF {w : World} {b : Nat} (h : b < w.heap.size) (o : Obj) (i : Nat) : (w.alloc o).frozen? ⟨b, i, none⟩ = w.frozen? ⟨b, i, none⟩ := by
  have hb : Below w.heap.size w (w.alloc o) := Bl.more (Bl.refl w) o
  exact hb.frozen (p := ⟨b, i, none⟩) h
theorem putAll_snoc : ∀ (fs l : List Int) (f x : Int) (n : Nd), fs.length = l.length → putAll (fs ++ [f]) (l ++ [x]) n = putZ f (putAll fs l n) x
  | [], [], f, x, n, _ => rfl
  | [], _ :: _, _, _, _, h => by simp at h
  | _ :: _, [], _, _, _, h => by simp at h
  | g :: fs, y :: l, f, x, n, h => by
    simp only [List.cons_append, putAll]
    exact putAll_snoc fs l f x _ (by simpa using h)
theorem line_fields {ws : List ByteArray} {t : ByteArray} {o : Nat} (hw : ws.head? = some t) (ho : opTo t 8 = o) (h0 : o ≠ 0) {l : List Int} (hn : NumsAre ws.tail l) (hl : l.length = (saysZ (o : Int)).length) : LineYes ws (putAll (saysZ (o : Int)) l (bare (o : Int))) := by
  subst ho
  exact line_of_op hw hn h0 hl
theorem line_short {ws : List ByteArray} {t : ByteArray} {o : Nat} (hw : ws.head? = some t) (ho : opTo t 8 = o) (h0 : o ≠ 0) (hl : ¬ ws.length = 1 + (saysZ (o : Int)).length) (h1 : 1 ≤ ws.length) : LineNo ws := by
  rintro n ⟨op, l, hs⟩
  subst ho
  have e : op = (opTo t 8 : Int) := word_inj hs.known (nat_known (by omega) (opTo_le t 8)) (by
    have := hs.word.symm.trans hw
    rw [opTo_word t 8 h0]
    simpa using this)
  have h2 := hs.len
  have h3 := hs.nums.1
  rw [e] at h2
  simp at h3
  omega
set_option maxHeartbeats 40000000 in
set_option maxRecDepth 100000 in
theorem pline_any (s : ByteArray) (w : World) (he : Env w) (hs : s.size ≤ 5000) :
    Calls Tryz.prog 24 #[.string s] w fun e w' => LinePost (segs s 32) w e w' := by
  have HE : Hid (Env w) := he
  clear he
  have hl1 := segs_ne s 32
  have hl2 := segs_len s 32
  have HSM : Hid (∀ i, (h : i < (segs s 32).length) → (segs s 32)[i].size ≤ s.size) := fun i h => segs_small s 32 h
  have HSP := fun w he => split_txt s 32 w he hs
  generalize hws : segs s 32 = ws at *
  clear hws
  have HS : Hid (∀ w : World, Env w → Calls Tryz.prog 22 #[.string s, .string ⟨#[32]⟩] w fun e w' => e = .returned (.slice (some ⟨w.heap.size, 0, none⟩) ws.length ws.length) ∧ Texts w' (some ⟨w.heap.size, 0, none⟩) ws ∧ Below w.heap.size w w') := HSP
  clear HSP
  obtain ⟨t, hh⟩ : ∃ t, ws.head? = some t := by
    cases ws with
    | nil => simp at hl1
    | cons t r => exact ⟨t, rfl⟩
  have HH : Hid (ws.head? = some t) := hh
  have h0 : ws[0] = t := by
    have e : ws.head? = ws[0]? := List.head?_eq_getElem? ..
    rw [e, List.getElem?_eq_getElem (by omega)] at hh
    exact Option.some.inj hh
  clear hh
  go_enter Tryz.func24, Tryz.ntmps24
  go_wp2_with fail
  refine (HS.out _ (HE.out.below (Bl.more (Bl.refl _) _))).mono ?_
  rintro e w1 ⟨rfl, ht1, hb1⟩
  have e1 : ∀ o, (w.alloc o).heap.size = w.heap.size + 1 := fun o => by simp
  rw [e1] at ht1 hb1
  simp only [e1]
  have HT1 : Hid (Texts w1 (some ⟨w.heap.size + 1, 0, none⟩) ws) := ht1
  have HB1 : Hid (Below w.heap.size w w1) := (Bl.more (Bl.refl _) _).trans (hb1.mono (by omega))
  have HZ1 : Hid (NdCell w1 w.heap.size zeroNd) := NdCell.mono2 (B := w.heap.size + 1) (by refine ⟨by simp, by simp [go_sem, zeroNd], by simp [go_sem, zeroNd], by simp [go_sem, zeroNd], by simp [go_sem, zeroNd], by simp [go_sem, zeroNd], by simp [go_sem, zeroNd], by simp [go_sem]⟩) hb1 (by omega)
  obtain ⟨bt, ot, et, hbt, c0⟩ := ht1 0 (by omega)
  cases et
  rw [h0] at c0
  clear ht1 hb1 h0
  go_wp2_with fail
  refine (named_any t _).mono ?_
  rintro e w2 ⟨hb2, ⟨ho, rfl⟩ | ⟨ho, b, rfl, hs2⟩⟩
  · have HN : Hid (LineNo ws) := no_word HH.out ho
    have HB2 : Hid (Below w.heap.size w w2) := Bl.trans HB1.out hb2
    obtain ⟨zl, z0, z1, z2, z3, z4, z5, zf⟩ := HZ1.out.below hb2
    simp only [zeroNd] at z0 z1 z2 z3 z4 z5
    have hal := al1 zl
    have haf : ∀ o i, (w2.alloc o).frozen? ⟨w.heap.size, i, none⟩ = false := fun o i => (alF zl o i).trans (zf i)
    go_wp2
    refine bodyPost_ret (v := .tuple #[.agg zeroNd.vals, .bool false]) (by simp [results, Tryz.results24, go_sem, alX, zl, zeroNd, Nd.vals, z0, z1, z2, z3, z4, z5]) rfl ⟨zeroNd, false, rfl, ?_, fun e => (by cases e), fun _ => HN.out⟩
    exact Below.alloc ((((((HB2.out.setCell (by exact Nat.le_refl _) _).setCell (by exact Nat.le_refl _) _).setCell (by exact Nat.le_refl _) _).setCell (by exact Nat.le_refl _) _).setCell (by exact Nat.le_refl _) _).setCell (by exact Nat.le_refl _) _) (by have := HB2.out.size; simpa using this) _
  · have hbs := opTo_le t 8
    have HOP : Hid (opTo t 8 = opTo t 8) := rfl
    obtain ⟨o, ho'⟩ : ∃ o, opTo t 8 = o := ⟨_, rfl⟩
    rw [ho'] at ho hs2 hbs ⊢
    have HO : Hid (opTo t 8 = o) := ho'
    clear ho' HOP
    rw [kind_lit]
    have HS2 : Hid (SaysAt w2 b o) := hs2
    have HB2 : Hid (Below w.heap.size w w2) := Bl.trans HB1.out hb2
    have HT2 : Hid (Texts w2 (some ⟨w.heap.size + 1, 0, none⟩) ws) := HT1.out.below hb2
    have HZ2 : Hid (NdCell w2 w.heap.size zeroNd) := HZ1.out.below hb2
    have hsl := says_len (o : Int)
    clear hs2 hb2 c0
    generalize hwd : bs (wordL (o : Int)) = wd
    generalize hsf : shapeF (o : Int) = sf
    generalize hcf : costF (o : Int) = cf
    generalize haf : atF (o : Int) = af
    clear hwd hsf hcf haf
    by_cases hlen : ws.length = 1 + (saysZ (o : Int)).length
    · go_wp2
      go_loopw [40] (fun v wr => ∃ (m : Nat) (l : List Int), m ≤ (saysZ (o : Int)).length ∧ v = .int .i64 m ∧ Hid (l.length = m) ∧ Hid (NumsAre (ws.tail.take m) l) ∧ NdCell wr (w2.heap.size + 1) (putAll ((saysZ (o : Int)).take m) l (bare o)) ∧ Below w2.heap.size w2 wr) (fun v _ => (saysZ (o : Int)).length - (intOf v).toNat)
      case atStart => exact ⟨0, [], Nat.zero_le _, rfl, (rfl : ([] : List Int).length = 0), (by have := NumsAre.nil; simpa using this : NumsAre (ws.tail.take 0) []), ⟨by simp, by simp [go_sem, putAll, bare], by simp [go_sem, putAll, bare], by simp [go_sem, putAll, bare], by simp [go_sem, putAll, bare], by simp [go_sem, putAll, bare], by simp [go_sem, putAll, bare], fun j => by simp [go_sem]⟩, Bl.more (Bl.more (Bl.refl _) _) _⟩
      case round =>
        obtain ⟨m, l, hm, rfl, HLm, HNm, hC, hbr⟩ := hrel
        have HC : Hid (NdCell wr (w2.heap.size + 1) (putAll ((saysZ (o : Int)).take m) l (bare o))) := hC
        have HBr : Hid (Below w.heap.size w wr) := HB2.out.trans (hbr.mono HB2.out.size)
        have hws : w.heap.size < w2.heap.size := HZ2.out.1
        by_cases hlt : m < (saysZ (o : Int)).length
        · have cs := (HS2.out.below hbr).2 m hlt
          have hbl := (HS2.out.below hbr).1
          have hf := says_mem (o : Int) m hlt
          have h1m : 1 + m < ws.length := by omega
          have hsm := HSM.out (1 + m) h1m
          obtain ⟨bt', ot', et', hbt', ct⟩ := HT2.out.below hbr (1 + m) h1m
          cases et'
          rw [Nat.zero_add] at ct
          have HT : Hid (putAll ((saysZ (o : Int)).take (m + 1)) (l ++ [0]) (bare o) = putAll ((saysZ (o : Int)).take (m + 1)) (l ++ [0]) (bare o)) := rfl
          have HPUT : Hid (∀ x, putAll ((saysZ (o : Int)).take (m + 1)) (l ++ [x]) (bare o) = putZ (saysZ (o : Int))[m] (putAll ((saysZ (o : Int)).take m) l (bare o)) x) := fun x => by
            rw [List.take_succ_eq_append_getElem hlt]
            exact putAll_snoc _ _ _ _ _ (by rw [HLm.out, List.length_take]; omega)
          have HPN : Hid (∀ x, IsNum ws[1 + m].data.toList x → NumsAre (ws.tail.take (m + 1)) (l ++ [x])) := fun x hx => by
            have e2 : ws.tail.length = ws.length - 1 := by simp
            have e3 : m + 1 = 1 + m := by omega
            rw [List.take_succ_eq_append_getElem (by omega), List.getElem_tail]
            refine HNm.out.push ?_
            simp only [e3]
            exact hx
          clear HT
          generalize (saysZ (o : Int))[m] = f at *
          generalize putAll ((saysZ (o : Int)).take m) l (bare o) = nd at *
          obtain ⟨z3, d0, d1, d2, d3, d4, d5, fr⟩ := hC
          obtain ⟨zl, z0, z1, z2, z3', z4, z5, zf⟩ := NdCell.below HZ2.out hbr
          simp only [zeroNd] at z0 z1 z2 z3' z4 z5
          go_wp2_with (first
            | (go_at_call 31; refine (pnumber_any ws[1 + m] _ (HE.out.below HBr.out) (by omega)).mono ?_; rintro e w3 ⟨n, ok, rfl, hb3, hy, hno⟩; have HY : Hid ((ok = true → IsNum ws[1 + m].data.toList n) ∧ (ok = false → NoNum ws[1 + m].data.toList)) := ⟨hy, hno⟩; clear hy hno; obtain ⟨y3, x0, x1, x2, x3, x4, x5, xr⟩ := NdCell.below HC.out hb3; obtain ⟨ql, q0, q1, q2, q3, q4, q5, qf⟩ := NdCell.below (NdCell.below HZ2.out hbr) hb3; simp only [zeroNd] at q0 q1 q2 q3 q4 q5; cases ok)
            | (go_at_call 32; refine (put_lit _ _ _ _ _ _ _ _ _ hf).mono ?_; rintro e w4 ⟨s', hs', rfl, hb4⟩; obtain ⟨y4, g0, g1, g2, g3, g4, g5, gr⟩ := NdCell.below (NdCell.below HC.out hb3) hb4)
            | fail)
          · have HN : Hid (LineNo ws) := no_num h1m (by omega) (HY.out.2 (by first | rfl | trivial))
            refine bodyPost_ret (v := .tuple #[.agg zeroNd.vals, .bool false]) (by simp [results, Tryz.results24, go_sem, zeroNd, Nd.vals, q0, q1, q2, q3, q4, q5]) rfl ⟨zeroNd, false, rfl, ?_, fun e => (by cases e), fun _ => HN.out⟩
            exact (((((((HBr.out.trans (hb3.mono HBr.out.size)).setCell (by exact Nat.le_refl _) _).setCell (by exact Nat.le_refl _) _).setCell (by exact Nat.le_refl _) _).setCell (by exact Nat.le_refl _) _).setCell (by exact Nat.le_refl _) _).setCell (by exact Nat.le_refl _) _)
          · have e1 : putAll ((saysZ (o : Int)).take (m + 1)) (l ++ [n]) (bare o) = s' := by rw [HPUT.out, hs'.out]
            have hb5 : Below w2.heap.size w2 w4 := Bl.trans (Bl.trans hbr hb3) hb4
            exact ⟨⟨m + 1, l ++ [n], by omega, by go_num, (by simp [HLm.out] : (l ++ [n]).length = m + 1), HPN.out n (HY.out.1 (by first | rfl | trivial)), (by rw [e1]; exact NdCell.put (NdCell.below (NdCell.below HC.out hb3) hb4) s'), NdCell.belowPut (n := s') hb5 (by omega)⟩, by simp [intOf]; omega⟩
        · have hme : m = (saysZ (o : Int)).length := by omega
          have HY : Hid (LineYes ws (putAll ((saysZ (o : Int)).take m) l (bare o))) := by
            have e2 : ws.tail.length = ws.length - 1 := by simp
            have hn := HNm.out
            rw [List.take_of_length_le (by omega)] at hn
            have := line_fields HH.out HO.out ho hn (by rw [HLm.out, hme])
            rw [List.take_of_length_le (by omega)]
            exact this
          generalize putAll ((saysZ (o : Int)).take m) l (bare o) = nd at *
          obtain ⟨z3, d0, d1, d2, d3, d4, d5, fr⟩ := hC
          obtain ⟨zl, z0, z1, z2, z3', z4, z5, zf⟩ := NdCell.below HZ2.out hbr
          simp only [zeroNd] at z0 z1 z2 z3' z4 z5
          clear hme
          go_wp2
          refine bodyPost_ret (v := .tuple #[.agg nd.vals, .bool true]) (by simp [results, Tryz.results24, go_sem, Nd.vals, z0, z1, z2, z3', z4, z5]) rfl ⟨nd, true, rfl, ?_, fun _ => HY.out, fun e => (by cases e)⟩
          exact ((((((HBr.out.setCell (by exact Nat.le_refl _) _).setCell (by exact Nat.le_refl _) _).setCell (by exact Nat.le_refl _) _).setCell (by exact Nat.le_refl _) _).setCell (by exact Nat.le_refl _) _).setCell (by exact Nat.le_refl _) _)
    · have HN : Hid (LineNo ws) := line_short HH.out HO.out ho hlen hl1
      obtain ⟨zl, z0, z1, z2, z3, z4, z5, zf⟩ := HZ2.out
      simp only [zeroNd] at z0 z1 z2 z3 z4 z5
      have hal := al1 zl
      have haf : ∀ o i, (w2.alloc o).frozen? ⟨w.heap.size, i, none⟩ = false := fun o i => (alF zl o i).trans (zf i)
      go_wp2
      refine bodyPost_ret (v := .tuple #[.agg zeroNd.vals, .bool false]) (by simp [results, Tryz.results24, go_sem, alX, zl, zeroNd, Nd.vals, z0, z1, z2, z3, z4, z5]) rfl ⟨zeroNd, false, rfl, ?_, fun e => (by cases e), fun _ => HN.out⟩
      exact Below.alloc ((((((HB2.out.setCell (by exact Nat.le_refl _) _).setCell (by exact Nat.le_refl _) _).setCell (by exact Nat.le_refl _) _).setCell (by exact Nat.le_refl _) _).setCell (by exact Nat.le_refl _) _).setCell (by exact Nat.le_refl _) _) (by have := HB2.out.size; simpa using this) _
end Go.Proofs.YtlcmllmphpllbaaGreatDoor
namespace Go.Proofs.YtlcmllmphpllbaaGreatDoor
open Go.RowKit

/-- what readLines answers -/
def PLinesPost (ls : List ByteArray) (w : World) (e : Ending) (w' : World) : Prop := Below w.heap.size w w' ∧
  ((∃ (m : Nat) (ns : List Nd), m < ls.length ∧ linesF ls m = some ns ∧ linesF ls (m + 1) = none ∧ e = .returned (.tuple #[.slice none 0 0, .int .i64 (m : Int), .bool false])) ∨
   (∃ (v : Value) (ns : List Nd), linesF ls ls.length = some ns ∧ e = .returned (.tuple #[v, .int .i64 0, .bool true]) ∧ w'.ownsRow w.heap.size 42 6 v ns.length (cellsOf ns)))
theorem trim_txt (s : ByteArray) (w : World) (hs : s.size ≤ 5000) :
    Calls Tryz.prog 23 #[.string s, .string ⟨#[10]⟩] w fun e w' => e = .returned (.string (trimS s)) ∧ w' = w := by
  refine (Tryz.strings_TrimSuffix s ⟨#[10]⟩ w (by omega)).mono ?_
  rintro e w' ⟨rfl, rfl⟩
  rw [trim_eq]
  exact ⟨rfl, rfl⟩
theorem ownsRow_base {w : World} {B B' e size n : Nat} {v : Value} {xs : List Value} (h : w.ownsRow B e size v n xs) (hB : B' ≤ B) : w.ownsRow B' e size v n xs := by
  rcases h with ⟨h0, h | ⟨g, cap, cur, h1, hb, r⟩⟩
  · exact ⟨h0, .inl h⟩
  · exact ⟨h0, .inr ⟨g, cap, cur, h1, by omega, r⟩⟩
set_option maxHeartbeats 40000000 in
set_option maxRecDepth 100000 in
theorem plines_any (s : ByteArray) (w : World) (he : Env w) (hs : s.size ≤ 4000) :
    Calls Tryz.prog 15 #[.string s] w fun e w' => PLinesPost (linesOf s) w e w' := by
  have HE : Hid (Env w) := he
  clear he
  obtain ⟨i0, hi, hz0, hz1, hz2⟩ := info_parts infoNd
  have HI : Hid (i0.zero = some (.agg #[.int .i64 0, .int .i64 0, .int .i64 0, .int .i64 0, .int .i64 0, .int .i64 0]) ∧ i0.size = 6 ∧ i0.bytes = 48 ∧ Tryz.prog.info? 42 = some i0) := ⟨hz0, hz1, hz2, hi⟩
  clear hi hz0 hz1 hz2
  have hts := trim_size s
  have HTR := fun w => trim_txt s w (by omega)
  have HSP := fun w he => split_txt (trimS s) 10 w he (by omega)
  have hl1 : 1 ≤ (linesOf s).length := segs_ne (trimS s) 10
  have hl2 : (linesOf s).length ≤ (trimS s).size + 1 := segs_len (trimS s) 10
  have HSM : Hid (∀ i, (h : i < (linesOf s).length) → (linesOf s)[i].size ≤ s.size) := fun i h => Nat.le_trans (segs_small (trimS s) 10 h) hts
  have HT : Hid (∀ w : World, Calls Tryz.prog 23 #[.string s, .string ⟨#[10]⟩] w fun e w' => e = .returned (.string (trimS s)) ∧ w' = w) := HTR
  have HS : Hid (∀ w : World, Env w → Calls Tryz.prog 22 #[.string (trimS s), .string ⟨#[10]⟩] w fun e w' => e = .returned (.slice (some ⟨w.heap.size, 0, none⟩) (linesOf s).length (linesOf s).length) ∧ Texts w' (some ⟨w.heap.size, 0, none⟩) (linesOf s) ∧ Below w.heap.size w w') := HSP
  clear HTR HSP
  generalize linesOf s = ls at *
  generalize trimS s = r at *
  go_enter Tryz.func15, Tryz.ntmps15
  go_wp2_with (first
    | (go_at_call 23; refine (HT.out _).mono ?_; rintro e wx ⟨rfl, hwx⟩; rw [hwx]; clear hwx)
    | (go_at_call 22; refine (HS.out _ HE.out).mono ?_; rintro e w1 ⟨rfl, ht1, hb1⟩)
    | fail)
  have HT1 : Hid (Texts w1 (some ⟨w.heap.size, 0, none⟩) ls) := ht1
  have HB1 : Hid (Below w.heap.size w w1) := hb1
  have hs1 := hb1.size
  clear ht1 hb1
  go_loopw [5, 14] (fun v i wr => ∃ (k : Nat) (ns : List Nd), k ≤ ls.length ∧ i = .int .i64 k ∧ Hid (linesF ls k = some ns) ∧ wr.ownsRow w1.heap.size 42 6 v ns.length (cellsOf ns) ∧ Below w1.heap.size w1 wr) (fun _ i _ => ls.length - (intOf i).toNat)
  case atStart => exact ⟨0, [], Nat.zero_le _, rfl, (rfl : linesF ls 0 = some []), World.ownsRow_nil _ _ _ _, Bl.refl _⟩
  case round =>
    obtain ⟨k, ns, hk, rfl, HF, hown, hbr⟩ := hrel
    have hsz := hbr.size
    have hnl : ns.length = k ∧ k ≤ 100 := linesF_len ls k ns HF.out
    obtain ⟨hnl, hk100⟩ := hnl
    by_cases hlt : k < ls.length
    · obtain ⟨bt, ot, et, hbs, c0⟩ := HT1.out.below hbr k hlt
      cases et
      rw [Nat.zero_add] at c0
      have hsm := HSM.out k hlt
      by_cases h100 : k = 100
      · have hb100 : ((k : Int) == 100) = true := by simp [h100]
        have HS1 : Hid (linesF ls (k + 1) = none) := linesF_stop HF.out hlt (.inr h100)
        have HF2 : Hid (linesF ls k = some ns) := HF
        have HKL : Hid (k < ls.length) := hlt
        clear h100
        go_wp2_with (first
          | (go_at_call 24; refine (pline_any ls[k] _ (HE.out.below (HB1.out.trans (hbr.mono hs1))) (by omega)).mono ?_; rintro e w2 ⟨n, ok, rfl, hb2, hy, hno⟩; have HY : Hid ((ok = true → LineYes (segs ls[k] 32) n) ∧ (ok = false → LineNo (segs ls[k] 32))) := ⟨hy, hno⟩; clear hy hno; rw [Nd.val_lit]; have hw2 := hb2.size; have hown2 := ownsRow_below hown hb2; cases ok)
          | fail)
        all_goals
          go_ret3
          exact ⟨Bl.more (HB1.out.trans ((Bl.trans hbr hb2).mono hs1)) _, .inl ⟨k, ns, HKL.out, HF2.out, HS1.out, rfl⟩⟩
      · have hb100 : ((k : Int) == 100) = false := by simp; omega
        go_wp2_with (first
          | (go_at_call 24; refine (pline_any ls[k] _ (HE.out.below (HB1.out.trans (hbr.mono hs1))) (by omega)).mono ?_; rintro e w2 ⟨n, ok, rfl, hb2, hy, hno⟩; have HY : Hid ((ok = true → LineYes (segs ls[k] 32) n) ∧ (ok = false → LineNo (segs ls[k] 32))) := ⟨hy, hno⟩; clear hy hno; rw [Nd.val_lit]; have hw2 := hb2.size; have hown2 := ownsRow_below hown hb2; cases ok)
          | (at_builtin; refine wpList_append_own _ rfl _ _ 32 rfl w1.heap.size 42 i0 _ 6 48 underNds HI.out.2.2.2 HI.out.1 HI.out.2.1 HI.out.2.2.1 rfl (by decide) _ _ _ rfl ((hown2.alloc _).alloc _) ⟨w2.heap.size + 1, 0, none⟩ 1 1 [.int .i64 n.op, .int .i64 n.a, .int .i64 n.b, .int .i64 n.k, .int .i64 n.rows, .int .i64 n.cols] rfl rfl ?c1 ?c2 ?c3 ?c4 ?c5 ?_)
          | fail)
        · go_ret3
          exact ⟨Bl.more (HB1.out.trans ((Bl.trans hbr hb2).mono hs1)) _, .inl ⟨k, ns, hlt, HF.out, linesF_stop HF.out hlt (.inl (HY.out.2 (by first | rfl | trivial))), rfl⟩⟩
        case c1 =>
          intro j u hj
          match j, hj with
          | 0, hj => simp at hj; subst hj; simp [Addr.add, go_sem]
          | 1, hj => simp at hj; subst hj; simp [Addr.add, go_sem]
          | 2, hj => simp at hj; subst hj; simp [Addr.add, go_sem]
          | 3, hj => simp at hj; subst hj; simp [Addr.add, go_sem]
          | 4, hj => simp at hj; subst hj; simp [Addr.add, go_sem]
          | 5, hj => simp at hj; subst hj; simp [Addr.add, go_sem]
          | j + 6, hj => simp at hj
        case c2 => intro u hu; simp at hu; rcases hu with rfl | rfl | rfl | rfl | rfl | rfl <;> rfl
        case c3 => unfold maxLen; omega
        case c4 => omega
        case c5 => simp; omega
        intro v' w3 hown' hgrow _
        have hb3 : Below w1.heap.size w1 w3 := ((((hbr.trans (hb2.mono hsz)).alloc (by omega) _).alloc (by simp; omega) _).grown hgrow (by simp; omega) (fun j e => (hown.lt j e).1))
        have HO : Hid (w3.ownsRow w1.heap.size 42 6 v' (ns ++ [n]).length (cellsOf (ns ++ [n]))) := by
          show w3.ownsRow _ _ _ _ _ _
          rw [cellsOf_app, cells_one]
          have e : (ns ++ [n]).length = ns.length + 1 := by simp
          rw [e, hnl]
          exact hown'
        have HF3 : Hid (linesF ls (k + 1) = some (ns ++ [n])) := linesF_step HF.out hlt (HY.out.1 (by first | rfl | trivial)) h100
        clear hgrow hown hown' hown2
        go_wp2
        exact ⟨⟨k + 1, ns ++ [n], by omega, by go_num, HF3, HO.out, hb3⟩, by simp [intOf]; omega⟩
    · have hke : k = ls.length := by omega
      have HF2 : Hid (linesF ls ls.length = some ns) := by rw [← hke]; exact HF
      have HO : Hid (wr.ownsRow w.heap.size 42 6 _ ns.length (cellsOf ns)) := ownsRow_base hown hs1
      clear hown
      go_wp2
      go_ret3
      exact ⟨HB1.out.trans (hbr.mono hs1), .inr ⟨_, ns, HF2.out, rfl, HO.out⟩⟩
end Go.Proofs.YtlcmllmphpllbaaGreatDoor
namespace Go.Proofs.YtlcmllmphpllbaaGreatDoor
open Go.RowKit

/-- what build answers -/
def BuildPost (ns : List Nd) (w : World) (e : Ending) (w' : World) : Prop := Below w.heap.size w w' ∧
  ((∃ (m : Nat) (P : List Nd), m < ns.length ∧ shapeTo ns m = some P ∧ shapeTo ns (m + 1) = none ∧ e = .returned (.tuple #[.slice none 0 0, .int .i64 (m : Int), .bool false])) ∨
   (∃ (v : Value) (P : List Nd), shapeTo ns ns.length = some P ∧ e = .returned (.tuple #[v, .int .i64 0, .bool true]) ∧ w'.ownsRow w.heap.size 42 6 v P.length (cellsOf P)))
set_option maxHeartbeats 40000000 in
set_option maxRecDepth 100000 in
theorem build_any (ns : List Nd) (ao : Option Addr) (cap : Nat) (w : World) (hn : Nodes w ao ns) (hl : ns.length ≤ 100) (hr : ∀ n ∈ ns, Raw n) :
    Calls Tryz.prog 16 #[.slice ao ns.length cap] w fun e w' => BuildPost ns w e w' := by
  have HR : Hid (∀ n ∈ ns, Raw n) := hr
  clear hr
  go_enter Tryz.func16, Tryz.ntmps16
  go_wp2
  go_loopw [10] (fun j wr => ∃ (m : Nat) (P : List Nd), m ≤ ns.length ∧ j = .int .i64 m ∧ Hid (shapeTo ns m = some P) ∧ Hid (∃ vo vc ins, Bld wr (w.heap.size + 1) w.heap.size (.slice vo P.length vc) P ins ∧ TieIn ins P) ∧ Below w.heap.size w wr) (fun j _ => ns.length - (intOf j).toNat)
  case atStart =>
    refine ⟨0, [], Nat.zero_le _, rfl, (rfl : shapeTo ns 0 = some []), ⟨none, 0, fun _ => (0, 0), ?_, ?_⟩, Bl.more (Bl.refl _) _⟩
    · exact bld_new w _ rfl _
    · exact TieIn.nil
  case round =>
    obtain ⟨m, P, hm, rfl, HS, hbld, hbr⟩ := hrel
    obtain ⟨vo, vc, ins, hB, hT⟩ := hbld.out
    clear hbld
    have HPl : Hid (P.length = m) := shapeTo_len ns m P HS.out
    have HB : Hid (Bld wr (w.heap.size + 1) w.heap.size (.slice vo P.length vc) P ins) := hB
    have HTI : Hid (TieIn ins P) := hT
    have HRow : Hid (∀ k, (Value.slice vo P.length vc).ownBlock = some k → w.heap.size + 1 ≤ k ∧ k < wr.heap.size) := HB.out.2.2.2.2.1.lt
    have hsz : w.heap.size < wr.heap.size := HB.out.2.1
    clear hT
    by_cases hlt : m < ns.length
    · clear hB
      obtain ⟨bl, off, rfl, hbs, c0, c1, c2, c3, c4, c5⟩ := (hn.below hbr) m hlt
      have hal := al1 hbs
      have HRw : Hid (Raw ns[m]) := HR.out _ (List.getElem_mem hlt)
      obtain ⟨hyes, hno⟩ := step_add (ins := ins) HTI.out HRw.out
      cases hst : shapeStep P ns[m] with
      | none =>
        have HN : Hid (shapeTo ns (m + 1) = none) := shapeTo_stop HS.out hlt hst
        have HA : Hid (addZ P ins ns[m] = none) := hno hst
        clear hyes hno hst
        go_wp2_with (first
          | (go_at_call 25; refine (add_no (w.heap.size + 1) w.heap.size ns[m] vo vc P ins _ HRw.out.1 (Bld.below HB.out (Bl.more (Bl.refl _) _)) (by have := HPl.out; omega) HA.out).mono ?_; rintro e w2 ⟨rfl, hb2⟩)
          | fail)
        go_ret3
        exact ⟨hbr.trans ((Bl.trans (Bl.more (Bl.refl _) _) hb2).mono hbr.size), .inl ⟨m, P, hlt, HS.out, HN.out, rfl⟩⟩
      | some n' =>
        obtain ⟨ins', h1, h2⟩ := hyes n' hst
        have HA : Hid (addZ P ins ns[m] = some (n', ins')) := h1
        have HT2 : Hid (TieIn ins' (P ++ [n'])) := h2
        have HS2 : Hid (shapeTo ns (m + 1) = some (P ++ [n'])) := shapeTo_step HS.out hlt hst
        clear hyes hno hst h1 h2
        go_wp2_with (first
          | (go_at_call 25; refine (add_yes (w.heap.size + 1) w.heap.size ns[m] vo vc P ins _ n' ins' HRw.out.1 (Bld.below HB.out (Bl.more (Bl.refl _) _)) (by have := HPl.out; omega) HA.out).mono ?_; rintro e w2 ⟨rfl, ⟨vo', vc', hB2⟩, hk2⟩; have HB2 : Hid (Bld w2 (w.heap.size + 1) w.heap.size (.slice vo' (P ++ [n']).length vc') (P ++ [n']) ins') := hB2; clear hB2)
          | fail)
        exact ⟨⟨m + 1, P ++ [n'], by omega, by go_num, HS2, ⟨vo', vc', ins', HB2.out, HT2.out⟩, (Bl.more hbr _).trans (hk2.below (Nat.le_refl _) (fun k e => Nat.le_of_succ_le (HRow.out k e).1) (by simp; omega))⟩, by simp [intOf]; omega⟩
    · have hme : m = ns.length := by omega
      have HS2 : Hid (shapeTo ns ns.length = some P) := by rw [← hme]; exact HS
      have cb := HB.out.2.2.2.1
      have HO : Hid (wr.ownsRow w.heap.size 42 6 (.slice vo P.length vc) P.length (cellsOf P)) := ownsRow_base HB.out.2.2.2.2.1 (by omega)
      clear hB hme
      go_wp2
      go_ret3
      exact ⟨hbr, .inr ⟨_, P, HS2.out, rfl, HO.out⟩⟩
/-- what Read answers -/
def PReadPost (s : ByteArray) (w : World) (e : Ending) (w' : World) : Prop := ∃ v g a er, e = .returned (.tuple #[v, .int .i64 ((a : Nat) : Int), .int .i64 er]) ∧ w'.ownsRow w.heap.size 42 6 v (List.length g) (cellsOf g) ∧ Below w.heap.size w w' ∧ ReadIs s g a er
set_option maxHeartbeats 4000000 in
theorem pread_any (s : ByteArray) (w : World) (he : Env w) (hmax : s.size ≤ 9223372036854775806) :
    Calls Tryz.prog 11 #[.string s] w fun e w' => PReadPost s w e w' := by
  by_cases hlong : 4000 < s.size
  · go_enter Tryz.func11, Tryz.ntmps11
    go_wp2
    go_ret3
    exact ⟨_, [], 0, 1, rfl, World.ownsRow_nil _ _ _ _, Bl.refl _, .long hlong⟩
  have hs : s.size ≤ 4000 := by omega
  have HE : Hid (Env w) := he
  clear he hlong
  go_enter Tryz.func11, Tryz.ntmps11
  go_wp2_with fail
  refine (plines_any s _ HE.out hs).mono ?_
  rintro e w1 ⟨hb1, ⟨m, ns, hm, h1, h2, rfl⟩ | ⟨v, ns, h1, rfl, ho⟩⟩
  · have HX : Hid (ReadIs s [] m 2) := .bad hs m ns hm h1 h2
    clear h1 h2 hm
    go_wp2
    go_ret3
    exact ⟨_, [], m, 2, rfl, World.ownsRow_nil _ _ _ _, hb1, HX.out⟩
  · have HF : Hid (linesF (linesOf s) (linesOf s).length = some ns) := h1
    have hl := (linesF_len _ _ _ h1)
    have hl100 : ns.length ≤ 100 := by omega
    have HRAW : Hid (∀ n ∈ ns, Raw n) := linesF_raw _ _ _ h1
    obtain ⟨ao, cap, rfl, hN, _⟩ := nodes_of_owns ho
    have HN : Hid (Nodes w1 ao ns) := hN
    clear h1 hl ho hN
    go_wp2_with fail
    refine (build_any ns ao cap _ HN.out hl100 HRAW.out).mono ?_
    rintro e w2 ⟨hb2, ⟨m, P, hm, h1, h2, rfl⟩ | ⟨v, P, h1, rfl, ho⟩⟩
    · have HX : Hid (ReadIs s [] m 3) := .unlike hs m ns P HF.out hm h1 h2
      clear h1 h2 hm
      go_wp2
      go_ret3
      exact ⟨_, [], m, 3, rfl, World.ownsRow_nil _ _ _ _, Bl.trans hb1 hb2, HX.out⟩
    · have HX : Hid (ReadIs s P 0 0) := .right hs ns P HF.out h1
      have HO : Hid (w2.ownsRow w.heap.size 42 6 v P.length (cellsOf P)) := ownsRow_base ho hb1.size
      clear h1 ho
      go_wp2
      go_ret3
      exact ⟨v, P, 0, 0, rfl, HO.out, Bl.trans hb1 hb2, HX.out⟩
set_option maxHeartbeats 1000000 in
theorem tread_any (s : ByteArray) (w : World) (he : Env w) (hmax : s.size ≤ 9223372036854775806) :
    Calls Tryz.prog 6 #[.string s] w fun e w' => PReadPost s w e w' := by
  go_enter Tryz.func6, Tryz.ntmps6
  go_wp2_with fail
  refine (pread_any s _ he hmax).mono ?_
  rintro e w1 ⟨v, g, a, er, rfl, ho, hb, hX⟩
  have HX : Hid (w1.ownsRow w.heap.size 42 6 v g.length (cellsOf g) ∧ Below w.heap.size w w1 ∧ ReadIs s g a er) := ⟨ho, hb, hX⟩
  clear ho hb hX
  go_wp2
  go_ret3
  exact ⟨v, g, a, er, rfl, HX.out⟩
end Go.Proofs.YtlcmllmphpllbaaGreatDoor
namespace Go.Proofs.YtlcmllmphpllbaaGreatDoor
open Go.RowKit

theorem num2_any (x : Int) (w : World) : Calls Tryz.prog 10 #[.int .i64 x] w fun e w' => e = .returned (.int .i64 x) ∧ w' = w := by
  go_enter Tryz.func10, Tryz.ntmps10
  go_wp2
  go_ret
  exact ⟨rfl, rfl⟩
/-- what a call of the law's leaves of the book -/
def NBookPost (w : World) (bb base : Nat) (n : Nat) (next : Int) (e : Ending) (w' : World) : Prop :=
  e = .returned (.bool true) ∧ (∃ vi vm I, NBook w' bb base vi vm I (next - 1) ∧ I.length = n + 4) ∧ Below base w w'
theorem nbook_end {w wx w' : World} {bb base : Nat} {vi vm v : Value} {I : List (Value × Int)} {next : Int} (hB : NBook w bb base vi vm I next) (hb : Below w.heap.size w wx) (hbase : base ≤ w.heap.size) (hv : ∀ g, v.ownBlock = some g → w.heap.size ≤ g) (h : OwnsPostN wx bb base vi vm v I next w') : (∃ vi vm I', NBook w' bb base vi vm I' (next - 1) ∧ I'.length = I.length + 4) ∧ Below base w w' := by
  obtain ⟨⟨vi', vm', l1, l2, l3, h1⟩, hk⟩ := h
  refine ⟨⟨vi', vm', _, h1, by simp⟩, (hb.mono hbase).trans (hk.below (Nat.le_trans hbase hb.size) fun k hk => ?_)⟩
  rintro (e | e)
  · have := (hB.own_lt k e).1; omega
  · have := hv k e; omega
theorem NBook.new {w : World} {bb base : Nat} (hb : base ≤ bb) (hl : bb < w.heap.size) (c0 : w.cell? ⟨bb, 0, none⟩ = some (.slice none 0 0)) (c1 : w.cell? ⟨bb, 1, none⟩ = some (.slice none 0 0)) (c2 : w.cell? ⟨bb, 2, none⟩ = some (.slice none 0 0)) (c3 : w.cell? ⟨bb, 3, none⟩ = some (.slice none 0 0)) (c4 : w.cell? ⟨bb, 4, none⟩ = some (.int .i64 0)) (fz : ∀ i, w.frozen? ⟨bb, i, none⟩ = false) : NBook w bb base (.slice none 0 0) (.slice none 0 0) [] 0 :=
  ⟨hb, hl, c2, c3, c0, c1, c4, fz, World.ownsRow_nil _ _ _ _, World.ownsRow_nil _ _ _ _, fun e => (by cases e), fun e => (by cases e), fun g e => (by cases e), fun x hx => (by cases hx), fun x hx => (by cases hx), fun x hx => (by cases hx)⟩
theorem ReadIs.len {s : ByteArray} {g : List Nd} {a : Nat} {e : Int} (h : ReadIs s g a e) : g.length ≤ 100 ∧ a ≤ 5000 := by
  cases h with
  | long => simp
  | bad h m ns hm h1 h2 => have := linesF_len _ _ _ h1; simp; omega
  | unlike h m ns P h0 hm h1 h2 => have := linesF_len _ _ _ h0; simp; omega
  | right h ns P h0 h1 => have := linesF_len _ _ _ h0; have := shapeTo_len _ _ _ h1; omega
set_option maxHeartbeats 8000000 in
set_option maxRecDepth 100000 in
theorem bread_any (s : ByteArray) (w : World) (bb base : Nat) (vi vm : Value) (I : List (Value × Int)) (next : Int) (hB : NBook w bb base vi vm I next) (hbase : base ≤ w.heap.size) (he : Env w) (hmax : s.size ≤ 9223372036854775806) (hI : I.length ≤ 100000000000) (hx1 : -1000000000000 ≤ next) (hx2 : next ≤ 0) :
    Calls Tryz.prog 4 #[.pointer (some ⟨bb, 0, none⟩), .string s] w fun e w' => NBookPost w bb base I.length next e w' := by
  have HB : Hid (NBook w bb base vi vm I next) := hB
  have HE : Hid (Env w) := he
  clear hB he
  go_enter Tryz.func4, Tryz.ntmps4
  go_wp2_with fail
  refine (tread_any s _ HE.out hmax).mono ?_
  rintro e w1 ⟨v, g, a, er, rfl, ho, hb1, hR⟩
  have HR : Hid (ReadIs s g a er) := hR
  have HB1 : Hid (Below w.heap.size w w1) := hb1
  obtain ⟨hg100, ha⟩ := hR.len
  have HO : Hid (w1.ownsRow w.heap.size 42 6 v g.length (cellsOf g)) := ho
  obtain ⟨ao, cap, rfl, hN1, _⟩ := nodes_of_owns ho
  have HN1 : Hid (Nodes w1 ao g) := hN1
  clear ho hN1 hR hb1
  go_wp2_with fail
  refine (rread_any s _ hmax).mono ?_
  rintro e w2 ⟨ao2, cap2, g2, a2, er2, rfl, hN2, hb2, hR2⟩
  obtain ⟨rfl, rfl, rfl⟩ := HR.out.unique hR2
  have HB2 : Hid (Below w.heap.size w w2) := Bl.trans HB1.out hb2
  have HN2 : Hid (Nodes w2 ao2 g) := hN2
  have HN12 : Hid (Nodes w2 ao g) := HN1.out.below hb2
  have HO2 : Hid (w2.ownsRow w.heap.size 42 6 (.slice ao g.length cap) g.length (cellsOf g)) := ownsRow_below HO.out hb2
  clear hN2 hb2 hR2 HN1 HO
  go_wp2_with fail
  refine (same_refl g ao ao2 cap cap2 _ HN12.out HN2.out (by omega)).mono ?_
  rintro e w3 ⟨rfl, q3, rfl⟩
  have HVg : Hid (∀ g', (Value.slice ao g.length cap).ownBlock = some g' → w.heap.size ≤ g') := fun g' e => (HO2.out.lt g' e).1
  go_wp2_with fail
  refine (ownsNodes_any _ bb base vi vm (.slice ao g.length cap) I next g.length (cellsOf g) ((HB.out.below HB2.out).below (Bl.drew (Bl.refl _) _)) (ownsRow_base (ownsRow_keeps (S := fun _ => False) HO2.out (Keeps.of_below (Bl.drew (Bl.refl _) _)) fun _ _ => id) hbase) (by omega) hI hx1 hx2 ?_ ?_).mono ?_
  · intro x hx g' e e2
    have h1 := HB.out.ll x hx g' e
    have h2 := HVg.out g' e2
    omega
  · intro g' e e2
    have h1 := (HB.out.own_lt g' e2).2
    have h2 := HVg.out g' e
    omega
  rintro e w7 ⟨rfl, hO⟩
  have HX : Hid ((∃ vi vm I', NBook w7 bb base vi vm I' (next - 1) ∧ I'.length = I.length + 4) ∧ Below base w w7) := nbook_end HB.out (Bl.drew HB2.out _) hbase HVg.out hO
  clear hO
  go_wp2_with (first
    | (go_at_call 10; refine (num2_any _ _).mono ?_; rintro e w8 ⟨rfl, hw8⟩; obtain rfl := hw8.symm)
    | fail)
  go_ret
  exact ⟨rfl, HX.out.1, HX.out.2⟩
set_option maxHeartbeats 8000000 in
set_option maxRecDepth 100000 in
theorem reads_law (ts : List ByteArray) (ao : Option Addr) (ca : Nat) (w : World) (hT : Texts w ao ts) (he : Env w) (hl : ts.length ≤ 10000000) (hmax : ∀ i, (h : i < ts.length) → ts[i].size ≤ 9223372036854775806) :
    Calls Tryz.prog 3 #[.slice ao ts.length ca] w fun e w' => e = .returned (.bool true) ∧ Below w.heap.size w w' := by
  have HT : Hid (Texts w ao ts) := hT
  have HE : Hid (Env w) := he
  have HM : Hid (∀ i, (h : i < ts.length) → ts[i].size ≤ 9223372036854775806) := hmax
  clear hT he hmax
  go_enter Tryz.func3, Tryz.ntmps3
  go_wp2
  go_loopw [4] (fun v wr => ∃ (k : Nat) (vi vm : Value) (I : List (Value × Int)) (next : Int), k ≤ ts.length ∧ v = .int .i64 k ∧ Hid (NBook wr w.heap.size w.heap.size vi vm I next) ∧ I.length = 4 * k ∧ next = -(k : Int) ∧ Below w.heap.size w wr) (fun v _ => ts.length - (intOf v).toNat)
  case atStart => exact ⟨0, _, _, [], 0, Nat.zero_le _, rfl, NBook.new (Nat.le_refl _) (by simp) (by simp [go_sem]) (by simp [go_sem]) (by simp [go_sem]) (by simp [go_sem]) (by simp [go_sem]) (by simp [go_sem]), by simp, by simp, Bl.more (Bl.refl _) _⟩
  case round =>
    obtain ⟨k, vi, vm, I, next, hk, rfl, HB, hI, hnx, hbr⟩ := hrel
    have hI2 : I.length ≤ 100000000000 := by omega
    have hx1 : -1000000000000 ≤ next := by omega
    have hx2 : next ≤ 0 := by omega
    have HIL : Hid (I.length = 4 * k ∧ next = -(k : Int)) := ⟨hI, hnx⟩
    clear hI hnx
    by_cases hlt : k < ts.length
    · obtain ⟨b, off, rfl, hbs, c0⟩ := (HT.out.below hbr) k hlt
      have hm := HM.out k hlt
      go_wp2_with (first
        | (go_at_call 4; refine (bread_any ts[k] _ w.heap.size w.heap.size vi vm I next HB.out hbr.size (HE.out.below hbr) hm hI2 hx1 hx2).mono ?_; rintro e w1 ⟨rfl, ⟨vi', vm', I', hB', hlen'⟩, hb1⟩; have HB' : Hid (NBook w1 w.heap.size w.heap.size vi' vm' I' (next - 1)) := hB'; have HLEN : Hid (I'.length = I.length + 4) := hlen'; have hI3 : I'.length ≤ 100000000000 := (by rw [hlen']; have := HIL.out.1; omega); clear hB' hlen')
        | (go_at_call 5; refine (looksN_any _ w.heap.size w.heap.size vi' vm' I' (next - 1) HB'.out hI3).mono ?_; rintro e w2 ⟨rfl, hb2⟩)
        | fail)
      have HB2 : Hid (NBook w2 w.heap.size w.heap.size vi' vm' I' (next - 1)) := HB'.out.below hb2
      have hb3 : Below w.heap.size w w2 := (hbr.trans hb1).trans (hb2.mono (Nat.le_trans hbr.size hb1.size))
      exact ⟨⟨k + 1, vi', vm', I', next - 1, by omega, by go_num, HB2, by have := HLEN.out; have := HIL.out; omega, by have := HIL.out; omega, hb3⟩, by simp [intOf]; omega⟩
    · go_wp2
      go_ret
      exact ⟨rfl, hbr⟩
end Go.Proofs.YtlcmllmphpllbaaGreatDoor
