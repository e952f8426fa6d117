/- Lines of a text, what Read answers, a text parted at a byte, what Add makes of a node: in plain words. -/
import Derived.Test.YtlcmllmphpllbaaGreatDoorRa
import Derived.Test.YtlcmllmphpllbaaGreatDoorXc
import Derived.Test.YtlcmllmphpllbaaGreatDoorXk
import Derived.Test.YtlcmllmphpllbaaGreatDoorWf
import Derived.Lib.SplitLaws
import Derived.Lib.IndexBytes
import Derived.Lib.CutLaws
import Derived.Test.YtlcmllmphpllbaaGreatDoorWe
namespace Go.Proofs.YtlcmllmphpllbaaGreatDoor
open Go.RowKit

/-- the numbers that texts tell -/
def NumsAre (ts : List ByteArray) (l : List Int) : Prop := l.length = ts.length ∧ ∀ i, (h : i < ts.length) → (g : i < l.length) → IsNum ts[i].data.toList l[i]
theorem NumsAre.nil : NumsAre [] [] := ⟨rfl, fun _ h => absurd h (Nat.not_lt_zero _)⟩
theorem NumsAre.push {ts : List ByteArray} {l : List Int} (h : NumsAre ts l) {t : ByteArray} {n : Int} (hn : IsNum t.data.toList n) : NumsAre (ts ++ [t]) (l ++ [n]) := by
  obtain ⟨h1, h2⟩ := h
  refine ⟨by simp [h1], fun i hi gi => ?_⟩
  by_cases e : i < ts.length
  · rw [List.getElem_append_left e, List.getElem_append_left (by omega)]
    exact h2 i e (by omega)
  · have : i = ts.length := by simp at hi; omega
    subst this
    rw [List.getElem_append_right (by omega), List.getElem_append_right (by omega)]
    simpa [h1] using hn
theorem NumsAre.unique {ts : List ByteArray} {l m : List Int} (h : NumsAre ts l) (g : NumsAre ts m) : l = m := by
  apply List.ext_getElem (h.1.trans g.1.symm)
  intro i h1 h2
  have hi : i < ts.length := by have := h.1; omega
  exact (h.2 i hi h1).unique (g.2 i hi h2)
/-- fields put one by one -/
def putAll : List Int → List Int → Nd → Nd
  | f :: fs, x :: xs, n => putAll fs xs (putZ f n x)
  | _, _, n => n
def bare (op : Int) : Nd := ⟨op, 0, 0, 0, 0, 0⟩
/-- the words ws say the node n -/
structure Says (ws : List ByteArray) (n : Nd) (op : Int) (l : List Int) : Prop where
  known : knownP op
  word : ws.head? = some (bs (wordL op))
  nums : NumsAre ws.tail l
  len : l.length = (saysZ op).length
  node : n = putAll (saysZ op) l (bare op)
def LineYes (ws : List ByteArray) (n : Nd) : Prop := ∃ op l, Says ws n op l
def LineNo (ws : List ByteArray) : Prop := ∀ n, ¬ LineYes ws n
theorem bs_inj {a b : List UInt8} (h : bs a = bs b) : a = b := by
  have := congrArg (fun s : ByteArray => s.data.toList) h
  simpa [bs] using this
theorem word_inj {a b : Int} (ha : knownP a) (hb : knownP b) (h : bs (wordL a) = bs (wordL b)) : a = b := by
  have h := bs_inj h
  rcases ha with rfl | rfl | rfl | rfl | rfl | rfl | rfl | rfl <;> rcases hb with rfl | rfl | rfl | rfl | rfl | rfl | rfl | rfl <;> first | rfl | exact absurd h (by decide)
theorem LineYes.unique {ws : List ByteArray} {n m : Nd} (h : LineYes ws n) (g : LineYes ws m) : n = m := by
  obtain ⟨op, l, h⟩ := h
  obtain ⟨op', l', g⟩ := g
  have e : op = op' := word_inj h.known g.known (by have := h.word.symm.trans g.word; simpa using this)
  subst e
  rw [h.node, g.node, h.nums.unique g.nums]
/-- the last of the first i words that is s -/
def opTo (s : ByteArray) : Nat → Nat
  | 0 => 0
  | i + 1 => if bs (wordL ((i + 1 : Nat) : Int)) = s then i + 1 else opTo s i
theorem opTo_le (s : ByteArray) : ∀ i, opTo s i ≤ i
  | 0 => Nat.le_refl _
  | i + 1 => by
    rw [opTo]
    split
    · exact Nat.le_refl _
    · have := opTo_le s i; omega
theorem opTo_word (s : ByteArray) : ∀ i, opTo s i ≠ 0 → bs (wordL (opTo s i : Int)) = s
  | 0, h => absurd rfl h
  | i + 1, h => by
    rw [opTo] at h ⊢
    split
    · rename_i e; exact e
    · rename_i e
      rw [if_neg e] at h
      exact opTo_word s i h
theorem opTo_none (s : ByteArray) : ∀ i, opTo s i = 0 → ∀ j : Nat, 1 ≤ j → j ≤ i → bs (wordL (j : Int)) ≠ s
  | 0, _, j, h1, h2 => by omega
  | i + 1, h, j, h1, h2 => by
    rw [opTo] at h
    split at h
    · omega
    · rename_i e
      by_cases ej : j = i + 1
      · subst ej; exact e
      · exact opTo_none s i h j h1 (by omega)
theorem known_nat {op : Int} (h : knownP op) : ∃ j : Nat, op = j ∧ 1 ≤ j ∧ j ≤ 8 := by
  rcases h with rfl | rfl | rfl | rfl | rfl | rfl | rfl | rfl
  · exact ⟨1, rfl, by omega, by omega⟩
  · exact ⟨2, rfl, by omega, by omega⟩
  · exact ⟨3, rfl, by omega, by omega⟩
  · exact ⟨4, rfl, by omega, by omega⟩
  · exact ⟨5, rfl, by omega, by omega⟩
  · exact ⟨6, rfl, by omega, by omega⟩
  · exact ⟨7, rfl, by omega, by omega⟩
  · exact ⟨8, rfl, by omega, by omega⟩
theorem nat_known {j : Nat} (h1 : 1 ≤ j) (h2 : j ≤ 8) : knownP (j : Int) := by unfold knownP; omega
/-- no word: no line -/
theorem no_word {ws : List ByteArray} {t : ByteArray} (hw : ws.head? = some t) (h : opTo t 8 = 0) : LineNo ws := by
  rintro n ⟨op, l, hs⟩
  obtain ⟨j, rfl, h1, h2⟩ := known_nat hs.known
  exact opTo_none t 8 h j h1 h2 (by have := hs.word.symm.trans hw; simpa using this)
theorem line_of_op {ws : List ByteArray} {t : ByteArray} {l : List Int} (hw : ws.head? = some t) (hn : NumsAre ws.tail l) (h : opTo t 8 ≠ 0) (hl : l.length = (saysZ (opTo t 8 : Int)).length) : LineYes ws (putAll (saysZ (opTo t 8 : Int)) l (bare (opTo t 8 : Int))) := by
  refine ⟨_, l, nat_known (by omega) (opTo_le t 8), ?_, hn, hl, rfl⟩
  rw [hw, opTo_word t 8 h]
theorem no_len {ws : List ByteArray} {t : ByteArray} {l : List Int} (hw : ws.head? = some t) (hn : NumsAre ws.tail l) (h : opTo t 8 ≠ 0) (hl : l.length ≠ (saysZ (opTo t 8 : Int)).length) : LineNo ws := by
  rintro n ⟨op, l', hs⟩
  have e : op = (opTo t 8 : Int) := word_inj hs.known (nat_known (by omega) (opTo_le t 8)) (by
    have := hs.word.symm.trans hw
    rw [opTo_word t 8 h]
    simpa using this)
  rw [hs.nums.unique hn] at hs
  exact hl (by rw [← e]; exact hs.len)
theorem no_num {ws : List ByteArray} {i : Nat} (h : i < ws.length) (h1 : 1 ≤ i) (hn : NoNum ws[i].data.toList) : LineNo ws := by
  rintro n ⟨op, l, hs⟩
  have e : ws.tail.length = ws.length - 1 := by simp
  have hl := hs.nums.1
  have := hs.nums.2 (i - 1) (by omega) (by omega)
  rw [List.getElem_tail] at this
  have ei : i - 1 + 1 = i := by omega
  simp only [ei] at this
  exact hn _ this
theorem segs_ne (s : ByteArray) (b : UInt8) : 1 ≤ (segs s b).length := by simp [segs]
theorem splitTo_small (s : ByteArray) (b : UInt8) : ∀ i, i ≤ s.size → ∀ t ∈ (splitTo s b i).1, t.size ≤ s.size
  | 0, _, t, ht => by cases ht
  | i + 1, hi, t, ht => by
    rw [splitTo] at ht
    split at ht
    · rcases List.mem_append.1 ht with ht | ht
      · exact splitTo_small s b i (by omega) t ht
      · rw [List.mem_singleton.1 ht, ByteArray.size_extract]
        omega
    · exact splitTo_small s b i (by omega) t ht
theorem segs_small (s : ByteArray) (b : UInt8) {i : Nat} (h : i < (segs s b).length) : (segs s b)[i].size ≤ s.size := by
  have hm : (segs s b)[i] ∈ segs s b := List.getElem_mem h
  rcases List.mem_append.1 hm with ht | ht
  · exact splitTo_small s b s.size (Nat.le_refl _) _ ht
  · rw [List.mem_singleton.1 ht, ByteArray.size_extract]
    omega
theorem segs_len (s : ByteArray) (b : UInt8) : (segs s b).length ≤ s.size + 1 := by
  have := splitTo_le s b s.size
  simp [segs]
  omega
/-- texts in memory -/
def TextAt (w : World) (ao : Option Addr) (i : Nat) (t : ByteArray) : Prop := ∃ b off, ao = some ⟨b, off, none⟩ ∧ b < w.heap.size ∧ w.cell? ⟨b, off + i, none⟩ = some (.string t)
def Texts (w : World) (ao : Option Addr) (ts : List ByteArray) : Prop := ∀ i, (h : i < ts.length) → TextAt w ao i ts[i]
theorem Texts.below {w w' : World} {ao : Option Addr} {ts : List ByteArray} (h : Texts w ao ts) (hb : Below w.heap.size w w') : Texts w' ao ts := by
  intro i hi
  obtain ⟨b, off, rfl, hs, c0⟩ := h i hi
  exact ⟨b, off, rfl, Nat.lt_of_lt_of_le hs hb.size, by rw [hb.cell (by exact hs)]; exact c0⟩
theorem texts_of_owns {w : World} {base : Nat} {v : Value} {ts : List ByteArray} (h : w.ownsRow base 9 1 v ts.length (ts.map Value.string)) : ∃ ao cap, v = .slice ao ts.length cap ∧ Texts w ao ts := by
  rcases h with ⟨h0, ⟨rfl, hn⟩ | ⟨g, cap, cur, rfl, hb, hh, hle, hm, hcs, hcur⟩⟩
  · exact ⟨none, 0, by rw [hn], fun i hi => absurd hi (by omega)⟩
  · have hw : w.ownsRow base 9 1 (.slice (some ⟨g, 0, none⟩) ts.length cap) ts.length (ts.map Value.string) := ⟨h0, .inr ⟨g, cap, cur, rfl, hb, hh, hle, hm, hcs, hcur⟩⟩
    have hg : g < w.heap.size := by
      by_cases hlt : g < w.heap.size
      · exact hlt
      · rw [Array.getElem?_eq_none (by omega)] at hh; cases hh
    refine ⟨some ⟨g, 0, none⟩, cap, rfl, fun i hi => ⟨g, 0, rfl, hg, ?_⟩⟩
    rw [Nat.zero_add, hw.cellAt _ (by omega)]
    simp [hi]
theorem WordsAt.at {w : World} {b : Nat} (h : WordsAt w b) {i : Nat} (h1 : 1 ≤ i) (h2 : i ≤ 8) : w.cell? ⟨b, i, none⟩ = some (.string (bs (wordL (i : Int)))) := by
  obtain ⟨_, c1, c2, c3, c4, c5, c6, c7, c8⟩ := h
  have : i = 1 ∨ i = 2 ∨ i = 3 ∨ i = 4 ∨ i = 5 ∨ i = 6 ∨ i = 7 ∨ i = 8 := by omega
  rcases this with rfl | rfl | rfl | rfl | rfl | rfl | rfl | rfl <;> assumption
end Go.Proofs.YtlcmllmphpllbaaGreatDoor
namespace Go.Proofs.YtlcmllmphpllbaaGreatDoor
open Go.RowKit Classical

/-- the node that words say, if any -/
noncomputable def lineF (ws : List ByteArray) : Option Nd := if h : ∃ n, LineYes ws n then some (Classical.choose h) else none
theorem lineF_yes {ws : List ByteArray} {n : Nd} (h : LineYes ws n) : lineF ws = some n := by
  have hx : ∃ n, LineYes ws n := ⟨n, h⟩
  rw [lineF, dif_pos hx]
  exact congrArg some ((Classical.choose_spec hx).unique h)
theorem lineF_no {ws : List ByteArray} (h : LineNo ws) : lineF ws = none := by
  rw [lineF, dif_neg (fun ⟨n, hn⟩ => h n hn)]
theorem lineF_some {ws : List ByteArray} {n : Nd} (h : lineF ws = some n) : LineYes ws n := by
  unfold lineF at h
  split at h
  · rename_i hx
    rw [← Option.some.inj h]
    exact Classical.choose_spec hx
  · cases h
/-- the nodes of the first m lines -/
noncomputable def linesF (ls : List ByteArray) : Nat → Option (List Nd)
  | 0 => some []
  | m + 1 => (linesF ls m).bind fun ns => if m = 100 then none else (lineF (segs (ls.getD m ⟨#[]⟩) 32)).map fun n => ns ++ [n]
theorem linesF_len (ls : List ByteArray) : ∀ m ns, linesF ls m = some ns → ns.length = m ∧ m ≤ 100
  | 0, ns, h => by simp [linesF] at h; subst h; simp
  | m + 1, ns, h => by
    rw [linesF] at h
    cases hm : linesF ls m with
    | none => rw [hm] at h; cases h
    | some ns' =>
      rw [hm] at h
      have := linesF_len ls m ns' hm
      simp only [Option.bind_some] at h
      split at h
      · cases h
      · cases hl : lineF (segs (ls.getD m ⟨#[]⟩) 32) with
        | none => rw [hl] at h; cases h
        | some n =>
          rw [hl] at h
          simp only [Option.map_some, Option.some.injEq] at h
          rw [← h]
          simp
          omega
theorem linesF_step {ls : List ByteArray} {m : Nat} {ns : List Nd} {n : Nd} (h : linesF ls m = some ns) (hm : m < ls.length) (hn : LineYes (segs ls[m] 32) n) (h1 : m ≠ 100) : linesF ls (m + 1) = some (ns ++ [n]) := by
  have e : ls.getD m ⟨#[]⟩ = ls[m] := by simp [hm]
  rw [linesF, h, Option.bind_some, if_neg h1, e, lineF_yes hn]
  rfl
theorem linesF_stop {ls : List ByteArray} {m : Nat} {ns : List Nd} (h : linesF ls m = some ns) (hm : m < ls.length) (hn : LineNo (segs ls[m] 32) ∨ m = 100) : linesF ls (m + 1) = none := by
  have e : ls.getD m ⟨#[]⟩ = ls[m] := by simp [hm]
  rw [linesF, h, Option.bind_some, e]
  rcases hn with hn | hn
  · rw [lineF_no hn]
    split <;> rfl
  · rw [if_pos hn]
/-- a node with the shape that it has behind others -/
def shapeStep (P : List Nd) (n : Nd) : Option Nd := if (placedZ (P ++ [n]) P.length n).2.2 then some { n with rows := (placedZ (P ++ [n]) P.length n).1, cols := (placedZ (P ++ [n]) P.length n).2.1 } else none
/-- the first m nodes with their shapes -/
def shapeTo (ns : List Nd) : Nat → Option (List Nd)
  | 0 => some []
  | m + 1 => (shapeTo ns m).bind fun P => (shapeStep P (ns.getD m zeroNd)).map fun n => P ++ [n]
theorem shapeTo_len (ns : List Nd) : ∀ m P, shapeTo ns m = some P → P.length = m
  | 0, P, h => by simp [shapeTo] at h; subst h; rfl
  | m + 1, P, h => by
    rw [shapeTo] at h
    cases hm : shapeTo ns m with
    | none => rw [hm] at h; cases h
    | some P' =>
      rw [hm] at h
      have := shapeTo_len ns m P' hm
      simp only [Option.bind_some] at h
      cases hl : shapeStep P' (ns.getD m zeroNd) with
      | none => rw [hl] at h; cases h
      | some n =>
        rw [hl] at h
        simp only [Option.map_some, Option.some.injEq] at h
        rw [← h]
        simp [this]
theorem shapeTo_step {ns P : List Nd} {m : Nat} {n : Nd} (h : shapeTo ns m = some P) (hm : m < ns.length) (hn : shapeStep P ns[m] = some n) : shapeTo ns (m + 1) = some (P ++ [n]) := by
  have e : ns.getD m zeroNd = ns[m] := by simp [hm]
  rw [shapeTo, h, Option.bind_some, e, hn]
  rfl
theorem shapeTo_stop {ns P : List Nd} {m : Nat} (h : shapeTo ns m = some P) (hm : m < ns.length) (hn : shapeStep P ns[m] = none) : shapeTo ns (m + 1) = none := by
  have e : ns.getD m zeroNd = ns[m] := by simp [hm]
  rw [shapeTo, h, Option.bind_some, e, hn]
  rfl
theorem chain_up {α : Type} {F : Nat → Option α} (h0 : ∀ m, F m = none → F (m + 1) = none) {m k : Nat} (h : F m = none) (hk : m ≤ k) : F k = none := by
  induction hk with
  | refl => exact h
  | step _ ih => exact h0 _ ih
theorem linesF_up (ls : List ByteArray) : ∀ m, linesF ls m = none → linesF ls (m + 1) = none := fun m h => by rw [linesF, h]; rfl
theorem shapeTo_up (ns : List Nd) : ∀ m, shapeTo ns m = none → shapeTo ns (m + 1) = none := fun m h => by rw [shapeTo, h]; rfl
theorem chain_stop {α : Type} {F : Nat → Option α} (h0 : ∀ m, F m = none → F (m + 1) = none) {m k : Nat} {x y : α} (hm : F m = some x) (hm' : F (m + 1) = none) (hk : F k = some y) (hk' : F (k + 1) = none) : m = k := by
  by_cases h1 : m < k
  · have := chain_up h0 hm' (show m + 1 ≤ k by omega)
    rw [hk] at this; cases this
  · by_cases h2 : k < m
    · have := chain_up h0 hk' (show k + 1 ≤ m by omega)
      rw [hm] at this; cases this
    · omega
theorem chain_not {α : Type} {F : Nat → Option α} (h0 : ∀ m, F m = none → F (m + 1) = none) {m L : Nat} {y : α} (hm : m < L) (hm' : F (m + 1) = none) (hL : F L = some y) : False := by
  have := chain_up h0 hm' (show m + 1 ≤ L by omega)
  rw [hL] at this; cases this
/-- a text without the newline behind its last line -/
def trimS (s : ByteArray) : ByteArray := if s.data.toList.getLast? = some 10 then s.extract 0 (s.size - 1) else s
def linesOf (s : ByteArray) : List ByteArray := segs (trimS s) 10
/-- what Read answers -/
inductive ReadIs (s : ByteArray) : List Nd → Nat → Int → Prop
  | long (h : 4000 < s.size) : ReadIs s [] 0 1
  | bad (h : s.size ≤ 4000) (m : Nat) (ns : List Nd) (hm : m < (linesOf s).length) (h1 : linesF (linesOf s) m = some ns) (h2 : linesF (linesOf s) (m + 1) = none) : ReadIs s [] m 2
  | unlike (h : s.size ≤ 4000) (m : Nat) (ns P : List Nd) (h0 : linesF (linesOf s) (linesOf s).length = some ns) (hm : m < ns.length) (h1 : shapeTo ns m = some P) (h2 : shapeTo ns (m + 1) = none) : ReadIs s [] m 3
  | right (h : s.size ≤ 4000) (ns P : List Nd) (h0 : linesF (linesOf s) (linesOf s).length = some ns) (h1 : shapeTo ns ns.length = some P) : ReadIs s P 0 0
theorem ReadIs.unique {s : ByteArray} {g g' : List Nd} {a a' : Nat} {e e' : Int} (h : ReadIs s g a e) (h' : ReadIs s g' a' e') : g = g' ∧ a = a' ∧ e = e' := by
  cases h with
  | long h1 => cases h' with
    | long => exact ⟨rfl, rfl, rfl⟩
    | bad h2 => omega
    | unlike h2 => omega
    | right h2 => omega
  | bad h1 _ ns hm a1 a2 => cases h' with
    | long h2 => omega
    | bad h2 _ ns' hm' b1 b2 => exact ⟨rfl, chain_stop (linesF_up _) a1 a2 b1 b2, rfl⟩
    | unlike h2 _ ns' P b0 => exact (chain_not (linesF_up _) hm a2 b0).elim
    | right h2 ns' _ b0 => exact (chain_not (linesF_up _) hm a2 b0).elim
  | unlike h1 _ ns P a0 hm a1 a2 => cases h' with
    | long h2 => omega
    | bad h2 _ ns' hm' b1 b2 => exact (chain_not (linesF_up _) hm' b2 a0).elim
    | unlike h2 _ ns' P' b0 hm' b1 b2 =>
      rw [a0] at b0
      cases b0
      exact ⟨rfl, chain_stop (shapeTo_up _) a1 a2 b1 b2, rfl⟩
    | right h2 ns' _ b0 b1 =>
      rw [a0] at b0
      cases b0
      exact (chain_not (shapeTo_up _) hm a2 b1).elim
  | right h1 ns _ a0 a1 => cases h' with
    | long h2 => omega
    | bad h2 _ ns' hm' b1 b2 => exact (chain_not (linesF_up _) hm' b2 a0).elim
    | unlike h2 _ ns' P' b0 hm' b1 b2 =>
      rw [a0] at b0
      cases b0
      exact (chain_not (shapeTo_up _) hm' b2 a1).elim
    | right h2 ns' _ b0 b1 =>
      rw [a0] at b0
      cases b0
      rw [a1] at b1
      cases b1
      exact ⟨rfl, rfl, rfl⟩
/-- only what is ahead counts -/
theorem nth_ahead {P Q R : List Nd} {x : Int} (h : aheadB x P.length = true) : nth (P ++ Q) x = nth (P ++ R) x := by
  simp only [aheadB, decide_eq_true_eq] at h
  have hx : x.toNat < P.length := by omega
  simp only [nth, List.getD_eq_getElem?_getD, List.getElem?_append_left hx]
theorem placed_ahead (P Q R : List Nd) (n : Nd) : placedZ (P ++ Q) P.length n = placedZ (P ++ R) P.length n := by
  unfold placedZ
  have e : ((P ++ Q).take P.length) = ((P ++ R).take P.length) := by rw [List.take_left, List.take_left]
  by_cases h1 : 0 < partsZ n.op ∧ aheadB n.a P.length = false
  · rw [if_pos h1, if_pos h1]
  rw [if_neg h1, if_neg h1]
  by_cases h2 : 1 < partsZ n.op ∧ aheadB n.b P.length = false
  · rw [if_pos h2, if_pos h2]
  rw [if_neg h2, if_neg h2, e]
  by_cases h3 : n.op = 1
  · rw [if_pos h3, if_pos h3]
  rw [if_neg h3, if_neg h3]
  have ea : (if 0 < partsZ n.op then nth (P ++ Q) n.a else zeroNd) = (if 0 < partsZ n.op then nth (P ++ R) n.a else zeroNd) := by
    split
    · rename_i hp
      exact nth_ahead (by cases hh : aheadB n.a P.length with | true => rfl | false => exact absurd ⟨hp, hh⟩ h1)
    · rfl
  have eb : (if 1 < partsZ n.op then nth (P ++ Q) n.b else zeroNd) = (if 1 < partsZ n.op then nth (P ++ R) n.b else zeroNd) := by
    split
    · rename_i hp
      exact nth_ahead (by cases hh : aheadB n.b P.length with | true => rfl | false => exact absurd ⟨hp, hh⟩ h2)
    · rfl
  rw [ea, eb]
end Go.Proofs.YtlcmllmphpllbaaGreatDoor
namespace Go.Proofs.YtlcmllmphpllbaaGreatDoor

def pushL (c : UInt8) : List (List UInt8) → List (List UInt8)
  | [] => [[c]]
  | h :: t => (c :: h) :: t
def splitL (b : UInt8) : List UInt8 → List (List UInt8)
  | [] => [[]]
  | c :: r => if c = b then [] :: splitL b r else pushL c (splitL b r)
theorem splitL_hit (b : UInt8) : ∀ (x y : List UInt8), b ∉ x → splitL b (x ++ b :: y) = x :: splitL b y
  | [], y, _ => by simp [splitL]
  | c :: x, y, h => by
    have h1 : c ≠ b := fun e => h (by rw [e]; exact List.mem_cons_self)
    have h2 : b ∉ x := fun e => h (List.mem_cons_of_mem _ e)
    rw [List.cons_append, splitL, if_neg h1, splitL_hit b x y h2]
    rfl
theorem splitL_miss (b : UInt8) : ∀ (x : List UInt8), b ∉ x → splitL b x = [x]
  | [], _ => rfl
  | c :: x, h => by
    have h1 : c ≠ b := fun e => h (by rw [e]; exact List.mem_cons_self)
    have h2 : b ∉ x := fun e => h (List.mem_cons_of_mem _ e)
    rw [splitL, if_neg h1, splitL_miss b x h2]
    rfl
theorem indexByte_spec (b : UInt8) : ∀ l : List UInt8, (Lib.indexByte l b = -1 ∧ b ∉ l) ∨ ∃ x y, l = x ++ b :: y ∧ b ∉ x ∧ Lib.indexByte l b = (x.length : Int)
  | [] => .inl ⟨rfl, by simp⟩
  | c :: l => by
    by_cases e : c = b
    · subst e
      exact .inr ⟨[], l, rfl, by simp, by simp [Lib.indexByte]⟩
    · have e' : (c == b) = false := by simpa using e
      have eb : ¬ b = c := fun h => e h.symm
      rcases indexByte_spec b l with ⟨h1, h2⟩ | ⟨x, y, h1, h2, h3⟩
      · refine .inl ⟨by simp [Lib.indexByte, e', h1], ?_⟩
        simp [eb, h2]
      · refine .inr ⟨c :: x, y, by rw [h1]; rfl, by simp [eb, h2], ?_⟩
        have hne : ((x.length : Int) == -1) = false := by simp
        simp only [Lib.indexByte, e', h3, hne, Bool.false_eq_true, if_false, List.length_cons, Int.natCast_add, Int.natCast_one]
theorem one_byte (s : ByteArray) (b : UInt8) : Lib.indexB s ⟨#[b]⟩ = Lib.indexByte s.data.toList b :=
  (Lib.one s ⟨#[b]⟩ rfl).trans (congrArg (Lib.indexByte s.data.toList) (Lib.byte_back' b))
theorem extract_list (s : ByteArray) (a c : Nat) : (s.extract a c).data.toList = (s.data.toList.take c).drop a := by
  rw [ByteArray.data_extract, Array.toList_extract, List.extract_eq_take_drop, List.drop_take]
theorem splitB_eq (b : UInt8) : ∀ (k : Nat) (s : ByteArray), Lib.countB s ⟨#[b]⟩ = k → Lib.splitB ⟨#[b]⟩ 0 k s = (splitL b s.data.toList).map bs
  | k, s, hk => by
    rcases indexByte_spec b s.data.toList with ⟨h1, h2⟩ | ⟨x, y, h1, h2, h3⟩
    · rw [Lib.splitB_miss _ _ _ _ (by rw [one_byte]; exact h1), splitL_miss b _ h2]
      simp [bs_list]
    · have hi : Lib.indexB s ⟨#[b]⟩ = (x.length : Nat) := by rw [one_byte]; exact h3
      have hc := Lib.countB_hit s ⟨#[b]⟩ x.length (Nat.le_refl _) hi
      rw [hk] at hc
      match k, hk, hc with
      | 0, hk, hc => omega
      | k' + 1, hk, hc =>
        have e1 : (⟨#[b]⟩ : ByteArray).size = 1 := rfl
        rw [e1] at hc
        rw [Lib.splitB_hit _ _ _ _ x.length hi, e1]
        have hrest : (s.extract (x.length + 1) s.size).data.toList = y := by
          rw [extract_list, List.take_of_length_le (by rw [sizeList]; exact Nat.le_refl _), h1]
          simp
        have hx : s.extract 0 (x.length + 0) = bs x := by
          rw [← bs_list (s.extract 0 (x.length + 0)), extract_list, h1]
          simp
        rw [splitB_eq b k' _ (by omega), hrest, hx, h1, splitL_hit b x y h2]
        rfl
  termination_by k => k
theorem segs_eq (s : ByteArray) (b : UInt8) : segs s b = (splitL b s.data.toList).map bs := by
  have key : ∀ i, i ≤ s.size → (splitL b s.data.toList).map bs = (splitTo s b i).1 ++ (splitL b (s.data.toList.drop (splitTo s b i).2)).map bs ∧ b ∉ ((s.data.toList.take i).drop (splitTo s b i).2) := by
    intro i
    induction i with
    | zero => intro _; simp [splitTo]
    | succ i ih =>
      intro hi
      obtain ⟨h1, h2⟩ := ih (by omega)
      have hle := (splitTo_le s b i).1
      have hlen : i < s.data.toList.length := by rw [sizeList]; omega
      have hget : s.data.toList[i]? = some s.data.toList[i] := List.getElem?_eq_getElem hlen
      rw [splitTo]
      have hd : s.data.toList.drop (splitTo s b i).2 = (s.data.toList.take i).drop (splitTo s b i).2 ++ s.data.toList[i] :: s.data.toList.drop (i + 1) := by
        have e := List.take_append_drop i s.data.toList
        rw [List.drop_eq_getElem_cons hlen] at e
        conv => lhs; rw [← e]
        rw [List.drop_append_of_le_length (by rw [List.length_take]; omega)]
      by_cases hb : s.data.toList[i]? = some b
      · rw [if_pos hb]
        rw [hget] at hb
        have hb := Option.some.inj hb
        rw [hb] at hd
        refine ⟨?_, by simp⟩
        rw [h1, hd, splitL_hit b _ _ h2, List.map_cons, List.append_assoc]
        congr 1
        rw [List.singleton_append]
        congr 1
        rw [← bs_list (s.extract _ i), extract_list]
      · rw [if_neg hb]
        refine ⟨h1, ?_⟩
        rw [List.take_succ_eq_append_getElem hlen, List.drop_append_of_le_length (by rw [List.length_take]; omega)]
        intro hm
        rcases List.mem_append.1 hm with hm | hm
        · exact h2 hm
        · rw [List.mem_singleton] at hm
          rw [hget, ← hm] at hb
          exact hb rfl
  obtain ⟨h1, h2⟩ := key s.size (Nat.le_refl _)
  rw [List.take_of_length_le (by rw [sizeList]; exact Nat.le_refl _)] at h2
  rw [h1, segs, splitL_miss b _ h2]
  congr 1
  rw [← bs_list (s.extract _ s.size), extract_list, List.take_of_length_le (by rw [sizeList]; exact Nat.le_refl _)]
  rfl
theorem split_segs (s : ByteArray) (b : UInt8) : Lib.splitB ⟨#[b]⟩ 0 (Lib.countB s ⟨#[b]⟩) s = segs s b := by rw [splitB_eq b _ s rfl, segs_eq]
theorem count_segs (s : ByteArray) (b : UInt8) : Lib.countB s ⟨#[b]⟩ + 1 = (segs s b).length := by
  rw [← split_segs, Lib.splitB_all ⟨#[b]⟩ (Nat.le_refl _) 0 _ s rfl]
theorem trim_eq (s : ByteArray) : (⟨(Lib.trimSuffix s.data.toList (⟨#[10]⟩ : ByteArray).data.toList).toArray⟩ : ByteArray) = trimS s := by
  have e : (⟨#[10]⟩ : ByteArray).data.toList = [10] := rfl
  rw [e, trimS, Lib.trimSuffix, Lib.hasSuffix]
  have hiff : ([10].isSuffixOf s.data.toList = true) ↔ s.data.toList.getLast? = some 10 := by
    rw [List.isSuffixOf_iff_suffix]
    constructor
    · rintro ⟨t, ht⟩
      rw [← ht]; simp
    · intro h
      obtain ⟨t, ht⟩ := List.getLast?_eq_some_iff.1 h
      exact ⟨t, ht.symm⟩
  by_cases h : s.data.toList.getLast? = some 10
  · rw [if_pos (hiff.2 h), if_pos h]
    show bs _ = _
    rw [← bs_list (s.extract 0 (s.size - 1)), extract_list, sizeList]
    rfl
  · rw [if_neg (fun hh => h (hiff.1 hh)), if_neg h]
end Go.Proofs.YtlcmllmphpllbaaGreatDoor
namespace Go.Proofs.YtlcmllmphpllbaaGreatDoor

/-- x is n but for a shape that n does not say -/
structure Like (n x : Nd) : Prop where
  op : x.op = n.op
  a : x.a = n.a
  b : x.b = n.b
  k : x.k = n.k
  sized : (n.op = 1 ∨ n.op = 2) → x.rows = n.rows ∧ x.cols = n.cols
theorem Like.placed {n x : Nd} (h : Like n x) (Q : List Nd) (m : Nat) : placedZ Q m x = placedZ Q m n := by
  obtain ⟨op, a, b, k, r, c⟩ := n
  obtain ⟨op', a', b', k', r', c'⟩ := x
  obtain ⟨h1, h2, h3, h4, h5⟩ := h
  simp only at h1 h2 h3 h4 h5
  subst h1 h2 h3 h4
  by_cases e : op' = 1 ∨ op' = 2
  · obtain ⟨rfl, rfl⟩ := h5 e
    rfl
  · simp only [not_or] at e
    simp only [placedZ, e.1, if_false, shapeZ, e.2, or_self]
theorem Like.said {n x : Nd} (h : Like n x) (hk : knownP n.op) : saidOf x = saidOf n := by
  obtain ⟨op, a, b, k, r, c⟩ := n
  obtain ⟨op', a', b', k', r', c'⟩ := x
  obtain ⟨h1, h2, h3, h4, h5⟩ := h
  simp only at h1 h2 h3 h4 h5 hk
  subst h1 h2 h3 h4
  rcases hk with rfl | rfl | rfl | rfl | rfl | rfl | rfl | rfl
  · obtain ⟨rfl, rfl⟩ := h5 (.inl rfl); rfl
  · obtain ⟨rfl, rfl⟩ := h5 (.inr rfl); rfl
  · rw [said3, said3]
  · rw [said4, said4]
  · rw [said5, said5]
  · rw [said6, said6]
  · rw [said7, said7]
  · rw [said8, said8]
theorem add_like {P : List Nd} {ins ins' : Nat → Int × Int} {n x : Nd} (h : addZ P ins n = some (x, ins')) : Like n x := by
  unfold addZ at h
  split at h
  · cases h
  · cases hs : shapeOpt P n with
    | none => rw [hs] at h; cases h
    | some rc =>
      obtain ⟨r, c⟩ := rc
      rw [hs] at h
      simp only at h
      have hx : x = ⟨n.op, n.a, n.b, n.k, r, c⟩ := by
        split at h
        · split at h
          · injection h with h; injection h with h _; exact h.symm
          · split at h
            · injection h with h; injection h with h _; exact h.symm
            · cases h
        · injection h with h; injection h with h _; exact h.symm
      subst hx
      refine ⟨rfl, rfl, rfl, rfl, fun e => ?_⟩
      unfold shapeOpt at hs
      rcases e with e | e
      · rw [if_pos e] at hs
        split at hs
        · injection hs with hs; injection hs with h1 h2; exact ⟨h1.symm, h2.symm⟩
        · cases hs
      · rw [if_neg (by omega), if_pos e] at hs
        split at hs
        · injection hs with hs; injection hs with h1 h2; exact ⟨h1.symm, h2.symm⟩
        · cases hs
theorem step_like {P : List Nd} {n x : Nd} (hk : knownP n.op) (h : shapeStep P n = some x) : Like n x ∧ (placedZ (P ++ [n]) P.length n).2.2 = true ∧ x.rows = (placedZ (P ++ [n]) P.length n).1 ∧ x.cols = (placedZ (P ++ [n]) P.length n).2.1 := by
  unfold shapeStep at h
  split at h
  · rename_i hp
    injection h with h
    subst h
    refine ⟨⟨rfl, rfl, rfl, rfl, fun e => ?_⟩, hp, rfl, rfl⟩
    obtain ⟨op, a, b, k, r, c⟩ := n
    simp only at e ⊢
    rcases e with rfl | rfl
    · exact ⟨rfl, rfl⟩
    · exact ⟨rfl, rfl⟩
  · cases h
/-- a node as a line says it -/
def Raw (n : Nd) : Prop := knownP n.op ∧ saidOf n = n
theorem raw_zero {n : Nd} (h : Raw n) : ((decide (2 ≤ partsZ n.op) || n.b == 0) && (decide (1 ≤ partsZ n.op) || n.a == 0) && (countedB n.op || n.k == 0)) = true := by
  obtain ⟨op, a, b, k, r, c⟩ := n
  obtain ⟨hk, hs⟩ := h
  simp only at hk
  rcases hk with rfl | rfl | rfl | rfl | rfl | rfl | rfl | rfl
  · rw [said1] at hs; simp only [Nd.mk.injEq] at hs; obtain ⟨_, rfl, rfl, _⟩ := hs; rfl
  · rw [said2] at hs; simp only [Nd.mk.injEq] at hs; obtain ⟨_, rfl, rfl, _⟩ := hs; rfl
  · rw [said3] at hs; simp only [Nd.mk.injEq] at hs; obtain ⟨_, _, _, rfl, _⟩ := hs; rfl
  · rw [said4] at hs; simp only [Nd.mk.injEq] at hs; obtain ⟨_, _, _, rfl, _⟩ := hs; rfl
  · rw [said5] at hs; simp only [Nd.mk.injEq] at hs; obtain ⟨_, _, _, rfl, _⟩ := hs; rfl
  · rw [said6] at hs; simp only [Nd.mk.injEq] at hs; obtain ⟨_, _, rfl, _⟩ := hs; rfl
  · rw [said7] at hs; simp only [Nd.mk.injEq] at hs; obtain ⟨_, _, _, rfl, _⟩ := hs; rfl
  · rw [said8] at hs; simp only [Nd.mk.injEq] at hs; obtain ⟨_, _, rfl, rfl, _⟩ := hs; rfl
theorem last_at (P : List Nd) (x : Nd) : ∃ h : P.length < (P ++ [x]).length, (P ++ [x])[P.length] = x := ⟨by simp, by simp⟩
theorem step_add {P : List Nd} {ins : Nat → Int × Int} {n : Nd} (hT : TieIn ins P) (hr : Raw n) :
    (∀ n', shapeStep P n = some n' → ∃ ins', addZ P ins n = some (n', ins') ∧ TieIn ins' (P ++ [n'])) ∧ (shapeStep P n = none → addZ P ins n = none) := by
  have key : ∀ x, Like n x → (nodeOk (P ++ [x]) P.length x = true → ∃ ins', addZ P ins n = some (x, ins') ∧ TieIn ins' (P ++ [x])) ∧ (nodeOk (P ++ [x]) P.length x = false → ∀ n' ins', addZ P ins n = some (n', ins') → n' ≠ x) := by
    intro x hx
    obtain ⟨hl, he⟩ := last_at P x
    have h := nodeOk_iff_add (ns := P ++ [x]) (m := P.length) (ins := ins) hl (by rw [List.take_left]; exact hT) (by rw [he, hx.op]; exact hr.1)
    rw [he, List.take_left, hx.said hr.1, hr.2] at h
    have e : (P ++ [x]).take (P.length + 1) = P ++ [x] := List.take_of_length_le (by simp)
    rw [e] at h
    exact h
  have hz := raw_zero hr
  have ok : ∀ x, Like n x → nodeOk (P ++ [x]) P.length x = ((placedZ (P ++ [n]) P.length n).2.2 && (placedZ (P ++ [n]) P.length n).1 == x.rows && (placedZ (P ++ [n]) P.length n).2.1 == x.cols) := by
    intro x hx
    have e : placedZ (P ++ [x]) P.length x = placedZ (P ++ [n]) P.length n := by rw [placed_ahead P [x] [n] x, hx.placed]
    unfold nodeOk
    rw [e, hx.op, hx.b, hx.a, hx.k]
    simp only [Bool.and_eq_true] at hz
    rw [hz.1.1, hz.1.2, hz.2]
    simp
  refine ⟨fun n' h => ?_, fun h => ?_⟩
  · obtain ⟨hl, h1, h2, h3⟩ := step_like hr.1 h
    refine (key n' hl).1 ?_
    rw [ok n' hl, h1, h2, h3]
    simp
  · cases ha : addZ P ins n with
    | none => rfl
    | some xi =>
      obtain ⟨x, ins'⟩ := xi
      have hl := add_like ha
      cases hk : nodeOk (P ++ [x]) P.length x with
      | false => exact absurd rfl ((key x hl).2 hk x ins' ha)
      | true =>
        rw [ok x hl] at hk
        simp only [Bool.and_eq_true] at hk
        unfold shapeStep at h
        rw [if_pos hk.1.1] at h
        cases h
theorem LineYes.raw {ws : List ByteArray} {n : Nd} (h : LineYes ws n) : Raw n := by
  obtain ⟨op, l, hs⟩ := h
  have hl := hs.len
  have hn := hs.node
  subst hn
  rcases hs.known with rfl | rfl | rfl | rfl | rfl | rfl | rfl | rfl
  all_goals
    match l, hl with
    | [x], _ => exact ⟨by simp [putAll, saysZ, putZ, bare, knownP], rfl⟩
    | [x, y], _ => exact ⟨by simp [putAll, saysZ, putZ, bare, knownP], rfl⟩
    | [x, y, z], _ => exact ⟨by simp [putAll, saysZ, putZ, bare, knownP], rfl⟩
theorem linesF_raw (ls : List ByteArray) : ∀ m ns, linesF ls m = some ns → ∀ n ∈ ns, Raw n
  | 0, ns, h, n, hn => by simp [linesF] at h; subst h; cases hn
  | m + 1, ns, h, n, hn => by
    rw [linesF] at h
    cases hm : linesF ls m with
    | none => rw [hm] at h; cases h
    | some ns' =>
      rw [hm] at h
      simp only [Option.bind_some] at h
      split at h
      · cases h
      · cases hl : lineF (segs (ls.getD m ⟨#[]⟩) 32) with
        | none => rw [hl] at h; cases h
        | some x =>
          rw [hl] at h
          simp only [Option.map_some, Option.some.injEq] at h
          rw [← h] at hn
          rcases List.mem_append.1 hn with hn | hn
          · exact linesF_raw ls m ns' hm n hn
          · rw [List.mem_singleton.1 hn]
            exact (lineF_some hl).raw
end Go.Proofs.YtlcmllmphpllbaaGreatDoor
