/- thriftref.words, thriftref.Print, walked. -/
import Derived.Test.YtlcmllmphpllbaaGreatDoorWe
import Derived.Test.YtlcmllmphpllbaaGreatDoorWg
namespace Go.Proofs.YtlcmllmphpllbaaGreatDoor
open Go.RowKit

def wordL (op : Int) : List UInt8 :=
  if op = 1 then [105, 110] else if op = 2 then [102, 105, 108, 108] else if op = 3 then [97, 100, 100] else if op = 4 then [115, 117, 98] else if op = 5 then [109, 117, 108]
  else if op = 6 then [115, 99, 97, 108, 101] else if op = 7 then [116, 105, 109, 101, 115] else if op = 8 then [116, 117, 114, 110] else []
def numsOf (n : Nd) : List Int :=
  (if countedB n.op then [n.k] else []) ++ (if 0 < partsZ n.op then [n.a] else []) ++ (if 1 < partsZ n.op then [n.b] else []) ++ (if sizedB n.op then [n.rows, n.cols] else [])
def lineL (n : Nd) : List UInt8 := wordL n.op ++ (numsOf n).flatMap (fun x => 32 :: Lib.itoa x) ++ [10]
def printL (ns : List Nd) : List UInt8 := ns.flatMap lineL
def inInt (x : Int) : Prop := -9223372036854775808 ≤ x ∧ x ≤ 9223372036854775807
def NdWf (n : Nd) : Prop := inInt n.op ∧ inInt n.a ∧ inInt n.b ∧ inInt n.k ∧ inInt n.rows ∧ inInt n.cols
def Wf (ns : List Nd) : Prop := ∀ i, (h : i < ns.length) → NdWf ns[i]

/-- the nine words in memory -/
def WordsAt (w : World) (b : Nat) : Prop :=
  b < w.heap.size ∧ w.cell? ⟨b, 1, none⟩ = some (.string (bs (wordL 1))) ∧ w.cell? ⟨b, 2, none⟩ = some (.string (bs (wordL 2))) ∧ w.cell? ⟨b, 3, none⟩ = some (.string (bs (wordL 3))) ∧ w.cell? ⟨b, 4, none⟩ = some (.string (bs (wordL 4)))
  ∧ w.cell? ⟨b, 5, none⟩ = some (.string (bs (wordL 5))) ∧ w.cell? ⟨b, 6, none⟩ = some (.string (bs (wordL 6))) ∧ w.cell? ⟨b, 7, none⟩ = some (.string (bs (wordL 7))) ∧ w.cell? ⟨b, 8, none⟩ = some (.string (bs (wordL 8)))
theorem WordsAt.below {w w' : World} {b : Nat} (h : WordsAt w b) (hb : Below w.heap.size w w') : WordsAt w' b := by
  obtain ⟨hs, c1, c2, c3, c4, c5, c6, c7, c8⟩ := h
  refine ⟨Nat.lt_of_lt_of_le hs hb.size, ?_, ?_, ?_, ?_, ?_, ?_, ?_, ?_⟩ <;> rw [hb.cell (by exact hs)] <;> assumption

set_option maxHeartbeats 400000 in
theorem words_any (w : World) :
    Calls Tryz.prog 18 #[] w fun e w' => e = .returned (.slice (some ⟨w.heap.size, 0, none⟩) 9 9) ∧ WordsAt w' w.heap.size ∧ Below w.heap.size w w' := by
  go_enter Tryz.func18, Tryz.ntmps18
  go_wp2
  go_ret
  refine ⟨rfl, ?_, Bl.more (Bl.refl _) _⟩
  refine ⟨by simp, ?_, ?_, ?_, ?_, ?_, ?_, ?_, ?_⟩ <;> simp [go_sem] <;> rfl

-- the shape of a right node's line, by its op
theorem op_range {ns : List Nd} {m : Nat} {n : Nd} (h : nodeOk ns m n = true) : n.op = 1 ∨ n.op = 2 ∨ n.op = 3 ∨ n.op = 4 ∨ n.op = 5 ∨ n.op = 6 ∨ n.op = 7 ∨ n.op = 8 := by
  simp only [nodeOk, Bool.and_eq_true] at h
  have h1 := h.1.1.1.1.1
  by_cases e : n.op = 1 ∨ n.op = 2 ∨ n.op = 3 ∨ n.op = 4 ∨ n.op = 5 ∨ n.op = 6 ∨ n.op = 7 ∨ n.op = 8
  · exact e
  · simp only [not_or] at e
    obtain ⟨e1, e2, e3, e4, e5, e6, e7, e8⟩ := e
    simp [placedZ, shapeZ, partsZ, e1, e2, e3, e4, e5, e6, e7, e8] at h1
theorem printL_step (ns : List Nd) (m : Nat) (h : m < ns.length) : printL (ns.take (m + 1)) = printL (ns.take m) ++ lineL ns[m] := by
  rw [List.take_succ_eq_append_getElem h, printL, List.flatMap_append]; simp [printL]
end Go.Proofs.YtlcmllmphpllbaaGreatDoor
