/- The methods of ops.Work by the table: what each node's numbers are. -/
import Derived.Test.YtanlmfcllebopaaZd
namespace Go.Proofs.Ytanlmfcllebopaa
open Go.RowKit Go.Shelf

/-- what a node of each Op asks of its input and its parts, at a row and a column -/
def Fits (n : Nd) (I A B : Mx) (i k : Int) : Prop :=
  (n.op = 1 → FitOne I i k) ∧ (n.op = 3 ∨ n.op = 4 ∨ n.op = 5 → FitTwo A B i k) ∧ (n.op = 6 → FitOne A i k) ∧ (n.op = 7 → FitTimes A B i k) ∧ (n.op = 8 → FitOne A k i)
def Reads3 (w : World) (n : Nd) (I A B : Mx) (io ao bo : Option Addr) : Prop := (n.op = 1 → Ints w io I.nums) ∧ (0 < partsZ n.op → Ints w ao A.nums) ∧ (1 < partsZ n.op → Ints w bo B.nums)
theorem Reads3.below {w w' : World} {n : Nd} {I A B : Mx} {io ao bo : Option Addr} (h : Reads3 w n I A B io ao bo) (hb : Below w.heap.size w w') : Reads3 w' n I A B io ao bo :=
  ⟨fun e => (h.1 e).below hb, fun e => (h.2.1 e).below hb, fun e => (h.2.2 e).below hb⟩
theorem atF_enters {op : Int} (h : knownP op) : ∀ args w, (callFunc (atF op) args).run Try.prog w = .ok (.enter (atF op) args) w := by
  rcases h with rfl | rfl | rfl | rfl | rfl | rfl | rfl | rfl
  · exact enters_of (P := Try.prog) Try.func50 (by kernel_rfl) rfl
  · exact enters_of (P := Try.prog) Try.func53 (by kernel_rfl) rfl
  · exact enters_of (P := Try.prog) Try.func56 (by kernel_rfl) rfl
  · exact enters_of (P := Try.prog) Try.func57 (by kernel_rfl) rfl
  · exact enters_of (P := Try.prog) Try.func58 (by kernel_rfl) rfl
  · exact enters_of (P := Try.prog) Try.func60 (by kernel_rfl) rfl
  · exact enters_of (P := Try.prog) Try.func63 (by kernel_rfl) rfl
  · exact enters_of (P := Try.prog) Try.func65 (by kernel_rfl) rfl
theorem at_all (n : Nd) (I A B : Mx) (io ao bo : Option Addr) (ic ac bc : Nat) (i k : Int) (w : World) (ho : knownP n.op) (hr : Reads3 w n I A B io ao bo) (hf : Fits n I A B i k) :
    Calls Try.prog (atF n.op) #[.agg #[.int .i64 n.op, .int .i64 n.a, .int .i64 n.b, .int .i64 n.k, .int .i64 n.rows, .int .i64 n.cols, .int .i64 I.rows, .int .i64 I.cols, .slice io I.nums.length ic, .int .i64 A.rows, .int .i64 A.cols, .slice ao A.nums.length ac, .int .i64 B.rows, .int .i64 B.cols, .slice bo B.nums.length bc], .int .i64 i, .int .i64 k] w fun e w' => e = .returned (.int .i64 (valZ n I A B i k)) ∧ Below w.heap.size w w' := by
  obtain ⟨f1, f3, f6, f7, f8⟩ := hf
  obtain ⟨h1, h2, h3⟩ := hr
  rcases ho with e | e | e | e | e | e | e | e
  · have ha : atF n.op = 50 := by rw [e]; rfl
    have hv : valZ n I A B i k = numAt I.cols I.nums i k := by simp [valZ, e]
    rw [ha, hv]; exact wat_input n I A B io ao bo ic ac bc i k w (h1 e) (f1 e)
  · have ha : atF n.op = 53 := by rw [e]; rfl
    have hv : valZ n I A B i k = n.k := by simp [valZ, placeZ', e]
    rw [ha, hv]; exact wat_fill n I A B io ao bo ic ac bc i k w
  · have ha : atF n.op = 56 := by rw [e]; rfl
    have hv : valZ n I A B i k = wrap64 (numAt A.cols A.nums i k + numAt B.cols B.nums i k) := by simp [valZ, placeZ', e]
    rw [ha, hv]; exact wat_sum n I A B io ao bo ic ac bc i k w (h2 (by rw [e]; decide)) (h3 (by rw [e]; decide)) (f3 (by omega))
  · have ha : atF n.op = 57 := by rw [e]; rfl
    have hv : valZ n I A B i k = wrap64 (numAt A.cols A.nums i k - numAt B.cols B.nums i k) := by simp [valZ, placeZ', e]
    rw [ha, hv]; exact wat_less n I A B io ao bo ic ac bc i k w (h2 (by rw [e]; decide)) (h3 (by rw [e]; decide)) (f3 (by omega))
  · have ha : atF n.op = 58 := by rw [e]; rfl
    have hv : valZ n I A B i k = wrap64 (numAt A.cols A.nums i k * numAt B.cols B.nums i k) := by simp [valZ, placeZ', e]
    rw [ha, hv]; exact wat_product n I A B io ao bo ic ac bc i k w (h2 (by rw [e]; decide)) (h3 (by rw [e]; decide)) (f3 (by omega))
  · have ha : atF n.op = 60 := by rw [e]; rfl
    have hv : valZ n I A B i k = wrap64 (n.k * numAt A.cols A.nums i k) := by simp [valZ, placeZ', e]
    rw [ha, hv]; exact wat_scale n I A B io ao bo ic ac bc i k w (h2 (by rw [e]; decide)) (f6 e)
  · have ha : atF n.op = 63 := by rw [e]; rfl
    have hv : valZ n I A B i k = sumTo A B i k A.cols.toNat := by simp [valZ, placeZ', e]
    rw [ha, hv]; exact wat_times n I A B io ao bo ic ac bc i k w (h2 (by rw [e]; decide)) (h3 (by rw [e]; decide)) (f7 e)
  · have ha : atF n.op = 65 := by rw [e]; rfl
    have hv : valZ n I A B i k = numAt A.cols A.nums k i := by simp [valZ, placeZ', e]
    rw [ha, hv]; exact wat_turn n I A B io ao bo ic ac bc i k w (h2 (by rw [e]; decide)) (f8 e)
/-- what is asked of the parts of a right node holds of what was given -/
theorem node_fits {ns : List Nd} {ins : List Mx} {m : Nat} (hg : isGraphB ns = true) (hm : m < ns.length) (hin : inputOk ins ns[m] = true) {i k : Int} (hi : 0 ≤ i ∧ i < ns[m].rows) (hk : 0 ≤ k ∧ k < ns[m].cols) :
    Fits ns[m] (inputOf ins ns[m]) (partA (gives ns ins m) ns[m]) (partB (gives ns ins m) ns[m]) i k := by
  have hok := ok_at hg m hm
  obtain ⟨pa, pb, _, _⟩ := ok_parts hok
  have hs := sides hg m hm
  have hkn : knownP ns[m].op := op_range hok
  generalize hn : ns[m] = n at *
  simp only [nodeOk, Bool.and_eq_true, beq_iff_eq] at hok
  obtain ⟨⟨⟨⟨⟨q1, q2⟩, q3⟩, _⟩, _⟩, _⟩ := hok
  refine ⟨fun e => ?_, fun e => ?_, fun e => ?_, fun e => ?_, fun e => ?_⟩
  · simp only [inputOf, e, if_true]
    simp only [inputOk, e, bne_self_eq_false, Bool.false_or, Bool.and_eq_true, decide_eq_true_eq, beq_iff_eq] at hin
    obtain ⟨⟨⟨_, e1⟩, e2⟩, e3⟩ := hin
    obtain ⟨s1, s2⟩ := hs
    exact ⟨⟨by rw [e1]; exact s1, by rw [e2]; exact s2, by rw [e1, e2]; exact e3⟩, by rw [e1]; exact hi, by rw [e2]; exact hk⟩
  · have e1 : ¬ n.op = 1 := by omega
    have hp : partsZ n.op = 2 := by unfold partsZ; rw [if_pos (by omega)]
    have hps := placed_shape q1 e1
    rw [hps] at q1 q2 q3
    have es : ∀ x y : Nd, shapeZ n x y = (x.rows, x.cols, x.rows == y.rows && x.cols == y.cols) := fun x y => by unfold shapeZ; rw [if_neg (by omega), if_pos e]
    rw [es, hp] at q1 q2 q3
    simp at q1 q2 q3
    obtain ⟨oa, ra, ca⟩ := partM_ok (ins := ins) hg (Nat.le_of_lt hm) (pa (by omega))
    obtain ⟨ob, rb, cb⟩ := partM_ok (ins := ins) hg (Nat.le_of_lt hm) (pb (by omega))
    have hA : partA (gives ns ins m) n = partM (gives ns ins m) n.a := by simp [partA, hp]
    have hB : partB (gives ns ins m) n = partM (gives ns ins m) n.b := by simp [partB, hp]
    rw [hA, hB]
    exact ⟨⟨oa, ob⟩, ⟨hi.1, by omega⟩, ⟨hk.1, by omega⟩, by omega, by omega⟩
  · have e1 : ¬ n.op = 1 := by omega
    have hp : partsZ n.op = 1 := by unfold partsZ; rw [if_neg (by omega), if_pos (by omega)]
    have hps := placed_shape q1 e1
    rw [hps] at q2 q3
    have es : ∀ x y : Nd, shapeZ n x y = (x.rows, x.cols, true) := fun x y => by unfold shapeZ; rw [if_neg (by omega), if_neg (by omega), if_pos e]
    rw [es, hp] at q2 q3
    simp at q2 q3
    obtain ⟨oa, ra, ca⟩ := partM_ok (ins := ins) hg (Nat.le_of_lt hm) (pa (by omega))
    have hA : partA (gives ns ins m) n = partM (gives ns ins m) n.a := by simp [partA, hp]
    rw [hA]
    exact ⟨oa, ⟨hi.1, by omega⟩, hk.1, by omega⟩
  · have e1 : ¬ n.op = 1 := by omega
    have hp : partsZ n.op = 2 := by unfold partsZ; rw [if_pos (by omega)]
    have hps := placed_shape q1 e1
    rw [hps] at q1 q2 q3
    have es : ∀ x y : Nd, shapeZ n x y = (x.rows, y.cols, x.cols == y.rows) := fun x y => by unfold shapeZ; rw [if_neg (by omega), if_neg (by omega), if_neg (by omega), if_pos e]
    rw [es, hp] at q1 q2 q3
    simp at q1 q2 q3
    obtain ⟨oa, ra, ca⟩ := partM_ok (ins := ins) hg (Nat.le_of_lt hm) (pa (by omega))
    obtain ⟨ob, rb, cb⟩ := partM_ok (ins := ins) hg (Nat.le_of_lt hm) (pb (by omega))
    have hA : partA (gives ns ins m) n = partM (gives ns ins m) n.a := by simp [partA, hp]
    have hB : partB (gives ns ins m) n = partM (gives ns ins m) n.b := by simp [partB, hp]
    rw [hA, hB]
    exact ⟨⟨oa, ob⟩, ⟨hi.1, by omega⟩, ⟨hk.1, by omega⟩, by omega⟩
  · have e1 : ¬ n.op = 1 := by omega
    have hp : partsZ n.op = 1 := by unfold partsZ; rw [if_neg (by omega), if_pos (by omega)]
    have hps := placed_shape q1 e1
    rw [hps] at q2 q3
    have es : ∀ x y : Nd, shapeZ n x y = (x.cols, x.rows, true) := fun x y => by unfold shapeZ; rw [if_neg (by omega), if_neg (by omega), if_neg (by omega), if_neg (by omega), if_pos e]
    rw [es, hp] at q2 q3
    simp at q2 q3
    obtain ⟨oa, ra, ca⟩ := partM_ok (ins := ins) hg (Nat.le_of_lt hm) (pa (by omega))
    have hA : partA (gives ns ins m) n = partM (gives ns ins m) n.a := by simp [partA, hp]
    rw [hA]
    exact ⟨oa, ⟨hk.1, by omega⟩, hi.1, by omega⟩
end Go.Proofs.Ytanlmfcllebopaa
