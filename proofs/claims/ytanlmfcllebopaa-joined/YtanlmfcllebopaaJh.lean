/- (*classes.Table).Close, joins.Join, joins.MayBe and thrift.Join, walked. -/
import Derived.Test.YtanlmfcllebopaaJg
namespace Go.Proofs.Ytanlmfcllebopaa
open Go.RowKit Go.Maps

/-- how many tops the forest in block fb has, read off the world -/
def topsIn (w : World) (fb n : Nat) : Nat := (List.range n).countP fun i => match w.cell? ⟨fb, i, none⟩ with | some v => intOf v == (i : Int) | none => false
theorem topsIn_eq {w : World} {fb n : Nat} {p : Nat → Nat} (h : FAt w fb n p) (hp : Tops p) : topsIn w fb n = tops (root p) n := by
  unfold topsIn tops
  apply List.countP_congr
  intro i hi
  rw [h.cell (List.mem_range.1 hi)]
  simp only [intOf, beq_iff_eq, Int.natCast_inj]
  constructor
  · exact fun e => root_top e
  · intro e
    have := root_fix hp i
    rw [e] at this
    exact this
theorem Covers.trans {M N : Tm → Option Nat} {r s : Nat → Nat} {t : Tm} {i : Nat} (h : Covers M r t i) (hc : Coarser r s) (g : ∀ key pl, M key = some pl → Covers N s key pl) : Covers N s t i := by
  obtain ⟨key, pl, h1, h2, h3⟩ := h
  obtain ⟨key', pl', g1, g2, g3⟩ := g key pl h1
  exact ⟨key', pl', g1, g2.trans (hc _ _ h2), g3.trans (ck_coarser hc h3)⟩
theorem best_of_same {ts : List Tm} {ps : List (Int × Int)} {r : Nat → Nat} {M N : Tm → Option Nat} {s : Nat → Nat} (h : FInv ts ps r M (fun _ => False) s N false) (hs : Sound ts ps r) (hp : ∀ q ∈ ps, r q.1.toNat = r q.2.toNat) (hc : ∀ i, i < ts.length → Covers M r (tm ts i) i) : Best ts ps s := by
  obtain ⟨e, g⟩ := h.same rfl
  rw [e]
  refine best_of_closed hs hp hc fun k1 p1 k2 p2 a1 a2 a3 => ?_
  obtain ⟨x1, b1, c1⟩ := (g k1 p1 a1).resolve_left id
  obtain ⟨x2, b2, c2⟩ := (g k2 p2 a2).resolve_left id
  rw [a3, b2] at b1
  cases b1
  exact c1.symm.trans c2
/-- what is known of a table that is being closed -/
structure CInv (ts : List Tm) (ps : List (Int × Int)) (tb xb fb m : Nat) (w : World) (mb : Nat) (p : Nat → Nat) (M : Tm → Option Nat) : Prop where
  t : TableAt w tb xb fb ts.length mb
  f : FAt w fb ts.length p
  tops : Tops p
  map : MapIs w mb m M
  sound : Sound ts ps (root p)
  holds : Holds ts ps M
  pair : ∀ q ∈ ps, root p q.1.toNat = root p q.2.toNat
  covers : ∀ i, i < ts.length → Covers M (root p) (tm ts i) i
  ne1 : mb ≠ fb
  ne2 : tb ≠ mb
theorem CInv.next {ts : List Tm} {ps : List (Int × Int)} {tb xb fb m : Nat} {w w' : World} {mb mb' : Nat} {p p' : Nat → Nat} {M M' : Tm → Option Nat} {j : Bool} (h : CInv ts ps tb xb fb m w mb p M) (g : FollowPost ts ps p M tb xb fb m w j w' p' M' mb') : CInv ts ps tb xb fb m w' mb' p' M' where
  t := g.t
  f := g.f
  tops := g.tops
  map := g.map
  sound := g.inv.sound
  holds := g.inv.holds
  pair := fun q hq => g.inv.coarser _ _ (h.pair q hq)
  covers := fun i hi => (h.covers i hi).trans g.inv.coarser fun key pl hk => (g.inv.covers key pl hk).resolve_left id
  ne1 := by have := h.f.lt; have := g.new; omega
  ne2 := by have := h.t.lt; have := g.new; omega
set_option maxHeartbeats 2000000 in
theorem close_any (ts : List Tm) (ps : List (Int × Int)) (tb xb fb mb m : Nat) (p : Nat → Nat) (M : Tm → Option Nat) (w : World) (h : CInv ts ps tb xb fb m w mb p M) (hm : m ≤ 1000) (hn : ts.length ≤ 1000) (h1 : tb ≠ fb) (h4 : xb ≠ fb) (h5 : tb ≠ xb) :
    Calls Try.prog 36 #[.pointer (some ⟨tb, 0, none⟩)] w fun e w' => e = .returned (.tuple #[]) ∧ ∃ p', FAt w' fb ts.length p' ∧ Tops p' ∧ Best ts ps (root p') ∧ Keeps (fun k => k = fb ∨ k = tb) w w' := by
  have HI : Hid (CInv ts ps tb xb fb m w mb p M) := h
  clear h
  go_enter Try.func36, Try.ntmps36
  go_wp2
  go_loopw [3] (fun _ wr => ∃ (mb' : Nat) (q : Nat → Nat) (N : Tm → Option Nat), CInv ts ps tb xb fb m wr mb' q N ∧ Keeps (fun k => k = fb ∨ k = tb) w wr) (fun _ wr => topsIn wr fb ts.length)
  case atStart => exact ⟨mb, p, M, HI.out, Keeps.refl _ _⟩
  case round =>
    obtain ⟨mb', q, N, hC, hk⟩ := hrel
    have HC : Hid (CInv ts ps tb xb fb m wr mb' q N) := hC
    clear hC
    go_wp2_with (first
      | (go_at_call 47; refine (follow_any ts ps tb xb fb mb' m q N _ HC.out.t HC.out.f HC.out.tops HC.out.map hm hn HC.out.sound HC.out.holds h1 HC.out.ne1 HC.out.ne2 h4 h5).mono ?_; rintro e w2 ⟨j, q', N', mb2, rfl, hP⟩; have HP : Hid (FollowPost ts ps q N tb xb fb m wr j w2 q' N' mb2) := hP; clear hP; cases j)
      | go_in)
    · exact bodyPost_end (v := .tuple #[]) (by simp [results, Try.results36, go_sem]) rfl ⟨rfl, q', HP.out.f, HP.out.tops, best_of_same HP.out.inv HC.out.sound HC.out.pair HC.out.covers, hk.trans HP.out.keeps⟩
    · refine ⟨⟨mb2, q', N', HC.out.next HP.out, hk.trans HP.out.keeps⟩, ?_⟩
      rw [topsIn_eq HP.out.f HP.out.tops, topsIn_eq HC.out.f HC.out.tops]
      exact HP.out.inv.lt rfl
/-- terms and pairs in memory -/
def TermAt (w : World) (ao : Option Addr) (i : Nat) (t : Tm) : Prop :=
  ∃ b off, ao = some ⟨b, off, none⟩ ∧ b < w.heap.size ∧ w.cell? ⟨b, off + i * 4, none⟩ = some (.int .i64 t.op) ∧ w.cell? ⟨b, off + i * 4 + 1, none⟩ = some (.int .i64 t.k) ∧ w.cell? ⟨b, off + i * 4 + 2, none⟩ = some (.int .i64 t.a) ∧ w.cell? ⟨b, off + i * 4 + 3, none⟩ = some (.int .i64 t.b)
def Terms (w : World) (ao : Option Addr) (ts : List Tm) : Prop := ∀ i, (h : i < ts.length) → TermAt w ao i ts[i]
theorem Terms.below {w w' : World} {ao : Option Addr} {ts : List Tm} (h : Terms w ao ts) (hb : Below w.heap.size w w') : Terms w' ao ts := by
  intro i hi
  obtain ⟨b, off, rfl, hs, c0, c1, c2, c3⟩ := h i hi
  refine ⟨b, off, rfl, Nat.lt_of_lt_of_le hs hb.size, ?_, ?_, ?_, ?_⟩ <;> rw [hb.cell (by exact hs)] <;> assumption
def PairAt (w : World) (ao : Option Addr) (i : Nat) (q : Int × Int) : Prop :=
  ∃ b off, ao = some ⟨b, off, none⟩ ∧ b < w.heap.size ∧ w.cell? ⟨b, off + i * 2, none⟩ = some (.int .i64 q.1) ∧ w.cell? ⟨b, off + i * 2 + 1, none⟩ = some (.int .i64 q.2)
def Pairs (w : World) (ao : Option Addr) (ps : List (Int × Int)) : Prop := ∀ i, (h : i < ps.length) → PairAt w ao i ps[i]
theorem Pairs.below {w w' : World} {ao : Option Addr} {ps : List (Int × Int)} (h : Pairs w ao ps) (hb : Below w.heap.size w w') : Pairs w' ao ps := by
  intro i hi
  obtain ⟨b, off, rfl, hs, c0, c1⟩ := h i hi
  refine ⟨b, off, rfl, Nat.lt_of_lt_of_le hs hb.size, ?_, ?_⟩ <;> rw [hb.cell (by exact hs)] <;> assumption
def aheadP (x : Int) (i : Nat) : Bool := decide (x = -1 ∨ (0 ≤ x ∧ x < i))
def placeP (x : Int) (n : Nat) : Bool := decide (0 ≤ x ∧ x < n)
/-- terms and pairs that may be -/
def termsOk (ts : List Tm) (m : Nat) : Bool := (List.range m).all fun i => aheadP (tm ts i).a i && aheadP (tm ts i).b i
def pairsOk (n : Nat) (ps : List (Int × Int)) : Bool := ps.all fun q => placeP q.1 n && placeP q.2 n
def mayBe (ts : List Tm) (ps : List (Int × Int)) : Bool := decide (ts.length ≤ 200) && decide (ps.length ≤ 200) && termsOk ts ts.length && pairsOk ts.length ps
theorem tm_at {ts : List Tm} {i : Nat} (h : i < ts.length) : tm ts i = ts[i] := by simp [tm, h]
/-- what is known of terms and pairs that may be -/
structure Right (ts : List Tm) (ps : List (Int × Int)) : Prop where
  n : ts.length ≤ 200
  m : ps.length ≤ 200
  term : ∀ i, i < ts.length → PartOk i (tm ts i).a ∧ PartOk i (tm ts i).b
  pair : ∀ q ∈ ps, (0 ≤ q.1 ∧ q.1 < ts.length) ∧ (0 ≤ q.2 ∧ q.2 < ts.length)
theorem right_of {ts : List Tm} {ps : List (Int × Int)} (h : mayBe ts ps = true) : Right ts ps := by
  simp only [mayBe, Bool.and_eq_true, decide_eq_true_eq, termsOk, pairsOk, List.all_eq_true, List.mem_range, aheadP, placeP] at h
  exact ⟨h.1.1.1, h.1.1.2, fun i hi => h.1.2 i hi, fun q hq => h.2 q hq⟩
theorem Right.stands {ts : List Tm} {ps : List (Int × Int)} (h : Right ts ps) {i : Nat} (hi : i < ts.length) : Stands ts ps (tm ts i) i where
  lt := hi
  a := by rcases (h.term i hi).1 with e | e; exact .inl e; exact .inr ⟨e.1, by omega⟩
  b := by rcases (h.term i hi).2 with e | e; exact .inl e; exact .inr ⟨e.1, by omega⟩
  op := rfl
  k := rfl
  same := fun E hE => by
    have one : ∀ x : Int, PartOk i x → PE E x x := fun x hx => by
      rcases hx with e | e
      · exact .inl ⟨e, e⟩
      · exact .inr ⟨e.1, e.1, hE.refl _⟩
    exact ⟨one _ (h.term i hi).1, one _ (h.term i hi).2⟩
theorem sound_id (ts : List Tm) (ps : List (Int × Int)) : Sound ts ps (root fun i => i) := by
  have e : root (fun i => i) = fun i => i := funext fun i => root_top rfl
  rw [e]
  exact ⟨fun _ => Nat.le_refl _, fun _ => rfl, fun E hE i => hE.refl i⟩
theorem FAt.row {w : World} {fb n : Nat} {p : Nat → Nat} (h : FAt w fb n p) {base : Nat} (hb : base ≤ fb) : w.ownsRow base 3 1 (.slice (some ⟨fb, 0, none⟩) n n) n ((List.range n).map fun i => .int .i64 (p i : Int)) := by
  refine ⟨h.1, ?_⟩
  rcases h.2 with ⟨h', _⟩ | ⟨g, cap, cur, hv, _, r⟩
  · cases h'
  · have e := hv
    simp only [Value.slice.injEq, Option.some.injEq, Addr.mk.injEq, and_true, true_and] at hv
    obtain ⟨rfl, rfl⟩ := hv
    exact .inr ⟨_, _, cur, rfl, hb, r⟩
end Go.Proofs.Ytanlmfcllebopaa
