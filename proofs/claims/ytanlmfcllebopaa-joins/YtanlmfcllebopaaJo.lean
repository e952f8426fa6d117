/- thriftref.Join, walked: the walk. -/
import Derived.Test.YtanlmfcllebopaaJn
namespace Go.Proofs.Ytanlmfcllebopaa
open Go.RowKit Go.Maps

def idN (i : Nat) : Nat := i
theorem lst_of_owns {w : World} {base n : Nat} {v : Value} {p : Nat → Nat} (h : w.ownsRow base 3 1 v n ((List.range n).map fun i => .int .i64 (p i : Int))) : ∃ ao cap, v = .slice ao n cap ∧ Lst w ao n cap p ∧ ∀ g, ao = some ⟨g, 0, none⟩ → base ≤ g := by
  have h0 := h.1
  rcases h.2 with ⟨rfl, hn⟩ | ⟨g, cap, cur, rfl, hb, r⟩
  · exact ⟨none, 0, by rw [hn], fun hp => absurd hp (by omega), fun g e => (by cases e)⟩
  · exact ⟨some ⟨g, 0, none⟩, cap, rfl, fun _ => ⟨g, rfl, h0, .inr ⟨g, cap, cur, rfl, Nat.zero_le _, r⟩⟩, fun g' e => (by cases e; exact hb)⟩
theorem PDone.next {ps : List (Int × Int)} {r0 : Nat → Nat} {k x y : Nat} (hk : k < ps.length) (hx : ps[k].1 = x) (hy : ps[k].2 = y) (h : PDone ps r0 k ∧ r0 x = r0 y) : PDone ps r0 (k + 1) := by
  intro j hj hjk
  by_cases e : j = k
  · subst e; rw [hx, hy]; simpa using h.2
  · exact h.1 j hj (by omega)
theorem pair_E {ts : List Tm} {ps : List (Int × Int)} {k x y : Nat} (hk : k < ps.length) (hx : ps[k].1 = x) (hy : ps[k].2 = y) : ∀ E, Cong ts ps E → E x y := by
  intro E hE
  have := hE.pair ps[k] (List.getElem_mem hk)
  rw [hx, hy] at this
  simpa using this
theorem TDone.skip {ts : List Tm} {r0 : Nat → Nat} {i k : Nat} (h : TDone ts r0 i k) (hl : likeB ts r0 i k = false) : TDone ts r0 i (k + 1) := by
  intro i' k' h1 h2 h3 h4
  by_cases e : i' = i ∧ k' = k
  · rw [e.1, e.2, hl] at h4; cases h4
  · exact h i' k' h1 (by omega) h3 h4
theorem TDone.done {ts : List Tm} {r0 : Nat → Nat} {i k : Nat} (h : TDone ts r0 i k) (hr : r0 i = r0 k) : TDone ts r0 i (k + 1) := by
  intro i' k' h1 h2 h3 h4
  by_cases e : i' = i ∧ k' = k
  · rw [e.1, e.2]; exact hr
  · exact h i' k' h1 (by omega) h3 h4
theorem TDone.row {ts : List Tm} {r0 : Nat → Nat} {i : Nat} (h : TDone ts r0 i i) : TDone ts r0 (i + 1) 0 := fun i' k' h1 h2 h3 h4 => h i' k' h1 (by omega) h3 h4
/-- what the document's Join answers -/
def RJoinPost (ts : List Tm) (ps : List (Int × Int)) (w : World) (e : Ending) (w' : World) : Prop :=
  (Hid (mayBe ts ps = false) ∧ e = .returned (.tuple #[.slice none 0 0, .int .i64 7]) ∧ Below w.heap.size w w') ∨
  (Hid (mayBe ts ps = true) ∧ ∃ ao cap r, e = .returned (.tuple #[.slice ao ts.length cap, .int .i64 0]) ∧ Lst w' ao ts.length cap r ∧ Best ts ps r ∧ Below w.heap.size w w')
set_option maxHeartbeats 8000000 in
set_option maxRecDepth 100000 in
theorem rjoin_any (ts : List Tm) (ps : List (Int × Int)) (ao bo : Option Addr) (ca cb : Nat) (w : World) (hT : Terms w ao ts) (hP : Pairs w bo ps) (h1 : ts.length * 32 ≤ 140737488351232) (h2 : ps.length * 16 ≤ 140737488351232) :
    Calls Try.prog 18 #[.slice ao ts.length ca, .slice bo ps.length cb] w (RJoinPost ts ps w) := by
  have HT : Hid (Terms w ao ts) := hT
  have HP : Hid (Pairs w bo ps) := hP
  clear hT hP
  obtain ⟨i0, hi, hz0, hz1, hz2⟩ := jinfo_parts fInfo
  have HI : Hid (i0.zero = some (.int .i64 0) ∧ i0.size = 1 ∧ i0.bytes = 8 ∧ Try.prog.info? 3 = some i0) := ⟨hz0, hz1, hz2, hi⟩
  clear hi hz0 hz1 hz2
  by_cases l1 : 200 < ts.length
  · have HN : Hid (mayBe ts ps = false) := mayBe_long1 l1
    have hb : decide ((200 : Int) < ts.length) = true := decide_eq_true (by omega)
    go_enter Try.func18, Try.ntmps18
    go_wp2
    go_ret2
    exact .inl ⟨HN.out, rfl, Bl.refl _⟩
  have b1 : decide ((200 : Int) < ts.length) = false := decide_eq_false (by omega)
  by_cases l2 : 200 < ps.length
  · have HN : Hid (mayBe ts ps = false) := mayBe_long2 l2
    have hb : decide ((200 : Int) < ps.length) = true := decide_eq_true (by omega)
    go_enter Try.func18, Try.ntmps18
    go_wp2
    go_ret2
    exact .inl ⟨HN.out, rfl, Bl.refl _⟩
  have b2 : decide ((200 : Int) < ps.length) = false := decide_eq_false (by omega)
  go_enter Try.func18, Try.ntmps18
  go_wp2
  clear b1 b2
  go_loopw [6] (fun v wr => ∃ i : Nat, v = .int .i64 (i : Int) ∧ i ≤ ts.length ∧ Hid (∀ j, (hj : j < ts.length) → j < i → (aheadP ts[j].a j && aheadP ts[j].b j) = true) ∧ Below w.heap.size w wr) (fun v _ => ts.length - (intOf v).toNat)
  case atStart => exact ⟨0, rfl, Nat.zero_le _, fun j _ h => absurd h (Nat.not_lt_zero _), Bl.refl _⟩
  case round =>
    obtain ⟨i, rfl, hi, hall, hbw⟩ := hrel
    by_cases hlt : i < ts.length
    · obtain ⟨b, off, rfl, hbs, c0, c1, c2, c3⟩ := HT.out.below hbw i hlt
      have hal := al1 hbs
      cases q1 : decide (ts[i].a < -1)
      case true =>
        have HN : Hid (mayBe ts ps = false) := termsOk_no hlt (by rw [ahead_split, q1]; rfl)
        go_wp2
        go_ret2
        exact .inl ⟨HN.out, rfl, Bl.more hbw _⟩
      cases q2 : decide ((i : Int) ≤ ts[i].a)
      case true =>
        have HN : Hid (mayBe ts ps = false) := termsOk_no hlt (by rw [ahead_split, q1, q2]; rfl)
        go_wp2
        go_ret2
        exact .inl ⟨HN.out, rfl, Bl.more hbw _⟩
      cases q3 : decide (ts[i].b < -1)
      case true =>
        have HN : Hid (mayBe ts ps = false) := termsOk_no hlt (by rw [ahead_split, ahead_split, q1, q2, q3]; rfl)
        go_wp2
        go_ret2
        exact .inl ⟨HN.out, rfl, Bl.more hbw _⟩
      cases q4 : decide ((i : Int) ≤ ts[i].b)
      case true =>
        have HN : Hid (mayBe ts ps = false) := termsOk_no hlt (by rw [ahead_split, ahead_split, q1, q2, q3, q4]; rfl)
        go_wp2
        go_ret2
        exact .inl ⟨HN.out, rfl, Bl.more hbw _⟩
      have HY : Hid ((aheadP ts[i].a i && aheadP ts[i].b i) = true) := by show (aheadP ts[i].a i && aheadP ts[i].b i) = true; rw [ahead_split, ahead_split, q1, q2, q3, q4]; rfl
      go_wp2
      exact ⟨⟨i + 1, by go_num, by omega, (fun j hj hl => by
        by_cases e : j = i
        · subst e; exact HY.out
        · exact hall.out j hj (by omega)), Bl.more hbw _⟩, by simp [intOf]; omega⟩
    · have hie : i = ts.length := by omega
      subst hie
      have HY1 : Hid (termsOk ts ts.length = true) := termsOk_yes fun j hj => hall.out j hj hj
      clear hi hlt hall
      go_wp2
      go_loopw [8] (fun v wr => ∃ i : Nat, v = .int .i64 (i : Int) ∧ i ≤ ps.length ∧ Hid (∀ j, (hj : j < ps.length) → j < i → (placeP ps[j].1 ts.length && placeP ps[j].2 ts.length) = true) ∧ Below w.heap.size w wr) (fun v _ => ps.length - (intOf v).toNat)
      case atStart => exact ⟨0, rfl, Nat.zero_le _, fun j _ h => absurd h (Nat.not_lt_zero _), hbw⟩
      case round =>
        clear hbw
        obtain ⟨i, rfl, hi, hall, hbw⟩ := hrel
        by_cases hlt : i < ps.length
        · obtain ⟨b, off, rfl, hbs, c0, c1⟩ := HP.out.below hbw i hlt
          have hal := al1 hbs
          cases q1 : decide (ps[i].1 < 0)
          case true =>
            have HN : Hid (mayBe ts ps = false) := pairsOk_no hlt (by rw [place_split, q1]; rfl)
            go_wp2
            go_ret2
            exact .inl ⟨HN.out, rfl, Bl.more hbw _⟩
          cases q2 : decide ((ts.length : Int) ≤ ps[i].1)
          case true =>
            have HN : Hid (mayBe ts ps = false) := pairsOk_no hlt (by rw [place_split, q1, q2]; rfl)
            go_wp2
            go_ret2
            exact .inl ⟨HN.out, rfl, Bl.more hbw _⟩
          cases q3 : decide (ps[i].2 < 0)
          case true =>
            have HN : Hid (mayBe ts ps = false) := pairsOk_no hlt (by rw [place_split, place_split, q1, q2, q3]; rfl)
            go_wp2
            go_ret2
            exact .inl ⟨HN.out, rfl, Bl.more hbw _⟩
          cases q4 : decide ((ts.length : Int) ≤ ps[i].2)
          case true =>
            have HN : Hid (mayBe ts ps = false) := pairsOk_no hlt (by rw [place_split, place_split, q1, q2, q3, q4]; rfl)
            go_wp2
            go_ret2
            exact .inl ⟨HN.out, rfl, Bl.more hbw _⟩
          have HY : Hid ((placeP ps[i].1 ts.length && placeP ps[i].2 ts.length) = true) := by show (placeP ps[i].1 ts.length && placeP ps[i].2 ts.length) = true; rw [place_split, place_split, q1, q2, q3, q4]; rfl
          go_wp2
          exact ⟨⟨i + 1, by go_num, by omega, (fun j hj hl => by
            by_cases e : j = i
            · subst e; exact HY.out
            · exact hall.out j hj (by omega)), Bl.more hbw _⟩, by simp [intOf]; omega⟩
        · have hie : i = ps.length := by omega
          subst hie
          have HY2 : Hid (mayBe ts ps = true) := by
            show mayBe ts ps = true
            simp only [mayBe, HY1.out, pairsOk_yes fun j hj => hall.out j hj hj, Bool.and_true, Bool.and_eq_true, decide_eq_true_eq]
            omega
          clear hi hlt hall HY1
          go_wp2
          go_loopw [10, 11] (fun v j wr => ∃ i : Nat, j = .int .i64 (i : Int) ∧ i ≤ ts.length ∧ wr.ownsRow w.heap.size 3 1 v i ((List.range i).map fun i => .int .i64 (idN i : Int)) ∧ Below w.heap.size w wr) (fun _ v _ => ts.length - (intOf v).toNat)
          case atStart => exact ⟨0, rfl, Nat.zero_le _, World.ownsRow_nil _ _ _ _, hbw⟩
          case round =>
            clear hbw
            obtain ⟨i, rfl, hi, hown, hbw⟩ := hrel
            by_cases hlt : i < ts.length
            · have hsz := hbw.size
              go_wp2_with (at_builtin; refine wpList_append_own _ rfl _ _ 26 rfl w.heap.size 3 i0 _ 1 8 jUnderInts HI.out.2.2.2 HI.out.1 HI.out.2.1 HI.out.2.2.1 rfl (by decide) _ _ _ rfl (hown.alloc _) ⟨wr.heap.size, 0, none⟩ 1 1 [.int .i64 (i : Int)] rfl rfl ?c1 ?c2 ?c3 ?c4 ?c5 ?_)
              case c1 =>
                intro j u hj
                match j, hj with
                | 0, hj => simp at hj; subst hj; simp [Addr.add, go_sem]
                | j + 1, hj => simp at hj
              case c2 => intro u hu; simp at hu; subst hu; rfl
              case c3 => unfold maxLen; omega
              case c4 => omega
              case c5 => simp; omega
              intro v' w1 hown' hgrow _
              have hT : (List.range (i + 1)).map (fun i => Value.int .i64 ((idN i : Nat) : Int)) = (List.range i).map (fun i => Value.int .i64 ((idN i : Nat) : Int)) ++ [.int .i64 (i : Int)] := by
                rw [List.range_succ, List.map_append]; rfl
              rw [← hT] at hown'
              clear hT
              have hb1 : Below w.heap.size w w1 := (hbw.alloc hsz _).grown hgrow (by simp; omega) (fun j e => (hown.lt j e).1)
              clear hgrow hown
              go_wp2
              go_roundw
              case rel => exact ⟨i + 1, by go_num, by omega, hown', hb1⟩
              case measure => simp [intOf]; omega
            · have hie : i = ts.length := by omega
              subst hie
              obtain ⟨lo, lc, rfl, hL, hG⟩ := lst_of_owns hown
              have HR : Hid (Right ts ps) := right_of HY2.out
              have HL0 : Hid (Lst wr lo ts.length lc idN) := hL
              have HG : Hid (∀ g, lo = some ⟨g, 0, none⟩ → w.heap.size ≤ g) := hG
              have HS0 : Hid (Sound ts ps idN) := by
                have := sound_id ts ps
                have e : root (fun i => i) = fun i => i := funext fun i => root_top rfl
                rw [e] at this
                exact this
              clear hi hlt hown hL hG
              go_wp2
              go_loopw [12] (fun v wr => ∃ (r : Nat → Nat) (m : Bool), v = .bool m ∧ Lst wr lo ts.length lc r ∧ Sound ts ps r ∧ Hid (m = false → Best ts ps r) ∧ Below w.heap.size w wr) (fun v wr => 2 * topsL wr lo ts.length + moreOf v)
              case atStart => exact ⟨idN, true, rfl, HL0.out, HS0.out, fun e => (by cases e), hbw⟩
              case round =>
                clear hbw HL0 HS0
                obtain ⟨r0, m0, rfl, hL, hS, hB, hbw⟩ := hrel
                have HL : Hid (Lst wr lo ts.length lc r0) := hL
                have HS : Hid (Sound ts ps r0) := hS
                clear hL hS
                cases m0
                · have HBST : Hid (Best ts ps r0) := hB.out rfl
                  clear hB
                  go_wp2
                  go_ret2
                  exact .inr ⟨HY2.out, lo, lc, r0, rfl, HL.out, HBST.out, hbw⟩
                · clear hB
                  have HB0 : Hid (Below w.heap.size w wr) := hbw
                  clear hbw
                  go_wp2
                  go_loopw [12, 13] (fun v j wr' => ∃ (k : Nat) (r : Nat → Nat) (m : Bool), v = .bool m ∧ j = .int .i64 (k : Int) ∧ k ≤ ps.length ∧ Lst wr' lo ts.length lc r ∧ RInv ts ps r0 (PDone ps r0 k) r m ∧ Below w.heap.size w wr') (fun _ j _ => ps.length - (intOf j).toNat)
                  case atStart => exact ⟨0, r0, false, rfl, rfl, Nat.zero_le _, HL.out, (RInv.start HS.out).imp fun _ _ j _ h => absurd h (Nat.not_lt_zero _), HB0.out⟩
                  case round =>
                    obtain ⟨k, r, m, rfl, rfl, hk, hL, hI, hbw⟩ := hrel
                    have HLk : Hid (Lst wr lo ts.length lc r) := hL
                    have HIk : Hid (RInv ts ps r0 (PDone ps r0 k) r m) := hI
                    clear hL hI
                    by_cases hlt : k < ps.length
                    · obtain ⟨b, off, rfl, hbs, c0, c1⟩ := HP.out.below hbw k hlt
                      obtain ⟨⟨x1, x2⟩, y1, y2⟩ := HR.out.pair _ (List.getElem_mem hlt)
                      obtain ⟨x, hx⟩ := Int.eq_ofNat_of_zero_le x1
                      obtain ⟨y, hy⟩ := Int.eq_ofNat_of_zero_le y1
                      have HXY : Hid (ps[k].1 = x ∧ ps[k].2 = y) := ⟨hx, hy⟩
                      rw [hx] at c0 x2
                      rw [hy] at c1 y2
                      clear x1 y1 hx hy
                      obtain ⟨g, rfl, hg⟩ := HLk.out (by omega)
                      have hwg := HG.out g rfl
                      have HLg : Hid (LAt wr g ts.length lc r) := hg
                      clear hg HLk
                      have HM : Hid (RInv ts ps r0 (PDone ps r0 (k + 1)) (joinR r x y) (m || (r x != r y))) := (HIk.out.merge (by omega) (by omega) (pair_E hlt HXY.out.1 HXY.out.2)).imp fun _ h => PDone.next hlt HXY.out.1 HXY.out.2 h
                      cases m
                      all_goals
                        go_wp2
                        go_region_with (first | (go_at_call 27; refine (merged_any g ts.length lc r x y _ (HLg.out.keeps (S := fun _ => False) (Keeps.of_below (by repeat (first | exact Bl.refl _ | refine Below.drew ?_))) id) (by omega) (by omega) (by omega)).mono ?_; rintro e w2 ⟨rfl, hL2, hK2⟩; have HL2 : Hid (LAt w2 g ts.length lc (joinR r x y) ∧ Below w.heap.size w w2) := ⟨hL2, (Bl.trans hbw (by repeat (first | exact Bl.refl _ | refine Below.drew ?_))).trans (hK2.below (by exact hbw.size) (fun k hk e => by omega))⟩; clear hL2 hK2) | fail)
                      all_goals
                        go_wp2
                        exact ⟨⟨k + 1, joinR r x y, _, rfl, by go_num, by omega, fun _ => ⟨g, rfl, HL2.out.1⟩, by simpa using HM.out, HL2.out.2⟩, by simp [intOf]; omega⟩
                    · have hke : k = ps.length := by omega
                      subst hke
                      have HB1 : Hid (Below w.heap.size w wr) := hbw
                      clear hk hlt hbw
                      go_wp2
                      go_loopw [12, 15] (fun v j wr' => ∃ (i : Nat) (r : Nat → Nat) (m : Bool), v = .bool m ∧ j = .int .i64 (i : Int) ∧ i ≤ ts.length ∧ Lst wr' lo ts.length lc r ∧ RInv ts ps r0 (PDone ps r0 ps.length ∧ TDone ts r0 i 0) r m ∧ Below w.heap.size w wr') (fun _ j _ => ts.length - (intOf j).toNat)
                      case atStart => exact ⟨0, r, m, rfl, rfl, Nat.zero_le _, HLk.out, HIk.out.imp fun _ h => ⟨h, fun i' k' h1 h2 => absurd h2 (by omega)⟩, HB1.out⟩
                      case round =>
                        clear HLk HIk HB1
                        obtain ⟨i, r, m, rfl, rfl, hi, hL, hI, hbw⟩ := hrel
                        have HLi : Hid (Lst wr lo ts.length lc r) := hL
                        have HIi : Hid (RInv ts ps r0 (PDone ps r0 ps.length ∧ TDone ts r0 i 0) r m) := hI
                        clear hL hI
                        by_cases hlt : i < ts.length
                        · have HB2 : Hid (Below w.heap.size w wr) := hbw
                          clear hbw
                          go_wp2
                          go_loopw [12, 16] (fun v j wr' => ∃ (k : Nat) (r : Nat → Nat) (m : Bool), v = .bool m ∧ j = .int .i64 (k : Int) ∧ k ≤ i ∧ Lst wr' lo ts.length lc r ∧ RInv ts ps r0 (PDone ps r0 ps.length ∧ TDone ts r0 i k) r m ∧ Below w.heap.size w wr') (fun _ j _ => i - (intOf j).toNat)
                          case atStart => exact ⟨0, r, m, rfl, rfl, Nat.zero_le _, HLi.out, HIi.out, HB2.out⟩
                          case round =>
                            clear HLi HIi HB2
                            obtain ⟨k, r, m, rfl, rfl, hk, hL, hI, hbw⟩ := hrel
                            have HIk : Hid (RInv ts ps r0 (PDone ps r0 ps.length ∧ TDone ts r0 i k) r m) := hI
                            have HLk : Hid (Lst wr lo ts.length lc r) := hL
                            clear hL hI
                            by_cases hki : k < i
                            · obtain ⟨b, off, rfl, hbs, c0, c1, c2, c3⟩ := HT.out.below hbw i hlt
                              obtain ⟨b', off', he, hbs', d0, d1, d2, d3⟩ := HT.out.below hbw k (by omega)
                              cases he
                              obtain ⟨g, rfl, hg⟩ := HLk.out (by omega)
                              have hwg := HG.out g rfl
                              have HLg : Hid (LAt wr g ts.length lc r) := hg
                              clear hg HLk hbs'
                              have hal := al1 hbs
                              have hkn : k < ts.length := by omega
                              have HPA : Hid ((PartOk ts.length ts[i].a ∧ PartOk ts.length ts[i].b) ∧ (PartOk ts.length ts[k].a ∧ PartOk ts.length ts[k].b)) := by
                                have si := HR.out.stands hlt
                                have sk := HR.out.stands hkn
                                rw [tm_at hlt] at si
                                rw [tm_at hkn] at sk
                                exact ⟨⟨si.a, si.b⟩, sk.a, sk.b⟩
                              have HLIKE : Hid (likeB ts r i k = (ts[i].op == ts[k].op && ts[i].k == ts[k].k && metB r ts[i].a ts[k].a && metB r ts[i].b ts[k].b)) := by
                                show likeB ts r i k = _
                                rw [likeB, tm_at hlt, tm_at hkn]
                              have HSKIP : Hid (likeB ts r i k = false → RInv ts ps r0 (PDone ps r0 ps.length ∧ TDone ts r0 i (k + 1)) r m) := fun e => HIk.out.imp fun e2 h => ⟨h.1, h.2.skip (by rw [← e2]; exact e)⟩
                              have HLst : Hid (∀ W, Below wr.heap.size wr W → Lst W (some ⟨g, 0, none⟩) ts.length lc r) := fun W hW _ => ⟨g, rfl, HLg.out.keeps (S := fun _ => False) (Keeps.of_below hW) id⟩
                              cases q1 : (ts[i].op == ts[k].op)
                              case false =>
                                have HN := HSKIP.out (by rw [HLIKE.out, q1]; rfl)
                                have HN' : Hid (RInv ts ps r0 (PDone ps r0 ps.length ∧ TDone ts r0 i (k + 1)) r m) := HN
                                clear HN
                                go_wp2
                                exact ⟨⟨k + 1, r, m, rfl, by go_num, by omega, HLst.out _ (Bl.more (Bl.more (Bl.refl _) _) _), HN'.out, Bl.more (Bl.more hbw _) _⟩, by simp [intOf]; omega⟩
                              cases q2 : (ts[i].k == ts[k].k)
                              case false =>
                                have HN := HSKIP.out (by rw [HLIKE.out, q1, q2]; rfl)
                                have HN' : Hid (RInv ts ps r0 (PDone ps r0 ps.length ∧ TDone ts r0 i (k + 1)) r m) := HN
                                clear HN
                                go_wp2
                                exact ⟨⟨k + 1, r, m, rfl, by go_num, by omega, HLst.out _ (Bl.more (Bl.more (Bl.refl _) _) _), HN'.out, Bl.more (Bl.more hbw _) _⟩, by simp [intOf]; omega⟩
                              cases q3 : metB r ts[i].a ts[k].a
                              case false =>
                                have HN := HSKIP.out (by rw [HLIKE.out, q1, q2, q3]; rfl)
                                have HN' : Hid (RInv ts ps r0 (PDone ps r0 ps.length ∧ TDone ts r0 i (k + 1)) r m) := HN
                                clear HN
                                go_wp2_with fail
                                refine (met_any _ _ _ r _ _ _ (HLst.out _ (Bl.more (Bl.more (Bl.refl _) _) _)) HPA.out.1.1 HPA.out.2.1).mono ?_
                                rintro e w2 ⟨rfl, kk, rfl⟩
                                go_wp2
                                exact ⟨⟨k + 1, r, m, rfl, by go_num, by omega, HLst.out _ (Bl.drew (Bl.more (Bl.more (Bl.refl _) _) _) _), HN'.out, Bl.drew (Bl.more (Bl.more hbw _) _) _⟩, by simp [intOf]; omega⟩
                              cases q4 : metB r ts[i].b ts[k].b
                              case false =>
                                have HN := HSKIP.out (by rw [HLIKE.out, q1, q2, q3, q4]; rfl)
                                have HN' : Hid (RInv ts ps r0 (PDone ps r0 ps.length ∧ TDone ts r0 i (k + 1)) r m) := HN
                                clear HN
                                go_wp2_with fail
                                refine (met_any _ _ _ r _ _ _ (HLst.out _ (Bl.more (Bl.more (Bl.refl _) _) _)) HPA.out.1.1 HPA.out.2.1).mono ?_
                                rintro e w2 ⟨rfl, kk, rfl⟩
                                go_wp2_with fail
                                refine (met_any _ _ _ r _ _ _ (HLst.out _ (Bl.drew (Bl.more (Bl.more (Bl.refl _) _) _) _)) HPA.out.1.2 HPA.out.2.2).mono ?_
                                rintro e w3 ⟨rfl, kk2, rfl⟩
                                go_wp2
                                exact ⟨⟨k + 1, r, m, rfl, by go_num, by omega, HLst.out _ (Bl.drew (Bl.more (Bl.more (Bl.refl _) _) _) _), HN'.out, Bl.drew (Bl.more (Bl.more hbw _) _) _⟩, by simp [intOf]; omega⟩
                              have HM : Hid (RInv ts ps r0 (PDone ps r0 ps.length ∧ TDone ts r0 i (k + 1)) (joinR r i k) (m || (r i != r k))) := (HIk.out.merge hlt hkn (fun E hE => like_E HR.out HIk.out.sound hlt hkn (by rw [HLIKE.out, q1, q2, q3, q4]; rfl) hE)).imp fun _ h => ⟨h.1.1, h.1.2.done h.2⟩
                              clear HSKIP
                              cases m
                              all_goals
                                go_wp2_with fail
                                refine (met_any _ _ _ r _ _ _ (HLst.out _ (Bl.more (Bl.more (Bl.refl _) _) _)) HPA.out.1.1 HPA.out.2.1).mono ?_
                                rintro e w2 ⟨rfl, kk, rfl⟩
                                go_wp2_with fail
                                refine (met_any _ _ _ r _ _ _ (HLst.out _ (Bl.drew (Bl.more (Bl.more (Bl.refl _) _) _) _)) HPA.out.1.2 HPA.out.2.2).mono ?_
                                rintro e w3 ⟨rfl, kk2, rfl⟩
                                go_wp2_with fail
                                refine (merged_any g ts.length lc r i k _ (HLg.out.keeps (S := fun _ => False) (Keeps.of_below (Bl.drew (Bl.more (Bl.more (Bl.refl _) _) _) _)) id) (by omega) (by omega) (by omega)).mono ?_
                                rintro e w4 ⟨rfl, hL4, hK4⟩
                                have HL4 : Hid (LAt w4 g ts.length lc (joinR r i k) ∧ Below w.heap.size w w4) := ⟨hL4, (Bl.drew (Bl.more (Bl.more hbw _) _) _).trans (hK4.below (by simp; have := hbw.size; omega) (fun k hk e => by omega))⟩
                                clear hL4 hK4
                                go_wp2
                                exact ⟨⟨k + 1, joinR r i k, _, rfl, by go_num, by omega, fun _ => ⟨g, rfl, HL4.out.1⟩, by simpa using HM.out, HL4.out.2⟩, by simp [intOf]; omega⟩
                            · have hke : k = i := by omega
                              subst hke
                              clear hk hki
                              go_wp2
                              exact ⟨⟨k + 1, r, m, rfl, by go_num, by omega, HLk.out, HIk.out.imp fun _ h => ⟨h.1, h.2.row⟩, hbw⟩, by simp [intOf]; omega⟩
                        · have hie : i = ts.length := by omega
                          subst hie
                          clear hi hlt
                          go_wp2
                          refine ⟨⟨r, m, rfl, HLi.out, HIi.out.sound, fun e => best_of_done HIi.out e, hbw⟩, ?_⟩
                          cases m
                          · rw [(HIi.out.same rfl).1] at HLi
                            rw [topsL_same HL.out HLi.out]
                            simp [moreOf]
                          · have := topsL_lt HL.out HLi.out (HIi.out.lt rfl)
                            simp only [moreOf]
                            omega
end Go.Proofs.Ytanlmfcllebopaa
