/- append on a row of one's own, all that is known of it: where the new row lies, that the old list stands, that a cell which holds what is written goes on holding it. -/
import Derived.Test.YtlcmllmphpllbaaGreatDoorZi
import Derived.Deep.AppendLies
namespace Go.Proofs.YtlcmllmphpllbaaGreatDoor
open Go.RowKit

theorem append_holds {P : Program} (w : World) (base : Nat) (t ty e : TypeId) (i : TypeInfo) (z : Value) (size bytes : Nat) (ht : P.underlying t = some (.slice e)) (hi : P.info? e = some i) (hz : i.zero = some z)
    (hsize : i.size = size) (hby : i.bytes = bytes) (v : Value) (n : Nat) (xs : List Value) (hown : w.ownsRow base e size v n xs)
    (a : Addr) (m c : Nat) (news : List Value) (hl : news.length = m * size) (hnews : ∀ j u, news[j]? = some u → w.cell? (a.add j) = some u) (h1 : ∀ u ∈ news, u.oneCell' = true)
    (h63 : n + m ≤ maxLen) (hbytes : (n + m) * bytes ≤ 140737488355328) {v' : Value} {w' : World} (hr : (Builtin.append_ #[t, t] ty #[v, .slice (some a) m c]).run P w = .ok v' w') (hgr : w.grownBy w' v.ownBlock)
    (u : Value) (hu : ∀ x ∈ news, x = u) (b k : Nat) (hc : w.cell? ⟨b, k, none⟩ = some u) : w'.cell? ⟨b, k, none⟩ = some u := by
  subst hsize
  subst hby
  by_cases hbv : some b = v.ownBlock
  · rcases hown.2 with ⟨rfl, _⟩ | ⟨g, cap, cur, rfl, hbg, hg, hnc, hcm, hcs, htake⟩
    · cases hbv
    · obtain rfl : b = g := by simpa [Value.ownBlock] using hbv
      have hsmall : n + m ≤ 9223372036854775807 := by simp only [maxLen] at h63; omega
      by_cases hroom : n + m ≤ cap
      · have hfit : n * i.size + news.length ≤ cur.size := by rw [hl, hcs, ← Nat.add_mul]; exact Nat.mul_le_mul_right _ hroom
        have hq := run_append_room (P := P) w t ty e i ht hi b n cap cur hg a m c news hl hnews h1 hroom hfit
        rw [hq] at hr
        have hw : w' = w.setRow b (cur.toList.take (n * i.size) ++ news ++ cur.toList.drop (n * i.size + news.length)).toArray := by
          simpa using (Result.ok.inj hr).2.symm
        subst hw
        rw [cell_of_row w b k cur e (0, 0) hg] at hc
        rw [cell_of_row _ b k _ e (0, 0) (setRow_heap w b cur _ e _ hg)]
        have hlx : (cur.toList.take (n * i.size)).length = n * i.size := by simp only [List.length_take, Array.length_toList]; omega
        simp only [List.getElem?_toArray]
        rw [List.append_assoc]
        by_cases h2 : k < n * i.size
        · rw [List.getElem?_append_left (by omega), List.getElem?_take, if_pos h2]
          simpa using hc
        · rw [List.getElem?_append_right (by omega), hlx]
          by_cases h3 : k - n * i.size < news.length
          · rw [List.getElem?_append_left h3, List.getElem?_eq_getElem h3]
            rw [hu _ (List.getElem_mem h3)]
          · rw [List.getElem?_append_right (by omega), List.getElem?_drop]
            have : n * i.size + news.length + (k - n * i.size - news.length) = k := by omega
            rw [this]
            simpa using hc
      · have holds : ∀ j u, xs[j]? = some u → w.cell? ((⟨b, 0, none⟩ : Addr).add j) = some u := hown.cells (g := b) rfl
        have hq := run_append_grow (P := P) w t ty e i z ht hi hz ⟨b, 0, none⟩ n cap xs hown.1 holds a m c news hl hnews (by omega) (by omega) (growslice_fits (by omega) hbytes)
        rw [hq] at hr
        have hw := (Result.ok.inj hr).2
        have hlt : b < w.heap.size := (Array.getElem?_eq_some_iff.1 hg).1
        rw [← hw]
        rw [World.cell?_of_block (w := w) (a := ⟨b, k, none⟩) (Below.heap_alloc w.drew _ b hlt)]
        exact hc
  · exact hgr.cell hc (by simpa using hbv)

theorem wpList_append_all {P : Program} (w : World) {ops : Array Oper} {rest : List Oper} {o : Oper} {ac : Act} {Q : Exit → Act → World → Prop} (hgd : o.guard = none) (s x : Operand) (t : TypeId)
    (ho : o.op = .call { callee := .builtin .append, args := #[s, x], argTypes := #[t, t] })
    (base : Nat) (e : TypeId) (i : TypeInfo) (z : Value) (size bytes : Nat) (ht : P.underlying t = some (.slice e)) (hi : P.info? e = some i) (hz : i.zero = some z)
    (hsize : i.size = size) (hby : i.bytes = bytes) (hzs : z.cells.size = size) (hsz : 0 < size)
    (v : Value) (n : Nat) (xs : List Value) (hs : ac.eval s = v) (hown : w.ownsRow base e size v n xs)
    (ad : Addr) (m c : Nat) (news : List Value) (hx : ac.eval x = .slice (some ad) m c) (hl : news.length = m * size) (hnews : ∀ j u, news[j]? = some u → w.cell? (ad.add j) = some u) (h1 : ∀ u ∈ news, u.oneCell' = true)
    (hm : 0 < m) (h63 : n + m ≤ maxLen) (hbytes : (n + m) * bytes ≤ 140737488355328) (hbase : base ≤ w.heap.size)
    (h : ∀ g cap w', w'.ownsRow base e size (.slice (some ⟨g, 0, none⟩) (n + m) cap) (n + m) (xs ++ news) → w.grownBy w' v.ownBlock → (v.ownBlock = some g ∨ g = w.heap.size) → w'.ownsRow base e size v n xs → (∀ u, (∀ x ∈ news, x = u) → ∀ b k, w.cell? ⟨b, k, none⟩ = some u → w'.cell? ⟨b, k, none⟩ = some u) → wpList P ops Q rest (ac.put o.dst (.slice (some ⟨g, 0, none⟩) (n + m) cap)) w') : wpList P ops Q (o :: rest) ac w := by
  refine wpList_plain hgd fun K hK => ?_
  obtain ⟨g, cap, w', hr, h2, h3, h4, _⟩ := run_append_lies (P := P) w t o.type base e i z size bytes ht hi hz hsize hby hzs hsz v n xs hown ad m c news hl hnews h1 hm h63 hbytes hbase _ rfl
  have hk := append_keeps w base t o.type e i z size bytes ht hi hz hsize hby v n xs hown ad m c news hl hnews h1 h63 hbytes hr
  have hh := append_holds w base t o.type e i z size bytes ht hi hz hsize hby v n xs hown ad m c news hl hnews h1 h63 hbytes hr h3
  unfold Oper.wp execOp
  simp only [ho, resolve, invoke, builtin, Sem.run_bind, Sem.run_pure, Result.andThen_ok, List.map_toArray, List.map_cons, List.map_nil, hs, hx, hr]
  exact hK _ _ (h g cap w' h2 h3 h4 hk hh)
theorem append_holdsP {P : Program} (w : World) (base : Nat) (t ty e : TypeId) (i : TypeInfo) (z : Value) (size bytes : Nat) (ht : P.underlying t = some (.slice e)) (hi : P.info? e = some i) (hz : i.zero = some z)
    (hsize : i.size = size) (hby : i.bytes = bytes) (v : Value) (n : Nat) (xs : List Value) (hown : w.ownsRow base e size v n xs)
    (a : Addr) (m c : Nat) (news : List Value) (hl : news.length = m * size) (hnews : ∀ j u, news[j]? = some u → w.cell? (a.add j) = some u) (h1 : ∀ u ∈ news, u.oneCell' = true)
    (h63 : n + m ≤ maxLen) (hbytes : (n + m) * bytes ≤ 140737488355328) {v' : Value} {w' : World} (hr : (Builtin.append_ #[t, t] ty #[v, .slice (some a) m c]).run P w = .ok v' w') (hgr : w.grownBy w' v.ownBlock)
    (u : Nat → Value) (hu : ∀ q x, news[q]? = some x → x = u (n * size + q)) (b k : Nat) (hc : w.cell? ⟨b, k, none⟩ = some (u k)) : w'.cell? ⟨b, k, none⟩ = some (u k) := by
  subst hsize
  subst hby
  by_cases hbv : some b = v.ownBlock
  · rcases hown.2 with ⟨rfl, _⟩ | ⟨g, cap, cur, rfl, hbg, hg, hnc, hcm, hcs, htake⟩
    · cases hbv
    · obtain rfl : b = g := by simpa [Value.ownBlock] using hbv
      have hsmall : n + m ≤ 9223372036854775807 := by simp only [maxLen] at h63; omega
      by_cases hroom : n + m ≤ cap
      · have hfit : n * i.size + news.length ≤ cur.size := by rw [hl, hcs, ← Nat.add_mul]; exact Nat.mul_le_mul_right _ hroom
        have hq := run_append_room (P := P) w t ty e i ht hi b n cap cur hg a m c news hl hnews h1 hroom hfit
        rw [hq] at hr
        have hw : w' = w.setRow b (cur.toList.take (n * i.size) ++ news ++ cur.toList.drop (n * i.size + news.length)).toArray := by
          simpa using (Result.ok.inj hr).2.symm
        subst hw
        rw [cell_of_row w b k cur e (0, 0) hg] at hc
        rw [cell_of_row _ b k _ e (0, 0) (setRow_heap w b cur _ e _ hg)]
        have hlx : (cur.toList.take (n * i.size)).length = n * i.size := by simp only [List.length_take, Array.length_toList]; omega
        simp only [List.getElem?_toArray]
        rw [List.append_assoc]
        by_cases h2 : k < n * i.size
        · rw [List.getElem?_append_left (by omega), List.getElem?_take, if_pos h2]
          simpa using hc
        · rw [List.getElem?_append_right (by omega), hlx]
          by_cases h3 : k - n * i.size < news.length
          · rw [List.getElem?_append_left h3, List.getElem?_eq_getElem h3]
            have e := hu (k - n * i.size) _ (List.getElem?_eq_getElem h3)
            rw [e]
            congr 2
            omega
          · rw [List.getElem?_append_right (by omega), List.getElem?_drop]
            have : n * i.size + news.length + (k - n * i.size - news.length) = k := by omega
            rw [this]
            simpa using hc
      · have holds : ∀ j u, xs[j]? = some u → w.cell? ((⟨b, 0, none⟩ : Addr).add j) = some u := hown.cells (g := b) rfl
        have hq := run_append_grow (P := P) w t ty e i z ht hi hz ⟨b, 0, none⟩ n cap xs hown.1 holds a m c news hl hnews (by omega) (by omega) (growslice_fits (by omega) hbytes)
        rw [hq] at hr
        have hw := (Result.ok.inj hr).2
        have hlt : b < w.heap.size := (Array.getElem?_eq_some_iff.1 hg).1
        rw [← hw]
        rw [World.cell?_of_block (w := w) (a := ⟨b, k, none⟩) (Below.heap_alloc w.drew _ b hlt)]
        exact hc
  · exact hgr.cell hc (by simpa using hbv)

theorem wpList_append_pat {P : Program} (w : World) {ops : Array Oper} {rest : List Oper} {o : Oper} {ac : Act} {Q : Exit → Act → World → Prop} (hgd : o.guard = none) (s x : Operand) (t : TypeId)
    (ho : o.op = .call { callee := .builtin .append, args := #[s, x], argTypes := #[t, t] })
    (base : Nat) (e : TypeId) (i : TypeInfo) (z : Value) (size bytes : Nat) (ht : P.underlying t = some (.slice e)) (hi : P.info? e = some i) (hz : i.zero = some z)
    (hsize : i.size = size) (hby : i.bytes = bytes) (hzs : z.cells.size = size) (hsz : 0 < size)
    (v : Value) (n : Nat) (xs : List Value) (hs : ac.eval s = v) (hown : w.ownsRow base e size v n xs)
    (ad : Addr) (m c : Nat) (news : List Value) (hx : ac.eval x = .slice (some ad) m c) (hl : news.length = m * size) (hnews : ∀ j u, news[j]? = some u → w.cell? (ad.add j) = some u) (h1 : ∀ u ∈ news, u.oneCell' = true)
    (u : Nat → Value) (hu : ∀ q x, news[q]? = some x → x = u (n * size + q)) (hm : 0 < m) (h63 : n + m ≤ maxLen) (hbytes : (n + m) * bytes ≤ 140737488355328) (hbase : base ≤ w.heap.size)
    (h : ∀ g cap w', w'.ownsRow base e size (.slice (some ⟨g, 0, none⟩) (n + m) cap) (n + m) (xs ++ news) → w.grownBy w' v.ownBlock → (v.ownBlock = some g ∨ g = w.heap.size) → w'.ownsRow base e size v n xs → (∀ b k, w.cell? ⟨b, k, none⟩ = some (u k) → w'.cell? ⟨b, k, none⟩ = some (u k)) → wpList P ops Q rest (ac.put o.dst (.slice (some ⟨g, 0, none⟩) (n + m) cap)) w') : wpList P ops Q (o :: rest) ac w := by
  refine wpList_plain hgd fun K hK => ?_
  obtain ⟨g, cap, w', hr, h2, h3, h4, _⟩ := run_append_lies (P := P) w t o.type base e i z size bytes ht hi hz hsize hby hzs hsz v n xs hown ad m c news hl hnews h1 hm h63 hbytes hbase _ rfl
  have hk := append_keeps w base t o.type e i z size bytes ht hi hz hsize hby v n xs hown ad m c news hl hnews h1 h63 hbytes hr
  have hh := append_holdsP w base t o.type e i z size bytes ht hi hz hsize hby v n xs hown ad m c news hl hnews h1 h63 hbytes hr h3 u hu
  unfold Oper.wp execOp
  simp only [ho, resolve, invoke, builtin, Sem.run_bind, Sem.run_pure, Result.andThen_ok, List.map_toArray, List.map_cons, List.map_nil, hs, hx, hr]
  exact hK _ _ (h g cap w' h2 h3 h4 hk hh)
end Go.Proofs.YtlcmllmphpllbaaGreatDoor
