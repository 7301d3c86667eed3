/- The document's matched, and its takes whole; what an order that may come in comes to (tIn). Conditions: the pit is good. -/
import Derived.Test.YtigpgnjgmaoejaaGreatRefR
import Derived.Test.YtigpgnjgmaoejaaGreatRefHK
import Derived.Test.YtigpgnjgmaoejaaGreatTdAC
namespace Go.Proofs.YtigpgnjgmaoejaaGreat
open Go.RowKit

/-- What Do comes to. -/
def TPost (w : World) (bp : Nat) (v : Value) (X : Ref × List Ev) (e : Ending) (w' : World) : Prop :=
  ∃ r v', e = .returned r ∧ RefOut w w' bp v v' X.1 r X.2
theorem TPost.after {w w1 : World} {bp : Nat} {v : Value} {X : Ref × List Ev} {e : Ending} {w' : World} (hf : Fr No w w1) (h : TPost w1 bp v X e w') : TPost w bp v X e w' :=
  let ⟨r, v', he, ho⟩ := h
  ⟨r, v', he, RefOut.after hf ho⟩

theorem takes_T (bp : Nat) (v : Value) (s : Ref) (x : Ord) (kind : Int) (w : World) (hr : RefAt w bp v s) (hg : Good s) (hx : MayCome s x kind) (hp : x.price = 0 ∨ 1 ≤ x.price) :
    Calls Tryz.prog 117 #[.pointer (some ⟨bp, 0, none⟩), x.val, .int .i64 kind] w (TPost w bp v (tTakes s x kind)) := by
  have hb := hx.book
  obtain ⟨nb, hnb⟩ := Int.eq_ofNat_of_zero_le (by omega : 0 ≤ x.book)
  have e : x.book.toNat = nb := by omega
  have hlen := hg.len
  unfold tTakes
  rw [e]
  cases ht : s.tr nb with
  | false =>
    have hk := hx.gath (by rw [e]; exact ht)
    subst hk
    rw [if_neg (by decide)]
    exact takes_gather bp v s x w hr (by omega) nb hnb (by omega) (by omega) ht (hx.price (.inl rfl)).1 hx.opn.1
  | true =>
    rw [if_pos rfl]
    have h := takes_trades bp v s (mkt x) x.price kind w hr (by omega) nb hnb (by omega) (by omega) hx.side ht (by
      rcases hp with h | h
      · exact .inr ⟨h, by simp [mkt, h]⟩
      · exact .inl ⟨by rw [mkt_self (by omega)], h⟩) hx.opn hg.opns (hg.td nb) _ rfl
    have ex : ({ mkt x with price := x.price } : Ord) = x := by cases x; rfl
    rw [ex] at h
    exact h

/-- What an order that may come in comes to. -/
def tIn (s : Ref) (x : Ord) (kind : Int) : Ref × List Ev :=
  if kind = 5 ∧ crossB s.L x = true ∨ kind = 4 ∧ matchedO s.L x < x.opn then (s, [refusedE x.id 7])
  else if (kind = 1 ∨ kind = 5) ∧ 200 ≤ restN s.L x.book 1 + restN s.L x.book 2 then (s, [refusedE x.id 5])
  else tTakes s { x with price := if kind = 2 then 0 else x.price } kind
theorem tIn_7 {s : Ref} {x : Ord} {kind : Int} (h : kind = 5 ∧ crossB s.L x = true ∨ kind = 4 ∧ matchedO s.L x < x.opn) : tIn s x kind = (s, [refusedE x.id 7]) := if_pos h
theorem tIn_5 {s : Ref} {x : Ord} {kind : Int} (h : ¬ (kind = 5 ∧ crossB s.L x = true ∨ kind = 4 ∧ matchedO s.L x < x.opn)) (hk : kind = 1 ∨ kind = 5) (hf : 200 ≤ restN s.L x.book 1 + restN s.L x.book 2) : tIn s x kind = (s, [refusedE x.id 5]) := by
  unfold tIn
  rw [if_neg h, if_pos ⟨hk, hf⟩]
theorem tIn_T {s : Ref} {x : Ord} {kind : Int} (h : ¬ (kind = 5 ∧ crossB s.L x = true ∨ kind = 4 ∧ matchedO s.L x < x.opn)) (hf : ¬ ((kind = 1 ∨ kind = 5) ∧ 200 ≤ restN s.L x.book 1 + restN s.L x.book 2)) (h2 : kind ≠ 2) : tIn s x kind = tTakes s x kind := by
  unfold tIn
  rw [if_neg h, if_neg hf, if_neg h2]
theorem tIn_A {s : Ref} {x : Ord} (h : ¬ ((2 : Int) = 5 ∧ crossB s.L x = true ∨ (2 : Int) = 4 ∧ matchedO s.L x < x.opn)) : tIn s x 2 = tTakes s { x with price := 0 } 2 := by
  unfold tIn
  rw [if_neg h, if_neg (fun q => q.1.elim (fun q => absurd q (by decide)) (fun q => absurd q (by decide))), if_pos rfl]
theorem tIn_4 {s : Ref} {x : Ord} : tIn s x 4 = if matchedO s.L x < x.opn then (s, [refusedE x.id 7]) else tTakes s x 4 := by
  by_cases h : matchedO s.L x < x.opn
  · rw [if_pos h]; exact tIn_7 (.inr ⟨rfl, h⟩)
  · rw [if_neg h]
    exact tIn_T (fun q => q.elim (fun q => absurd q.1 (by decide)) (fun q => h q.2)) (fun q => q.1.elim (fun q => absurd q (by decide)) (fun q => absurd q (by decide))) (by decide)

/-- How much of the first k is good for an order. -/
def metTo (L : List Ord) (x : Ord) (k : Nat) : Int := (((L.take k).filter (isMet x)).map Ord.opn).sum
theorem sumTo_succ {L : List Ord} {p : Ord → Bool} {k : Nat} (hk : k < L.length) : (((L.take (k + 1)).filter p).map Ord.opn).sum = (((L.take k).filter p).map Ord.opn).sum + if p L[k] = true then L[k].opn else 0 := by
  rw [List.take_succ_eq_append_getElem hk, List.filter_append, List.map_append, List.sum_append]
  congr 1
  simp only [List.filter_cons, List.filter_nil]
  split <;> simp
theorem sumTo_le {L : List Ord} {p : Ord → Bool} (h : ∀ y ∈ L, 1 ≤ y.opn ∧ y.opn ≤ 1000000) : ∀ {k : Nat}, k ≤ L.length → 0 ≤ (((L.take k).filter p).map Ord.opn).sum ∧ (((L.take k).filter p).map Ord.opn).sum ≤ 1000000 * k
  | 0, _ => by simp
  | k + 1, hk => by
    have ih := sumTo_le (p := p) h (k := k) (by omega)
    rw [sumTo_succ (by omega)]
    have := h _ (List.getElem_mem (by omega : k < L.length))
    split <;> omega

set_option maxRecDepth 100000 in
set_option maxHeartbeats 4000000 in
theorem matched_any (bp : Nat) (v : Value) (s : Ref) (x : Ord) (w : World) (hr : RefAt w bp v s) (hn : s.L.length ≤ 10000) (hop : ∀ y ∈ s.L, 1 ≤ y.opn ∧ y.opn ≤ 1000000) :
    Calls Tryz.prog 115 #[.pointer (some ⟨bp, 0, none⟩), x.val] w fun e w' => e = .returned (.int .i64 (matchedO s.L x)) ∧ Fr No w w' := by
  obtain ⟨a, cap, rfl⟩ := hr.form
  have HR := hide hr
  have HOP := hide hop
  clear hr hop
  unfold Ord.val
  go_enter Tryz.func115, Tryz.ntmps115
  go_wp2
  generalize hW : World.alloc w _ = W
  have hWf : Fr No w W := by rw [← hW]; exact (Fr.refl _ _).alloc _
  have hWx : W.heap[w.heap.size]? = some (.cells #[.int .i64 x.id, .int .i64 x.trader, .int .i64 x.book, .int .i64 x.side, .int .i64 x.price, .int .i64 x.opn] 95 (0, 0)) := by rw [← hW]; exact heap_alloc_new w _
  have HWF := hide hWf
  have HWX := hide hWx
  clear hW hWf hWx
  generalize hnn : s.L.length = n at *
  have Hn := hide hnn
  clear hnn
  generalize hN : w.heap.size = N at *
  have HN := hide hN
  clear hN
  go_loopg [5, 6] n (fun f c i wr => ∃ k : Nat, k ≤ n ∧ f = n - k ∧ i = .int .i64 k ∧ c = .int .i64 (metTo s.L x k) ∧ Fr No W wr)
  case atStart => exact ⟨0, Nat.zero_le _, rfl, rfl, by simp [metTo], Fr.refl _ _⟩
  case round =>
    obtain ⟨k, hk, hgk, rfl, rfl, hfr⟩ := hrel
    have HGK := hide hgk
    clear hgk
    have hr2 := (unhide HR).no ((unhide HWF).quiet hfr)
    have hL2 := hr2.cellL
    have hbp := hr2.lt
    have hbox := hfr.heap (unhide HWX) id
    have hNl := lt_of_heap hbox
    obtain ⟨y0, y1, y2, y3, y4, y5, _⟩ := box6 hbox
    have HF := hide hfr
    have hb := sumTo_le (L := s.L) (p := isMet x) (unhide HOP) (k := k) (by rw [unhide Hn]; exact hk)
    have hmb : 0 ≤ metTo s.L x k ∧ metTo s.L x k ≤ 10000000000 := ⟨hb.1, by have := hb.2; have : metTo s.L x k ≤ 1000000 * (k : Int) := this; omega⟩
    clear hfr hbox hb
    by_cases hlt : k < n
    · have hlt' : k < s.L.length := by rw [unhide Hn]; exact hlt
      obtain ⟨g, rfl, hg, _, hc0, hc1, hc2, hc3, hc4, hc5, _⟩ := os_at hr2.own k hlt'
      have hyo := unhide HOP _ (List.getElem_mem hlt')
      have HS : Hid (metTo s.L x (k + 1) = metTo s.L x k + if isMet x s.L[k] = true then s.L[k].opn else 0) := sumTo_succ hlt'
      have hki : (k : Int) < n := by omega
      generalize metTo s.L x k = c at *
      generalize s.L[k] = y at *
      obtain ⟨c1, c2⟩ := hmb
      clear hr2 HR HOP HWX HWF
      go_wp2_with (go_at_call 149; refine (good_any _ _ _ _).mono ?_; rintro e w1 ⟨rfl, rfl⟩)
      all_goals
        go_roundg (n - (k + 1))
        case rel =>
          refine ⟨k + 1, by omega, rfl, by go_num, valI ?_, by repeat (first | exact unhide HF | refine Fr.alloc ?_ _ | refine Fr.drewN ?_ _ | refine Fr.drew ?_)⟩
          rw [unhide HS]
          simp_all [isMet]
        case measure => have := unhide HGK; omega
    · have HS : Hid (matchedO s.L x = metTo s.L x k) := by show _ = _; unfold metTo matchedO; rw [List.take_of_length_le (by have := unhide Hn; omega)]
      clear hr2
      go_wp2
      go_ret
      exact ⟨retI (by rw [unhide HS]), (unhide HWF).quiet (unhide HF)⟩
end Go.Proofs.YtigpgnjgmaoejaaGreat
