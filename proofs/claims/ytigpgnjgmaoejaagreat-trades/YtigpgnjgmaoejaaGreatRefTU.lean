/- The document's At and price: how much is open at a price, and the price of an opening. Conditions: the pit lies in memory, its numbers are such. -/
import Derived.Test.YtigpgnjgmaoejaaGreatRefS
import Derived.Deep.CutRange
namespace Go.Proofs.YtigpgnjgmaoejaaGreat
open Go.RowKit

def buyTo (L : List Ord) (b q : Int) (k : Nat) : Int := (((L.take k).filter (isBuy b q)).map Ord.opn).sum
def sellTo (L : List Ord) (b q : Int) (k : Nat) : Int := (((L.take k).filter (isSell b q)).map Ord.opn).sum

set_option maxRecDepth 100000 in
set_option maxHeartbeats 4000000 in
theorem at_any (bp : Nat) (v : Value) (s : Ref) (b q : Int) (w : World) (hr : RefAt w bp v s) (hn : s.L.length ≤ 10000) (hop : ∀ y ∈ s.L, 1 ≤ y.opn ∧ y.opn ≤ 1000000) :
    Calls Tryz.prog 150 #[.pointer (some ⟨bp, 0, none⟩), .int .i64 b, .int .i64 q] w fun e w' => e = .returned (.tuple #[.int .i64 (buyB s.L b q), .int .i64 (sellB s.L b q)]) ∧ Fr No w w' := by
  obtain ⟨a, cap, rfl⟩ := hr.form
  have HR := hide hr
  have HOP := hide hop
  clear hr hop
  go_enter Tryz.func150, Tryz.ntmps150
  go_wp2
  generalize hnn : s.L.length = n at *
  have Hn := hide hnn
  clear hnn
  go_loopg [8, 9, 10] n (fun f c d i wr => ∃ k : Nat, k ≤ n ∧ f = n - k ∧ i = .int .i64 k ∧ c = .int .i64 (buyTo s.L b q k) ∧ d = .int .i64 (sellTo s.L b q k) ∧ Fr No w wr)
  case atStart => exact ⟨0, Nat.zero_le _, rfl, rfl, by simp [buyTo], by simp [sellTo], Fr.refl _ _⟩
  case round =>
    obtain ⟨k, hk, hgk, rfl, rfl, rfl, hfr⟩ := hrel
    have HGK := hide hgk
    clear hgk
    have hr2 := (unhide HR).no hfr
    have hL2 := hr2.cellL
    have hbp := hr2.lt
    have HF := hide hfr
    have hb := sumTo_le (L := s.L) (p := isBuy b q) (unhide HOP) (k := k) (by rw [unhide Hn]; exact hk)
    have hd := sumTo_le (L := s.L) (p := isSell b q) (unhide HOP) (k := k) (by rw [unhide Hn]; exact hk)
    have hmb : 0 ≤ buyTo s.L b q k ∧ buyTo s.L b q k ≤ 10000000000 := ⟨hb.1, by have := hb.2; have : buyTo s.L b q k ≤ 1000000 * (k : Int) := this; omega⟩
    have hmd : 0 ≤ sellTo s.L b q k ∧ sellTo s.L b q k ≤ 10000000000 := ⟨hd.1, by have := hd.2; have : sellTo s.L b q k ≤ 1000000 * (k : Int) := this; omega⟩
    clear hfr hb hd
    by_cases hlt : k < n
    · have hlt' : k < s.L.length := by rw [unhide Hn]; exact hlt
      obtain ⟨g, rfl, hg, _, hc0, hc1, hc2, hc3, hc4, hc5, _⟩ := os_at hr2.own k hlt'
      have hyo := unhide HOP _ (List.getElem_mem hlt')
      have HS : Hid (buyTo s.L b q (k + 1) = buyTo s.L b q k + if isBuy b q s.L[k] = true then s.L[k].opn else 0) := sumTo_succ hlt'
      have HT : Hid (sellTo s.L b q (k + 1) = sellTo s.L b q k + if isSell b q s.L[k] = true then s.L[k].opn else 0) := sumTo_succ hlt'
      have hki : (k : Int) < n := by omega
      generalize buyTo s.L b q k = c at *
      generalize sellTo s.L b q k = d at *
      generalize s.L[k] = y at *
      obtain ⟨c1, c2⟩ := hmb
      obtain ⟨d1, d2⟩ := hmd
      clear hr2 HR HOP
      by_cases e1 : y.book = b
      · have f1 : (y.book == b) = true := by simpa using e1
        by_cases e2 : y.side = 1
        · have f2 : (y.side == 1) = true := by simpa using e2
          have f3 : (y.side == 2) = false := by simp; omega
          have HT2 : Hid (sellTo s.L b q (k + 1) = d) := by show _ = _; rw [unhide HT]; simp [isSell, f3]
          by_cases e4 : q ≤ y.price
          · have f4 : decide (q ≤ y.price) = true := by simpa using e4
            have HS2 : Hid (buyTo s.L b q (k + 1) = c + y.opn) := by show _ = _; rw [unhide HS]; simp [isBuy, f1, f2, e4]
            clear HS HT e1 e2
            go_wp2
            go_roundg (n - (k + 1))
            case rel => exact ⟨k + 1, by omega, rfl, by go_num, valI (unhide HS2).symm, valI (unhide HT2).symm, by repeat (first | exact unhide HF | refine Fr.alloc ?_ _ | refine Fr.drewN ?_ _ | refine Fr.drew ?_)⟩
            case measure => have := unhide HGK; omega
          · have f4 : decide (q ≤ y.price) = false := by simpa using e4
            have HS2 : Hid (buyTo s.L b q (k + 1) = c) := by show _ = _; rw [unhide HS]; simp [isBuy, e4]
            clear HS HT e1 e2 e4
            go_wp2
            go_roundg (n - (k + 1))
            case rel => exact ⟨k + 1, by omega, rfl, by go_num, valI (unhide HS2).symm, valI (unhide HT2).symm, by repeat (first | exact unhide HF | refine Fr.alloc ?_ _ | refine Fr.drewN ?_ _ | refine Fr.drew ?_)⟩
            case measure => have := unhide HGK; omega
        · have f2 : (y.side == 1) = false := by simpa using e2
          have HS2 : Hid (buyTo s.L b q (k + 1) = c) := by show _ = _; rw [unhide HS]; simp [isBuy, f2]
          by_cases e3 : y.side = 2
          · have f3 : (y.side == 2) = true := by simpa using e3
            by_cases e4 : y.price ≤ q
            · have f4 : decide (y.price ≤ q) = true := by simpa using e4
              have HT2 : Hid (sellTo s.L b q (k + 1) = d + y.opn) := by show _ = _; rw [unhide HT]; simp [isSell, f1, f3, e4]
              clear HS HT e1 e2 e3
              go_wp2
              go_roundg (n - (k + 1))
              case rel => exact ⟨k + 1, by omega, rfl, by go_num, valI (unhide HS2).symm, valI (unhide HT2).symm, by repeat (first | exact unhide HF | refine Fr.alloc ?_ _ | refine Fr.drewN ?_ _ | refine Fr.drew ?_)⟩
              case measure => have := unhide HGK; omega
            · have f4 : decide (y.price ≤ q) = false := by simpa using e4
              have HT2 : Hid (sellTo s.L b q (k + 1) = d) := by show _ = _; rw [unhide HT]; simp [isSell, e4]
              clear HS HT e1 e2 e3 e4
              go_wp2
              go_roundg (n - (k + 1))
              case rel => exact ⟨k + 1, by omega, rfl, by go_num, valI (unhide HS2).symm, valI (unhide HT2).symm, by repeat (first | exact unhide HF | refine Fr.alloc ?_ _ | refine Fr.drewN ?_ _ | refine Fr.drew ?_)⟩
              case measure => have := unhide HGK; omega
          · have f3 : (y.side == 2) = false := by simpa using e3
            have HT2 : Hid (sellTo s.L b q (k + 1) = d) := by show _ = _; rw [unhide HT]; simp [isSell, f3]
            clear HS HT e1 e2 e3
            go_wp2
            go_roundg (n - (k + 1))
            case rel => exact ⟨k + 1, by omega, rfl, by go_num, valI (unhide HS2).symm, valI (unhide HT2).symm, by repeat (first | exact unhide HF | refine Fr.alloc ?_ _ | refine Fr.drewN ?_ _ | refine Fr.drew ?_)⟩
            case measure => have := unhide HGK; omega
      · have f1 : (y.book == b) = false := by simpa using e1
        have HS2 : Hid (buyTo s.L b q (k + 1) = c) := by show _ = _; rw [unhide HS]; simp [isBuy, f1]
        have HT2 : Hid (sellTo s.L b q (k + 1) = d) := by show _ = _; rw [unhide HT]; simp [isSell, f1]
        clear HS HT e1
        go_wp2
        go_roundg (n - (k + 1))
        case rel => exact ⟨k + 1, by omega, rfl, by go_num, valI (unhide HS2).symm, valI (unhide HT2).symm, by repeat (first | exact unhide HF | refine Fr.alloc ?_ _ | refine Fr.drewN ?_ _ | refine Fr.drew ?_)⟩
        case measure => have := unhide HGK; omega
    · have HS : Hid (buyB s.L b q = buyTo s.L b q k) := by show _ = _; unfold buyTo buyB; rw [List.take_of_length_le (by have := unhide Hn; omega)]
      have HT : Hid (sellB s.L b q = sellTo s.L b q k) := by show _ = _; unfold sellTo sellB; rw [List.take_of_length_le (by have := unhide Hn; omega)]
      clear hr2
      go_wp2
      rw [unhide HS, unhide HT]
      exact bodyPost_ret (v := .tuple #[.int .i64 (buyTo s.L b q k), .int .i64 (sellTo s.L b q k)]) (by simp [results, Tryz.results150, go_sem]) rfl ⟨rfl, unhide HF⟩
end Go.Proofs.YtigpgnjgmaoejaaGreat

/- The document's price: the price of an opening and its volume. Conditions: the pit lies in memory, its numbers are such. -/
namespace Go.Proofs.YtigpgnjgmaoejaaGreat
open Go.RowKit

/-- The search among the first k prices. -/
def accTo (L : List Ord) (b : Int) (k : Nat) : Tn := ((cands L).take k).foldl (pStep L b) ⟨0, 0, 0⟩
theorem flat2 : ∀ {L : List Ord} {j u : Nat} (hj : j < L.length), u < 2 → (L.flatMap fun o => [o.price, o.price + 1])[2 * j + u]? = some (L[j].price + (u : Int))
  | [], j, u, hj, _ => by simp at hj
  | x :: L, 0, u, _, hu => by
    match u, hu with
    | 0, _ => simp
    | 1, _ => simp
  | x :: L, j + 1, u, hj, hu => by
    have ih := flat2 (L := L) (j := j) (u := u) (by simpa using hj) hu
    rw [List.flatMap_cons, show 2 * (j + 1) + u = (2 * j + u) + 2 by omega]
    simpa using ih
theorem cands_len (L : List Ord) : (cands L).length = 2 * (L.length + 1) := by
  unfold cands
  have : (L.flatMap fun o => [o.price, o.price + 1]).length = 2 * L.length := by
    induction L with
    | nil => rfl
    | cons x L ih => simp only [List.flatMap_cons, List.length_append, List.length_cons, List.length_nil, ih]; omega
  simp only [List.length_cons, this]
  omega
theorem accTo_succ {L : List Ord} {b q : Int} {k : Nat} (h : (cands L)[k]? = some q) : accTo L b (k + 1) = pStep L b (accTo L b k) q := by
  obtain ⟨hk, e⟩ := List.getElem?_eq_some_iff.1 h
  unfold accTo
  rw [List.take_succ_eq_append_getElem hk, List.foldl_append, e]
  rfl
theorem cands_zero (L : List Ord) {u : Nat} (hu : u < 2) : (cands L)[2 * 0 + u]? = some 1 := by
  match u, hu with
  | 0, _ => rfl
  | 1, _ => rfl
theorem cands_succ {L : List Ord} {j u : Nat} (hj : j < L.length) (hu : u < 2) : (cands L)[2 * (j + 1) + u]? = some (L[j].price + (u : Int)) := by
  have := flat2 hj hu
  rw [show 2 * (j + 1) + u = (2 * j + u) + 2 by omega]
  simpa [cands] using this
theorem accTo_all (L : List Ord) (b : Int) : accTo L b (2 * (L.length + 1)) = priceO L b := by
  unfold accTo priceO
  rw [List.take_of_length_le (by rw [cands_len]; exact Nat.le_refl _)]
theorem pStep_far {L : List Ord} {b : Int} {a : Tn} {q : Int} (h : 1000000 < q) : pStep L b a q = a := by unfold pStep; rw [if_pos h]
theorem pStep_is {L : List Ord} {b : Int} {q ap av ar v r : Int} (h : ¬ 1000000 < q) (hv : leastI (buyB L b q) (sellB L b q) = v) (hr : buyB L b q + sellB L b q - 2 * v = r) :
    (0 < v ∧ (av < v ∨ v = av ∧ (r < ar ∨ r = ar ∧ q < ap)) → pStep L b ⟨ap, av, ar⟩ q = ⟨q, v, r⟩) ∧ (¬ (0 < v ∧ (av < v ∨ v = av ∧ (r < ar ∨ r = ar ∧ q < ap))) → pStep L b ⟨ap, av, ar⟩ q = ⟨ap, av, ar⟩) := by
  have e : tnB L b q = ⟨q, v, r⟩ := by unfold tnB; rw [hv, hr]
  have eb : bettB ⟨q, v, r⟩ ⟨ap, av, ar⟩ = true ↔ (av < v ∨ v = av ∧ (r < ar ∨ r = ar ∧ q < ap)) := by
    unfold bettB
    simp only [Bool.or_eq_true, Bool.and_eq_true, decide_eq_true_eq, beq_iff_eq]
  unfold pStep
  rw [if_neg h, e]
  exact ⟨fun q => if_pos ⟨q.1, eb.2 q.2⟩, fun q => if_neg fun p => q ⟨p.1, eb.1 p.2⟩⟩

set_option maxRecDepth 100000 in
set_option maxHeartbeats 8000000 in
theorem price_any (bp : Nat) (v : Value) (s : Ref) (b : Int) (w : World) (hr : RefAt w bp v s) (hn : s.L.length ≤ 10000) (hop : ∀ y ∈ s.L, (1 ≤ y.opn ∧ y.opn ≤ 1000000) ∧ 1 ≤ y.price ∧ y.price ≤ 1000000) :
    Calls Tryz.prog 121 #[.pointer (some ⟨bp, 0, none⟩), .int .i64 b] w fun e w' => e = .returned (.tuple #[.int .i64 (priceO s.L b).price, .int .i64 (priceO s.L b).vol]) ∧ Fr No w w' := by
  obtain ⟨a, cap, rfl⟩ := hr.form
  have HR := hide hr
  have HOP := hide hop
  have HAL := hide (accTo_all s.L b)
  clear hr hop
  go_enter Tryz.func121, Tryz.ntmps121
  go_wp2
  generalize hnn : s.L.length = n at *
  have Hn := hide hnn
  clear hnn
  go_loopg [6, 7, 8, 9] (n + 1) (fun f x y z i wr => ∃ m : Nat, m ≤ n + 1 ∧ f = n + 1 - m ∧ i = .int .i64 ((m : Int) - 1) ∧ x = .int .i64 (accTo s.L b (2 * m)).price ∧ y = .int .i64 (accTo s.L b (2 * m)).vol ∧ z = .int .i64 (accTo s.L b (2 * m)).rest ∧ Fr No w wr)
  case atStart => exact ⟨0, Nat.zero_le _, rfl, rfl, rfl, rfl, rfl, Fr.refl _ _⟩
  case round =>
    obtain ⟨m, hm, hgm, rfl, rfl, rfl, rfl, hfr⟩ := hrel
    have HGM := hide hgm
    have HF := hide hfr
    have hr2 := (unhide HR).no hfr
    have hL2 := hr2.cellL
    have hbp := hr2.lt
    clear hgm hfr hr2
    obtain ⟨z, hz⟩ : ∃ z : Int, (m : Int) - 1 = z := ⟨_, rfl⟩
    rw [hz]
    have HZ := hide hz
    by_cases hlt : m < n + 1
    · have hmi : z < n := by omega
      have hmz : -1 ≤ z := by omega
      clear hz
      go_wp2
      go_loopg [6, 7, 8, 10] 2 (fun f x y z i wr => ∃ u : Nat, u ≤ 2 ∧ f = 2 - u ∧ i = .int .i64 (u : Int) ∧ x = .int .i64 (accTo s.L b (2 * m + u)).price ∧ y = .int .i64 (accTo s.L b (2 * m + u)).vol ∧ z = .int .i64 (accTo s.L b (2 * m + u)).rest ∧ Fr No w wr)
      case atStart => exact ⟨0, by omega, rfl, rfl, rfl, rfl, rfl, unhide HF⟩
      case round =>
        obtain ⟨u, hu, hgu, rfl, rfl, rfl, rfl, hfr⟩ := hrel
        have HGU := hide hgu
        have HF := hide hfr
        have hr2 := (unhide HR).no hfr
        have hL2 := hr2.cellL
        have hbp := hr2.lt
        have HR2 := hide hr2
        clear hgu hfr
        by_cases hu2 : u < 2
        · have hui : decide ((u : Int) < 2) = true := by simp; omega
          obtain ⟨q, HQ, hq1, hq2⟩ : ∃ q, Hid ((cands s.L)[2 * m + u]? = some q) ∧ 1 ≤ q ∧ q ≤ 1000001 := by
            rcases Nat.eq_zero_or_pos m with h0 | h0
            · exact ⟨1, by show _ = _; rw [h0]; exact cands_zero s.L hu2, by omega, by omega⟩
            · obtain ⟨j, rfl⟩ : ∃ j, m = j + 1 := ⟨m - 1, by omega⟩
              have hj : j < s.L.length := by rw [unhide Hn]; omega
              have := (unhide HOP _ (List.getElem_mem hj)).2
              exact ⟨_, cands_succ hj hu2, by omega, by omega⟩
          have HS := hide (accTo_succ (b := b) (unhide HQ))
          generalize accTo s.L b (2 * m + u) = A at *
          generalize hAS : accTo s.L b (2 * m + u + 1) = A' at *
          have HAS : Hid (accTo s.L b (2 * m + (u + 1)) = A') := hAS
          clear hAS
          go_upto_if 31 with fail
          go_cut [11] from 26 to 90 (fun s11 wx => s11 = .int .i64 q ∧ wr = wx)
          case first =>
            rcases Nat.eq_zero_or_pos m with h0 | h0
            · subst h0
              have hq : (1 : Int) = q := by have := (cands_zero s.L hu2).symm.trans (unhide HQ); simpa using this
              obtain rfl : z = -1 := by have := unhide HZ; omega
              go_wp2_with fail
              go_meet
              exact ⟨by rw [← hq], rfl⟩
            · obtain ⟨j, rfl⟩ : ∃ j, m = j + 1 := ⟨m - 1, by omega⟩
              have hj : j < s.L.length := by rw [unhide Hn]; omega
              have hq : s.L[j].price + (u : Int) = q := by have := (cands_succ hj hu2).symm.trans (unhide HQ); simpa using this
              obtain ⟨g, rfl, hg, _, _, _, _, _, hc4, _, _⟩ := os_at hr2.own j hj
              have hpb := (unhide HOP _ (List.getElem_mem hj)).2
              obtain rfl : z = (j : Int) := by have := unhide HZ; omega
              have hj0 : (0 : Int) ≤ (j : Int) := by omega
              have hjn : (j : Int) < n := by omega
              generalize s.L[j].price = pj at *
              go_wp2_with fail
              go_meet
              exact ⟨by rw [← hq], rfl⟩
          case rest =>
            obtain ⟨rfl, rfl⟩ := hcut
            clear hr2
            by_cases hfar : 1000000 < q
            · have hfd : decide (1000000 < q) = true := by simpa using hfar
              have HA2 : Hid (A' = A) := (unhide HS).trans (pStep_far hfar)
              go_wp2
              go_roundg (2 - (u + 1))
              case rel => exact ⟨u + 1, by omega, rfl, by go_num, by rw [unhide HAS, unhide HA2], by rw [unhide HAS, unhide HA2], by rw [unhide HAS, unhide HA2], unhide HF⟩
              case measure => have := unhide HGU; omega
            · have hfd : decide (1000000 < q) = false := by simpa using hfar
              have hB1 := sumTo_le (L := s.L) (p := isBuy b q) (fun y hy => (unhide HOP y hy).1) (k := s.L.length) (Nat.le_refl _)
              have hB2 := sumTo_le (L := s.L) (p := isSell b q) (fun y hy => (unhide HOP y hy).1) (k := s.L.length) (Nat.le_refl _)
              rw [List.take_length] at hB1 hB2
              have hb1 : 0 ≤ buyB s.L b q ∧ buyB s.L b q ≤ 10000000000 := ⟨hB1.1, by have h2 := hB1.2; rw [unhide Hn] at h2; have h3 : buyB s.L b q ≤ 1000000 * (n : Int) := h2; omega⟩
              have hb2 : 0 ≤ sellB s.L b q ∧ sellB s.L b q ≤ 10000000000 := ⟨hB2.1, by have h2 := hB2.2; rw [unhide Hn] at h2; have h3 : sellB s.L b q ≤ 1000000 * (n : Int) := h2; omega⟩
              have HPS := hide (pStep_is (L := s.L) (b := b) (ap := A.price) (av := A.vol) (ar := A.rest) hfar rfl rfl)
              have HAT := hide (at_any bp _ s b q wr (unhide HR2) (by rw [unhide Hn]; exact hn) (fun y hy => (unhide HOP y hy).1))
              obtain ⟨ap, av, ar⟩ := A
              simp only at HPS ⊢
              generalize buyB s.L b q = bu at *
              generalize sellB s.L b q = se at *
              have hl : 0 ≤ leastI bu se ∧ leastI bu se ≤ 10000000000 := by unfold leastI; split <;> omega
              have HLE := hide (least_any bu se)
              generalize leastI bu se = vv at *
              obtain ⟨bu1, bu2⟩ := hb1
              obtain ⟨se1, se2⟩ := hb2
              obtain ⟨l1, l2⟩ := hl
              clear hB1 hB2
              go_wp2_with fail
              refine (unhide HAT).mono ?_
              rintro e w2 ⟨rfl, hf2⟩
              have HF2 := hide hf2
              clear hf2
              go_wp2_with fail
              refine (unhide HLE _).mono ?_
              rintro e w3 ⟨rfl, rfl⟩
              go_upto_region 17 with fail
              go_cut [16] from 26 to 90 (fun s16 wx => s16 = .bool (decide (av < vv ∨ vv = av ∧ (bu + se - 2 * vv < ar ∨ bu + se - 2 * vv = ar ∧ q < ap))) ∧ w3 = wx)
              case first =>
                by_cases c1 : av < vv
                · have d1 : decide (av < vv) = true := by simpa using c1
                  go_wp2_with fail
                  go_meet
                  exact ⟨congrArg Value.bool (decide_eq_true (p := (av < vv ∨ vv = av ∧ (bu + se - 2 * vv < ar ∨ bu + se - 2 * vv = ar ∧ q < ap))) (by omega)).symm, rfl⟩
                · have d1 : decide (av < vv) = false := by simpa using c1
                  by_cases c2 : vv = av
                  · have d2 : (vv == av) = true := by simpa using c2
                    have C2 := hide c2
                    clear c2
                    by_cases c3 : bu + se - 2 * vv < ar
                    · have d3 : decide (bu + se - 2 * vv < ar) = true := by simpa using c3
                      go_wp2_with fail
                      go_meet
                      exact ⟨congrArg Value.bool (decide_eq_true (p := (av < vv ∨ vv = av ∧ (bu + se - 2 * vv < ar ∨ bu + se - 2 * vv = ar ∧ q < ap))) (by (have e2 := unhide C2); (try have e4 := unhide C4); omega)).symm, rfl⟩
                    · have d3 : decide (bu + se - 2 * vv < ar) = false := by simpa using c3
                      by_cases c4 : bu + se - 2 * vv = ar
                      · have d4 : (bu + se - 2 * vv == ar) = true := by simpa using c4
                        have C4 := hide c4
                        clear c4
                        by_cases c5 : q < ap
                        · have d5 : decide (q < ap) = true := by simpa using c5
                          go_wp2_with fail
                          go_meet
                          exact ⟨congrArg Value.bool (decide_eq_true (p := (av < vv ∨ vv = av ∧ (bu + se - 2 * vv < ar ∨ bu + se - 2 * vv = ar ∧ q < ap))) (by (have e2 := unhide C2); (try have e4 := unhide C4); omega)).symm, rfl⟩
                        · have d5 : decide (q < ap) = false := by simpa using c5
                          go_wp2_with fail
                          go_meet
                          exact ⟨congrArg Value.bool (decide_eq_false (p := (av < vv ∨ vv = av ∧ (bu + se - 2 * vv < ar ∨ bu + se - 2 * vv = ar ∧ q < ap))) (by (have e2 := unhide C2); (try have e4 := unhide C4); omega)).symm, rfl⟩
                      · have d4 : (bu + se - 2 * vv == ar) = false := by simpa using c4
                        go_wp2_with fail
                        go_meet
                        exact ⟨congrArg Value.bool (decide_eq_false (p := (av < vv ∨ vv = av ∧ (bu + se - 2 * vv < ar ∨ bu + se - 2 * vv = ar ∧ q < ap))) (by (have e2 := unhide C2); (try have e4 := unhide C4); omega)).symm, rfl⟩
                  · have d2 : (vv == av) = false := by simpa using c2
                    go_wp2_with fail
                    go_meet
                    exact ⟨congrArg Value.bool (decide_eq_false (p := (av < vv ∨ vv = av ∧ (bu + se - 2 * vv < ar ∨ bu + se - 2 * vv = ar ∧ q < ap))) (by omega)).symm, rfl⟩
              case rest =>
                obtain ⟨rfl, rfl⟩ := hcut
                by_cases hbet : 0 < vv ∧ (av < vv ∨ vv = av ∧ (bu + se - 2 * vv < ar ∨ bu + se - 2 * vv = ar ∧ q < ap))
                · have hb0 : decide (0 < vv) = true := by simpa using hbet.1
                  have hb1 : decide (av < vv ∨ vv = av ∧ (bu + se - 2 * vv < ar ∨ bu + se - 2 * vv = ar ∧ q < ap)) = true := decide_eq_true hbet.2
                  have HA2 : Hid (A' = ⟨q, vv, bu + se - 2 * vv⟩) := (unhide HS).trans ((unhide HPS).1 hbet)
                  clear hbet
                  generalize decide (av < vv ∨ vv = av ∧ (bu + se - 2 * vv < ar ∨ bu + se - 2 * vv = ar ∧ q < ap)) = bet at *
                  subst hb1
                  go_wp2
                  go_roundg (2 - (u + 1))
                  case rel => exact ⟨u + 1, by omega, rfl, by go_num, by rw [unhide HAS, unhide HA2], by rw [unhide HAS, unhide HA2], by rw [unhide HAS, unhide HA2], (unhide HF).quiet (unhide HF2)⟩
                  case measure => have := unhide HGU; omega
                · have HA2 : Hid (A' = ⟨ap, av, ar⟩) := (unhide HS).trans ((unhide HPS).2 hbet)
                  by_cases h0 : 0 < vv
                  · have hb0 : decide (0 < vv) = true := by simpa using h0
                    have hb1 : decide (av < vv ∨ vv = av ∧ (bu + se - 2 * vv < ar ∨ bu + se - 2 * vv = ar ∧ q < ap)) = false := decide_eq_false fun q => hbet ⟨h0, q⟩
                    clear hbet
                    generalize decide (av < vv ∨ vv = av ∧ (bu + se - 2 * vv < ar ∨ bu + se - 2 * vv = ar ∧ q < ap)) = bet at *
                    subst hb1
                    go_wp2
                    go_roundg (2 - (u + 1))
                    case rel => exact ⟨u + 1, by omega, rfl, by go_num, by rw [unhide HAS, unhide HA2], by rw [unhide HAS, unhide HA2], by rw [unhide HAS, unhide HA2], (unhide HF).quiet (unhide HF2)⟩
                    case measure => have := unhide HGU; omega
                  · have hb0 : decide (0 < vv) = false := by simpa using h0
                    clear hbet
                    generalize decide (av < vv ∨ vv = av ∧ (bu + se - 2 * vv < ar ∨ bu + se - 2 * vv = ar ∧ q < ap)) = bet at *
                    go_wp2
                    go_roundg (2 - (u + 1))
                    case rel => exact ⟨u + 1, by omega, rfl, by go_num, by rw [unhide HAS, unhide HA2], by rw [unhide HAS, unhide HA2], by rw [unhide HAS, unhide HA2], (unhide HF).quiet (unhide HF2)⟩
                    case measure => have := unhide HGU; omega
        · have hu3 : u = 2 := by omega
          subst hu3
          clear hr2
          go_wp2
          go_roundg (n + 1 - (m + 1))
          case rel => exact ⟨m + 1, by omega, rfl, valI (by have := unhide HZ; omega), rfl, rfl, rfl, unhide HF⟩
          case measure => have := unhide HGM; omega
    · have hmn : m = n + 1 := by omega
      subst hmn
      obtain rfl : z = (n : Int) := by omega
      clear hz
      have hal := unhide HAL
      go_wp2
      rw [← hal]
      exact bodyPost_ret (v := .tuple #[.int .i64 (accTo s.L b (2 * (n + 1))).price, .int .i64 (accTo s.L b (2 * (n + 1))).vol]) (by simp [results, Tryz.results121, go_sem]) rfl ⟨rfl, unhide HF⟩
end Go.Proofs.YtigpgnjgmaoejaaGreat
