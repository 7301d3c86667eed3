/- Contracts of a side's reached, always, openAt, and of the atomic number. Conditions: the side's list lies in memory, at most 1000 orders rest there, what is open of each is from 0 to 1000000. -/
import Derived.Test.YtigpgnjgmaoejaaGreatProgC
import Derived.Test.YtigpgnjgmaoejaaGreatMarts
import Derived.Laws.Externs
import Derived.Test.YtigpgnjgmaoejaaGreatProgGN
import Derived.Test.YtigpgnjgmaoejaaGreatProgOP
namespace Go.Proofs.YtigpgnjgmaoejaaGreat
open Go.RowKit

set_option maxHeartbeats 400000 in
theorem reached_any (sd : Int) (hsd : sd = 1 ∨ sd = 2) (b o : Nat) (v : Value) (M : List Ord) (p : Int) (k : Nat) (w : World) (hs : SideAt w b o v M) (hb : w.cell? ⟨b, o + 1, none⟩ = some (beatsV sd b o)) (hk : k < M.length) :
    Calls Tryz.prog 154 #[.pointer (some ⟨b, o, none⟩), .int .i64 p, .int .i64 (k : Int)] w fun e w' => e = .returned (.bool (!beatsB sd p M[k].price)) ∧ w' = w := by
  have HS := hide hs
  have HK := hide hk
  clear hs
  rcases hsd with rfl | rfl
  · replace hb := hb.trans (show some (beatsV 1 b o) = some (.func (.func 70) #[.pointer (some ⟨b, o, none⟩)] #[]) from rfl)
    go_enter Tryz.func154, Tryz.ntmps154
    go_wp2_with (go_at_call 70; refine (above_any b o v M p k _ (unhide HS) (unhide HK)).mono ?_; rintro e w1 ⟨rfl, rfl⟩)
    go_ret
    exact ⟨rfl, rfl⟩
  · replace hb := hb.trans (show some (beatsV 2 b o) = some (.func (.func 71) #[.pointer (some ⟨b, o, none⟩)] #[]) from rfl)
    go_enter Tryz.func154, Tryz.ntmps154
    go_wp2_with (go_at_call 71; refine (below_any b o v M p k _ (unhide HS) (unhide HK)).mono ?_; rintro e w1 ⟨rfl, rfl⟩)
    go_ret
    exact ⟨rfl, rfl⟩
set_option maxHeartbeats 400000 in
theorem always_any (a p k : Value) (w : World) :
    Calls Tryz.prog 155 #[a, p, k] w fun e w' => e = .returned (.bool true) ∧ w' = w := by
  go_enter Tryz.func155, Tryz.ntmps155
  go_wp2
  go_ret
  exact ⟨rfl, rfl⟩

theorem openAt_succ {sd p own : Int} {M : List Ord} {k : Nat} (hk : k < M.length) : openAtO sd p own (M.take (k + 1)) = openAtO sd p own (M.take k) + (if (!beatsB sd p M[k].price) = true then (if M[k].trader = own then 0 else M[k].opn) else 0) := by
  unfold openAtO
  rw [List.take_succ_eq_append_getElem hk, List.filter_append, List.map_append, List.sum_append]
  congr 1
  by_cases h1 : (!beatsB sd p M[k].price) = true <;> by_cases h2 : M[k].trader = own
  · rw [if_pos h1, if_pos h2, List.filter_cons_of_neg (by simp [h2])]
    rfl
  · rw [if_pos h1, if_neg h2, List.filter_cons_of_pos (by rw [h1]; simp [h2])]
    simp
  · rw [if_neg h1, List.filter_cons_of_neg (by simp [h2])]
    rfl
  · rw [if_neg h1, List.filter_cons_of_neg (by simp only [Bool.and_eq_true, not_and]; exact fun h => absurd h h1)]
    rfl
theorem openAt_bound {sd p own : Int} {M : List Ord} (h : ∀ o ∈ M, 0 ≤ o.opn ∧ o.opn ≤ 1000000) : 0 ≤ openAtO sd p own M ∧ openAtO sd p own M ≤ 1000000 * (M.length : Int) := by
  induction M with
  | nil => simp [openAtO]
  | cons x l ih =>
    have hx := h x (by simp)
    have := ih fun o ho => h o (by simp [ho])
    unfold openAtO at this ⊢
    simp only [List.filter_cons]
    split
    · simp only [List.map_cons, List.sum_cons, List.length_cons]
      omega
    · simp only [List.length_cons]
      omega

set_option maxHeartbeats 2000000 in
theorem openAt_any (sd : Int) (hsd : sd = 1 ∨ sd = 2) (b o : Nat) (v : Value) (M : List Ord) (p own : Int) (w : World) (hs : SideAt w b o v M) (hb : w.cell? ⟨b, o + 1, none⟩ = some (beatsV sd b o)) (hn : M.length ≤ 1000) (hop : ∀ x ∈ M, 0 ≤ x.opn ∧ x.opn ≤ 1000000) :
    Calls Tryz.prog 153 #[.pointer (some ⟨b, o, none⟩), .int .i64 p, .int .i64 own] w fun e w' => e = .returned (.int .i64 (openAtO sd p own M)) ∧ w' = w := by
  obtain ⟨a, cap, rfl⟩ := hs.form
  have hL := hs.cel
  have HS := hide hs
  have HB := hide hb
  have HOP := hide hop
  have ho := hs.own
  clear hs hb hop
  generalize hnn : M.length = n at *
  have Hn := hide hnn
  clear hnn
  go_enter Tryz.func153, Tryz.ntmps153
  go_wp2
  go_loop [7, 14] (fun s i => ∃ k : Nat, k ≤ n ∧ i = .int .i64 k ∧ s = .int .i64 (openAtO sd p own (M.take k))) (fun _ i => n - (intOf i).toNat)
  case atStart => exact ⟨0, Nat.zero_le _, rfl, rfl⟩
  case round =>
    obtain ⟨k, hk, rfl, rfl⟩ := hrel
    by_cases hlt : k < n
    · have hlt' : k < M.length := by rw [unhide Hn]; exact hlt
      have hbd := openAt_bound (sd := sd) (p := p) (own := own) (M := M.take k) (fun x hx => unhide HOP x (List.mem_of_mem_take hx))
      have hln : ((M.take k).length : Int) ≤ 1000 := by rw [List.length_take]; omega
      have hb0 : 0 ≤ openAtO sd p own (M.take k) ∧ openAtO sd p own (M.take k) ≤ 1000000000 := by omega
      have hxo := unhide HOP _ (List.getElem_mem hlt')
      have HST := hide (openAt_succ (sd := sd) (p := p) (own := own) hlt')
      obtain ⟨g, rfl, -, -, c0, c1, c2, c3, c4, c5, -⟩ := os_at ho k hlt'
      clear hbd hln
      generalize openAtO sd p own (M.take k) = S at *
      have HC := hide (reached_any sd hsd b o _ M p k _ (unhide HS) (unhide HB) hlt')
      generalize (!beatsB sd p M[k].price) = X at *
      cases X with
      | true =>
        by_cases ht : M[k].trader = own
        · have hb1 : (M[k].trader != own) = false := by simp [ht]
          have HT := hide ht
          clear ht
          go_wp2_with (go_at_call 154; refine (unhide HC).mono ?_; rintro e w1 ⟨rfl, rfl⟩)
          go_round
          case rel => exact ⟨k + 1, by omega, by go_num, by rw [unhide HST]; simp [unhide HT]⟩
          case measure => simp [intOf]; omega
        · have hb1 : (M[k].trader != own) = true := by simp [ht]
          have HT := hide ht
          clear ht
          go_wp2_with (go_at_call 154; refine (unhide HC).mono ?_; rintro e w1 ⟨rfl, rfl⟩)
          go_round
          case rel => exact ⟨k + 1, by omega, by go_num, by rw [unhide HST]; simp [unhide HT]⟩
          case measure => simp [intOf]; omega
      | false =>
        go_wp2_with (go_at_call 154; refine (unhide HC).mono ?_; rintro e w1 ⟨rfl, rfl⟩)
        go_round
        case rel => exact ⟨k + 1, by omega, by go_num, by rw [unhide HST]; simp⟩
        case measure => simp [intOf]; omega
    · have hkn : M.take k = M := List.take_of_length_le (by have := unhide Hn; omega)
      rw [hkn]
      clear hkn
      go_wp2
      go_ret
      exact ⟨rfl, rfl⟩

theorem run_addInt {w : World} {a : Addr} {n m : Int} (h : w.cell? a = some (.int .i64 n)) (hz : w.frozen? a = false) : (callFunc 173 #[.pointer (some a), .int .i64 m]).run Tryz.prog w = .ok (.value (.int .i64 (wrp (n + m)))) (w.setCell a (.int .i64 (wrp (n + m)))) := by
  rw [run_callFunc_extern Tryz.func173 (by kernel_rfl) (by kernel_rfl) (by kernel_rfl) (e := Extern.Atomic.update (Op.intArith .add) .i64 true) (by kernel_rfl)]
  have e : Extern.Atomic.update (Op.intArith .add) .i64 true #[.pointer (some a), .int .i64 m] = (do
    let b ← asAddr (.pointer (some a))
    let old ← Extern.Atomic.read (.int .i64) b
    let new ← Op.intArith .add .i64 (← asInt old) (← asInt (.int .i64 m))
    store b new .atomic
    pure (if true then new else old)) := rfl
  rw [e]
  simp [Extern.Atomic.read, asAddr, asInt, Op.intArith, go_sem, h, hz, stored, wrp]
end Go.Proofs.YtigpgnjgmaoejaaGreat

/- Contracts of a side's take and a book's count: what trading writes. Conditions: the book and the total lie in memory, at most 1000 orders on a side. -/
namespace Go.Proofs.YtigpgnjgmaoejaaGreat
open Go.RowKit

/-- The place of a side. -/
def sj (sd : Int) : Nat := if sd = 1 then 0 else 1
theorem sj_lt (sd : Int) : sj sd < 2 := by unfold sj; split <;> omega
theorem fj_sj {s : Int} (h : s = 1 ∨ s = 2) : fj s = sj (3 - s) := by rcases h with rfl | rfl <;> rfl
theorem upd_get {α : Type} (f : Nat → α) (j : Nat) (x : α) : upd f j x j = x := upd_self f j x

theorem PB.sideIn {w : World} {b bx : Nat} {tr : Bool} {td : Int} {v : Nat → Value} {M : Nat → List Ord} (h : PB w b bx tr td v M) {sd : Int} (hs : sd = 1 ∨ sd = 2) : SideIn w b (sAt sd) (bookCells b bx tr td v) sd (v (sj sd)) (M (sj sd)) := by
  rcases hs with rfl | rfl
  · exact h.side0
  · exact h.side1
theorem PB.bto {w w' : World} {b bx : Nat} {tr : Bool} {td : Int} {v : Nat → Value} {M : Nat → List Ord} {v' : Value} {M' : List Ord} (h : PB w b bx tr td v M) {sd : Int} (hs : sd = 1 ∨ sd = 2) (ht : SideTo w w' b (sAt sd) (bookCells b bx tr td v) (v (sj sd)) v' M') (hl : M'.length ≤ 1000) :
    ∃ v2, BTo w w' b bx tr td v v2 (upd M (sj sd) M') := by
  rcases hs with rfl | rfl
  · exact h.bto0 ht hl rfl rfl
  · exact h.bto1 ht hl rfl rfl
theorem PB.store {w : World} {b bx : Nat} {tr : Bool} {td : Int} {v : Nat → Value} {M : Nat → List Ord} (h : PB w b bx tr td v M) {sd : Int} (hs : sd = 1 ∨ sd = 2) {g cap : Nat} (hv : v (sj sd) = .slice (some ⟨g, 0, none⟩) (M (sj sd)).length cap) {y : Ord} {R : List Ord} (hy : M (sj sd) = y :: R) (c : Int) :
    BTo w (w.setCell ⟨g, 5, none⟩ (.int .i64 c)) b bx tr td v v (upd M (sj sd) ({ y with opn := c } :: R)) := by
  have hk : 0 < (M (sj sd)).length := by rw [hy]; simp
  have e : (M (sj sd)).set 0 { (M (sj sd))[0] with opn := c } = { y with opn := c } :: R := by simp [hy]
  rcases hs with rfl | rfl
  · exact h.store0 hv hk c e rfl
  · exact h.store1 hv hk c rfl e

theorem BTo.trans {a w w' : World} {b bx : Nat} {tr : Bool} {td : Int} {v v1 v2 : Nat → Value} {M1 M2 : Nat → List Ord} (h : BTo a w b bx tr td v v1 M1) (k : BTo w w' b bx tr td v1 v2 M2) : BTo a w' b bx tr td v v2 M2 := by
  refine ⟨k.pb, h.fr.trans k.fr fun q hq e => ?_, fun g hg => ?_⟩
  · rcases h.new q e with h1 | h1
    · exact h1
    · omega
  · rcases k.new g hg with h1 | h1
    · exact h.new g h1
    · exact .inr (Nat.le_trans h.fr.size h1)
theorem upd_upd {α : Type} (f : Nat → α) (j : Nat) (x y : α) : upd (upd f j x) j y = upd f j y := by
  funext k
  unfold upd
  split <;> rfl

theorem remove0_any (sd : Int) (hsd : sd = 1 ∨ sd = 2) (b bx : Nat) (tr : Bool) (td : Int) (v : Nat → Value) (M : Nat → List Ord) (y : Ord) (R : List Ord) (w : World) (h : PB w b bx tr td v M) (hy : M (sj sd) = y :: R) :
    Calls Tryz.prog 137 #[.pointer (some ⟨b, sAt sd, none⟩), .int .i64 0] w fun e w' => e = .returned (.tuple #[]) ∧ ∃ v2, BTo w w' b bx tr td v v2 (upd M (sj sd) R) := by
  have hl := h.len _ (sj_lt sd)
  refine (remove_any b (sAt sd) _ sd _ _ 0 w (h.sideIn hsd) (by rw [hy]; simp) (by omega)).mono ?_
  rintro e w' ⟨rfl, v', ht⟩
  have e : (M (sj sd)).eraseIdx 0 = R := by rw [hy]; rfl
  rw [e] at ht
  exact ⟨rfl, h.bto hsd ht (by rw [hy] at hl; simp at hl; omega)⟩

set_option maxHeartbeats 2000000 in
theorem take_any (sd : Int) (hsd : sd = 1 ∨ sd = 2) (b bx : Nat) (tr : Bool) (td : Int) (v : Nat → Value) (M : Nat → List Ord) (y : Ord) (R : List Ord) (n : Int) (w : World) (h : PB w b bx tr td v M) (hy : M (sj sd) = y :: R) (hn : 0 ≤ n ∧ n ≤ y.opn) (hyo : y.opn ≤ 1000000) :
    Calls Tryz.prog 156 #[.pointer (some ⟨b, sAt sd, none⟩), .int .i64 n] w fun e w' => e = .returned (.tuple #[]) ∧ ∃ v2, BTo w w' b bx tr td v v2 (upd M (sj sd) (if n = y.opn then R else { y with opn := y.opn - n } :: R)) := by
  obtain ⟨a, cap, hv⟩ := (h.sideIn hsd).at_.form
  have hc := (h.sideIn hsd).at_.cel
  have ho := h.own _ (sj_lt sd)
  have hk : 0 < (M (sj sd)).length := by rw [hy]; simp
  rw [hv] at hc ho
  obtain ⟨g, rfl, hgl, hng, c0, c1, c2, c3, c4, c5, hz⟩ := os_at ho 0 hk
  have e0 : (M (sj sd))[0] = y := by simp [hy]
  rw [e0] at c5
  have hz5 := hz 5
  have hc5 : w.cell? ⟨g, 5, none⟩ = some (.int .i64 y.opn) := by simpa using c5
  have hst := h.store hsd hv hy (y.opn - n)
  have hgb : g ≠ b := fun e => h.ab _ (sj_lt sd) (by rw [hv, ← e]; rfl)
  have hc1 : (w.setCell ⟨g, 5, none⟩ (.int .i64 (y.opn - n))).cell? ⟨b, sAt sd, none⟩ = some (.slice (some ⟨g, 0, none⟩) (M (sj sd)).length cap) := by
    rw [cell_heap (heap_set_other (w := w) (Ne.symm hgb) _ _ |>.trans h.blk)]
    exact (cell_heap h.blk _).symm.trans hc
  have hc2 : (w.setCell ⟨g, 5, none⟩ (.int .i64 (y.opn - n))).cell? ⟨g, 5, none⟩ = some (.int .i64 (y.opn - n)) := by
    have hst2 := hst.pb.own _ (sj_lt sd)
    rw [upd_get, hv] at hst2
    have := os_at hst2 0 (by simp)
    obtain ⟨g', hg', _, _, _, _, _, _, _, d5, _⟩ := this
    cases hg'
    simpa using d5
  have hlen : (0 : Int) < ((M (sj sd)).length : Int) := by omega
  have HST := hide (And.intro hst hy)
  clear h hst hy ho hv c0 c1 c2 c3 c4 c5 hz e0 hk
  generalize (M (sj sd)).length = m at *
  generalize hW : w.setCell ⟨g, 5, none⟩ (.int .i64 (y.opn - n)) = W1 at *
  have HW := hide hW
  by_cases hne : n = y.opn
  · have hz0 : (y.opn - n == 0) = true := by simp; omega
    rw [if_pos hne]
    have HN := hide hne
    clear hne
    go_enter Tryz.func156, Tryz.ntmps156
    go_wp2_with (go_at_call 137; refine (remove0_any sd hsd b bx tr td v _ { y with opn := y.opn - n } R _ (unhide HST).1.pb (upd_get _ _ _)).mono ?_; rintro e w2 ⟨rfl, v2, ht⟩; have HT := hide ht; clear ht)
    go_end0
    have ht := unhide HT
    rw [upd_upd] at ht
    exact ⟨rfl, v2, (unhide HST).1.trans ht⟩
  · have hz0 : (y.opn - n == 0) = false := by simp; omega
    rw [if_neg hne]
    clear hne
    go_enter Tryz.func156, Tryz.ntmps156
    go_wp2_with fail
    go_end0
    exact ⟨rfl, v, (unhide HST).1⟩

/-- A book and the total of all. -/
structure PX (w : World) (b bx : Nat) (tr : Bool) (td : Int) (v : Nat → Value) (M : Nat → List Ord) (c : Array Value) (vol : Int) : Prop where
  pb : PB w b bx tr td v M
  tot : w.heap[bx]? = some (.cells (c.setIfInBounds 8 (.int .i64 vol)) 83 (0, 0))
  size : 8 < c.size
  apart : ¬ BS b v bx
/-- What trading may write. -/
def XS (b bx : Nat) (v : Nat → Value) : Nat → Prop := fun k => k = bx ∨ BS b v k

theorem PX.fr {S : Nat → Prop} {w w' : World} {b bx : Nat} {tr : Bool} {td : Int} {v : Nat → Value} {M : Nat → List Ord} {c : Array Value} {vol : Int} (h : PX w b bx tr td v M c vol) (hf : Fr S w w') (hS : ∀ k, XS b bx v k → ¬ S k) : PX w' b bx tr td v M c vol :=
  ⟨h.pb.fr hf fun k hk => hS k (.inr hk), hf.heap h.tot (hS bx (.inl rfl)), h.size, h.apart⟩
theorem PX.no {w w' : World} {b bx : Nat} {tr : Bool} {td : Int} {v : Nat → Value} {M : Nat → List Ord} {c : Array Value} {vol : Int} (h : PX w b bx tr td v M c vol) (hf : Fr No w w') : PX w' b bx tr td v M c vol := h.fr hf fun _ _ => id
theorem PX.lt {w : World} {b bx : Nat} {tr : Bool} {td : Int} {v : Nat → Value} {M : Nat → List Ord} {c : Array Value} {vol : Int} (h : PX w b bx tr td v M c vol) : ∀ g, XS b bx v g → g < w.heap.size := by
  rintro g (rfl | hg)
  · exact lt_of_heap h.tot
  · exact h.pb.blt g hg
theorem PX.cellV {w : World} {b bx : Nat} {tr : Bool} {td : Int} {v : Nat → Value} {M : Nat → List Ord} {c : Array Value} {vol : Int} (h : PX w b bx tr td v M c vol) : w.cell? ⟨bx, 8, none⟩ = some (.int .i64 vol) := by
  rw [cell_heap h.tot]
  simp [h.size]
/-- The book is another now, the total is not. -/
theorem PX.to {w w' : World} {b bx : Nat} {tr : Bool} {td : Int} {v v' : Nat → Value} {M M' : Nat → List Ord} {c : Array Value} {vol : Int} (h : PX w b bx tr td v M c vol) (ht : BTo w w' b bx tr td v v' M') : PX w' b bx tr td v' M' c vol := by
  refine ⟨ht.pb, ht.fr.heap h.tot h.apart, h.size, fun e => ?_⟩
  rcases ht.new bx e with h1 | h1
  · exact h.apart h1
  · have := lt_of_heap h.tot; omega

theorem PB.setTd {w : World} {b bx : Nat} {tr : Bool} {td : Int} {v : Nat → Value} {M : Nat → List Ord} (h : PB w b bx tr td v M) (td' : Int) : PB (w.setCell ⟨b, 1, none⟩ (.int .i64 td')) b bx tr td' v M := by
  have hf : Fr (Is b) w (w.setCell ⟨b, 1, none⟩ (.int .i64 td')) := (Fr.refl _ _).setAt b (.inr (Is.self b)) _ _
  refine ⟨?_, fun j hj => own_fr (h.own j hj) hf (fun g hg e => h.ab j hj (by rw [← show g = b from e]; exact hg)), h.len, h.ab, h.ap⟩
  rw [heap_set h.blk]
  rfl
theorem PB.setTr {w : World} {b bx : Nat} {tr : Bool} {td : Int} {v : Nat → Value} {M : Nat → List Ord} (h : PB w b bx tr td v M) (tr' : Bool) : PB (w.setCell ⟨b, 0, none⟩ (.int .i64 (if tr' = true then 2 else 1))) b bx tr' td v M := by
  have hf : Fr (Is b) w (w.setCell ⟨b, 0, none⟩ (.int .i64 (if tr' = true then 2 else 1))) := (Fr.refl _ _).setAt b (.inr (Is.self b)) _ _
  refine ⟨?_, fun j hj => own_fr (h.own j hj) hf (fun g hg e => h.ab j hj (by rw [← show g = b from e]; exact hg)), h.len, h.ab, h.ap⟩
  rw [heap_set h.blk]
  rfl

set_option maxHeartbeats 1000000 in
theorem aAdd_any (a o : Nat) (n m : Int) (w : World) (h : w.cell? ⟨a, o, none⟩ = some (.int .i64 n)) (hz : w.frozen? ⟨a, o, none⟩ = false) :
    Calls Tryz.prog 168 #[.pointer (some ⟨a, o, none⟩), .int .i64 m] w fun e w' => e = .returned (.int .i64 (wrp (n + m))) ∧ w' = w.setCell ⟨a, o, none⟩ (.int .i64 (wrp (n + m))) := by
  have hld := run_addInt (m := m) h hz
  go_enter Tryz.func168, Tryz.ntmps168
  go_wp2_with (simp only [hld])
  go_ret
  exact ⟨rfl, rfl⟩

set_option maxHeartbeats 2000000 in
theorem count_any (b bx : Nat) (tr : Bool) (td : Int) (v : Nat → Value) (M : Nat → List Ord) (c : Array Value) (vol n : Int) (w : World) (h : PX w b bx tr td v M c vol) :
    Calls Tryz.prog 157 #[.pointer (some ⟨b, 0, none⟩), .int .i64 n] w fun e w' => e = .returned (.tuple #[]) ∧ PX w' b bx tr (wrp (td + n)) v M c (wrp (vol + n)) ∧ Fr (XS b bx v) w w' := by
  have hbb : bx ≠ b := fun e => h.apart (.inl e)
  have h1 := h.pb.setTd (wrp (td + n))
  have htd := h.pb.cells.2.1
  have hz1 : w.frozen? ⟨b, 1, none⟩ = false := frozen_heap h.pb.blk 1
  have hf1 : Fr (XS b bx v) w (w.setCell ⟨b, 1, none⟩ (.int .i64 (wrp (td + n)))) := (Fr.refl _ _).setAt b (.inr (.inr (.inl rfl))) _ _
  have ht1 : (w.setCell ⟨b, 1, none⟩ (.int .i64 (wrp (td + n)))).heap[bx]? = some (.cells (c.setIfInBounds 8 (.int .i64 vol)) 83 (0, 0)) := (heap_set_other hbb _ _).trans h.tot
  have hp1 : (w.setCell ⟨b, 1, none⟩ (.int .i64 (wrp (td + n)))).cell? ⟨b, 2, none⟩ = some (.pointer (some ⟨bx, 8, none⟩)) := cell_heap h1.blk 2
  have hc1 : (w.setCell ⟨b, 1, none⟩ (.int .i64 (wrp (td + n)))).cell? ⟨bx, 8, none⟩ = some (.int .i64 vol) := by rw [cell_heap ht1]; simp [h.size]
  have hzz : (w.setCell ⟨b, 1, none⟩ (.int .i64 (wrp (td + n)))).frozen? ⟨bx, 8, none⟩ = false := frozen_heap ht1 8
  have hbl := h.pb.lt
  have HA := hide (And.intro h (And.intro h1 (And.intro hf1 ht1)))
  clear h h1 hf1 ht1
  have hwr : IntKind.i64.wrap (td + n) = wrp (td + n) := rfl
  generalize hT : wrp (td + n) = T at *
  generalize hW : w.setCell ⟨b, 1, none⟩ (.int .i64 T) = W1 at *
  have HW := hide (And.intro hc1 hzz)
  clear hT hc1 hzz
  go_enter Tryz.func157, Tryz.ntmps157
  go_wp2_with (go_at_call 168; refine (aAdd_any bx 8 vol n _ (unhide HW).1 (unhide HW).2).mono ?_; rintro e w2 ⟨rfl, rfl⟩)
  go_end0
  obtain ⟨h, h1, hf1, ht1⟩ := unhide HA
  have hf2 : Fr (Is bx) W1 (W1.setCell ⟨bx, 8, none⟩ (.int .i64 (wrp (vol + n)))) := (Fr.refl _ _).setAt bx (.inr (Is.self bx)) _ _
  refine ⟨rfl, ⟨h1.fr hf2 (fun k hk e => h.apart (by rw [← show k = bx from e]; exact hk)), ?_, h.size, h.apart⟩, hf1.same (hf2.mono fun k _ e => .inl e)⟩
  rw [heap_set ht1, Array.setIfInBounds_setIfInBounds]
end Go.Proofs.YtigpgnjgmaoejaaGreat
