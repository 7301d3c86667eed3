/- Contracts of cmp.Compare, cmp.Or, a book's compare, and slices.MinFunc over openings. Conditions: the slice lies in memory, with at most 10000 openings. -/
import Derived.Test.YtigpgnjgmaoejaaGreatTrDE
import Derived.Test.YtigpgnjgmaoejaaGreatMarts
import Derived.Deep.RegionHeld3
namespace Go.Proofs.YtigpgnjgmaoejaaGreat
open Go.RowKit

def Tn.cells (x : Tn) : List Value := [.int .i64 x.price, .int .i64 x.vol, .int .i64 x.rest]
def Tn.val (x : Tn) : Value := .agg #[.int .i64 x.price, .int .i64 x.vol, .int .i64 x.rest]
theorem Tn.len (x : Tn) : x.cells.length = 3 := rfl

set_option maxHeartbeats 400000 in
theorem isNaN_any (a : Int) (w : World) : Calls Tryz.prog 175 #[.int .i64 a] w fun e w' => e = .returned (.bool false) ∧ w' = w := by
  have hb : (a != a) = false := by simp
  go_enter Tryz.func175, Tryz.ntmps175
  go_wp2
  go_ret
  exact ⟨rfl, rfl⟩
set_option maxHeartbeats 400000 in
theorem cmpI_any (a b : Int) (w : World) : Calls Tryz.prog 172 #[.int .i64 a, .int .i64 b] w fun e w' => e = .returned (.int .i64 (cmpI a b)) ∧ w' = w := by
  rcases Int.lt_trichotomy a b with h | h | h
  · have e : cmpI a b = -1 := by simp [cmpI, h]
    rw [e]
    clear e
    go_enter Tryz.func172, Tryz.ntmps172
    go_wp2_with (go_at_call 175; refine (isNaN_any _ _).mono ?_; rintro e w1 ⟨rfl, rfl⟩)
    go_ret
    exact ⟨rfl, rfl⟩
  · subst h
    have e : cmpI a a = 0 := by simp [cmpI]
    rw [e]
    clear e
    go_enter Tryz.func172, Tryz.ntmps172
    go_wp2_with (go_at_call 175; refine (isNaN_any _ _).mono ?_; rintro e w1 ⟨rfl, rfl⟩)
    go_ret
    exact ⟨rfl, rfl⟩
  · have e : cmpI a b = 1 := by simp [cmpI, h]; omega
    rw [e]
    clear e
    have h1 : ¬ a < b := by omega
    go_enter Tryz.func172, Tryz.ntmps172
    go_wp2_with (go_at_call 175; refine (isNaN_any _ _).mono ?_; rintro e w1 ⟨rfl, rfl⟩)
    go_ret
    exact ⟨rfl, rfl⟩

set_option maxHeartbeats 1000000 in
theorem or_any (q : Nat) (a b c : Int) (w : World) (hq : w.heap[q]? = some (.cells #[.int .i64 a, .int .i64 b, .int .i64 c] 3 (0, 0))) :
    Calls Tryz.prog 171 #[.slice (some ⟨q, 0, none⟩) 3 3] w fun e w' => e = .returned (.int .i64 (orI a b c)) ∧ w' = w := by
  have c0 : w.cell? ⟨q, 0, none⟩ = some (.int .i64 a) := cell_heap hq 0
  have c1 : w.cell? ⟨q, 1, none⟩ = some (.int .i64 b) := cell_heap hq 1
  have c2 : w.cell? ⟨q, 2, none⟩ = some (.int .i64 c) := cell_heap hq 2
  clear hq
  obtain ⟨R, hR⟩ : ∃ R, orI a b c = R := ⟨_, rfl⟩
  rw [hR]
  have HR := hide hR
  clear hR
  go_enter Tryz.func171, Tryz.ntmps171
  go_wp2
  go_loop [8] (fun i => ∃ k : Nat, k ≤ 3 ∧ i = .int .i64 k ∧ (1 ≤ k → a = 0) ∧ (2 ≤ k → b = 0) ∧ (3 ≤ k → c = 0)) (fun i => 3 - (intOf i).toNat)
  case atStart => exact ⟨0, by omega, rfl, by omega, by omega, by omega⟩
  case round =>
    obtain ⟨k, hk, rfl, h0, h1, h2⟩ := hrel
    have HH := hide (And.intro h0 (And.intro h1 h2))
    clear h0 h1 h2
    match k, hk with
    | 0, _ =>
      simp only [show (((0 : Nat)) : Int) = 0 from rfl]
      by_cases ha : a = 0
      · have hb : (a != 0) = false := by simpa using ha
        have HA := hide ha
        clear ha
        go_wp2
        go_round
        case rel => exact ⟨1, by omega, by go_num, fun _ => unhide HA, by omega, by omega⟩
        case measure => simp [intOf]
      · have hb : (a != 0) = true := by simpa using ha
        have HA := hide ha
        clear ha
        go_wp2
        go_ret
        exact ⟨retI (by rw [← unhide HR]; simp [orI, unhide HA]), rfl⟩
    | 1, _ =>
      simp only [show (((1 : Nat)) : Int) = 1 from rfl]
      by_cases ha : b = 0
      · have hb : (b != 0) = false := by simpa using ha
        have HA := hide ha
        clear ha
        go_wp2
        go_round
        case rel => exact ⟨2, by omega, by go_num, fun _ => (unhide HH).1 (by omega), fun _ => unhide HA, by omega⟩
        case measure => simp [intOf]
      · have hb : (b != 0) = true := by simpa using ha
        have HA := hide ha
        clear ha
        go_wp2
        go_ret
        exact ⟨retI (by rw [← unhide HR]; simp [orI, unhide HA, (unhide HH).1 (by omega)]), rfl⟩
    | 2, _ =>
      simp only [show (((2 : Nat)) : Int) = 2 from rfl]
      by_cases ha : c = 0
      · have hb : (c != 0) = false := by simpa using ha
        have HA := hide ha
        clear ha
        go_wp2
        go_round
        case rel => exact ⟨3, by omega, by go_num, fun _ => (unhide HH).1 (by omega), fun _ => (unhide HH).2.1 (by omega), fun _ => unhide HA⟩
        case measure => simp [intOf]
      · have hb : (c != 0) = true := by simpa using ha
        have HA := hide ha
        clear ha
        go_wp2
        go_ret
        exact ⟨retI (by rw [← unhide HR]; simp [orI, (unhide HH).1 (by omega), (unhide HH).2.1 (by omega)]), rfl⟩
    | 3, _ =>
      go_wp2
      go_ret
      exact ⟨retI (by rw [← unhide HR]; simp [orI, (unhide HH).1 (by omega), (unhide HH).2.1 (by omega), (unhide HH).2.2 (by omega)]), rfl⟩

set_option maxHeartbeats 4000000 in
set_option maxRecDepth 20000 in
theorem cmpT_any (x y : Tn) (w : World) : Calls Tryz.prog 167 #[x.val, y.val] w fun e w' => e = .returned (.int .i64 (cmpT x y)) ∧ Fr No w w' := by
  obtain ⟨p, v, r⟩ := x
  obtain ⟨p', v', r'⟩ := y
  unfold Tn.val
  simp only
  go_enter Tryz.func167, Tryz.ntmps167
  go_wp2_with fail
  generalize hW : World.alloc (World.alloc w _) _ = W
  have hf : Fr No w W := by rw [← hW]; exact ((Fr.refl _ _).alloc _).alloc _
  have h1 : W.heap[w.heap.size]? = some (.cells #[.int .i64 p, .int .i64 v, .int .i64 r] 201 (0, 0)) := by rw [← hW]; exact ((Fr.refl No _).alloc _).heap (heap_alloc_new w _) id
  have h2 : W.heap[w.heap.size + 1]? = some (.cells #[.int .i64 p', .int .i64 v', .int .i64 r'] 201 (0, 0)) := by rw [← hW]; exact heap_newAt _ _ (by simp)
  clear hW
  have HF := hide hf
  have c0 : W.cell? ⟨w.heap.size, 0, none⟩ = some (.int .i64 p) := cell_heap h1 0
  have c1 : W.cell? ⟨w.heap.size, 1, none⟩ = some (.int .i64 v) := cell_heap h1 1
  have c2 : W.cell? ⟨w.heap.size, 2, none⟩ = some (.int .i64 r) := cell_heap h1 2
  have d0 : W.cell? ⟨w.heap.size + 1, 0, none⟩ = some (.int .i64 p') := cell_heap h2 0
  have d1 : W.cell? ⟨w.heap.size + 1, 1, none⟩ = some (.int .i64 v') := cell_heap h2 1
  have d2 : W.cell? ⟨w.heap.size + 1, 2, none⟩ = some (.int .i64 r') := cell_heap h2 2
  have l1 := lt_of_heap h1
  have l2 := lt_of_heap h2
  generalize w.heap.size = N at *
  generalize hQ : N + 1 = Q at *
  clear hf h1 h2 hQ
  go_region_held3 (fun w' : World => w'.cell? ⟨N, 0, none⟩ = some (.int .i64 p) ∧ w'.cell? ⟨N, 1, none⟩ = some (.int .i64 v) ∧ w'.cell? ⟨N, 2, none⟩ = some (.int .i64 r) ∧ w'.cell? ⟨Q, 0, none⟩ = some (.int .i64 p') ∧ w'.cell? ⟨Q, 1, none⟩ = some (.int .i64 v') ∧ w'.cell? ⟨Q, 2, none⟩ = some (.int .i64 r')) (go_keep)
    (first
      | (go_at_call 172; refine (cmpI_any _ _ _).mono ?_; rintro e w2 ⟨rfl, rfl⟩)
      | (go_at_call 171; refine (or_any W.heap.size (cmpI v' v) (cmpI r r') (cmpI p p') _ (by exact heap_alloc_new W _)).mono ?_; rintro e w3 ⟨rfl, rfl⟩))
  go_wp2
  go_ret
  exact ⟨rfl, ((unhide HF).alloc _).drew⟩

/-- A slice of openings. -/
def Tns (w : World) (base : Nat) (v : Value) (L : List Tn) : Prop := w.ownsRow base 201 3 v L.length (L.flatMap Tn.cells)
theorem tns_at {w : World} {base : Nat} {a : Option Addr} {n cap : Nat} {L : List Tn} (h : Tns w base (.slice a n cap) L) (i : Nat) (hi : i < L.length) :
    ∃ g, a = some ⟨g, 0, none⟩ ∧ g < w.heap.size ∧ base ≤ g ∧
      w.cell? ⟨g, i * 3, none⟩ = some (.int .i64 L[i].price) ∧ w.cell? ⟨g, i * 3 + 1, none⟩ = some (.int .i64 L[i].vol) ∧
      w.cell? ⟨g, i * 3 + 2, none⟩ = some (.int .i64 L[i].rest) ∧ ∀ k, w.frozen? ⟨g, k, none⟩ = false := by
  obtain ⟨g, rfl, h1, h2, _, _, hc, hf⟩ := own_at Tn.len h i hi
  exact ⟨g, rfl, h1, h2, hc 0 _ (by omega) rfl, hc 1 _ (by omega) rfl, hc 2 _ (by omega) rfl, hf⟩
theorem minT_snoc : ∀ (l : List Tn) (m x : Tn), minT m (l ++ [x]) = if cmpT x (minT m l) < 0 then x else minT m l
  | [], _, _ => rfl
  | y :: l, m, x => minT_snoc l (if cmpT y m < 0 then y else m) x
theorem minT_take {l : List Tn} {m : Tn} {k : Nat} (hk : k < l.length) : minT m (l.take (k + 1)) = if cmpT l[k] (minT m (l.take k)) < 0 then l[k] else minT m (l.take k) := by
  rw [List.take_succ_eq_append_getElem hk, minT_snoc]
theorem box3 {W : World} {b : Nat} {T : TypeId} {x0 x1 x2 : Value} (h : W.heap[b]? = some (.cells #[x0, x1, x2] T (0, 0))) : W.cell? ⟨b, 0, none⟩ = some x0 ∧ W.cell? ⟨b, 1, none⟩ = some x1 ∧ W.cell? ⟨b, 2, none⟩ = some x2 ∧ ∀ k, W.frozen? ⟨b, k, none⟩ = false :=
  ⟨cell_heap h 0, cell_heap h 1, cell_heap h 2, frozen_heap h⟩
theorem st3_heap {w : World} {b : Nat} {a0 a1 a2 : Value} {T : TypeId} (h : w.heap[b]? = some (.cells #[a0, a1, a2] T (0, 0))) (x0 x1 x2 : Value) :
    (((w.setCell ⟨b, 0, none⟩ x0).setCell ⟨b, 1, none⟩ x1).setCell ⟨b, 2, none⟩ x2).heap[b]? = some (.cells #[x0, x1, x2] T (0, 0)) := by
  rw [heap_set (heap_set (heap_set h 0 x0) 1 x1) 2 x2]
  rfl
theorem st3_fr {S : Nat → Prop} {a w : World} {b : Nat} (h : Fr S a w) (hb : a.heap.size ≤ b ∨ S b) (x0 x1 x2 : Value) :
    Fr S a (((w.setCell ⟨b, 0, none⟩ x0).setCell ⟨b, 1, none⟩ x1).setCell ⟨b, 2, none⟩ x2) :=
  ((h.setAt b hb 0 x0).setAt b hb 1 x1).setAt b hb 2 x2

/-- Between two rounds. -/
structure MinMid (w wr : World) (m : Tn) : Prop where
  fr : Fr No w wr
  res : wr.heap[w.heap.size]? = some (.cells #[.int .i64 0, .int .i64 0, .int .i64 0] 201 (0, 0))
  box : wr.heap[w.heap.size + 1]? = some (.cells #[.int .i64 m.price, .int .i64 m.vol, .int .i64 m.rest] 201 (0, 0))
theorem MinMid.no {w wr w1 : World} {m : Tn} (h : MinMid w wr m) (hf : Fr No wr w1) : MinMid w w1 m := ⟨h.fr.quiet hf, hf.heap h.res id, hf.heap h.box id⟩
theorem MinMid.put {w wr : World} {m : Tn} (h : MinMid w wr m) (x : Tn) : MinMid w (((wr.setCell ⟨w.heap.size + 1, 0, none⟩ (.int .i64 x.price)).setCell ⟨w.heap.size + 1, 1, none⟩ (.int .i64 x.vol)).setCell ⟨w.heap.size + 1, 2, none⟩ (.int .i64 x.rest)) x :=
  ⟨st3_fr h.fr (.inl (by omega)) _ _ _, (st3_fr (Fr.refl (Is (w.heap.size + 1)) wr) (.inr (Is.self _)) (.int .i64 x.price) (.int .i64 x.vol) (.int .i64 x.rest)).heap h.res (fun e => by have : w.heap.size = w.heap.size + 1 := e; omega), st3_heap h.box _ _ _⟩

set_option maxHeartbeats 4000000 in
set_option maxRecDepth 20000 in
theorem minF_any (base : Nat) (v : Value) (x : Tn) (l : List Tn) (w : World) (hown : Tns w base v (x :: l)) (hn : (x :: l).length ≤ 10000) :
    Calls Tryz.prog 166 #[v, .func (.func 167) #[] #[]] w fun e w' => e = .returned (minT x l).val ∧ Fr No w w' := by
  obtain ⟨a, cap, rfl, -⟩ := own_form hown
  have HO := hide hown
  obtain ⟨g, rfl, hg, _, c0, c1, c2, -⟩ := tns_at hown 0 (by simp)
  simp only [List.getElem_cons_zero, Nat.zero_mul, Nat.zero_add] at c0 c1 c2
  generalize hnn : (x :: l).length = n at *
  have Hn := hide hnn
  have hn1 : 1 ≤ n := by rw [← hnn]; simp
  clear hnn hown
  go_enter Tryz.func166, Tryz.ntmps166
  go_wp2
  generalize hW : World.alloc (World.alloc w _) _ = W
  have hM : MinMid w W (minT x (l.take 0)) := by
    rw [← hW]
    exact ⟨((Fr.refl _ _).alloc _).alloc _, ((Fr.refl No _).alloc _).heap (heap_alloc_new w _) id, heap_newAt _ _ (by simp)⟩
  have HM := hide hM
  clear hW hM
  go_loopw [6] (fun i wr => ∃ j : Nat, 1 ≤ j ∧ j ≤ n ∧ i = .int .i64 (j : Int) ∧ MinMid w wr (minT x (l.take (j - 1)))) (fun i _ => n - (intOf i).toNat)
  case atStart => exact ⟨1, Nat.le_refl _, hn1, rfl, unhide HM⟩
  case round =>
    obtain ⟨j, hj1, hjn, rfl, hm⟩ := hrel
    have hl : l.length + 1 = n := by have := unhide Hn; simpa using this
    by_cases hlt : j < n
    · obtain ⟨k, rfl⟩ : ∃ k, j = k + 1 := ⟨j - 1, by omega⟩
      have hkl : k < l.length := by omega
      have hown2 : Tns wr base (.slice (some ⟨g, 0, none⟩) n cap) (x :: l) := own_fr (S := No) (unhide HO) hm.fr (fun _ _ => id)
      obtain ⟨g', hg', hgl, _, d0, d1, d2, -⟩ := tns_at hown2 (k + 1) (by simp; omega)
      cases hg'
      simp only [List.getElem_cons_succ] at d0 d1 d2
      have hst := minT_take (m := x) hkl
      rw [Nat.add_sub_cancel] at hm
      generalize l[k] = y at *
      generalize minT x (l.take k) = m at *
      have HST := hide hst
      generalize hjj : k + 1 = j at *
      have HJ := hide hjj
      have h0j : (0 : Int) ≤ (j : Int) := by omega
      have hjn2 : (j : Int) < (n : Int) := by omega
      obtain ⟨m0, m1, m2, hfz⟩ := box3 hm.box
      have hN := lt_of_heap hm.box
      have HMM := hide hm
      generalize hQ : w.heap.size + 1 = Q at *
      have HQ := hide hQ
      have HD := hide (And.intro d0 (And.intro d1 d2))
      clear hm hst hown2 hfz hQ hjj hkl
      by_cases hcm : cmpT y m < 0
      · have HCM := hide hcm
        go_wp2_with fail
        go_region_held3 (fun w' : World => w'.cell? ⟨g, j * 3, none⟩ = some (.int .i64 y.price) ∧ w'.cell? ⟨g, j * 3 + 1, none⟩ = some (.int .i64 y.vol) ∧ w'.cell? ⟨g, j * 3 + 2, none⟩ = some (.int .i64 y.rest) ∧ w'.cell? ⟨Q, 0, none⟩ = some (.int .i64 m.price) ∧ w'.cell? ⟨Q, 1, none⟩ = some (.int .i64 m.vol) ∧ w'.cell? ⟨Q, 2, none⟩ = some (.int .i64 m.rest)) (go_keep)
          (first | (go_at_call 167; refine (cmpT_any y m _).mono ?_; rintro e w2 ⟨rfl, hf2'⟩; have hf2 : Fr No wr w2 := Fr.quiet ((Fr.refl _ _).drew) hf2'; have hm2 := (unhide HMM).no hf2; have hb2 := hm2.box; rw [unhide HQ] at hb2; obtain ⟨q0, q1, q2, hfz2⟩ := box3 hb2; have f0 := hfz2 0; have f1 := hfz2 1; have f2 := hfz2 2; have hN2 := lt_of_heap hb2; have e0 := (hf2.below.cell (p := ⟨g, j * 3, none⟩) hgl).trans (unhide HD).1; have e1 := (hf2.below.cell (p := ⟨g, j * 3 + 1, none⟩) hgl).trans (unhide HD).2.1; have e2 := (hf2.below.cell (p := ⟨g, j * 3 + 2, none⟩) hgl).trans (unhide HD).2.2; have HM2 := hide hm2; clear hf2' hf2 hm2 hb2 hfz2))
        clear d0 d1 d2 m0 m1 m2
        go_wp2
        go_roundw
        case rel =>
          refine ⟨j + 1, by omega, by omega, by go_num, ?_⟩
          rw [Nat.add_sub_cancel, unhide HST, if_pos (unhide HCM)]
          have := (unhide HM2).put y
          rw [unhide HQ] at this
          exact this
        case measure => simp [intOf]; omega
      · have HCM := hide hcm
        go_wp2_with fail
        go_region_held3 (fun w' : World => w'.cell? ⟨g, j * 3, none⟩ = some (.int .i64 y.price) ∧ w'.cell? ⟨g, j * 3 + 1, none⟩ = some (.int .i64 y.vol) ∧ w'.cell? ⟨g, j * 3 + 2, none⟩ = some (.int .i64 y.rest) ∧ w'.cell? ⟨Q, 0, none⟩ = some (.int .i64 m.price) ∧ w'.cell? ⟨Q, 1, none⟩ = some (.int .i64 m.vol) ∧ w'.cell? ⟨Q, 2, none⟩ = some (.int .i64 m.rest)) (go_keep)
          (first | (go_at_call 167; refine (cmpT_any y m _).mono ?_; rintro e w2 ⟨rfl, hf2'⟩; have hf2 : Fr No wr w2 := Fr.quiet ((Fr.refl _ _).drew) hf2'; have hm2 := (unhide HMM).no hf2; have hb2 := hm2.box; rw [unhide HQ] at hb2; obtain ⟨q0, q1, q2, hfz2⟩ := box3 hb2; have hN2 := lt_of_heap hb2; have e0 := (hf2.below.cell (p := ⟨g, j * 3, none⟩) hgl).trans (unhide HD).1; have e1 := (hf2.below.cell (p := ⟨g, j * 3 + 1, none⟩) hgl).trans (unhide HD).2.1; have e2 := (hf2.below.cell (p := ⟨g, j * 3 + 2, none⟩) hgl).trans (unhide HD).2.2; have HM2 := hide hm2; clear hf2' hf2 hm2 hb2 hfz2))
        clear d0 d1 d2 m0 m1 m2
        go_wp2
        go_roundw
        case rel =>
          refine ⟨j + 1, by omega, by omega, by go_num, ?_⟩
          rw [Nat.add_sub_cancel, unhide HST, if_neg (by have := unhide HCM; omega)]
          exact unhide HM2
        case measure => simp [intOf]; omega
    · have htk : l.take (j - 1) = l := List.take_of_length_le (by omega)
      rw [htk] at hm
      clear htk
      generalize hmm : minT x l = m at *
      have HME := hide hmm
      clear hmm
      obtain ⟨m0, m1, m2, -⟩ := box3 hm.box
      obtain ⟨r0, r1, r2, hfz⟩ := box3 hm.res
      have f0 := hfz 0
      have f1 := hfz 1
      have f2 := hfz 2
      have HMM := hide hm
      have hN := lt_of_heap hm.res
      clear hm hfz
      go_wp2
      have hWb := st3_heap (unhide HMM).res (.int .i64 m.price) (.int .i64 m.vol) (.int .i64 m.rest)
      have hWf := st3_fr (unhide HMM).fr (.inl (Nat.le_refl w.heap.size)) (.int .i64 m.price) (.int .i64 m.vol) (.int .i64 m.rest)
      generalize World.setCell (World.setCell (World.setCell _ ⟨w.heap.size, 0, none⟩ _) ⟨w.heap.size, 1, none⟩ _) ⟨w.heap.size, 2, none⟩ _ = W2 at hWb hWf ⊢
      obtain ⟨q0, q1, q2, _⟩ := box3 hWb
      exact bodyPost_ret (v := m.val) (by simp [results, Tryz.results166, go_sem, Tn.val, q0, q1, q2]) rfl ⟨by rw [unhide HME], hWf⟩
end Go.Proofs.YtigpgnjgmaoejaaGreat

/- Contracts of a book's turns, turnoutAt and opening. Conditions: the book lies in memory, at most 1000 orders on a side, what is open of each and its price are within bounds. -/
namespace Go.Proofs.YtigpgnjgmaoejaaGreat
open Go.RowKit

theorem new_cellsAt {b : Nat} (w : World) (cs : List Value) (T : TypeId) (hb : b = w.heap.size) : ∀ j u, cs[j]? = some u → (w.alloc (.cells cs.toArray T)).cell? ((⟨b, 0, none⟩ : Addr).add j) = some u := by
  subst hb; exact new_cells w cs T
def intCell (n : Int) : List Value := [.int .i64 n]
theorem intCell_len (n : Int) : (intCell n).length = 1 := rfl
theorem intCell_one (n : Int) : ∀ u ∈ intCell n, u.oneCell' = true := by intro u hu; simp only [intCell, List.mem_cons, List.not_mem_nil, or_false] at hu; subst hu; rfl
/-- A slice of numbers. -/
def Zs (w : World) (base : Nat) (v : Value) (L : List Int) : Prop := w.ownsRow base 3 1 v L.length (L.flatMap intCell)
theorem app_int {ops : Array Oper} {rest : List Oper} {o : Oper} {a : Act} {Q : Exit → Act → World → Prop} {w : World} (hgd : o.guard = none) (s x : Operand) (ho : o.op = .call { callee := .builtin .append, args := #[s, x], argTypes := #[26, 26] })
    (base : Nat) (v : Value) (L : List Int) (hown : Zs w base v L) (hs : a.eval s = v) (ad : Addr) (m c : Nat) (N : List Int) (hx : a.eval x = .slice (some ad) m c) (hm : m = N.length) (hN : 0 < N.length) (hnews : ∀ j u, (N.flatMap intCell)[j]? = some u → w.cell? (ad.add j) = some u)
    (hb : L.length + N.length ≤ 1000000) (hbase : base ≤ w.heap.size)
    (h : ∀ g cap w', Zs w' base (.slice (some ⟨g, 0, none⟩) (L.length + m) cap) (L ++ N) → Fr (OwnS v) w w' → (v.ownBlock = some g ∨ g = w.heap.size) → g < w'.heap.size → wpList Tryz.prog ops Q rest (a.put o.dst (.slice (some ⟨g, 0, none⟩) (L.length + m) cap)) w') : wpList Tryz.prog ops Q (o :: rest) a w :=
  wpList_plain hgd fun _ hK => app_wp infoInt Tryz.underlying26 intCell_len rfl (by decide) intCell_one s x ho base v L hown hs ad m c N hx hm hN hnews (by omega) (by omega) hbase fun g cap w' h2 h3 h4 h5 => hK _ _ (h g cap w' h2 h3 h4 h5)
theorem zs_at {w : World} {base : Nat} {a : Option Addr} {n cap : Nat} {L : List Int} (h : Zs w base (.slice a n cap) L) (i : Nat) (hi : i < L.length) :
    ∃ g, a = some ⟨g, 0, none⟩ ∧ g < w.heap.size ∧ base ≤ g ∧ w.cell? ⟨g, i, none⟩ = some (.int .i64 L[i]) ∧ ∀ k, w.frozen? ⟨g, k, none⟩ = false := by
  obtain ⟨g, rfl, h1, h2, _, _, hc, hf⟩ := own_at intCell_len h i hi
  exact ⟨g, rfl, h1, h2, by have := hc 0 _ (by omega) rfl; simpa using this, hf⟩
def zTn : Value := .agg #[.int .i64 0, .int .i64 0, .int .i64 0]
theorem infoTn : (Tryz.prog.info? 201).map (fun i => (i.zero, i.size, i.bytes)) = some (some zTn, 3, 24) := by kernel_rfl
theorem tn_one (x : Tn) : ∀ u ∈ x.cells, u.oneCell' = true := by intro u hu; simp only [Tn.cells, List.mem_cons, List.not_mem_nil, or_false] at hu; rcases hu with rfl | rfl | rfl <;> rfl
theorem app_tn {ops : Array Oper} {rest : List Oper} {o : Oper} {a : Act} {Q : Exit → Act → World → Prop} {w : World} (hgd : o.guard = none) (s x : Operand) (ho : o.op = .call { callee := .builtin .append, args := #[s, x], argTypes := #[212, 212] })
    (base : Nat) (v : Value) (L : List Tn) (hown : Tns w base v L) (hs : a.eval s = v) (ad : Addr) (m c : Nat) (N : List Tn) (hx : a.eval x = .slice (some ad) m c) (hm : m = N.length) (hN : 0 < N.length) (hnews : ∀ j u, (N.flatMap Tn.cells)[j]? = some u → w.cell? (ad.add j) = some u)
    (hb : L.length + N.length ≤ 1000000) (hbase : base ≤ w.heap.size)
    (h : ∀ g cap w', Tns w' base (.slice (some ⟨g, 0, none⟩) (L.length + m) cap) (L ++ N) → Fr (OwnS v) w w' → (v.ownBlock = some g ∨ g = w.heap.size) → g < w'.heap.size → wpList Tryz.prog ops Q rest (a.put o.dst (.slice (some ⟨g, 0, none⟩) (L.length + m) cap)) w') : wpList Tryz.prog ops Q (o :: rest) a w :=
  wpList_plain hgd fun _ hK => app_wp infoTn Tryz.underlying212 Tn.len rfl (by decide) tn_one s x ho base v L hown hs ad m c N hx hm hN hnews (by omega) (by omega) hbase fun g cap w' h2 h3 h4 h5 => hK _ _ (h g cap w' h2 h3 h4 h5)

theorem map_succ {f : Ord → Int} {L : List Ord} {k : Nat} (hk : k < L.length) : (L.take (k + 1)).map f = (L.take k).map f ++ [f L[k]] := by
  rw [List.take_succ_eq_append_getElem hk, List.map_append]; rfl

set_option maxHeartbeats 4000000 in
set_option maxRecDepth 20000 in
theorem turns_any (b bx : Nat) (tr : Bool) (td : Int) (v : Nat → Value) (M : Nat → List Ord) (w : World) (h : PB w b bx tr td v M) (hp : ∀ j, j < 2 → ∀ y ∈ M j, 1 ≤ y.price ∧ y.price ≤ 1000000) :
    Calls Tryz.prog 164 #[.pointer (some ⟨b, 0, none⟩)] w fun e w' => ∃ r, e = .returned r ∧ Zs w' w.heap.size r (turnsL M) ∧ Fr No w w' := by
  have hc0 := h.cells.2.2.1
  have hb := h.lt
  obtain ⟨a0, k0, hv0⟩ := h.side0.at_.form
  have ho0 := h.own 0 (by omega)
  have hl0 := h.len 0 (by omega)
  rw [hv0] at hc0 ho0
  have HB := hide (And.intro h hp)
  have HO := hide ho0
  have hE : turnsL M = (M 0).map (fun o => o.price + 1) ++ (M 1).map Ord.price := rfl
  rw [hE]
  clear h hp ho0 hv0 hE
  generalize hM0 : M 0 = L at *
  have HM0 := hide hM0
  clear hM0
  generalize hnn : L.length = n at *
  have Hn := hide hnn
  clear hnn
  go_enter Tryz.func164, Tryz.ntmps164
  go_wp2_with (go_at_call 55; refine (bSide_any b _ (by first | exact .inl rfl | exact .inr rfl) _).mono ?_; rintro e w2 ⟨rfl, hw2⟩; have hw3 := hw2.symm; subst hw3; first | rw [show sAt 1 = 3 from rfl] | rw [show sAt 2 = 5 from rfl])
  go_loopw [3, 14] (fun l c wi => ∃ k : Nat, k ≤ n ∧ c = .int .i64 k ∧ Zs wi w.heap.size l ((L.take k).map fun o => o.price + 1) ∧ Fr No w wi) (fun _ c _ => n - (intOf c).toNat)
  case atStart => exact ⟨0, Nat.zero_le _, rfl, World.ownsRow_nil _ _ _ _, Fr.refl _ _⟩
  case round =>
    obtain ⟨k, hk, rfl, hown, hfi⟩ := hrel
    have hszi := hfi.size
    have HFI := hide hfi
    have HW := hide hown
    by_cases hlt : k < n
    · have hlt' : k < L.length := by rw [unhide Hn]; exact hlt
      obtain ⟨g, rfl, hg, _, c0, c1, c2, c3, c4, c5, _⟩ := os_at (own_fr (S := No) (unhide HO) hfi (fun _ _ => id)) k hlt'
      have HS := hide (map_succ (f := fun o => o.price + 1) hlt')
      have hpk := (unhide HB).2 0 (by omega) L[k] (by rw [unhide HM0]; exact List.getElem_mem hlt')
      have hln : ((L.take k).map fun o => o.price + 1).length ≤ 1000 := by simp; omega
      clear hfi hown
      generalize (L.take k).map (fun o => o.price + 1) = Z at *
      go_wp2_with (at_builtin; refine app_int rfl (.tmp 18) (.tmp 22) rfl w.heap.size _ Z (own_fr (S := No) (unhide HW) (by repeat (first | exact Fr.refl _ _ | refine Fr.drew ?_ | refine Fr.alloc ?_ _)) (fun _ _ => id)) rfl ⟨wr.heap.size + 1, 0, none⟩ 1 1 [L[k].price + 1] rfl rfl (by simp) (new_cellsAt _ (intCell (L[k].price + 1)) _ (by simp)) (by simp; omega) (by simp; omega) ?_; intro g1 c1 w1 hown1 hfr1 hat1 hlt1)
      go_roundw
      case rel => exact ⟨k + 1, by omega, by go_num, by rw [unhide HS]; exact hown1, Fr.trans (((unhide HFI).alloc _).alloc _) hfr1 fun j hj ht => absurd ((unhide HW).lt j ht).1 (by omega)⟩
      case measure => simp [intOf]; omega
    · have hkn : L.take k = L := List.take_of_length_le (by have := unhide Hn; omega)
      rw [hkn] at hown
      have hB2 := (unhide HB).1.no hfi
      have hc1 := hB2.cells.2.2.2
      have hb2 := hB2.lt
      obtain ⟨a1, k1, hv1⟩ := hB2.side1.at_.form
      have ho1 := (unhide HB).1.own 1 (by omega)
      have hl1 := hB2.len 1 (by omega)
      rw [hv1] at hc1 ho1
      have HO1 := hide ho1
      have HW2 := hide (And.intro hown hfi)
      have hln0 : (L.map fun o => o.price + 1).length ≤ 1000 := by have := unhide Hn; simp; omega
      clear hkn hB2 hv1 ho1 hown hfi HW HFI
      generalize hM1 : M 1 = L1 at *
      have HM1 := hide hM1
      clear hM1
      generalize hn1 : L1.length = n1 at *
      have Hn1 := hide hn1
      clear hn1
      generalize hZ0 : (L.map fun o => o.price + 1) = Z0 at *
      have HZ0 := hide hZ0
      clear hZ0
      go_wp2_with (go_at_call 55; refine (bSide_any b _ (by first | exact .inl rfl | exact .inr rfl) _).mono ?_; rintro e w2 ⟨rfl, hw2⟩; have hw3 := hw2.symm; subst hw3; first | rw [show sAt 1 = 3 from rfl] | rw [show sAt 2 = 5 from rfl])
      go_loopw [3, 31] (fun l c wi => ∃ k : Nat, k ≤ n1 ∧ c = .int .i64 k ∧ Zs wi w.heap.size l (Z0 ++ (L1.take k).map Ord.price) ∧ Fr No w wi) (fun _ c _ => n1 - (intOf c).toNat)
      case atStart => exact ⟨0, Nat.zero_le _, rfl, by simpa using (unhide HW2).1, (unhide HW2).2⟩
      case round =>
        obtain ⟨k, hk, rfl, hown, hfi⟩ := hrel
        have hszi := hfi.size
        have HFI := hide hfi
        have HW := hide hown
        by_cases hlt : k < n1
        · have hlt' : k < L1.length := by rw [unhide Hn1]; exact hlt
          obtain ⟨g, rfl, hg, _, c0, c1, c2, c3, c4, c5, _⟩ := os_at (own_fr (S := No) (unhide HO1) hfi (fun _ _ => id)) k hlt'
          have HS := hide (map_succ (f := Ord.price) hlt')
          have hln : (Z0 ++ (L1.take k).map Ord.price).length ≤ 2000 := by simp; omega
          clear hfi hown
          generalize hZ : Z0 ++ (L1.take k).map Ord.price = Z at *
          have HZ := hide hZ
          clear hZ
          go_wp2_with (at_builtin; refine app_int rfl (.tmp 35) (.tmp 38) rfl w.heap.size _ Z (own_fr (S := No) (unhide HW) (by repeat (first | exact Fr.refl _ _ | refine Fr.drew ?_ | refine Fr.alloc ?_ _)) (fun _ _ => id)) rfl ⟨wr.heap.size + 1, 0, none⟩ 1 1 [L1[k].price] rfl rfl (by simp) (new_cellsAt _ (intCell (L1[k].price)) _ (by simp)) (by simp; omega) (by simp; omega) ?_; intro g1 c1 w1 hown1 hfr1 hat1 hlt1)
          go_roundw
          case rel => exact ⟨k + 1, by omega, by go_num, by rw [unhide HS, ← List.append_assoc, unhide HZ]; exact hown1, Fr.trans (((unhide HFI).alloc _).alloc _) hfr1 fun j hj ht => absurd ((unhide HW).lt j ht).1 (by omega)⟩
          case measure => simp [intOf]; omega
        · have hkn : L1.take k = L1 := List.take_of_length_le (by have := unhide Hn1; omega)
          rw [hkn] at hown
          clear hkn
          go_wp2
          go_ret
          rw [unhide HZ0, unhide HM1]
          exact ⟨_, rfl, hown, hfi⟩

set_option maxHeartbeats 4000000 in
set_option maxRecDepth 20000 in
theorem tnAt_any (b bx : Nat) (tr : Bool) (td : Int) (v : Nat → Value) (M : Nat → List Ord) (q : Int) (w : World) (h : PB w b bx tr td v M) (hop : ∀ j, j < 2 → ∀ y ∈ M j, 1 ≤ y.opn ∧ y.opn ≤ 1000000) :
    Calls Tryz.prog 165 #[.pointer (some ⟨b, 0, none⟩), .int .i64 q] w fun e w' => e = .returned (tnAt M q).val ∧ Fr No w w' := by
  have HO : ∀ sd, sd = 1 ∨ sd = 2 → ∀ w', Fr No w w' → Calls Tryz.prog 153 #[.pointer (some ⟨b, sAt sd, none⟩), .int .i64 q, .int .i64 0] w' fun e w'' => e = .returned (.int .i64 (openAtO sd q 0 (M (sj sd)))) ∧ w'' = w' := fun sd hsd w' hf => by
    have hsi := (h.no hf).sideIn hsd
    exact openAt_any sd hsd b (sAt sd) _ _ q 0 w' hsi.at_ ((cell_heap hsi.blk _).trans hsi.bts) (h.len _ (sj_lt _)) (fun y hy => by have := hop _ (sj_lt _) y hy; omega)
  have HB := hide (HO 1 (.inl rfl))
  have HS := hide (HO 2 (.inr rfl))
  have hb1 := openAt_bound (sd := 1) (p := q) (own := 0) (M := M 0) (fun y hy => by have := hop 0 (by omega) y hy; omega)
  have hb2 := openAt_bound (sd := 2) (p := q) (own := 0) (M := M 1) (fun y hy => by have := hop 1 (by omega) y hy; omega)
  have hl0 := h.len 0 (by omega)
  have hl1 := h.len 1 (by omega)
  have hE : tnAt M q = if openAtO 1 q 0 (M 0) ≤ openAtO 2 q 0 (M 1) then ⟨q, openAtO 1 q 0 (M 0), openAtO 2 q 0 (M 1) - openAtO 1 q 0 (M 0)⟩ else ⟨q, openAtO 2 q 0 (M 1), openAtO 1 q 0 (M 0) - openAtO 2 q 0 (M 1)⟩ := rfl
  rw [show sj 1 = 0 from rfl, show sAt 1 = 3 from rfl] at HB
  rw [show sj 2 = 1 from rfl, show sAt 2 = 5 from rfl] at HS
  rw [hE]
  generalize openAtO 1 q 0 (M 0) = x at *
  generalize openAtO 2 q 0 (M 1) = y at *
  have hbl := h.lt
  clear HO hE h hop
  have hz0 : (w.alloc (.cells #[.int .i64 0, .int .i64 0, .int .i64 0] 201)).heap[w.heap.size]? = some (.cells #[.int .i64 0, .int .i64 0, .int .i64 0] 201 (0, 0)) := heap_alloc_new w _
  rcases Int.lt_trichotomy x y with hxy | hxy | hxy
  · rw [if_pos (by omega)]
    have h1 : x ≤ y := by omega
    have h2 : ¬ y ≤ x := by omega
    go_enter Tryz.func165, Tryz.ntmps165
    go_wp2_with fail
    refine (bSide_buy b _).mono ?_
    rintro e w2 ⟨rfl, rfl⟩
    go_wp2_with fail
    refine (unhide HB _ ((Fr.refl _ _).alloc _)).mono ?_
    rintro e w3 ⟨rfl, rfl⟩
    go_wp2_with fail
    refine (bSide_sell b _).mono ?_
    rintro e w4 ⟨rfl, rfl⟩
    go_wp2_with fail
    refine (unhide HS _ ((Fr.refl _ _).alloc _)).mono ?_
    rintro e w5 ⟨rfl, rfl⟩
    go_wp2
    exact bodyPost_ret (v := .agg #[.int .i64 q, .int .i64 x, .int .i64 (y - x)]) (by simp [results, Tryz.results165, go_sem]) rfl ⟨rfl, (Fr.refl _ _).alloc _⟩
  · subst hxy
    rw [if_pos (by omega)]
    go_enter Tryz.func165, Tryz.ntmps165
    go_wp2_with fail
    refine (bSide_buy b _).mono ?_
    rintro e w2 ⟨rfl, rfl⟩
    go_wp2_with fail
    refine (unhide HB _ ((Fr.refl _ _).alloc _)).mono ?_
    rintro e w3 ⟨rfl, rfl⟩
    go_wp2_with fail
    refine (bSide_sell b _).mono ?_
    rintro e w4 ⟨rfl, rfl⟩
    go_wp2_with fail
    refine (unhide HS _ ((Fr.refl _ _).alloc _)).mono ?_
    rintro e w5 ⟨rfl, rfl⟩
    go_wp2
    exact bodyPost_ret (v := .agg #[.int .i64 q, .int .i64 x, .int .i64 (x - x)]) (by simp [results, Tryz.results165, go_sem]) rfl ⟨rfl, (Fr.refl _ _).alloc _⟩
  · rw [if_neg (by omega)]
    have h1 : ¬ x ≤ y := by omega
    have h2 : y ≤ x := by omega
    go_enter Tryz.func165, Tryz.ntmps165
    go_wp2_with fail
    refine (bSide_buy b _).mono ?_
    rintro e w2 ⟨rfl, rfl⟩
    go_wp2_with fail
    refine (unhide HB _ ((Fr.refl _ _).alloc _)).mono ?_
    rintro e w3 ⟨rfl, rfl⟩
    go_wp2_with fail
    refine (bSide_sell b _).mono ?_
    rintro e w4 ⟨rfl, rfl⟩
    go_wp2_with fail
    refine (unhide HS _ ((Fr.refl _ _).alloc _)).mono ?_
    rintro e w5 ⟨rfl, rfl⟩
    go_wp2
    exact bodyPost_ret (v := .agg #[.int .i64 q, .int .i64 y, .int .i64 (x - y)]) (by simp [results, Tryz.results165, go_sem]) rfl ⟨rfl, (Fr.refl _ _).alloc _⟩
end Go.Proofs.YtigpgnjgmaoejaaGreat

/- Contract of a book's opening. Conditions: the book lies in memory, at most 1000 orders on a side, what is open of each and its price are within bounds. -/
namespace Go.Proofs.YtigpgnjgmaoejaaGreat
open Go.RowKit

def tnsTo (M : Nat → List Ord) (k : Nat) : List Tn := (((turnsL M).take k).map (tnAt M)).filter fun x => decide (0 < x.vol)
theorem tnsTo_succ {M : Nat → List Ord} {k : Nat} (hk : k < (turnsL M).length) : tnsTo M (k + 1) = if 0 < (tnAt M (turnsL M)[k]).vol then tnsTo M k ++ [tnAt M (turnsL M)[k]] else tnsTo M k := by
  unfold tnsTo
  rw [List.take_succ_eq_append_getElem hk, List.map_append, List.filter_append]
  by_cases h : 0 < (tnAt M (turnsL M)[k]).vol
  · rw [if_pos h]; simp [h]
  · rw [if_neg h]; simp [h]
theorem tnsTo_len (M : Nat → List Ord) (k : Nat) : (tnsTo M k).length ≤ k := by
  unfold tnsTo
  refine Nat.le_trans (List.length_filter_le _ _) ?_
  rw [List.length_map]
  exact List.length_take_le _ _
theorem tnsTo_all {M : Nat → List Ord} {k : Nat} (hk : (turnsL M).length ≤ k) : tnsTo M k = tnsL M := by
  unfold tnsTo tnsL
  rw [List.take_of_length_le hk]
theorem turnsL_len (M : Nat → List Ord) : (turnsL M).length = (M 0).length + (M 1).length := by simp [turnsL, brks]

/-- Between two rounds. -/
structure OpMid (w wr : World) (B : Nat) (l : Value) (T : List Tn) : Prop where
  fr : Fr No w wr
  res : wr.heap[w.heap.size]? = some (.cells #[.int .i64 0, .int .i64 0, .int .i64 0] 201 (0, 0))
  own : Tns wr B l T
  lt : w.heap.size < B
theorem OpMid.no {w wr w1 : World} {B : Nat} {l : Value} {T : List Tn} (h : OpMid w wr B l T) (hf : Fr No wr w1) : OpMid w w1 B l T := ⟨h.fr.quiet hf, hf.heap h.res id, own_fr (S := No) h.own hf (fun _ _ => id), h.lt⟩
theorem OpMid.more {w wr w1 w2 : World} {B : Nat} {l l' : Value} {T T' : List Tn} (h : OpMid w wr B l T) (hf : Fr No wr w1) (h2 : Fr (OwnS l) w1 w2) (ho : Tns w2 B l' T') : OpMid w w2 B l' T' :=
  ⟨(h.fr.quiet hf).trans h2 (fun q hq e => by have := (h.own.lt q e).1; have := h.lt; omega), h2.heap (hf.heap h.res id) (fun e => by have := (h.own.lt _ e).1; have := h.lt; omega), ho, h.lt⟩

set_option maxHeartbeats 8000000 in
set_option maxRecDepth 20000 in
theorem opening_any (b bx : Nat) (tr : Bool) (td : Int) (v : Nat → Value) (M : Nat → List Ord) (w : World) (h : PB w b bx tr td v M) (hp : ∀ j, j < 2 → ∀ y ∈ M j, 1 ≤ y.price ∧ y.price ≤ 1000000) (hop : ∀ j, j < 2 → ∀ y ∈ M j, 1 ≤ y.opn ∧ y.opn ≤ 1000000) :
    Calls Tryz.prog 142 #[.pointer (some ⟨b, 0, none⟩)] w fun e w' => e = .returned (openTn M).val ∧ Fr No w w' := by
  have HP := hide (And.intro h (And.intro hp hop))
  have hlen : (turnsL M).length ≤ 2000 := by rw [turnsL_len]; have := h.len 0 (by omega); have := h.len 1 (by omega); omega
  have hbl := h.lt
  clear h hp hop
  go_enter Tryz.func142, Tryz.ntmps142
  go_wp2_with fail
  generalize hW : World.alloc w _ = W
  have hf : Fr No w W := by rw [← hW]; exact (Fr.refl _ _).alloc _
  have hr : W.heap[w.heap.size]? = some (.cells #[.int .i64 0, .int .i64 0, .int .i64 0] 201 (0, 0)) := by rw [← hW]; exact heap_alloc_new w _
  have hWs : W.heap.size = w.heap.size + 1 := by rw [← hW]; simp
  clear hW
  refine (turns_any b bx tr td v M W ((unhide HP).1.no hf) (unhide HP).2.1).mono ?_
  rintro e w1 ⟨r1, rfl, hz1, hf1⟩
  obtain ⟨a, cap, rfl, -⟩ := own_form hz1
  have HZ := hide hz1
  have hm1 : OpMid w w1 w1.heap.size (.slice none 0 0) (tnsTo M 0) := ⟨hf.quiet hf1, hf1.heap hr id, World.ownsRow_nil _ _ _ _, by have := hf1.size; omega⟩
  have HM1 := hide hm1
  clear hf hr hf1 hz1 hm1
  generalize hnn : (turnsL M).length = n at *
  have Hn := hide hnn
  clear hnn
  go_wp2
  go_loopw [3, 10] (fun l i wr => ∃ k : Nat, k ≤ n ∧ i = .int .i64 k ∧ OpMid w wr w1.heap.size l (tnsTo M k) ∧ Fr No w1 wr) (fun _ i _ => n - (intOf i).toNat)
  case atStart => exact ⟨0, Nat.zero_le _, rfl, unhide HM1, Fr.refl _ _⟩
  case round =>
    obtain ⟨k, hk, rfl, hm, hf1⟩ := hrel
    by_cases hlt : k < n
    · have hlt' : k < (turnsL M).length := by rw [unhide Hn]; exact hlt
      obtain ⟨g, rfl, hg, hWg, c0, _⟩ := zs_at (own_fr (S := No) (unhide HZ) hf1 (fun _ _ => id)) k hlt'
      have HS := hide (tnsTo_succ hlt')
      have hln := tnsTo_len M k
      generalize (turnsL M)[k] = q at *
      generalize hT : tnsTo M k = T at *
      generalize hX : tnAt M q = X at *
      obtain ⟨xp, xv, xr⟩ := X
      have HX := hide hX
      have HM := hide (And.intro hm hf1)
      clear hT hX hm hf1
      go_wp2_with fail
      refine (tnAt_any b bx tr td v M q wr ((unhide HP).1.no (unhide HM).1.fr) (unhide HP).2.2).mono ?_
      rintro e w2 ⟨rfl, hf2⟩
      rw [unhide HX]
      rw [show (⟨xp, xv, xr⟩ : Tn).val = .agg #[.int .i64 xp, .int .i64 xv, .int .i64 xr] from rfl]
      have hm2 := (unhide HM).1.no hf2
      have HM2 := hide (And.intro hm2 ((unhide HM).2.quiet hf2))
      have hsz2 : w1.heap.size ≤ w2.heap.size := ((unhide HM).2.quiet hf2).size
      clear hm2 hf2
      by_cases hxv : 0 < xv
      · have HV := hide hxv
        go_wp2_with (at_builtin; refine app_tn rfl (.tmp 20) (.tmp 22) rfl w1.heap.size _ T (own_fr (S := No) (unhide HM2).1.own (by repeat (first | exact Fr.refl _ _ | refine Fr.drew ?_ | refine Fr.alloc ?_ _)) (fun _ _ => id)) rfl ⟨w2.heap.size + 1, 0, none⟩ 1 1 [⟨xp, xv, xr⟩] rfl rfl (by simp) (new_cellsAt _ (Tn.cells ⟨xp, xv, xr⟩) _ (by simp)) (by simp; omega) (by simp; omega) ?_; intro g3 c3 w3 hown3 hfr3 hat3 hlt3)
        go_roundw
        case rel => exact ⟨k + 1, by omega, by go_num, by
          rw [unhide HS, if_pos (unhide HV)]
          exact (unhide HM2).1.more (((Fr.refl No _).alloc _).alloc _) hfr3 hown3, by
          exact Fr.trans ((((unhide HM2).2).alloc _).alloc _) hfr3 fun j hj ht => absurd ((unhide HM2).1.own.lt j ht).1 (by omega)⟩
        case measure => simp [intOf]; omega
      · have HV := hide hxv
        go_wp2
        go_roundw
        case rel => exact ⟨k + 1, by omega, by go_num, by
          rw [unhide HS, if_neg (by have := unhide HV; omega)]
          exact (unhide HM2).1.no ((Fr.refl No _).alloc _), (unhide HM2).2.alloc _⟩
        case measure => simp [intOf]; omega
    · rw [tnsTo_all (by have := unhide Hn; omega)] at hm
      obtain ⟨q0, q1, q2, hfz⟩ := box3 hm.res
      have f0 := hfz 0
      have f1 := hfz 1
      have f2 := hfz 2
      have hN := lt_of_heap hm.res
      have hln : (tnsL M).length ≤ 2000 := by have := tnsTo_len M n; rw [tnsTo_all (by have := unhide Hn; omega)] at this; omega
      obtain ⟨T, hT⟩ : ∃ T, T = tnsL M := ⟨_, rfl⟩
      have hO : openTn M = minL T := by unfold openTn; rw [hT]
      rw [← hT] at hm hln
      have HT := hide hO
      have HM := hide hm
      clear hm hf1 hfz hT hO
      obtain ⟨a3, cap3, hv3, -⟩ := own_form (unhide HM).own
      cases T with
      | nil =>
        subst hv3
        go_wp2
        rw [unhide HT]
        have hWb := st3_heap (unhide HM).res (.int .i64 0) (.int .i64 0) (.int .i64 0)
        have hWf := st3_fr (unhide HM).fr (.inl (Nat.le_refl w.heap.size)) (.int .i64 0) (.int .i64 0) (.int .i64 0)
        generalize World.setCell (World.setCell (World.setCell _ ⟨w.heap.size, 0, none⟩ _) ⟨w.heap.size, 1, none⟩ _) ⟨w.heap.size, 2, none⟩ _ = W2 at hWb hWf ⊢
        obtain ⟨p0, p1, p2, _⟩ := box3 hWb
        exact bodyPost_ret (v := (minL []).val) (by simp [results, Tryz.results142, go_sem, Tn.val, minL, p0, p1, p2]) rfl ⟨rfl, hWf⟩
      | cons x l =>
        have hc1 : (((x :: l).length : Int) == 0) = false := by rw [beq_eq_false_iff_ne]; simp; omega
        subst hv3
        generalize hxl : (x :: l).length = n3 at *
        have HXL := hide hxl
        go_wp2_with fail
        refine (minF_any w1.heap.size _ x l wr (unhide HM).own (by omega)).mono ?_
        rintro e w5 ⟨rfl, hf5⟩
        have hm5 := (unhide HM).no hf5
        obtain ⟨r0, r1, r2, hfz⟩ := box3 hm5.res
        have g0 := hfz 0
        have g1 := hfz 1
        have g2 := hfz 2
        have hN5 := lt_of_heap hm5.res
        have HM5 := hide hm5
        rw [show minL (x :: l) = minT x l from rfl] at HT
        generalize minT x l = m at *
        obtain ⟨mp, mv, mr⟩ := m
        rw [show (⟨mp, mv, mr⟩ : Tn).val = .agg #[.int .i64 mp, .int .i64 mv, .int .i64 mr] from rfl]
        clear hm5 hf5 hfz
        go_wp2
        rw [unhide HT]
        have hWb := st3_heap (unhide HM5).res (.int .i64 mp) (.int .i64 mv) (.int .i64 mr)
        have hWf := st3_fr (unhide HM5).fr (.inl (Nat.le_refl w.heap.size)) (.int .i64 mp) (.int .i64 mv) (.int .i64 mr)
        generalize World.setCell (World.setCell (World.setCell _ ⟨w.heap.size, 0, none⟩ _) ⟨w.heap.size, 1, none⟩ _) ⟨w.heap.size, 2, none⟩ _ = W2 at hWb hWf ⊢
        obtain ⟨p0, p1, p2, _⟩ := box3 hWb
        exact bodyPost_ret (v := (⟨mp, mv, mr⟩ : Tn).val) (by simp [results, Tryz.results142, go_sem, Tn.val, p0, p1, p2]) rfl ⟨rfl, hWf⟩
end Go.Proofs.YtigpgnjgmaoejaaGreat
