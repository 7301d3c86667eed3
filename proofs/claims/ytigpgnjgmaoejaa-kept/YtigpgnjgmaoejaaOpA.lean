/- Contracts of cmp.Compare, cmp.Or, a book's compare, and slices.MinFunc over openings. Conditions: the slice lies in memory, with at most 10000 openings. -/
import Derived.Test.YtigpgnjgmaoejaaTrDE
import Derived.Test.YtigpgnjgmaoejaaOpMN
import Derived.Deep.RegionHeld3
namespace Go.Proofs.Ytigpgnjgmaoejaa
open Go.RowKit

def Tn.cells (x : Tn) : List Value := [.int .i64 x.price, .int .i64 x.vol, .int .i64 x.rest]
def Tn.val (x : Tn) : Value := .agg #[.int .i64 x.price, .int .i64 x.vol, .int .i64 x.rest]
theorem Tn.len (x : Tn) : x.cells.length = 3 := rfl

set_option maxHeartbeats 400000 in
theorem isNaN_any (a : Int) (w : World) : Calls Try.prog 106 #[.int .i64 a] w fun e w' => e = .returned (.bool false) ∧ w' = w := by
  have hb : (a != a) = false := by simp
  go_enter Try.func106, Try.ntmps106
  go_wp2
  go_ret
  exact ⟨rfl, rfl⟩
set_option maxHeartbeats 400000 in
theorem cmpI_any (a b : Int) (w : World) : Calls Try.prog 103 #[.int .i64 a, .int .i64 b] w fun e w' => e = .returned (.int .i64 (cmpI a b)) ∧ w' = w := by
  rcases Int.lt_trichotomy a b with h | h | h
  · have e : cmpI a b = -1 := by simp [cmpI, h]
    rw [e]
    clear e
    go_enter Try.func103, Try.ntmps103
    go_wp2_with (go_at_call 106; refine (isNaN_any _ _).mono ?_; rintro e w1 ⟨rfl, rfl⟩)
    go_ret
    exact ⟨rfl, rfl⟩
  · subst h
    have e : cmpI a a = 0 := by simp [cmpI]
    rw [e]
    clear e
    go_enter Try.func103, Try.ntmps103
    go_wp2_with (go_at_call 106; refine (isNaN_any _ _).mono ?_; rintro e w1 ⟨rfl, rfl⟩)
    go_ret
    exact ⟨rfl, rfl⟩
  · have e : cmpI a b = 1 := by simp [cmpI, h]; omega
    rw [e]
    clear e
    have h1 : ¬ a < b := by omega
    go_enter Try.func103, Try.ntmps103
    go_wp2_with (go_at_call 106; refine (isNaN_any _ _).mono ?_; rintro e w1 ⟨rfl, rfl⟩)
    go_ret
    exact ⟨rfl, rfl⟩

set_option maxHeartbeats 1000000 in
theorem or_any (q : Nat) (a b c : Int) (w : World) (hq : w.heap[q]? = some (.cells #[.int .i64 a, .int .i64 b, .int .i64 c] 3 (0, 0))) :
    Calls Try.prog 102 #[.slice (some ⟨q, 0, none⟩) 3 3] w fun e w' => e = .returned (.int .i64 (orI a b c)) ∧ w' = w := by
  have c0 : w.cell? ⟨q, 0, none⟩ = some (.int .i64 a) := cell_heap hq 0
  have c1 : w.cell? ⟨q, 1, none⟩ = some (.int .i64 b) := cell_heap hq 1
  have c2 : w.cell? ⟨q, 2, none⟩ = some (.int .i64 c) := cell_heap hq 2
  clear hq
  obtain ⟨R, hR⟩ : ∃ R, orI a b c = R := ⟨_, rfl⟩
  rw [hR]
  have HR := hide hR
  clear hR
  go_enter Try.func102, Try.ntmps102
  go_wp2
  go_loop [8] (fun i => ∃ k : Nat, k ≤ 3 ∧ i = .int .i64 k ∧ (1 ≤ k → a = 0) ∧ (2 ≤ k → b = 0) ∧ (3 ≤ k → c = 0)) (fun i => 3 - (intOf i).toNat)
  case atStart => exact ⟨0, by omega, rfl, by omega, by omega, by omega⟩
  case round =>
    obtain ⟨k, hk, rfl, h0, h1, h2⟩ := hrel
    have HH := hide (And.intro h0 (And.intro h1 h2))
    clear h0 h1 h2
    match k, hk with
    | 0, _ =>
      simp only [show (((0 : Nat)) : Int) = 0 from rfl]
      by_cases ha : a = 0
      · have hb : (a != 0) = false := by simpa using ha
        have HA := hide ha
        clear ha
        go_wp2
        go_round
        case rel => exact ⟨1, by omega, by go_num, fun _ => unhide HA, by omega, by omega⟩
        case measure => simp [intOf]
      · have hb : (a != 0) = true := by simpa using ha
        have HA := hide ha
        clear ha
        go_wp2
        go_ret
        exact ⟨retI (by rw [← unhide HR]; simp [orI, unhide HA]), rfl⟩
    | 1, _ =>
      simp only [show (((1 : Nat)) : Int) = 1 from rfl]
      by_cases ha : b = 0
      · have hb : (b != 0) = false := by simpa using ha
        have HA := hide ha
        clear ha
        go_wp2
        go_round
        case rel => exact ⟨2, by omega, by go_num, fun _ => (unhide HH).1 (by omega), fun _ => unhide HA, by omega⟩
        case measure => simp [intOf]
      · have hb : (b != 0) = true := by simpa using ha
        have HA := hide ha
        clear ha
        go_wp2
        go_ret
        exact ⟨retI (by rw [← unhide HR]; simp [orI, unhide HA, (unhide HH).1 (by omega)]), rfl⟩
    | 2, _ =>
      simp only [show (((2 : Nat)) : Int) = 2 from rfl]
      by_cases ha : c = 0
      · have hb : (c != 0) = false := by simpa using ha
        have HA := hide ha
        clear ha
        go_wp2
        go_round
        case rel => exact ⟨3, by omega, by go_num, fun _ => (unhide HH).1 (by omega), fun _ => (unhide HH).2.1 (by omega), fun _ => unhide HA⟩
        case measure => simp [intOf]
      · have hb : (c != 0) = true := by simpa using ha
        have HA := hide ha
        clear ha
        go_wp2
        go_ret
        exact ⟨retI (by rw [← unhide HR]; simp [orI, (unhide HH).1 (by omega), (unhide HH).2.1 (by omega)]), rfl⟩
    | 3, _ =>
      go_wp2
      go_ret
      exact ⟨retI (by rw [← unhide HR]; simp [orI, (unhide HH).1 (by omega), (unhide HH).2.1 (by omega), (unhide HH).2.2 (by omega)]), rfl⟩

set_option maxHeartbeats 4000000 in
set_option maxRecDepth 20000 in
theorem cmpT_any (x y : Tn) (w : World) : Calls Try.prog 97 #[x.val, y.val] w fun e w' => e = .returned (.int .i64 (cmpT x y)) ∧ Fr No w w' := by
  obtain ⟨p, v, r⟩ := x
  obtain ⟨p', v', r'⟩ := y
  unfold Tn.val
  simp only
  go_enter Try.func97, Try.ntmps97
  go_wp2_with fail
  generalize hW : World.alloc (World.alloc w _) _ = W
  have hf : Fr No w W := by rw [← hW]; exact ((Fr.refl _ _).alloc _).alloc _
  have h1 : W.heap[w.heap.size]? = some (.cells #[.int .i64 p, .int .i64 v, .int .i64 r] 118 (0, 0)) := by rw [← hW]; exact ((Fr.refl No _).alloc _).heap (heap_alloc_new w _) id
  have h2 : W.heap[w.heap.size + 1]? = some (.cells #[.int .i64 p', .int .i64 v', .int .i64 r'] 118 (0, 0)) := by rw [← hW]; exact heap_newAt _ _ (by simp)
  clear hW
  have HF := hide hf
  have c0 : W.cell? ⟨w.heap.size, 0, none⟩ = some (.int .i64 p) := cell_heap h1 0
  have c1 : W.cell? ⟨w.heap.size, 1, none⟩ = some (.int .i64 v) := cell_heap h1 1
  have c2 : W.cell? ⟨w.heap.size, 2, none⟩ = some (.int .i64 r) := cell_heap h1 2
  have d0 : W.cell? ⟨w.heap.size + 1, 0, none⟩ = some (.int .i64 p') := cell_heap h2 0
  have d1 : W.cell? ⟨w.heap.size + 1, 1, none⟩ = some (.int .i64 v') := cell_heap h2 1
  have d2 : W.cell? ⟨w.heap.size + 1, 2, none⟩ = some (.int .i64 r') := cell_heap h2 2
  have l1 := lt_of_heap h1
  have l2 := lt_of_heap h2
  generalize w.heap.size = N at *
  generalize hQ : N + 1 = Q at *
  clear hf h1 h2 hQ
  go_region_held3 (fun w' : World => w'.cell? ⟨N, 0, none⟩ = some (.int .i64 p) ∧ w'.cell? ⟨N, 1, none⟩ = some (.int .i64 v) ∧ w'.cell? ⟨N, 2, none⟩ = some (.int .i64 r) ∧ w'.cell? ⟨Q, 0, none⟩ = some (.int .i64 p') ∧ w'.cell? ⟨Q, 1, none⟩ = some (.int .i64 v') ∧ w'.cell? ⟨Q, 2, none⟩ = some (.int .i64 r')) (go_keep)
    (first
      | (go_at_call 103; refine (cmpI_any _ _ _).mono ?_; rintro e w2 ⟨rfl, rfl⟩)
      | (go_at_call 102; refine (or_any W.heap.size (cmpI v' v) (cmpI r r') (cmpI p p') _ (by exact heap_alloc_new W _)).mono ?_; rintro e w3 ⟨rfl, rfl⟩))
  go_wp2
  go_ret
  exact ⟨rfl, ((unhide HF).alloc _).drew⟩

/-- A slice of openings. -/
def Tns (w : World) (base : Nat) (v : Value) (L : List Tn) : Prop := w.ownsRow base 118 3 v L.length (L.flatMap Tn.cells)
theorem tns_at {w : World} {base : Nat} {a : Option Addr} {n cap : Nat} {L : List Tn} (h : Tns w base (.slice a n cap) L) (i : Nat) (hi : i < L.length) :
    ∃ g, a = some ⟨g, 0, none⟩ ∧ g < w.heap.size ∧ base ≤ g ∧
      w.cell? ⟨g, i * 3, none⟩ = some (.int .i64 L[i].price) ∧ w.cell? ⟨g, i * 3 + 1, none⟩ = some (.int .i64 L[i].vol) ∧
      w.cell? ⟨g, i * 3 + 2, none⟩ = some (.int .i64 L[i].rest) ∧ ∀ k, w.frozen? ⟨g, k, none⟩ = false := by
  obtain ⟨g, rfl, h1, h2, _, _, hc, hf⟩ := own_at Tn.len h i hi
  exact ⟨g, rfl, h1, h2, hc 0 _ (by omega) rfl, hc 1 _ (by omega) rfl, hc 2 _ (by omega) rfl, hf⟩
theorem minT_snoc : ∀ (l : List Tn) (m x : Tn), minT m (l ++ [x]) = if cmpT x (minT m l) < 0 then x else minT m l
  | [], _, _ => rfl
  | y :: l, m, x => minT_snoc l (if cmpT y m < 0 then y else m) x
theorem minT_take {l : List Tn} {m : Tn} {k : Nat} (hk : k < l.length) : minT m (l.take (k + 1)) = if cmpT l[k] (minT m (l.take k)) < 0 then l[k] else minT m (l.take k) := by
  rw [List.take_succ_eq_append_getElem hk, minT_snoc]
theorem box3 {W : World} {b : Nat} {T : TypeId} {x0 x1 x2 : Value} (h : W.heap[b]? = some (.cells #[x0, x1, x2] T (0, 0))) : W.cell? ⟨b, 0, none⟩ = some x0 ∧ W.cell? ⟨b, 1, none⟩ = some x1 ∧ W.cell? ⟨b, 2, none⟩ = some x2 ∧ ∀ k, W.frozen? ⟨b, k, none⟩ = false :=
  ⟨cell_heap h 0, cell_heap h 1, cell_heap h 2, frozen_heap h⟩
theorem st3_heap {w : World} {b : Nat} {a0 a1 a2 : Value} {T : TypeId} (h : w.heap[b]? = some (.cells #[a0, a1, a2] T (0, 0))) (x0 x1 x2 : Value) :
    (((w.setCell ⟨b, 0, none⟩ x0).setCell ⟨b, 1, none⟩ x1).setCell ⟨b, 2, none⟩ x2).heap[b]? = some (.cells #[x0, x1, x2] T (0, 0)) := by
  rw [heap_set (heap_set (heap_set h 0 x0) 1 x1) 2 x2]
  rfl
theorem st3_fr {S : Nat → Prop} {a w : World} {b : Nat} (h : Fr S a w) (hb : a.heap.size ≤ b ∨ S b) (x0 x1 x2 : Value) :
    Fr S a (((w.setCell ⟨b, 0, none⟩ x0).setCell ⟨b, 1, none⟩ x1).setCell ⟨b, 2, none⟩ x2) :=
  ((h.setAt b hb 0 x0).setAt b hb 1 x1).setAt b hb 2 x2

/-- Between two rounds. -/
structure MinMid (w wr : World) (m : Tn) : Prop where
  fr : Fr No w wr
  res : wr.heap[w.heap.size]? = some (.cells #[.int .i64 0, .int .i64 0, .int .i64 0] 118 (0, 0))
  box : wr.heap[w.heap.size + 1]? = some (.cells #[.int .i64 m.price, .int .i64 m.vol, .int .i64 m.rest] 118 (0, 0))
theorem MinMid.no {w wr w1 : World} {m : Tn} (h : MinMid w wr m) (hf : Fr No wr w1) : MinMid w w1 m := ⟨h.fr.quiet hf, hf.heap h.res id, hf.heap h.box id⟩
theorem MinMid.put {w wr : World} {m : Tn} (h : MinMid w wr m) (x : Tn) : MinMid w (((wr.setCell ⟨w.heap.size + 1, 0, none⟩ (.int .i64 x.price)).setCell ⟨w.heap.size + 1, 1, none⟩ (.int .i64 x.vol)).setCell ⟨w.heap.size + 1, 2, none⟩ (.int .i64 x.rest)) x :=
  ⟨st3_fr h.fr (.inl (by omega)) _ _ _, (st3_fr (Fr.refl (Is (w.heap.size + 1)) wr) (.inr (Is.self _)) (.int .i64 x.price) (.int .i64 x.vol) (.int .i64 x.rest)).heap h.res (fun e => by have : w.heap.size = w.heap.size + 1 := e; omega), st3_heap h.box _ _ _⟩

set_option maxHeartbeats 4000000 in
set_option maxRecDepth 20000 in
theorem minF_any (base : Nat) (v : Value) (x : Tn) (l : List Tn) (w : World) (hown : Tns w base v (x :: l)) (hn : (x :: l).length ≤ 10000) :
    Calls Try.prog 96 #[v, .func (.func 97) #[] #[]] w fun e w' => e = .returned (minT x l).val ∧ Fr No w w' := by
  obtain ⟨a, cap, rfl, -⟩ := own_form hown
  have HO := hide hown
  obtain ⟨g, rfl, hg, _, c0, c1, c2, -⟩ := tns_at hown 0 (by simp)
  simp only [List.getElem_cons_zero, Nat.zero_mul, Nat.zero_add] at c0 c1 c2
  generalize hnn : (x :: l).length = n at *
  have Hn := hide hnn
  have hn1 : 1 ≤ n := by rw [← hnn]; simp
  clear hnn hown
  go_enter Try.func96, Try.ntmps96
  go_wp2
  generalize hW : World.alloc (World.alloc w _) _ = W
  have hM : MinMid w W (minT x (l.take 0)) := by
    rw [← hW]
    exact ⟨((Fr.refl _ _).alloc _).alloc _, ((Fr.refl No _).alloc _).heap (heap_alloc_new w _) id, heap_newAt _ _ (by simp)⟩
  have HM := hide hM
  clear hW hM
  go_loopw [6] (fun i wr => ∃ j : Nat, 1 ≤ j ∧ j ≤ n ∧ i = .int .i64 (j : Int) ∧ MinMid w wr (minT x (l.take (j - 1)))) (fun i _ => n - (intOf i).toNat)
  case atStart => exact ⟨1, Nat.le_refl _, hn1, rfl, unhide HM⟩
  case round =>
    obtain ⟨j, hj1, hjn, rfl, hm⟩ := hrel
    have hl : l.length + 1 = n := by have := unhide Hn; simpa using this
    by_cases hlt : j < n
    · obtain ⟨k, rfl⟩ : ∃ k, j = k + 1 := ⟨j - 1, by omega⟩
      have hkl : k < l.length := by omega
      have hown2 : Tns wr base (.slice (some ⟨g, 0, none⟩) n cap) (x :: l) := own_fr (S := No) (unhide HO) hm.fr (fun _ _ => id)
      obtain ⟨g', hg', hgl, _, d0, d1, d2, -⟩ := tns_at hown2 (k + 1) (by simp; omega)
      cases hg'
      simp only [List.getElem_cons_succ] at d0 d1 d2
      have hst := minT_take (m := x) hkl
      rw [Nat.add_sub_cancel] at hm
      generalize l[k] = y at *
      generalize minT x (l.take k) = m at *
      have HST := hide hst
      generalize hjj : k + 1 = j at *
      have HJ := hide hjj
      have h0j : (0 : Int) ≤ (j : Int) := by omega
      have hjn2 : (j : Int) < (n : Int) := by omega
      obtain ⟨m0, m1, m2, hfz⟩ := box3 hm.box
      have hN := lt_of_heap hm.box
      have HMM := hide hm
      generalize hQ : w.heap.size + 1 = Q at *
      have HQ := hide hQ
      have HD := hide (And.intro d0 (And.intro d1 d2))
      clear hm hst hown2 hfz hQ hjj hkl
      by_cases hcm : cmpT y m < 0
      · have HCM := hide hcm
        go_wp2_with fail
        go_region_held3 (fun w' : World => w'.cell? ⟨g, j * 3, none⟩ = some (.int .i64 y.price) ∧ w'.cell? ⟨g, j * 3 + 1, none⟩ = some (.int .i64 y.vol) ∧ w'.cell? ⟨g, j * 3 + 2, none⟩ = some (.int .i64 y.rest) ∧ w'.cell? ⟨Q, 0, none⟩ = some (.int .i64 m.price) ∧ w'.cell? ⟨Q, 1, none⟩ = some (.int .i64 m.vol) ∧ w'.cell? ⟨Q, 2, none⟩ = some (.int .i64 m.rest)) (go_keep)
          (first | (go_at_call 97; refine (cmpT_any y m _).mono ?_; rintro e w2 ⟨rfl, hf2'⟩; have hf2 : Fr No wr w2 := Fr.quiet ((Fr.refl _ _).drew) hf2'; have hm2 := (unhide HMM).no hf2; have hb2 := hm2.box; rw [unhide HQ] at hb2; obtain ⟨q0, q1, q2, hfz2⟩ := box3 hb2; have f0 := hfz2 0; have f1 := hfz2 1; have f2 := hfz2 2; have hN2 := lt_of_heap hb2; have e0 := (hf2.below.cell (p := ⟨g, j * 3, none⟩) hgl).trans (unhide HD).1; have e1 := (hf2.below.cell (p := ⟨g, j * 3 + 1, none⟩) hgl).trans (unhide HD).2.1; have e2 := (hf2.below.cell (p := ⟨g, j * 3 + 2, none⟩) hgl).trans (unhide HD).2.2; have HM2 := hide hm2; clear hf2' hf2 hm2 hb2 hfz2))
        clear d0 d1 d2 m0 m1 m2
        go_wp2
        go_roundw
        case rel =>
          refine ⟨j + 1, by omega, by omega, by go_num, ?_⟩
          rw [Nat.add_sub_cancel, unhide HST, if_pos (unhide HCM)]
          have := (unhide HM2).put y
          rw [unhide HQ] at this
          exact this
        case measure => simp [intOf]; omega
      · have HCM := hide hcm
        go_wp2_with fail
        go_region_held3 (fun w' : World => w'.cell? ⟨g, j * 3, none⟩ = some (.int .i64 y.price) ∧ w'.cell? ⟨g, j * 3 + 1, none⟩ = some (.int .i64 y.vol) ∧ w'.cell? ⟨g, j * 3 + 2, none⟩ = some (.int .i64 y.rest) ∧ w'.cell? ⟨Q, 0, none⟩ = some (.int .i64 m.price) ∧ w'.cell? ⟨Q, 1, none⟩ = some (.int .i64 m.vol) ∧ w'.cell? ⟨Q, 2, none⟩ = some (.int .i64 m.rest)) (go_keep)
          (first | (go_at_call 97; refine (cmpT_any y m _).mono ?_; rintro e w2 ⟨rfl, hf2'⟩; have hf2 : Fr No wr w2 := Fr.quiet ((Fr.refl _ _).drew) hf2'; have hm2 := (unhide HMM).no hf2; have hb2 := hm2.box; rw [unhide HQ] at hb2; obtain ⟨q0, q1, q2, hfz2⟩ := box3 hb2; have hN2 := lt_of_heap hb2; have e0 := (hf2.below.cell (p := ⟨g, j * 3, none⟩) hgl).trans (unhide HD).1; have e1 := (hf2.below.cell (p := ⟨g, j * 3 + 1, none⟩) hgl).trans (unhide HD).2.1; have e2 := (hf2.below.cell (p := ⟨g, j * 3 + 2, none⟩) hgl).trans (unhide HD).2.2; have HM2 := hide hm2; clear hf2' hf2 hm2 hb2 hfz2))
        clear d0 d1 d2 m0 m1 m2
        go_wp2
        go_roundw
        case rel =>
          refine ⟨j + 1, by omega, by omega, by go_num, ?_⟩
          rw [Nat.add_sub_cancel, unhide HST, if_neg (by have := unhide HCM; omega)]
          exact unhide HM2
        case measure => simp [intOf]; omega
    · have htk : l.take (j - 1) = l := List.take_of_length_le (by omega)
      rw [htk] at hm
      clear htk
      generalize hmm : minT x l = m at *
      have HME := hide hmm
      clear hmm
      obtain ⟨m0, m1, m2, -⟩ := box3 hm.box
      obtain ⟨r0, r1, r2, hfz⟩ := box3 hm.res
      have f0 := hfz 0
      have f1 := hfz 1
      have f2 := hfz 2
      have HMM := hide hm
      have hN := lt_of_heap hm.res
      clear hm hfz
      go_wp2
      have hWb := st3_heap (unhide HMM).res (.int .i64 m.price) (.int .i64 m.vol) (.int .i64 m.rest)
      have hWf := st3_fr (unhide HMM).fr (.inl (Nat.le_refl w.heap.size)) (.int .i64 m.price) (.int .i64 m.vol) (.int .i64 m.rest)
      generalize World.setCell (World.setCell (World.setCell _ ⟨w.heap.size, 0, none⟩ _) ⟨w.heap.size, 1, none⟩ _) ⟨w.heap.size, 2, none⟩ _ = W2 at hWb hWf ⊢
      obtain ⟨q0, q1, q2, _⟩ := box3 hWb
      exact bodyPost_ret (v := m.val) (by simp [results, Try.results96, go_sem, Tn.val, q0, q1, q2]) rfl ⟨by rw [unhide HME], hWf⟩
end Go.Proofs.Ytigpgnjgmaoejaa
