/- Contract of ownsLevels: a list of levels that came out is written full with a mark of its own, three more are put behind it, and all four are kept. Conditions: as in the contract's hypotheses. -/
import Derived.Test.YtigpgnjgmaoejaaGreatLawFG
namespace Go.Proofs.YtigpgnjgmaoejaaGreat
open Go.RowKit

theorem box3 {W : World} {b : Nat} {T : TypeId} {x0 x1 x2 : Value} (h : W.heap[b]? = some (.cells #[x0, x1, x2] T (0, 0))) :
    W.cell? ⟨b, 0, none⟩ = some x0 ∧ W.cell? ⟨b, 1, none⟩ = some x1 ∧ W.cell? ⟨b, 2, none⟩ = some x2 ∧ ∀ k, W.frozen? ⟨b, k, none⟩ = false :=
  ⟨cell_heap h 0, cell_heap h 1, cell_heap h 2, frozen_heap h⟩

/-- What ownsLevels leaves. -/
def OwnPostL (w : World) (bb : Nat) (ro : Nat → Nat) (E L : List (Value × Int)) (nx : Int) (ve vm l : Value) (e : Ending) (w' : World) : Prop :=
  e = .returned (.tuple #[]) ∧ ∃ ro' v1 v2 v3 vl' vn', BookAt w' bb ro' E (L ++ [(l, nx - 1), (v1, nx - 1), (v2, nx - 1), (v3, nx - 1)]) (nx - 1) ve vm vl' vn' ∧
    Fr (fun k => ro k < 6 ∨ OwnS l k) w w' ∧ ∀ k, ro' k < 6 → ro k < 6 ∨ OwnS l k ∨ w.heap.size ≤ k

set_option maxRecDepth 100000 in
set_option maxHeartbeats 4000000 in
theorem ownsLevels_any (bb : Nat) (ro : Nat → Nat) (E L : List (Value × Int)) (nx : Int) (ve vm vl vn l : Value) (X : List Lev) (w : World) (hb : BookAt w bb ro E L nx ve vm vl vn) (hl : Ls w 0 l X)
    (hro : ∀ k, OwnS l k → 6 ≤ ro k) (hX : X.length ≤ 100000) (hE : L.length ≤ 5000000000000) (hn1 : -9000000000000000000 ≤ nx) (hn2 : nx ≤ 0) :
    Calls Tryz.prog 66 #[.pointer (some ⟨bb, 0, none⟩), l] w (OwnPostL w bb ro E L nx ve vm l) := by
  obtain ⟨al, cl, rfl, hcl, hal, _⟩ := own_form hl
  obtain ⟨hc0, hc1, hc2, hc3, hc6, hcf⟩ := box7 hb.blk
  have hbw := lt_of_heap hb.blk
  have hcf6 := hcf 6
  generalize hm : nx - 1 = mk at *
  have hmk1 : -9000000000000000001 ≤ mk := by omega
  have hmk2 : mk ≤ 0 := by omega
  have HM := hide hm
  have HB := hide (And.intro hb (And.intro hl hro))
  have hlne : ∀ k, OwnS (.slice al X.length cl) k → k ≠ bb := fun k hk e => by have := hro k hk; rw [e, hb.r0] at this; omega
  have HLN := hide hlne
  clear hb hl hro hm hcf hlne
  go_enter Tryz.func66, Tryz.ntmps66
  go_wp2
  rw [unhide HM]
  generalize hW1 : World.setCell w _ _ = W1
  have hf1 : Fr (Is bb) w W1 := by rw [← hW1]; exact (Fr.refl _ _).setAt bb (.inr (Is.self bb)) 6 _
  have hk1 : W1.heap[bb]? = some (.cells #[ve, vm, vl, vn, .slice none 0 0, .slice none 0 0, .int .i64 mk] 64 (0, 0)) := by
    rw [← hW1]; exact (heap_set (unhide HB).1.blk 6 (.int .i64 mk)).trans rfl
  have hB1 : BookAt W1 bb ro E L mk ve vm vl vn := by rw [← hW1]; exact (unhide HB).1.next mk
  clear hW1 hc0 hc1 hc2 hc3 hc6 hcf6
  obtain ⟨hd0, hd1, hd2, hd3, hd6, hdf⟩ := box7 hk1
  have hbW1 := lt_of_heap hk1
  go_region_held3 (fun w' : World => w'.cell? ⟨bb, 6, none⟩ = some (.int .i64 mk)) (go_keep) (fail)
  go_wp2
  generalize hW2 : World.drew (World.alloc W1 _) = W2
  have hf2 : Fr No W1 W2 := by rw [← hW2]; exact ((Fr.refl _ _).alloc _).drew
  have hx2 : W2.heap[W1.heap.size]? = some (.cells #[.int .i64 mk, .int .i64 mk, .int .i64 0] 97 (0, 0)) := by
    rw [← hW2]; exact heap_alloc_new W1 _
  clear hW2
  have hl2 : Ls W2 0 (.slice al X.length cl) X := own_fr (own_fr (unhide HB).2.1 hf1 (fun g hg e => unhide HLN g hg e)) hf2 (fun _ _ => id)
  have hll : ∀ k, OwnS (.slice al X.length cl) k → k < w.heap.size := fun k hk => ((unhide HB).2.1.lt k hk).2
  have hs1 := hf1.size
  have HB2 : Hid (BookAt W2 bb ro E L mk ve vm vl vn) := hB1.fr hf2 (fun _ _ => id)
  have HRO : Hid (∀ k, ro k < 6 → ¬ OwnS (.slice al X.length cl) k) := fun k hk e => by have := (unhide HB).2.2 k e; omega
  have HA := hide (And.intro hf1 (And.intro hf2 (And.intro hx2 (And.intro hl2 (And.intro hll hk1)))))
  clear hB1 hf1 hf2 hx2 hl2 hll hk1 hd0 hd1 hd2 hd3 hd6 hdf
  go_loopw [5] (fun i wr => ∃ k : Nat, k ≤ X.length ∧ i = .int .i64 k ∧ Ls wr 0 (.slice al X.length cl) (fillToL X (markL mk) k) ∧ Fr (OwnS (.slice al X.length cl)) W2 wr) (fun i _ => X.length - (intOf i).toNat)
  case atStart => exact ⟨0, Nat.zero_le _, rfl, by simpa [fillToL] using (unhide HA).2.2.2.1, Fr.refl _ _⟩
  case round =>
    obtain ⟨k, hk, rfl, hfil, hfw⟩ := hrel
    obtain ⟨hf1, hf2, hx2, hl2, hll, hk1⟩ := unhide HA
    have hxl : ¬ OwnS (.slice al X.length cl) W1.heap.size := fun e => by have := hll _ e; omega
    have hxw := hfw.heap hx2 hxl
    obtain ⟨hx0, hx1, hx2', _⟩ := box3 hxw
    by_cases hlt : k < X.length
    · obtain ⟨g, rfl, hg, _, h0, h1, h2, hfz⟩ := ls_at hfil k (by rw [fillToL_len hk]; exact hlt)
      have z0 := hfz (k * 3)
      have z1 := hfz (k * 3 + 1)
      have z2 := hfz (k * 3 + 2)
      have hgx : g ≠ W1.heap.size := fun e => hxl (by rw [← e]; rfl)
      have HF := hide (And.intro hfil hfw)
      clear hfil hfw hf1 hf2 hx2 hl2 hll hk1 hxl hxw hfz
      go_wp2
      go_roundw
      case rel =>
        obtain ⟨hfil, hfw⟩ := unhide HF
        have hS : OwnS (.slice (some ⟨g, 0, none⟩) X.length cl) g := rfl
        refine ⟨k + 1, by omega, by go_num, ?_, ?_⟩
        · rw [← fillToL_set hlt]
          exact ls_store hfil k (by rw [fillToL_len hk]; exact hlt) (markL mk)
        · exact ((hfw.setAt g (.inr hS) _ _).setAt g (.inr hS) _ _).setAt g (.inr hS) _ _
      case measure => simp [intOf]; omega
    · have hfull : fillToL X (markL mk) k = List.replicate X.length (markL mk) := by unfold fillToL; rw [List.drop_of_length_le (by omega)]; simp; omega
      rw [hfull] at hfil
      have hsW := hfw.size
      have hsW2 := hf2.size
      have hB3 : BookAt wr bb ro E L mk ve vm vl vn := (unhide HB2).fr hfw (unhide HRO)
      have HF := hide (And.intro hfil (And.intro hfw (And.intro hxw hB3)))
      have hsx : W1.heap.size < wr.heap.size := lt_of_heap hxw
      clear hfil hfw hf1 hf2 hx2 hl2 hll hk1 hxl hxw hfull hB3
      go_wp2_with (first
        | (at_builtin; refine keep_lev rfl (.tmp 35) (.tmp 37) rfl 0 _ (List.replicate X.length (markL mk)) (own_fr (S := No) (unhide HF).1 ((Fr.refl _ _).alloc _) (fun _ _ => id)) rfl ⟨wr.heap.size, 0, none⟩ 1 1 [markL mk] rfl rfl (by simp) (new_cells wr (markL mk).cells _) (by simp; omega) (Nat.zero_le _) ?_; intro g1 c1 w1 hn1 ho1 hat1 hlt1; have hfw1 := keep_fr ((Fr.refl _ _).alloc _) hat1; have hxw1 := hfw1.heap (unhide HF).2.2.1 (fun e => by have := (unhide HA).2.2.2.2.1 _ e; omega); obtain ⟨hy0, hy1, hy2, _⟩ := box3 hxw1; have hsy : W1.heap.size < w1.heap.size := lt_of_heap hxw1; have hs1 := hfw1.size; have HN1 := hide (And.intro hn1 (And.intro ho1 (And.intro hat1 (And.intro hfw1 hxw1)))); clear hn1 ho1 hat1 hxw1 hfw1)
        | (at_builtin; refine keep_lev rfl (.tmp 39) (.tmp 42) rfl 0 _ (List.replicate X.length (markL mk)) (own_fr (S := No) (unhide HN1).2.1 ((Fr.refl _ _).alloc _) (fun _ _ => id)) rfl ⟨w1.heap.size, 0, none⟩ 2 2 [markL mk, markL mk] rfl rfl (by simp) (new_cells w1 (List.flatMap Lev.cells [markL mk, markL mk]) _) (by simp; omega) (Nat.zero_le _) ?_; intro g2 c2 w2 hn2 ho2 hat2 hlt2; have hfw2 := keep_fr ((Fr.refl _ _).alloc _) hat2; have hxw2 := hfw2.heap (unhide HN1).2.2.2.2 (fun e => by have := (unhide HA).2.2.2.2.1 _ e; omega); obtain ⟨hv0, hv1, hv2, _⟩ := box3 hxw2; have hsv : W1.heap.size < w2.heap.size := lt_of_heap hxw2; have hs2 := hfw2.size; have HN2 := hide (And.intro hn2 (And.intro ho2 (And.intro hat2 (And.intro hfw2 hxw2)))); clear hn2 ho2 hat2 hxw2 hfw2)
        | (at_builtin; refine keep_lev rfl (.tmp 44) (.tmp 48) rfl 0 _ (List.replicate X.length (markL mk)) (own_fr (S := No) (unhide HN2).2.1 ((Fr.refl _ _).alloc _) (fun _ _ => id)) rfl ⟨w2.heap.size, 0, none⟩ 3 3 [markL mk, markL mk, markL mk] rfl rfl (by simp) (new_cells w2 (List.flatMap Lev.cells [markL mk, markL mk, markL mk]) _) (by simp; omega) (Nat.zero_le _) ?_; intro g3 c3 w3 hn3 ho3 hat3 hlt3; have hfw3 := keep_fr ((Fr.refl _ _).alloc _) hat3; have hB3 := (unhide HF).2.2.2.fr (((unhide HN1).2.2.2.1.same (unhide HN2).2.2.2.1).same hfw3) (unhide HRO); obtain ⟨hq0, hq1, hq2, hq3, hq6, hqf⟩ := box7 hB3.blk; have hqf0 := hqf 2; have hbb3 := lt_of_heap hB3.blk; have hs3 := hfw3.size; have HN3 := hide (And.intro hn3 (And.intro ho3 (And.intro hat3 (And.intro hfw3 hB3)))); clear hn3 ho3 hat3 hfw3 hB3 hqf)
        | (at_builtin; go_loud (refine cs_list infoLevs Tryz.underlying61 rfl rfl (.tmp 54) (.tmp 59) rfl 0 _ (List.map Prod.fst L) (own_fr (S := No) (unhide HN3).2.2.2.2.ol ((Fr.refl _ _).alloc _) (fun _ _ => id)) rfl ⟨w3.heap.size, 0, none⟩ 4 4 [.slice al X.length cl, .slice (some ⟨g1, 0, none⟩) (X.length + 1) c1, .slice (some ⟨g2, 0, none⟩) (X.length + 2) c2, .slice (some ⟨g3, 0, none⟩) (X.length + 3) c3] rfl rfl (by simp) (new_cells w3 [.slice al X.length cl, .slice (some ⟨g1, 0, none⟩) (X.length + 1) c1, .slice (some ⟨g2, 0, none⟩) (X.length + 2) c2, .slice (some ⟨g3, 0, none⟩) (X.length + 3) c3] 98) (by intro u hu; simp at hu; rcases hu with rfl | rfl | rfl | rfl <;> rfl) (by simp; omega) (by simp; omega) (Nat.zero_le _) ?_; intro g4 c4 w4 hn4 hfr4 hat4 hlt4; have hfr4' : Fr (OwnS vl) w3 w4 := Fr.same ((Fr.refl _ _).alloc _) hfr4; have hbk4 := hfr4'.heap (unhide HN3).2.2.2.2.blk (fun e => by have := (unhide HN3).2.2.2.2.r3 _ e; rw [(unhide HN3).2.2.2.2.r0] at this; omega); obtain ⟨hr0, hr1, hr2, hr3, hr6, hrf⟩ := box7 hbk4; have hrf0 := hrf 2; have hs4 := hfr4'.size; have HN4 := hide (And.intro hn4 (And.intro hfr4' (And.intro hat4 hbk4))); clear hn4 hfr4 hfr4' hat4 hbk4 hrf)))
      obtain ⟨hn4, hfr4, hat4, hbk4⟩ := unhide HN4
      have hB3 := (unhide HN3).2.2.2.2
      have hk4 : OwnS vl g4 ∨ w3.heap.size ≤ g4 := by
        rcases hat4 with h | h
        · exact .inl h
        · right; simp at h; omega
      have hvm4 : Cs w4 0 3 vn (L.map fun x => .int .i64 x.2) := own_fr hB3.on hfr4 (fun g hg e => by have a := hB3.r3 g e; have b := hB3.r4 g hg; omega)
      generalize hW5 : World.setCell w4 _ _ = W5
      have hf5 : Fr (Is bb) w4 W5 := by rw [← hW5]; exact (Fr.refl _ _).setAt bb (.inr (Is.self bb)) 2 _
      have hk5 : W5.heap[bb]? = some (.cells #[ve, vm, .slice (some ⟨g4, 0, none⟩) (L.length + 4) c4, vn, .slice none 0 0, .slice none 0 0, .int .i64 mk] 64 (0, 0)) := by
        rw [← hW5]; exact (heap_set hbk4 2 _).trans rfl
      have hvm5 : Cs W5 0 3 vn (L.map fun x => .int .i64 x.2) := own_fr hvm4 hf5 (fun g hg e => by have a := hB3.r4 g hg; have : g = bb := e; rw [this, hB3.r0] at a; omega)
      have hvmb : ¬ OwnS vn bb := fun e => by have := hB3.r4 _ e; rw [hB3.r0] at this; omega
      have hs5 : w4.heap.size ≤ W5.heap.size := hf5.size
      have hbb5 := lt_of_heap hk5
      have hd6 := cell_heap hk5 6
      have hd1 := cell_heap hk5 3
      simp at hd6 hd1
      have HW := hide (And.intro hW5 (And.intro hk5 (And.intro hvm5 (And.intro hvmb (And.intro hk4 hn4)))))
      clear hn4 hfr4 hat4 hbk4 hB3 hvm4 hf5 hk5 hvm5 hvmb hW5 hk4
      refine wp_region_held_drew (S := fun w' : World => w'.cell? ⟨bb, 6, none⟩ = some (.int .i64 mk)) (by kernel_rfl) (by go_simp) (fun hHeld => ?_)
      refine wpAnyH_take (i := 0) (v := ?_) rfl (by kernel_rfl) (by kernel_rfl) (by kernel_rfl) (fun _ _ _ h => h) (Or.inl ⟨by rfl, ?_⟩) (by assumption) ?_
      rotate_left
      · intro w hSw
        (try dsimp only at hSw)
        go_simp
        try with_reducible rfl
      (try simp only [putLaws])
      refine wpAnyH_take (i := 1) (v := ?_) rfl (by kernel_rfl) (by kernel_rfl) (by kernel_rfl) (fun _ _ _ h => h) (Or.inl ⟨by rfl, ?_⟩) (by assumption) ?_
      rotate_left
      · intro w hSw
        (try dsimp only at hSw)
        go_simp
        try with_reducible rfl
      (try simp only [putLaws])
      refine wpAnyH_take (i := 2) (v := ?_) rfl (by kernel_rfl) (by kernel_rfl) (by kernel_rfl) (fun _ _ _ h => h) (Or.inl ⟨by rfl, ?_⟩) (by assumption) ?_
      rotate_left
      · intro w hSw
        (try dsimp only at hSw)
        go_simp
        try with_reducible rfl
      (try simp only [putLaws])
      refine wpAnyH_take (i := 3) (v := ?_) rfl (by kernel_rfl) (by kernel_rfl) (by kernel_rfl) (fun _ _ _ h => h) (Or.inl ⟨by rfl, ?_⟩) (by assumption) ?_
      rotate_left
      · intro w hSw
        (try dsimp only at hSw)
        go_simp
        try with_reducible rfl
      (try simp only [putLaws])
      refine wpAnyH_take (i := 5) (v := ?_) rfl (by kernel_rfl) (by kernel_rfl) (by kernel_rfl) (fun _ _ _ h => h) (Or.inl ⟨by rfl, ?_⟩) (by assumption) ?_
      rotate_left
      · intro w hSw
        (try dsimp only at hSw)
        go_simp
        try with_reducible rfl
      (try simp only [putLaws])
      refine wpAnyH_take (i := 6) (v := ?_) rfl (by kernel_rfl) (by kernel_rfl) (by kernel_rfl) (fun _ _ _ h => h) (Or.inl ⟨by rfl, ?_⟩) (by assumption) ?_
      rotate_left
      · intro w hSw
        (try dsimp only at hSw)
        go_simp
        try with_reducible rfl
      (try simp only [putLaws])
      refine wpAnyH_take (i := 7) (v := ?_) rfl (by kernel_rfl) (by kernel_rfl) (by kernel_rfl) (fun _ _ _ h => h) (Or.inl ⟨by rfl, ?_⟩) (by assumption) ?_
      rotate_left
      · intro w hSw
        (try dsimp only at hSw)
        go_simp
        try with_reducible rfl
      (try simp only [putLaws])
      refine wpAnyH_take (i := 8) (v := ?_) rfl (by kernel_rfl) (by kernel_rfl) (by kernel_rfl) (fun _ _ _ h => h) (Or.inl ⟨by rfl, ?_⟩) (by assumption) ?_
      rotate_left
      · intro w hSw
        (try dsimp only at hSw)
        go_simp
        try with_reducible rfl
      (try simp only [putLaws])
      refine wpAnyH_take (i := 9) (v := ?_) rfl (by kernel_rfl) (by kernel_rfl) (by kernel_rfl) (fun _ _ _ h => h) (Or.inl ⟨by rfl, ?_⟩) (by assumption) ?_
      rotate_left
      · intro w hSw
        (try dsimp only at hSw)
        go_simp
        try with_reducible rfl
      (try simp only [putLaws])
      refine wpAnyH_take (i := 10) (v := ?_) rfl (by kernel_rfl) (by kernel_rfl) (by kernel_rfl) (fun _ _ _ h => h) (Or.inl ⟨by rfl, ?_⟩) (by assumption) ?_
      rotate_left
      · intro w hSw
        (try dsimp only at hSw)
        go_simp
        try with_reducible rfl
      (try simp only [putLaws])
      refine wpAnyH_take (i := 11) (v := ?_) rfl (by kernel_rfl) (by kernel_rfl) (by kernel_rfl) (fun _ _ _ h => h) (Or.inl ⟨by rfl, ?_⟩) (by assumption) ?_
      rotate_left
      · intro w hSw
        (try dsimp only at hSw)
        go_simp
        try with_reducible rfl
      (try simp only [putLaws])
      refine wpAnyH_take (i := 12) (v := ?_) rfl (by kernel_rfl) (by kernel_rfl) (by kernel_rfl) (fun _ _ _ h => h) (Or.inl ⟨by rfl, ?_⟩) (by assumption) ?_
      rotate_left
      · intro w hSw
        (try dsimp only at hSw)
        go_simp
        try with_reducible rfl
      (try simp only [putLaws])
      refine wpAnyH_take (i := 13) (v := ?_) rfl (by kernel_rfl) (by kernel_rfl) (by kernel_rfl) (fun _ _ _ h => h) (Or.inl ⟨by rfl, ?_⟩) (by assumption) ?_
      rotate_left
      · intro w hSw
        (try dsimp only at hSw)
        go_simp
        try with_reducible rfl
      (try simp only [putLaws])
      refine wpAnyH_take (i := 14) (v := ?_) rfl (by kernel_rfl) (by kernel_rfl) (by kernel_rfl) (fun _ _ _ h => h) (Or.inl ⟨by rfl, ?_⟩) (by assumption) ?_
      rotate_left
      · intro w hSw
        (try dsimp only at hSw)
        go_simp
        try with_reducible rfl
      (try simp only [putLaws])
      refine wpAnyH_take (i := 15) (v := ?_) rfl (by kernel_rfl) (by kernel_rfl) (by kernel_rfl) (fun _ _ _ h => h) (Or.inl ⟨by rfl, ?_⟩) (by assumption) ?_
      rotate_left
      · intro w hSw
        (try dsimp only at hSw)
        go_simp
        try with_reducible rfl
      (try simp only [putLaws])
      refine wpAnyH_take (i := 16) (v := ?_) rfl (by kernel_rfl) (by kernel_rfl) (by kernel_rfl) (fun _ _ _ h => h) (Or.inl ⟨by rfl, ?_⟩) (by assumption) ?_
      rotate_left
      · intro w hSw
        (try dsimp only at hSw)
        go_simp
        try with_reducible rfl
      (try simp only [putLaws])
      refine wpAnyH_take (i := 17) (v := ?_) rfl (by kernel_rfl) (by kernel_rfl) (by kernel_rfl) (fun _ _ _ h => h) (Or.inl ⟨by rfl, ?_⟩) (by assumption) ?_
      rotate_left
      · intro w hSw
        (try dsimp only at hSw)
        go_simp
        try with_reducible rfl
      (try simp only [putLaws])
      refine wpAnyH_take (i := 18) (v := ?_) rfl (by kernel_rfl) (by kernel_rfl) (by kernel_rfl) (fun _ _ _ h => h) (Or.inl ⟨by rfl, ?_⟩) (by assumption) ?_
      rotate_left
      · intro w hSw
        (try dsimp only at hSw)
        go_simp
        try with_reducible rfl
      (try simp only [putLaws])
      refine wpAnyH_take (i := 19) (v := ?_) rfl (by kernel_rfl) (by kernel_rfl) (by kernel_rfl) (fun _ _ _ h => h) (Or.inl ⟨by rfl, ?_⟩) (by assumption) ?_
      rotate_left
      · intro w hSw
        (try dsimp only at hSw)
        go_simp
        try with_reducible rfl
      (try simp only [putLaws])
      refine wpAnyH_take (i := 20) (v := ?_) rfl (by kernel_rfl) (by kernel_rfl) (by kernel_rfl) (fun _ _ _ h => h) (Or.inl ⟨by rfl, ?_⟩) (by assumption) ?_
      rotate_left
      · intro w hSw
        (try dsimp only at hSw)
        go_simp
        try with_reducible rfl
      (try simp only [putLaws])
      refine wpAnyH_ready (rs := [4, 21]) (by kernel_rfl) (by simp) ?_
      refine AllReadyH.cons rfl (fun K hK => ?_) (AllReadyH.cons rfl (fun K hK => ?_) AllReadyH.nil)
      · go_simp
        refine hK.out _ _ ?_ (fun hHeld => ?_)
        · (try dsimp only)
          first | go_keep | go_simp
        clear hK K
        (try simp only [putLaws])
        refine wpAnyH_ready (rs := [21]) (by kernel_rfl) (by simp) ?_
        refine AllReadyH.cons rfl (fun K hK => ?_) AllReadyH.nil
        go_simp
        refine hK.out _ _ ?_ (fun hHeld => ?_)
        · (try dsimp only)
          first | go_keep | go_simp
        clear hK K
        (try simp only [putLaws])
        refine wpAnyH_ready (rs := [22]) (by kernel_rfl) (by simp) ?_
        refine AllReadyH.cons rfl (fun K hK => ?_) AllReadyH.nil
        refine cs_step infoInt Tryz.underlying26 rfl rfl (.tmp 67) (.tmp 84) rfl 0 _ (List.map (fun x : Value × Int => Value.int .i64 x.2) L) (own_fr (S := No) (unhide HW).2.2.1 (by repeat (first | exact Fr.refl _ _ | refine Fr.drew ?_ | refine Fr.alloc ?_ _)) (fun _ _ => id)) (by simp [Act.eval]) ⟨W5.heap.size, 0, none⟩ 4 4 [.int .i64 mk, .int .i64 mk, .int .i64 mk, .int .i64 mk] (by simp [Act.eval]) rfl (by simp) (new_cells W5.drew [.int .i64 mk, .int .i64 mk, .int .i64 mk, .int .i64 mk] _) (by intro u hu; simp at hu; subst hu; rfl) (by simp; omega) (by simp; omega) (Nat.zero_le _) ?_; intro g6 c6 w6 hn6 hfr6 hat6 hlt6; have hfr6' : Fr (OwnS vn) W5 w6 := Fr.same (by repeat (first | exact Fr.refl _ _ | refine Fr.drew ?_ | refine Fr.alloc ?_ _)) hfr6; have hbk6 := hfr6'.heap (unhide HW).2.1 (unhide HW).2.2.2.1; have ht6 := cell_heap hbk6 6; have ht1 := cell_heap hbk6 3; have htf := frozen_heap hbk6 3; simp at ht6 ht1; have HN6 := hide (And.intro hn6 (And.intro hfr6' (And.intro hat6 hbk6))); clear hn6 hfr6 hfr6' hat6 hbk6
        refine hK.out _ _ ?_ (fun hHeld => ?_)
        · (try dsimp only)
          first | go_keep | go_simp
        clear hK K
        (try simp only [putLaws])
        refine wpAnyH_take (i := 23) (v := ?_) rfl (by kernel_rfl) (by kernel_rfl) (by kernel_rfl) (fun _ _ _ h => h) (Or.inl ⟨by rfl, ?_⟩) (by assumption) ?_
        rotate_left
        · intro w hSw
          (try dsimp only at hSw)
          go_simp
          try with_reducible rfl
        (try simp only [putLaws])
        refine wpAnyH_take (i := 24) (v := ?_) rfl (by kernel_rfl) (by kernel_rfl) (by kernel_rfl) (fun _ _ _ h => h) (Or.inl ⟨by rfl, ?_⟩) (by assumption) ?_
        rotate_left
        · intro w hSw
          (try dsimp only at hSw)
          go_simp
          try with_reducible rfl
        (try simp only [putLaws])
        refine wpAnyH_ready (rs := [25]) (by kernel_rfl) (by simp) ?_
        refine AllReadyH.cons rfl (fun K hK => ?_) AllReadyH.nil
        go_simp
        refine hK.out _ _ ?_ (fun hHeld => ?_)
        · (try dsimp only)
          first | go_keep | go_simp
        clear hK K
        (try simp only [putLaws])
        refine wpAnyH_done (by kernel_rfl) ?_ _
        go_end0
        obtain ⟨hn6, hfr6, hat6, hbk6⟩ := unhide HN6
        obtain ⟨hW5, hk5, hvm5, hvmb, hk4, hn4⟩ := unhide HW
        obtain ⟨hn3, ho3, hat3, hfw3, hB3⟩ := unhide HN3
        obtain ⟨hn2', ho2, hat2, hfw2, hxw2⟩ := unhide HN2
        obtain ⟨hn1', ho1, hat1, hfw1, hxw1⟩ := unhide HN1
        obtain ⟨hfil, hfw, hxw, hBr⟩ := unhide HF
        obtain ⟨hf1, hf2, hx2, hl2, hll, hk1⟩ := unhide HA
        obtain ⟨hb, hl, hro⟩ := unhide HB
        have q1 : Ls w1 0 (.slice (some ⟨g1, 0, none⟩) (X.length + 1) c1) (List.replicate (X.length + 1) (markL mk)) := by
          rw [List.replicate_succ']; simpa using hn1'
        have q2 : Ls w2 0 (.slice (some ⟨g2, 0, none⟩) (X.length + 2) c2) (List.replicate (X.length + 2) (markL mk)) := by
          rw [List.replicate_succ', List.replicate_succ', List.append_assoc]; simpa using hn2'
        have q3 : Ls w3 0 (.slice (some ⟨g3, 0, none⟩) (X.length + 3) c3) (List.replicate (X.length + 3) (markL mk)) := by
          rw [List.replicate_succ', List.replicate_succ', List.replicate_succ', List.append_assoc, List.append_assoc]; simpa using hn3
        have hal : ∀ (W : World) (o : Obj), Fr No W (W.alloc o) := fun W o => (Fr.refl _ _).alloc o
        have sr : w.heap.size ≤ wr.heap.size := by have := hf1.size; have := hf2.size; have := hfw.size; omega
        have s1 : w.heap.size ≤ w1.heap.size := Nat.le_trans sr hfw1.size
        have s2 : w.heap.size ≤ w2.heap.size := Nat.le_trans s1 hfw2.size
        have s3 : w.heap.size ≤ w3.heap.size := Nat.le_trans s2 hfw3.size
        simp only [List.length_replicate] at hat1 hat2 hat3
        simp only [List.length_map] at hn4 hn6
        have p1 := keep_where (hal _ _) sr hat1
        have p2 := keep_where (hal _ _) s1 hat2
        have p3 := keep_where (hal _ _) s2 hat3
        have t1 : Ls w3 0 (.slice (some ⟨g1, 0, none⟩) (X.length + 1) c1) (List.replicate (X.length + 1) (markL mk)) :=
          ls_again (d := 2) (ls_again (d := 1) q1 p1 hll q2 (keep_at (hal _ _) hat2)) p1 hll q3 (keep_at (hal _ _) hat3)
        have t2 : Ls w3 0 (.slice (some ⟨g2, 0, none⟩) (X.length + 2) c2) (List.replicate (X.length + 2) (markL mk)) :=
          ls_again (d := 1) q2 p2 hll q3 (keep_at (hal _ _) hat3)
        subst hW5
        have hk6 : OwnS vn g6 ∨ w4.heap.size ≤ g6 := by
          rcases hat6 with h | h
          · exact .inl h
          · right; simp [World.setCell] at h; omega
        obtain ⟨z1, z2, z3⟩ := own_finalL (w := w) hB3 hb.rlt hro hll s3 ho3 t1 t2 q3 (where_own p1) (where_own p2) (where_own p3) hn4 (unhide HN4).2.1 hk4 hn6 hfr6 hk6 hbk6
        have a1 : Fr (fun k => ro k < 6 ∨ OwnS (.slice al X.length cl) k) w wr :=
          ((hf1.mono fun k _ hk => .inl (by have : k = bb := hk; rw [this, hb.r0]; omega)).quiet hf2).same (hfw.mono fun k _ hk => .inr hk)
        have a2 : Fr (fun k => ro k < 6 ∨ OwnS (.slice al X.length cl) k) wr w3 := ((hfw1.same hfw2).same hfw3).mono fun k _ hk => .inr hk
        have a3 := (a1.same a2).same (z2.mono fun k _ hk => .inl hk)
        have hme := unhide HM
        subst hme
        exact ⟨rfl, _, _, _, _, _, _, z1, a3, z3⟩
      · go_simp
        refine hK.out _ _ ?_ (fun hHeld => ?_)
        · (try dsimp only)
          first | go_keep | go_simp
        clear hK K
        (try simp only [putLaws])
        refine wpAnyH_ready (rs := [4]) (by kernel_rfl) (by simp) ?_
        refine AllReadyH.cons rfl (fun K hK => ?_) AllReadyH.nil
        go_simp
        refine hK.out _ _ ?_ (fun hHeld => ?_)
        · (try dsimp only)
          first | go_keep | go_simp
        clear hK K
        (try simp only [putLaws])
        refine wpAnyH_ready (rs := [22]) (by kernel_rfl) (by simp) ?_
        refine AllReadyH.cons rfl (fun K hK => ?_) AllReadyH.nil
        refine cs_step infoInt Tryz.underlying26 rfl rfl (.tmp 67) (.tmp 84) rfl 0 _ (List.map (fun x : Value × Int => Value.int .i64 x.2) L) (own_fr (S := No) (unhide HW).2.2.1 (by repeat (first | exact Fr.refl _ _ | refine Fr.drew ?_ | refine Fr.alloc ?_ _)) (fun _ _ => id)) (by simp [Act.eval]) ⟨W5.heap.size, 0, none⟩ 4 4 [.int .i64 mk, .int .i64 mk, .int .i64 mk, .int .i64 mk] (by simp [Act.eval]) rfl (by simp) (new_cells W5.drew [.int .i64 mk, .int .i64 mk, .int .i64 mk, .int .i64 mk] _) (by intro u hu; simp at hu; subst hu; rfl) (by simp; omega) (by simp; omega) (Nat.zero_le _) ?_; intro g6 c6 w6 hn6 hfr6 hat6 hlt6; have hfr6' : Fr (OwnS vn) W5 w6 := Fr.same (by repeat (first | exact Fr.refl _ _ | refine Fr.drew ?_ | refine Fr.alloc ?_ _)) hfr6; have hbk6 := hfr6'.heap (unhide HW).2.1 (unhide HW).2.2.2.1; have ht6 := cell_heap hbk6 6; have ht1 := cell_heap hbk6 3; have htf := frozen_heap hbk6 3; simp at ht6 ht1; have HN6 := hide (And.intro hn6 (And.intro hfr6' (And.intro hat6 hbk6))); clear hn6 hfr6 hfr6' hat6 hbk6
        refine hK.out _ _ ?_ (fun hHeld => ?_)
        · (try dsimp only)
          first | go_keep | go_simp
        clear hK K
        (try simp only [putLaws])
        refine wpAnyH_take (i := 23) (v := ?_) rfl (by kernel_rfl) (by kernel_rfl) (by kernel_rfl) (fun _ _ _ h => h) (Or.inl ⟨by rfl, ?_⟩) (by assumption) ?_
        rotate_left
        · intro w hSw
          (try dsimp only at hSw)
          go_simp
          try with_reducible rfl
        (try simp only [putLaws])
        refine wpAnyH_take (i := 24) (v := ?_) rfl (by kernel_rfl) (by kernel_rfl) (by kernel_rfl) (fun _ _ _ h => h) (Or.inl ⟨by rfl, ?_⟩) (by assumption) ?_
        rotate_left
        · intro w hSw
          (try dsimp only at hSw)
          go_simp
          try with_reducible rfl
        (try simp only [putLaws])
        refine wpAnyH_ready (rs := [25]) (by kernel_rfl) (by simp) ?_
        refine AllReadyH.cons rfl (fun K hK => ?_) AllReadyH.nil
        go_simp
        refine hK.out _ _ ?_ (fun hHeld => ?_)
        · (try dsimp only)
          first | go_keep | go_simp
        clear hK K
        (try simp only [putLaws])
        refine wpAnyH_done (by kernel_rfl) ?_ _
        go_end0
        obtain ⟨hn6, hfr6, hat6, hbk6⟩ := unhide HN6
        obtain ⟨hW5, hk5, hvm5, hvmb, hk4, hn4⟩ := unhide HW
        obtain ⟨hn3, ho3, hat3, hfw3, hB3⟩ := unhide HN3
        obtain ⟨hn2', ho2, hat2, hfw2, hxw2⟩ := unhide HN2
        obtain ⟨hn1', ho1, hat1, hfw1, hxw1⟩ := unhide HN1
        obtain ⟨hfil, hfw, hxw, hBr⟩ := unhide HF
        obtain ⟨hf1, hf2, hx2, hl2, hll, hk1⟩ := unhide HA
        obtain ⟨hb, hl, hro⟩ := unhide HB
        have q1 : Ls w1 0 (.slice (some ⟨g1, 0, none⟩) (X.length + 1) c1) (List.replicate (X.length + 1) (markL mk)) := by
          rw [List.replicate_succ']; simpa using hn1'
        have q2 : Ls w2 0 (.slice (some ⟨g2, 0, none⟩) (X.length + 2) c2) (List.replicate (X.length + 2) (markL mk)) := by
          rw [List.replicate_succ', List.replicate_succ', List.append_assoc]; simpa using hn2'
        have q3 : Ls w3 0 (.slice (some ⟨g3, 0, none⟩) (X.length + 3) c3) (List.replicate (X.length + 3) (markL mk)) := by
          rw [List.replicate_succ', List.replicate_succ', List.replicate_succ', List.append_assoc, List.append_assoc]; simpa using hn3
        have hal : ∀ (W : World) (o : Obj), Fr No W (W.alloc o) := fun W o => (Fr.refl _ _).alloc o
        have sr : w.heap.size ≤ wr.heap.size := by have := hf1.size; have := hf2.size; have := hfw.size; omega
        have s1 : w.heap.size ≤ w1.heap.size := Nat.le_trans sr hfw1.size
        have s2 : w.heap.size ≤ w2.heap.size := Nat.le_trans s1 hfw2.size
        have s3 : w.heap.size ≤ w3.heap.size := Nat.le_trans s2 hfw3.size
        simp only [List.length_replicate] at hat1 hat2 hat3
        simp only [List.length_map] at hn4 hn6
        have p1 := keep_where (hal _ _) sr hat1
        have p2 := keep_where (hal _ _) s1 hat2
        have p3 := keep_where (hal _ _) s2 hat3
        have t1 : Ls w3 0 (.slice (some ⟨g1, 0, none⟩) (X.length + 1) c1) (List.replicate (X.length + 1) (markL mk)) :=
          ls_again (d := 2) (ls_again (d := 1) q1 p1 hll q2 (keep_at (hal _ _) hat2)) p1 hll q3 (keep_at (hal _ _) hat3)
        have t2 : Ls w3 0 (.slice (some ⟨g2, 0, none⟩) (X.length + 2) c2) (List.replicate (X.length + 2) (markL mk)) :=
          ls_again (d := 1) q2 p2 hll q3 (keep_at (hal _ _) hat3)
        subst hW5
        have hk6 : OwnS vn g6 ∨ w4.heap.size ≤ g6 := by
          rcases hat6 with h | h
          · exact .inl h
          · right; simp [World.setCell] at h; omega
        obtain ⟨z1, z2, z3⟩ := own_finalL (w := w) hB3 hb.rlt hro hll s3 ho3 t1 t2 q3 (where_own p1) (where_own p2) (where_own p3) hn4 (unhide HN4).2.1 hk4 hn6 hfr6 hk6 hbk6
        have a1 : Fr (fun k => ro k < 6 ∨ OwnS (.slice al X.length cl) k) w wr :=
          ((hf1.mono fun k _ hk => .inl (by have : k = bb := hk; rw [this, hb.r0]; omega)).quiet hf2).same (hfw.mono fun k _ hk => .inr hk)
        have a2 : Fr (fun k => ro k < 6 ∨ OwnS (.slice al X.length cl) k) wr w3 := ((hfw1.same hfw2).same hfw3).mono fun k _ hk => .inr hk
        have a3 := (a1.same a2).same (z2.mono fun k _ hk => .inl hk)
        have hme := unhide HM
        subst hme
        exact ⟨rfl, _, _, _, _, _, _, z1, a3, z3⟩
end Go.Proofs.YtigpgnjgmaoejaaGreat
