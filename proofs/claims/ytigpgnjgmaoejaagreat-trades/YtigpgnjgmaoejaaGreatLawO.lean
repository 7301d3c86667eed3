/- The law's plays: a script on two pairs in turn. Conditions: the program's pit meets PitLaw; the script lies in memory and is no longer than memory allows. -/
import Derived.Test.YtigpgnjgmaoejaaGreatLawLN
namespace Go.Proofs.YtigpgnjgmaoejaaGreat
open Go.RowKit

/-- A step of a script lies at an address. -/
structure OpAt (w : World) (b off : Nat) (o : OpV) : Prop where
  sl : ∃ a n c, o.l = .slice a n c
  c0 : w.cell? ⟨b, off, none⟩ = some (.int .i64 o.kind)
  c1 : w.cell? ⟨b, off + 1, none⟩ = some (.int .i64 o.n)
  c2 : w.cell? ⟨b, off + 2, none⟩ = some (.int .i64 o.m)
  c3 : w.cell? ⟨b, off + 3, none⟩ = some (.int .i64 o.k)
  c4 : w.cell? ⟨b, off + 4, none⟩ = some (.int .i64 o.c.what)
  c5 : w.cell? ⟨b, off + 5, none⟩ = some (.int .i64 o.c.id)
  c6 : w.cell? ⟨b, off + 6, none⟩ = some (.int .i64 o.c.trader)
  c7 : w.cell? ⟨b, off + 7, none⟩ = some (.int .i64 o.c.book)
  c8 : w.cell? ⟨b, off + 8, none⟩ = some (.int .i64 o.c.side)
  c9 : w.cell? ⟨b, off + 9, none⟩ = some (.int .i64 o.c.kind)
  c10 : w.cell? ⟨b, off + 10, none⟩ = some (.int .i64 o.c.price)
  c11 : w.cell? ⟨b, off + 11, none⟩ = some (.int .i64 o.c.count)
  c12 : w.cell? ⟨b, off + 12, none⟩ = some o.l

/-- A pair that was just laid. -/
theorem pair_new {Rep : World → Nat → (Nat → Prop) → Ref → Prop} (K : PitLaw Rep) {w : World} {bx : Nat} {F : Nat → Prop} (h : Rep w bx F (refNil [])) :
    PairAt Rep ((w.alloc (.cells (refCells (.slice none 0 0) (refNil [])).toArray 57)).alloc (.cells #[.pointer (some ⟨bx, 0, none⟩), .pointer (some ⟨w.heap.size, 0, none⟩)] 59)) (w.heap.size + 1) bx w.heap.size F (.slice none 0 0) (refNil []) := by
  have hf : Fr No w (w.alloc (.cells (refCells (.slice none 0 0) (refNil [])).toArray 57)) := (Fr.refl _ _).alloc _
  have hf2 : ∀ o, Fr No (w.alloc (.cells (refCells (.slice none 0 0) (refNil [])).toArray 57)) ((w.alloc (.cells (refCells (.slice none 0 0) (refNil [])).toArray 57)).alloc o) := fun o => (Fr.refl _ _).alloc _
  exact ⟨heap_newAt _ _ (by simp), K.fr (K.fr h hf (fun _ _ => id)) (hf2 _) (fun _ _ => id), ⟨(hf2 _).heap (heap_alloc_new w _) id, World.ownsRow_nil _ _ _ _, by simp [Value.ownBlock]⟩, good_nil, by simp [refNil]⟩

theorem two_looks {Rep : World → Nat → (Nat → Prop) → Ref → Prop} (_K : PitLaw Rep) {B : Nat} {w : World} {bq bx bp bq' bx' bp' bb ne nl : Nat} {nx : Int} (h : Two Rep B w bq bx bp bq' bx' bp' bb ne nl nx) (h1 : ne ≤ 5000000000000) (h2 : nl ≤ 5000000000000) :
    Calls Tryz.prog 19 #[.pointer (some ⟨bb, 0, none⟩)] w fun e w' => e = .returned (.bool true) ∧ Fr No w w' := by
  obtain ⟨F, v, s, F', v', s', ro, E, L, ve, vm, vl, vn, _, _, h3, h4, h5, _⟩ := h
  exact looks_any bb ro E L nx ve vm vl vn w h3 (by omega) (by omega)

theorem two_asked {Rep : World → Nat → (Nat → Prop) → Ref → Prop} (K : PitLaw Rep) {B : Nat} {w : World} {bq bx bp bq' bx' bp' bb ne nl : Nat} {nx : Int} (h : Two Rep B w bq bx bp bq' bx' bp' bb ne nl nx) (hB : B ≤ w.heap.size) (h2 : nl ≤ 4900000000000) (hn1 : -8900000000000000000 ≤ nx) (hn2 : nx ≤ 0) :
    Calls Tryz.prog 18 #[.pointer (some ⟨bq, 0, none⟩), .pointer (some ⟨bb, 0, none⟩)] w fun e w' => e = .returned (.bool true) ∧ Two Rep B w' bq bx bp bq' bx' bp' bb ne (nl + 64) (nx - 16) ∧ Fr (fun k => B ≤ k) w w' := by
  obtain ⟨F, v, s, F', v', s', ro, E, L, ve, vm, vl, vn, h1, h2', h3, h4, h5, h6, h7, h8, h9⟩ := h
  refine (pair_asked K bq bx bp bb F v s ro E L nx ve vm vl vn w h1 h3 h6 (by omega) hn1 hn2).mono fun e w' hp => ?_
  obtain ⟨T, f, he⟩ := two_step K h2' h7 h8 h9 hB hp
  exact ⟨he, T.more h4 (by omega), f⟩

set_option maxRecDepth 100000 in
set_option maxHeartbeats 4000000 in
theorem plays_six {Rep : World → Nat → (Nat → Prop) → Ref → Prop} (K : PitLaw Rep) (a : Option Addr) (n cap : Nat) (cm : Int) (w : World) (hn : n ≤ 1200000000000)
    (hs : ∀ i, i < n → ∃ b off o, a = some ⟨b, off, none⟩ ∧ b < w.heap.size ∧ OpAt w b (off + i * 13) o) :
    Calls Tryz.prog 8 #[.slice a n cap, .int .i64 6, .int .i64 cm] w fun e w' => e = .returned (.bool true) ∧ Fr No w w' := by
  have HK := hide K
  have HSC := hide hs
  clear K hs
  go_enter Tryz.func8, Tryz.ntmps8
  go_wp2_with fail
  refine ((unhide HK).new_ w).mono ?_
  rintro e w1 ⟨bx, F, rfl, hrep1, hf1, hF1⟩
  have HN1 := hide (And.intro hrep1 (And.intro hf1 hF1))
  clear hrep1 hf1 hF1
  go_wp2_with fail
  generalize hW2 : World.alloc (World.alloc w1 _) _ = W2
  have hp1 : PairAt Rep W2 (w1.heap.size + 1) bx w1.heap.size F (.slice none 0 0) (refNil []) := by rw [← hW2]; exact pair_new (unhide HK) (unhide HN1).1
  have hf2 : Fr No w1 W2 := by rw [← hW2]; exact ((Fr.refl _ _).alloc _).alloc _
  have HS2 : Hid (W2.heap.size = w1.heap.size + 2) := by show _ = _; rw [← hW2]; simp
  have hlo : w.heap.size ≤ w1.heap.size := (unhide HN1).2.1.size
  obtain ⟨bq, hbqe⟩ : ∃ bq, w1.heap.size + 1 = bq := ⟨_, rfl⟩
  obtain ⟨bp, hbpe⟩ : ∃ bp, w1.heap.size = bp := ⟨_, rfl⟩
  rw [hbqe, hbpe] at hp1
  rw [hbqe]
  have HN2 := hide (And.intro hp1 (And.intro hf2 (And.intro hbqe hbpe)))
  clear hW2 hp1 hf2 hbqe hbpe
  refine ((unhide HK).new_ W2).mono ?_
  rintro e w3 ⟨bx', F', rfl, hrep3, hf3, hF3⟩
  have hq1 := (unhide HN2).1.no (unhide HK) hf3
  obtain ⟨hc0, hc1, hbq⟩ := hq1.cells
  have HN3 := hide (And.intro hrep3 (And.intro hf3 hF3))
  clear hrep3 hf3 hF3 hq1 hc1
  go_wp2_with fail
  generalize hW5 : World.alloc _ _ = W5
  have HS0 : Hid (∃ F v s F' v' s' ro, PairAt Rep W5 bq bx bp F v s ∧ PairAt Rep W5 (w3.heap.size + 1) bx' w3.heap.size F' v' s' ∧ BookAt W5 (w3.heap.size + 1 + 1) ro [] [] 0 (.slice none 0 0) (.slice none 0 0) (.slice none 0 0) (.slice none 0 0) ∧
      Apart bq bp F v ro ∧ Apart (w3.heap.size + 1) w3.heap.size F' v' ro ∧ (∀ k, Foot bq bp F v k → ¬ Foot (w3.heap.size + 1) w3.heap.size F' v' k) ∧ (∀ k, (Foot bq bp F v k ∨ Foot (w3.heap.size + 1) w3.heap.size F' v' k ∨ ro k < 6) → w.heap.size ≤ k) ∧ w.heap.size ≤ W5.heap.size ∧ Fr No w W5 ∧ s = refNil []) := by
    obtain ⟨hrep1, hf1, hF1⟩ := unhide HN1
    obtain ⟨hp2, hf2, hbqe, hbpe⟩ := unhide HN2
    obtain ⟨hrep3, hf3, hF3⟩ := unhide HN3
    have hS2 := unhide HS2
    have hf5 : Fr No w3 W5 := by rw [← hW5]; exact (((Fr.refl _ _).alloc _).alloc _).alloc _
    have hs5 : W5.heap.size = w3.heap.size + 3 := by rw [← hW5]; simp
    have hs3 := hf3.size
    have k1 := (unhide HK).lt hrep1
    have k3 := (unhide HK).lt hrep3
    have nil : ∀ k, ¬ (Value.slice none 0 0).ownBlock = some k := fun k e => by cases e
    refine ⟨F, .slice none 0 0, refNil [], F', .slice none 0 0, refNil [], fun k => if k = w3.heap.size + 1 + 1 then 0 else 6, (hp2.no (unhide HK) hf3).no (unhide HK) hf5, ?_, ?_, ?_, ?_, ?_, ?_, by omega, ((hf1.quiet hf2).quiet hf3).quiet hf5, rfl⟩
    · rw [← hW5]; exact (pair_new (unhide HK) hrep3).no (unhide HK) ((Fr.refl _ _).alloc _)
    · refine { blk := ?_, oe := World.ownsRow_nil _ _ _ _, om := World.ownsRow_nil _ _ _ _, ol := World.ownsRow_nil _ _ _ _, on := World.ownsRow_nil _ _ _ _, ees := fun x hx => (by cases hx), lls := fun x hx => (by cases hx), r0 := if_pos rfl, r1 := fun k e => (by cases e), r2 := fun k e => (by cases e), r3 := fun k e => (by cases e), r4 := fun k e => (by cases e), r5 := fun x hx => (by cases hx), rlt := fun k hk => ?_ }
      · rw [← hW5]; exact heap_newAt _ _ (by simp)
      · by_cases e : k = w3.heap.size + 1 + 1
        · omega
        · simp only [if_neg e] at hk; omega
    · refine ⟨fun k hk e => ?_, fun k hk => ?_, fun k hk => ?_, fun e => ?_, fun e => ?_, ?_⟩
      · rcases e with e | e
        · have := k1 k hk; omega
        · exact nil k e
      · rw [if_neg (by have := k1 k hk; omega)]; omega
      · rcases hk with e | e
        · rw [if_neg (by omega)]; omega
        · exact absurd e (nil k)
      · have := k1 _ e; omega
      · rcases e with e | e
        · omega
        · exact nil _ e
      · rw [if_neg (by omega)]; omega
    · refine ⟨fun k hk e => ?_, fun k hk => ?_, fun k hk => ?_, fun e => ?_, fun e => ?_, ?_⟩
      · rcases e with e | e
        · have := k3 k hk; omega
        · exact nil k e
      · rw [if_neg (by have := k3 k hk; omega)]; omega
      · rcases hk with e | e
        · rw [if_neg (by omega)]; omega
        · exact absurd e (nil k)
      · have := k3 _ e; omega
      · rcases e with e | e
        · omega
        · exact nil _ e
      · rw [if_neg (by omega)]; omega
    · intro k hk hk'
      have a1 : k < W2.heap.size := by
        rcases hk with e | e | e | e
        · omega
        · have := k1 k e; omega
        · omega
        · exact absurd e (nil k)
      rcases hk' with e | e | e | e
      · omega
      · have := hF3 k e; omega
      · omega
      · exact nil k e
    · rintro k (e | e | e)
      · rcases e with e | e | e | e
        · omega
        · exact hF1 k e
        · omega
        · exact absurd e (nil k)
      · rcases e with e | e | e | e
        · omega
        · have := hF3 k e; omega
        · omega
        · exact absurd e (nil k)
      · by_cases e2 : k = w3.heap.size + 1 + 1
        · omega
        · simp only [if_neg e2] at e; omega
  obtain ⟨bq', hbq'⟩ : ∃ b, w3.heap.size + 1 = b := ⟨_, rfl⟩
  obtain ⟨bp', hbp'⟩ : ∃ b, w3.heap.size = b := ⟨_, rfl⟩
  obtain ⟨bb, hbb⟩ : ∃ b, w3.heap.size + 1 + 1 = b := ⟨_, rfl⟩
  rw [hbb, hbq', hbp'] at HS0
  rw [hbb]
  clear hW5 HN1 HN2 HN3 HS2 hc0 hbq hlo
  obtain ⟨F1, v1, s1, F2, v2, s2, ro, p1, p2, b0, ap1, ap2, dj, lo, hB, hfw, hs1⟩ := unhide HS0
  subst hs1
  obtain ⟨hgd, hgl, hge⟩ := good_all good_nil ⟨1, 1000000000, 1000, 8, 1, 1, 7, 5⟩
  refine (pair_do (unhide HK) bq bx bp bb F1 v1 (refNil []) ro [] [] 0 (.slice none 0 0) (.slice none 0 0) (.slice none 0 0) (.slice none 0 0) ⟨1, 1000000000, 1000, 8, 1, 1, 7, 5⟩ W5 p1 b0 ap1 hgd hgl hge (by simp) (by omega) (by omega)).mono ?_
  rintro e w6 hpost
  obtain ⟨T6, f6, he⟩ := two_step (unhide HK) p2 ap2 dj lo hB hpost
  subst he
  have hf6 : Fr No w w6 := hfw.trans f6 (fun i hi h => by have : w.heap.size ≤ i := h; omega)
  have HT6 := hide (And.intro T6 hf6)
  clear p1 p2 b0 ap1 ap2 dj lo hB hfw hgd hgl hge hpost T6 f6 hf6 HS0
  go_wp2
  go_loopg [7, 8, 11] n (fun f pp qq i wr => ∃ k : Nat, ∃ bq bx bp bq' bx' bp' nx, k ≤ n ∧ f = n - k ∧ pp = .pointer (some ⟨bq, 0, none⟩) ∧ qq = .pointer (some ⟨bq', 0, none⟩) ∧ i = .int .i64 k ∧ Two Rep w.heap.size wr bq bx bp bq' bx' bp' bb (4 * k + 4) (4 * k) nx ∧ (-((k : Int) + 1) ≤ nx ∧ nx ≤ 0) ∧ Fr No w wr)
  case atStart => exact ⟨0, bq, bx, bp, bq', bx', bp', -1, Nat.zero_le _, rfl, rfl, by first | rw [← hbq', hbp'] | simp_all, rfl, by simpa using (unhide HT6).1, by simp, (unhide HT6).2⟩
  case round =>
    clear HT6
    obtain ⟨k, bq, bx, bp, bq', bx', bp', nx, hk, hgk, rfl, rfl, rfl, T, hnx, hfr⟩ := hrel
    have HGK := hide hgk
    clear hgk
    by_cases hlt : k < n
    · obtain ⟨b, off, o, rfl, hbw, hop⟩ := unhide HSC k hlt
      have hkI : (k : Int) < (n : Int) := by omega
      have hkE : decide ((k : Int) < (n : Int)) = true := by simp; omega
      have up : ∀ j u, w.cell? ⟨b, j, none⟩ = some u → wr.cell? ⟨b, j, none⟩ = some u := fun j u h => (hfr.below.cell (p := ⟨b, j, none⟩) hbw).trans h
      have d0 := up _ _ hop.c0
      have d1 := up _ _ hop.c1
      have d2 := up _ _ hop.c2
      have d3 := up _ _ hop.c3
      have d4 := up _ _ hop.c4
      have d5 := up _ _ hop.c5
      have d6 := up _ _ hop.c6
      have d7 := up _ _ hop.c7
      have d8 := up _ _ hop.c8
      have d9 := up _ _ hop.c9
      have d10 := up _ _ hop.c10
      have d11 := up _ _ hop.c11
      have d12 := up _ _ hop.c12
      obtain ⟨la, ln, lc, hsl⟩ := hop.sl
      rw [hsl] at d12
      have HT := hide (And.intro T hfr)
      have HSL := hide hsl
      clear up hop T hfr hsl
      by_cases h6 : o.kind = 6
      · rw [h6] at d0
        clear h6
        go_wp2_with (go_at_call 19; refine (two_looks (unhide HK) ((unhide HT).1.no (unhide HK) ((Fr.refl _ _).alloc _)) (by omega) (by omega)).mono ?_; rintro e w7 ⟨rfl, hf7⟩; have HF7 := hide hf7; clear hf7)
        go_roundg (n - (k + 1))
        case rel =>
          exact ⟨k + 1, bq', bx', bp', bq, bx, bp, nx, by omega, rfl, rfl, rfl, by go_num, (((unhide HT).1.no (unhide HK) (((Fr.refl _ _).alloc _).quiet (unhide HF7))).swap).more (by omega) (by omega), by omega, ((unhide HT).2.alloc _).quiet (unhide HF7)⟩
        case measure => have := unhide HGK; omega
      · have h6' : (o.kind == 6) = false := by simpa using h6
        clear h6
        by_cases hle6 : o.kind ≤ 6
        · have hle6' : decide (o.kind ≤ 6) = true := by simpa using hle6
          by_cases h1 : o.kind = 1
          · have h1' : (o.kind != 1) = false := by simpa using h1
            by_cases hw4 : o.c.what ≤ cm
            · have hw4' : decide (o.c.what ≤ cm) = true := by simpa using hw4
              clear h1
              obtain ⟨F1, v1, s1, F2, v2, s2, ro, E1, L1, ve1, vm1, vl1, vn1, p1, p2, b1, le1, ll1, ap1, ap2, dj, lo⟩ := (unhide HT).1
              have hBw : w.heap.size ≤ wr.heap.size := (unhide HT).2.size
              have HW := hide (And.intro p1 (And.intro p2 (And.intro b1 (And.intro ap1 (And.intro ap2 (And.intro dj lo))))))
              clear p1 p2 b1 ap1 ap2 dj lo
              go_wp2_with fail
              generalize hW8 : World.alloc wr _ = W8
              have hf8 : Fr No wr W8 := by rw [← hW8]; exact (Fr.refl _ _).alloc _
              clear hW8
              have hB8 := hf8.size
              refine (pair_step (unhide HK) bq bx bp bb F1 v1 s1 ro E1 L1 nx ve1 vm1 vl1 vn1 ⟨o.kind, o.n, o.m, o.k, o.c, .slice la ln lc⟩ W8 ((unhide HW).1.no (unhide HK) hf8) ((unhide HW).2.2.1.fr hf8 (fun _ _ => id)) (unhide HW).2.2.2.1 hle6 ⟨la, ln, lc, rfl⟩ (fun _ => good_all (unhide HW).1.good o.c) (by omega) (by omega) (by omega) (by omega)).mono ?_
              rintro e w7 hpost
              obtain ⟨T7, f7, he⟩ := two_step (unhide HK) ((unhide HW).2.1.no (unhide HK) hf8) (unhide HW).2.2.2.2.1 (unhide HW).2.2.2.2.2.1 (unhide HW).2.2.2.2.2.2 (by omega) hpost
              subst he
              have hf7 : Fr No w w7 := ((unhide HT).2.quiet hf8).trans f7 (fun i hi h => by have : w.heap.size ≤ i := h; omega)
              have hsE : stepE ⟨o.kind, o.n, o.m, o.k, o.c, .slice la ln lc⟩ ≤ 4 := by unfold stepE; split <;> omega
              have hsL : stepL ⟨o.kind, o.n, o.m, o.k, o.c, .slice la ln lc⟩ ≤ 4 := by unfold stepL; split <;> omega
              have hsN : 0 ≤ stepN ⟨o.kind, o.n, o.m, o.k, o.c, .slice la ln lc⟩ ∧ stepN ⟨o.kind, o.n, o.m, o.k, o.c, .slice la ln lc⟩ ≤ 1 := by unfold stepN; split <;> omega
              have T8 := T7.more (ne2 := 4 * (k + 1) + 4) (nl2 := 4 * (k + 1)) (by omega) (by omega)
              generalize hnx2 : nx - stepN ⟨o.kind, o.n, o.m, o.k, o.c, .slice la ln lc⟩ = nx2 at *
              have hb2 : -((k : Int) + 1 + 1) ≤ nx2 ∧ nx2 ≤ 0 := by omega
              have HT8 := hide (And.intro T8 hf7)
              clear T7 T8 f7 hf7 hpost hsE hsL hsN hnx2 hf8
              go_wp2_with (go_at_call 19; refine (two_looks (unhide HK) (unhide HT8).1 (by omega) (by omega)).mono ?_; rintro e w9 ⟨rfl, hf9⟩; have HF9 := hide hf9; clear hf9)
              go_roundg (n - (k + 1))
              case rel =>
                exact ⟨k + 1, bq, bx, bp, bq', bx', bp', nx2, by omega, rfl, rfl, rfl, by go_num, (unhide HT8).1.no (unhide HK) (unhide HF9), by omega, (unhide HT8).2.quiet (unhide HF9)⟩
              case measure => have := unhide HGK; omega
            · have hw4' : decide (o.c.what ≤ cm) = false := by simpa using hw4
              clear h1 hw4
              go_wp2_with (go_at_call 19; refine (two_looks (unhide HK) ((unhide HT).1.no (unhide HK) ((Fr.refl _ _).alloc _)) (by omega) (by omega)).mono ?_; rintro e w7 ⟨rfl, hf7⟩; have HF7 := hide hf7; clear hf7)
              go_roundg (n - (k + 1))
              case rel =>
                exact ⟨k + 1, bq, bx, bp, bq', bx', bp', nx, by omega, rfl, rfl, rfl, by go_num, ((unhide HT).1.no (unhide HK) (((Fr.refl _ _).alloc _).quiet (unhide HF7))).more (by omega) (by omega), by omega, ((unhide HT).2.alloc _).quiet (unhide HF7)⟩
              case measure => have := unhide HGK; omega
          · have h1' : (o.kind != 1) = true := by simpa using h1
            obtain ⟨F1, v1, s1, F2, v2, s2, ro, E1, L1, ve1, vm1, vl1, vn1, p1, p2, b1, le1, ll1, ap1, ap2, dj, lo⟩ := (unhide HT).1
            have hBw : w.heap.size ≤ wr.heap.size := (unhide HT).2.size
            have HW := hide (And.intro p1 (And.intro p2 (And.intro b1 (And.intro ap1 (And.intro ap2 (And.intro dj lo))))))
            clear p1 p2 b1 ap1 ap2 dj lo
            go_wp2_with fail
            generalize hW8 : World.alloc wr _ = W8
            have hf8 : Fr No wr W8 := by rw [← hW8]; exact (Fr.refl _ _).alloc _
            clear hW8
            have hB8 := hf8.size
            refine (pair_step (unhide HK) bq bx bp bb F1 v1 s1 ro E1 L1 nx ve1 vm1 vl1 vn1 ⟨o.kind, o.n, o.m, o.k, o.c, .slice la ln lc⟩ W8 ((unhide HW).1.no (unhide HK) hf8) ((unhide HW).2.2.1.fr hf8 (fun _ _ => id)) (unhide HW).2.2.2.1 hle6 ⟨la, ln, lc, rfl⟩ (fun _ => good_all (unhide HW).1.good o.c) (by omega) (by omega) (by omega) (by omega)).mono ?_
            rintro e w7 hpost
            obtain ⟨T7, f7, he⟩ := two_step (unhide HK) ((unhide HW).2.1.no (unhide HK) hf8) (unhide HW).2.2.2.2.1 (unhide HW).2.2.2.2.2.1 (unhide HW).2.2.2.2.2.2 (by omega) hpost
            subst he
            have hf7 : Fr No w w7 := ((unhide HT).2.quiet hf8).trans f7 (fun i hi h => by have : w.heap.size ≤ i := h; omega)
            have hsE : stepE ⟨o.kind, o.n, o.m, o.k, o.c, .slice la ln lc⟩ ≤ 4 := by unfold stepE; split <;> omega
            have hsL : stepL ⟨o.kind, o.n, o.m, o.k, o.c, .slice la ln lc⟩ ≤ 4 := by unfold stepL; split <;> omega
            have hsN : 0 ≤ stepN ⟨o.kind, o.n, o.m, o.k, o.c, .slice la ln lc⟩ ∧ stepN ⟨o.kind, o.n, o.m, o.k, o.c, .slice la ln lc⟩ ≤ 1 := by unfold stepN; split <;> omega
            have T8 := T7.more (ne2 := 4 * (k + 1) + 4) (nl2 := 4 * (k + 1)) (by omega) (by omega)
            generalize hnx2 : nx - stepN ⟨o.kind, o.n, o.m, o.k, o.c, .slice la ln lc⟩ = nx2 at *
            have hb2 : -((k : Int) + 1 + 1) ≤ nx2 ∧ nx2 ≤ 0 := by omega
            have HT8 := hide (And.intro T8 hf7)
            clear T7 T8 f7 hf7 hpost hsE hsL hsN hnx2 hf8
            go_wp2_with (go_at_call 19; refine (two_looks (unhide HK) (unhide HT8).1 (by omega) (by omega)).mono ?_; rintro e w9 ⟨rfl, hf9⟩; have HF9 := hide hf9; clear hf9)
            go_roundg (n - (k + 1))
            case rel =>
              exact ⟨k + 1, bq, bx, bp, bq', bx', bp', nx2, by omega, rfl, rfl, rfl, by go_num, (unhide HT8).1.no (unhide HK) (unhide HF9), by omega, (unhide HT8).2.quiet (unhide HF9)⟩
            case measure => have := unhide HGK; omega
        · have hle6' : decide (o.kind ≤ 6) = false := by simpa using hle6
          clear hle6
          go_wp2_with (go_at_call 19; refine (two_looks (unhide HK) ((unhide HT).1.no (unhide HK) ((Fr.refl _ _).alloc _)) (by omega) (by omega)).mono ?_; rintro e w7 ⟨rfl, hf7⟩; have HF7 := hide hf7; clear hf7)
          go_roundg (n - (k + 1))
          case rel =>
            exact ⟨k + 1, bq, bx, bp, bq', bx', bp', nx, by omega, rfl, rfl, rfl, by go_num, ((unhide HT).1.no (unhide HK) (((Fr.refl _ _).alloc _).quiet (unhide HF7))).more (by omega) (by omega), by omega, ((unhide HT).2.alloc _).quiet (unhide HF7)⟩
          case measure => have := unhide HGK; omega
    · have hBw : w.heap.size ≤ wr.heap.size := hfr.size
      have HT := hide (And.intro T hfr)
      clear T hfr
      go_wp2_with fail
      refine (two_asked (unhide HK) (unhide HT).1 hBw (by omega) (by omega) (by omega)).mono ?_
      rintro e w7 ⟨rfl, T7, f7⟩
      have hf7 : Fr No w w7 := (unhide HT).2.trans f7 (fun i hi h => by have : w.heap.size ≤ i := h; omega)
      have hBw7 : w.heap.size ≤ w7.heap.size := hf7.size
      have HT7 := hide (And.intro T7.swap hf7)
      clear T7 f7 hf7
      go_wp2_with fail
      refine (two_asked (unhide HK) (unhide HT7).1 hBw7 (by omega) (by omega) (by omega)).mono ?_
      rintro e w8 ⟨rfl, T8, f8⟩
      have hf8 : Fr No w w8 := (unhide HT7).2.trans f8 (fun i hi h => by have : w.heap.size ≤ i := h; omega)
      have HT8 := hide hf8
      clear T8 f8 hf8
      go_wp2
      go_ret
      exact ⟨retB (by simp), unhide HT8⟩

set_option maxHeartbeats 400000 in
theorem gathers_calls {Rep : World → Nat → (Nat → Prop) → Ref → Prop} (K : PitLaw Rep) (a : Option Addr) (n cap : Nat) (w : World) (hn : n ≤ 1200000000000)
    (hs : ∀ i, i < n → ∃ b off o, a = some ⟨b, off, none⟩ ∧ b < w.heap.size ∧ OpAt w b (off + i * 13) o) :
    Calls Tryz.prog 3 #[.slice a n cap] w fun e w' => e = .returned (.bool true) ∧ Fr No w w' := by
  have HK := hide K
  have HS := hide hs
  clear K hs
  go_enter Tryz.func3, Tryz.ntmps3
  go_wp2_with fail
  refine (plays_six (unhide HK) a n cap 4 w hn (unhide HS)).mono ?_
  rintro e w1 ⟨rfl, hf1⟩
  have HF := hide hf1
  clear hf1
  go_wp2
  go_ret
  exact ⟨rfl, unhide HF⟩
set_option maxHeartbeats 400000 in
theorem trades_calls {Rep : World → Nat → (Nat → Prop) → Ref → Prop} (K : PitLaw Rep) (a : Option Addr) (n cap : Nat) (w : World) (hn : n ≤ 1200000000000)
    (hs : ∀ i, i < n → ∃ b off o, a = some ⟨b, off, none⟩ ∧ b < w.heap.size ∧ OpAt w b (off + i * 13) o) :
    Calls Tryz.prog 4 #[.slice a n cap] w fun e w' => e = .returned (.bool true) ∧ Fr No w w' := by
  have HK := hide K
  have HS := hide hs
  clear K hs
  go_enter Tryz.func4, Tryz.ntmps4
  go_wp2_with fail
  refine (plays_six (unhide HK) a n cap 4611686018427387904 w hn (unhide HS)).mono ?_
  rintro e w1 ⟨rfl, hf1⟩
  have HF := hide hf1
  clear hf1
  go_wp2
  go_ret
  exact ⟨rfl, unhide HF⟩
end Go.Proofs.YtigpgnjgmaoejaaGreat
