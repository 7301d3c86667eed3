/- The law's step: one step of a script, of the kinds up to 6. Conditions: both pits and the book lie in memory, apart from one another; a command's What is 4 at most. -/
import Derived.Test.YtigpgnjgmaoejaaGreatDoTK
import Derived.Test.YtigpgnjgmaoejaaGreatLawE
import Derived.Test.YtigpgnjgmaoejaaGreatTdAC
namespace Go.Proofs.YtigpgnjgmaoejaaGreat
open Go.RowKit

/-- A step of a script. -/
structure OpV where
  kind : Int
  n : Int
  m : Int
  k : Int
  c : Cmd
  l : Value

def OpV.val (o : OpV) : Value := .agg #[.int .i64 o.kind, .int .i64 o.n, .int .i64 o.m, .int .i64 o.k, .int .i64 o.c.what, .int .i64 o.c.id, .int .i64 o.c.trader, .int .i64 o.c.book, .int .i64 o.c.side, .int .i64 o.c.kind, .int .i64 o.c.price, .int .i64 o.c.count, o.l]

def stepRef (s : Ref) (o : OpV) : Ref := if o.kind = 1 then (tDo s o.c).1 else s
def stepE (o : OpV) : Nat := if o.kind = 1 then 4 else 0
def stepL (o : OpV) : Nat := if o.kind = 2 then 4 else 0
def stepN (o : OpV) : Int := if o.kind = 1 ∨ o.kind = 2 then 1 else 0

theorem StepPost.after {Rep : World → Nat → (Nat → Prop) → Ref → Prop} {w w1 : World} {bq bx bp bb : Nat} {F : Nat → Prop} {v : Value} {ro : Nat → Nat} {s' : Ref} {ne nl : Nat} {nx : Int} {e : Ending} {w' : World}
    (hf : Fr No w w1) (h : StepPost Rep w1 bq bx bp bb F v ro s' ne nl nx e w') : StepPost Rep w bq bx bp bb F v ro s' ne nl nx e w' := by
  obtain ⟨he, F', v', ro', E', L', ve', vm', vl', vn', h1, h2, h3, h4, h5, h6, h7, h8, h9⟩ := h
  exact ⟨he, F', v', ro', E', L', ve', vm', vl', vn', h1, h2, h3, h4, h5, hf.of_no.same h6, fun k hk => (h7 k hk).imp id (Nat.le_trans hf.size), fun k hk => (h8 k hk).imp id (Nat.le_trans hf.size), fun k hk => (h9 k hk).imp id (Nat.le_trans hf.size)⟩

theorem PairAt.no {Rep : World → Nat → (Nat → Prop) → Ref → Prop} (K : PitLaw Rep) {w w' : World} {bq bx bp : Nat} {F : Nat → Prop} {v : Value} {s : Ref} (h : PairAt Rep w bq bx bp F v s) (hf : Fr No w w') : PairAt Rep w' bq bx bp F v s :=
  ⟨hf.heap h.blk id, K.fr h.rep hf (fun _ _ => id), h.ref.no hf, h.good, h.len⟩

/-- Nothing but new memory was made. -/
theorem StepPost.same {Rep : World → Nat → (Nat → Prop) → Ref → Prop} (K : PitLaw Rep) {w w' : World} {bq bx bp bb : Nat} {F : Nat → Prop} {v : Value} {ro : Nat → Nat} {s : Ref} {E L : List (Value × Int)} {nx : Int} {ve vm vl vn : Value}
    (h : PairAt Rep w bq bx bp F v s) (hb : BookAt w bb ro E L nx ve vm vl vn) (hap : Apart bq bp F v ro) (hf : Fr No w w') : StepPost Rep w bq bx bp bb F v ro s E.length L.length nx (.returned (.bool true)) w' :=
  ⟨rfl, F, v, ro, E, L, ve, vm, vl, vn, h.no K hf, hb.fr hf (fun _ _ => id), rfl, rfl, hap, hf.of_no, fun _ hk => .inl hk, fun _ hk => .inl hk, fun _ hk => .inl hk⟩

set_option maxRecDepth 100000 in
set_option maxHeartbeats 4000000 in
theorem pair_step {Rep : World → Nat → (Nat → Prop) → Ref → Prop} (K : PitLaw Rep) (bq bx bp bb : Nat) (F : Nat → Prop) (v : Value) (s : Ref) (ro : Nat → Nat) (E L : List (Value × Int)) (nx : Int) (ve vm vl vn : Value) (o : OpV) (w : World)
    (h : PairAt Rep w bq bx bp F v s) (hb : BookAt w bb ro E L nx ve vm vl vn) (hap : Apart bq bp F v ro) (hki : o.kind ≤ 6) (hsl : ∃ a n c, o.l = .slice a n c)
    (hg' : o.kind = 1 → Good (tDo s o.c).1 ∧ (tDo s o.c).1.L.length ≤ 10000 ∧ (tDo s o.c).2.length ≤ 100000) (hE : E.length ≤ 5000000000000) (hL : L.length ≤ 5000000000000) (hn1 : -9000000000000000000 ≤ nx) (hn2 : nx ≤ 0) :
    Calls Tryz.prog 21 #[.pointer (some ⟨bq, 0, none⟩), .pointer (some ⟨bb, 0, none⟩), o.val] w (StepPost Rep w bq bx bp bb F v ro (stepRef s o) (E.length + stepE o) (L.length + stepL o) (nx - stepN o)) := by
  obtain ⟨ok, on, om, ok2, oc, ol⟩ := o
  obtain ⟨cw, cid, ct, cb, cs, ck, cp, cc⟩ := oc
  obtain ⟨la, ln, lc, hll⟩ := hsl
  simp only at hll hki hg'
  subst hll
  unfold OpV.val
  simp only
  have HP := hide (And.intro h (And.intro hb hap))
  have HK := hide K
  obtain ⟨hc0, hc1, hbq⟩ := h.cells
  have HG := hide hg'
  clear h hb hap K hg'
  by_cases h1 : ok = 1
  · subst h1
    obtain ⟨g1, g2, g3⟩ := unhide HG rfl
    have HGG := hide (And.intro g1 (And.intro g2 g3))
    clear g1 g2 g3
    have e1 : stepRef s ⟨1, on, om, ok2, ⟨cw, cid, ct, cb, cs, ck, cp, cc⟩, .slice la ln lc⟩ = (tDo s ⟨cw, cid, ct, cb, cs, ck, cp, cc⟩).1 := by simp [stepRef]
    rw [e1, show stepE ⟨1, on, om, ok2, ⟨cw, cid, ct, cb, cs, ck, cp, cc⟩, .slice la ln lc⟩ = 4 from rfl, show stepL ⟨1, on, om, ok2, ⟨cw, cid, ct, cb, cs, ck, cp, cc⟩, .slice la ln lc⟩ = 0 from rfl, show stepN ⟨1, on, om, ok2, ⟨cw, cid, ct, cb, cs, ck, cp, cc⟩, .slice la ln lc⟩ = 1 from rfl]
    generalize hR : (tDo s ⟨cw, cid, ct, cb, cs, ck, cp, cc⟩).1 = R at *
    have HR := hide hR
    clear e1 hR
    go_enter Tryz.func21, Tryz.ntmps21
    go_wp2_with fail
    refine (pair_do (unhide HK) bq bx bp bb F v s ro E L nx ve vm vl vn ⟨cw, cid, ct, cb, cs, ck, cp, cc⟩ _ ((unhide HP).1.no (unhide HK) ((Fr.refl _ _).alloc _)) ((unhide HP).2.1.fr ((Fr.refl No _).alloc _) (fun _ _ => id)) (unhide HP).2.2 (by rw [unhide HR]; exact (unhide HGG).1) (by rw [unhide HR]; exact (unhide HGG).2.1) (unhide HGG).2.2 hE hn1 hn2).mono ?_
    rintro e w1 hpost
    obtain ⟨rfl, hrest⟩ := hpost
    have HRest := hide hrest
    clear hrest
    go_wp2
    go_ret
    exact StepPost.after ((Fr.refl No _).alloc _) ⟨rfl, by have := unhide HRest; rw [unhide HR] at this; exact this⟩
  · have h1' : (ok == 1) = false := by simpa using h1
    by_cases h2 : ok = 2
    · subst h2
      rw [show stepRef s ⟨2, on, om, ok2, ⟨cw, cid, ct, cb, cs, ck, cp, cc⟩, .slice la ln lc⟩ = s from rfl, show stepE ⟨2, on, om, ok2, ⟨cw, cid, ct, cb, cs, ck, cp, cc⟩, .slice la ln lc⟩ = 0 from rfl, show stepL ⟨2, on, om, ok2, ⟨cw, cid, ct, cb, cs, ck, cp, cc⟩, .slice la ln lc⟩ = 4 from rfl, show stepN ⟨2, on, om, ok2, ⟨cw, cid, ct, cb, cs, ck, cp, cc⟩, .slice la ln lc⟩ = 1 from rfl]
      clear h1 h1'
      go_enter Tryz.func21, Tryz.ntmps21
      go_wp2_with fail
      refine (pair_depth (unhide HK) bq bx bp bb F v s ro E L nx ve vm vl vn on om ok2 _ ((unhide HP).1.no (unhide HK) ((Fr.refl _ _).alloc _)) ((unhide HP).2.1.fr ((Fr.refl No _).alloc _) (fun _ _ => id)) (unhide HP).2.2 hL hn1 hn2).mono ?_
      rintro e w1 hpost
      obtain ⟨rfl, hrest⟩ := hpost
      have HRest := hide hrest
      clear hrest
      go_wp2
      go_ret
      exact StepPost.after ((Fr.refl No _).alloc _) ⟨rfl, unhide HRest⟩
    · have h2' : (ok == 2) = false := by simpa using h2
      have q1 : stepRef s ⟨ok, on, om, ok2, ⟨cw, cid, ct, cb, cs, ck, cp, cc⟩, .slice la ln lc⟩ = s := by simp [stepRef, h1]
      have q2 : stepE ⟨ok, on, om, ok2, ⟨cw, cid, ct, cb, cs, ck, cp, cc⟩, .slice la ln lc⟩ = 0 := by simp [stepE, h1]
      have q3 : stepL ⟨ok, on, om, ok2, ⟨cw, cid, ct, cb, cs, ck, cp, cc⟩, .slice la ln lc⟩ = 0 := by simp [stepL, h2]
      have q4 : stepN ⟨ok, on, om, ok2, ⟨cw, cid, ct, cb, cs, ck, cp, cc⟩, .slice la ln lc⟩ = 0 := by simp [stepN, h1, h2]
      rw [q1, q2, q3, q4, Nat.add_zero, Nat.add_zero, Int.sub_zero]
      clear q1 q2 q3 q4
      by_cases h3 : ok = 3
      · subst h3
        clear h1 h1' h2 h2'
        go_enter Tryz.func21, Tryz.ntmps21
        go_wp2_with (go_at_call 37; refine (pair_order (unhide HK) bq bx bp F v s _ _ ((unhide HP).1.no (unhide HK) ((Fr.refl _ _).alloc _))).mono ?_; rintro e w1 ⟨rfl, hf1⟩; have HF1 := hide hf1; clear hf1)
        go_ret
        exact StepPost.same (unhide HK) (unhide HP).1 (unhide HP).2.1 (unhide HP).2.2 (((Fr.refl _ _).alloc _).quiet (unhide HF1))
      · have h3' : (ok == 3) = false := by simpa using h3
        by_cases h4 : ok = 4
        · subst h4
          clear h1 h1' h2 h2' h3 h3'
          go_enter Tryz.func21, Tryz.ntmps21
          go_wp2_with (go_at_call 36; refine (pair_look (unhide HK) bq bx bp F v s _ _ ((unhide HP).1.no (unhide HK) ((Fr.refl _ _).alloc _))).mono ?_; rintro e w1 ⟨rfl, hf1⟩; have HF1 := hide hf1; clear hf1)
          go_ret
          exact StepPost.same (unhide HK) (unhide HP).1 (unhide HP).2.1 (unhide HP).2.2 (((Fr.refl _ _).alloc _).quiet (unhide HF1))
        · have h4' : (ok == 4) = false := by simpa using h4
          by_cases h5 : ok = 5
          · subst h5
            clear h1 h1' h2 h2' h3 h3' h4 h4'
            go_enter Tryz.func21, Tryz.ntmps21
            go_wp2
            generalize hW : World.alloc w _ = W
            have hWf : Fr No w W := by rw [← hW]; exact (Fr.refl _ _).alloc _
            have hd0 := (hWf.below.cell (p := ⟨bq, 0, none⟩) hbq).trans hc0
            have hd1 := (hWf.below.cell (p := ⟨bq, 1, none⟩) hbq).trans hc1
            have hbW : bq < W.heap.size := Nat.lt_of_lt_of_le hbq hWf.size
            have HW := hide (And.intro hWf ((unhide HP).1.no (unhide HK) hWf))
            clear hW hWf hc0 hc1
            go_region_held3 (fun w' : World => w'.cell? ⟨bq, 0, none⟩ = some (.pointer (some ⟨bx, 0, none⟩)) ∧ w'.cell? ⟨bq, 1, none⟩ = some (.pointer (some ⟨bp, 0, none⟩))) (go_keep)
              (first
                | (go_at_call 15; refine ((unhide HK).volume_ (F := F) (s := s) ((unhide HK).fr (unhide HW).2.rep ((Fr.refl No _).drew) (fun _ _ => id)) (unhide HW).2.good).mono ?_; rintro e w1 ⟨rfl, hf1'⟩; have hf1 : Fr No W w1 := ((Fr.refl _ _).drew).quiet hf1'; have he0 := (hf1.below.cell (p := ⟨bq, 0, none⟩) hbW).trans hd0; have he1 := (hf1.below.cell (p := ⟨bq, 1, none⟩) hbW).trans hd1; have HF1 := hide hf1; clear hf1 hf1')
                | (go_at_call 38; refine (volume_T bp v s _ ((unhide HW).2.ref.no (unhide HF1))).mono ?_; rintro e w2 ⟨rfl, hf2'⟩; have hf2 : Fr No W w2 := (unhide HF1).quiet hf2'; have hg0 := (hf2.below.cell (p := ⟨bq, 0, none⟩) hbW).trans hd0; have hg1 := (hf2.below.cell (p := ⟨bq, 1, none⟩) hbW).trans hd1; have HF2 := hide hf2; clear hf2 hf2'))
            go_wp2
            go_ret
            exact StepPost.same (unhide HK) (unhide HP).1 (unhide HP).2.1 (unhide HP).2.2 ((unhide HW).1.quiet (unhide HF2))
          · have h5' : (ok == 5) = false := by simpa using h5
            have h7' : (ok == 7) = false := by simp; omega
            clear h1 h2 h3 h4 h5
            go_enter Tryz.func21, Tryz.ntmps21
            go_wp2
            go_ret
            exact StepPost.same (unhide HK) (unhide HP).1 (unhide HP).2.1 (unhide HP).2.2 ((Fr.refl _ _).alloc _)
end Go.Proofs.YtigpgnjgmaoejaaGreat

/- The law's asked: all that rests, and how all books stand, is the same in both pits. Conditions: both pits and the book lie in memory, apart from one another. -/
namespace Go.Proofs.YtigpgnjgmaoejaaGreat
open Go.RowKit

theorem StepPost.then {Rep : World → Nat → (Nat → Prop) → Ref → Prop} {w w1 w2 : World} {bq bx bp bb : Nat} {F F1 : Nat → Prop} {v v1 : Value} {ro ro1 : Nat → Nat} {s' : Ref} {ne nl : Nat} {nx : Int} {e : Ending}
    (hf : Fr (fun k => F k ∨ RefS bp v k ∨ ro k < 6) w w1) (c1 : ∀ k, F1 k → F k ∨ w.heap.size ≤ k) (c2 : ∀ k, RefS bp v1 k → RefS bp v k ∨ w.heap.size ≤ k) (c3 : ∀ k, ro1 k < 6 → ro k < 6 ∨ w.heap.size ≤ k)
    (h : StepPost Rep w1 bq bx bp bb F1 v1 ro1 s' ne nl nx e w2) : StepPost Rep w bq bx bp bb F v ro s' ne nl nx e w2 := by
  obtain ⟨he, F', v', ro', E', L', ve', vm', vl', vn', h1, h2, h3, h4, h5, h6, h7, h8, h9⟩ := h
  have hs := hf.size
  refine ⟨he, F', v', ro', E', L', ve', vm', vl', vn', h1, h2, h3, h4, h5, hf.trans h6 ?_, ?_, ?_, ?_⟩
  · rintro k hk (h | h | h)
    · exact .inl ((c1 k h).resolve_right (by omega))
    · exact .inr (.inl ((c2 k h).resolve_right (by omega)))
    · exact .inr (.inr ((c3 k h).resolve_right (by omega)))
  · intro k hk; rcases h7 k hk with h | h
    · exact c1 k h
    · right; omega
  · intro k hk; rcases h8 k hk with h | h
    · exact c2 k h
    · right; omega
  · intro k hk; rcases h9 k hk with h | h
    · exact c3 k h
    · right; omega

set_option maxRecDepth 100000 in
set_option maxHeartbeats 4000000 in
theorem pair_asked {Rep : World → Nat → (Nat → Prop) → Ref → Prop} (K : PitLaw Rep) (bq bx bp bb : Nat) (F : Nat → Prop) (v : Value) (s : Ref) (ro : Nat → Nat) (E L : List (Value × Int)) (nx : Int) (ve vm vl vn : Value) (w : World)
    (h : PairAt Rep w bq bx bp F v s) (hb : BookAt w bb ro E L nx ve vm vl vn) (hap : Apart bq bp F v ro) (hL : L.length ≤ 4900000000000) (hn1 : -8900000000000000000 ≤ nx) (hn2 : nx ≤ 0) :
    Calls Tryz.prog 18 #[.pointer (some ⟨bq, 0, none⟩), .pointer (some ⟨bb, 0, none⟩)] w (StepPost Rep w bq bx bp bb F v ro s E.length (L.length + 64) (nx - 16)) := by
  have HS0 := hide (StepPost.same K h hb hap (Fr.refl No w))
  have HK := hide K
  clear h hb hap K
  go_enter Tryz.func18, Tryz.ntmps18
  go_wp2
  go_loopg [5] 8 (fun f i wr => ∃ k : Nat, k ≤ 8 ∧ f = 8 - k ∧ i = .int .i64 ((k : Int) + 1) ∧ StepPost Rep w bq bx bp bb F v ro s E.length (L.length + 8 * k) (nx - 2 * k) (.returned (.bool true)) wr)
  case atStart => exact ⟨0, by omega, rfl, rfl, by simpa using unhide HS0⟩
  case round =>
    obtain ⟨k, hk, hgk, rfl, hsp⟩ := hrel
    have HGK := hide hgk
    obtain ⟨_, F1, v1, ro1, E1, L1, ve1, vm1, vl1, vn1, p1, b1, le1, ll1, a1, f1, d1, d2, d3⟩ := hsp
    by_cases hlt : k < 8
    · have HA := hide (And.intro p1 (And.intro b1 (And.intro a1 (And.intro le1 ll1))))
      have HB := hide (And.intro f1 (And.intro d1 (And.intro d2 d3)))
      have hl1 : L1.length ≤ 4900000000100 := by omega
      have hk8 : decide ((k : Int) + 1 ≤ 8) = true := by simp; omega
      clear p1 b1 le1 ll1 a1 f1 d1 d2 d3 hgk
      go_wp2_with fail
      refine (pair_depth (unhide HK) bq bx bp bb F1 v1 s ro1 E1 L1 _ ve1 vm1 vl1 vn1 _ _ _ wr (unhide HA).1 (unhide HA).2.1 (unhide HA).2.2.1 (by omega) (by omega) (by omega)).mono ?_
      rintro e w2 ⟨rfl, F2, v2, ro2, E2, L2, ve2, vm2, vl2, vn2, p2, b2, le2, ll2, a2, hrest2⟩
      have HA2 := hide (And.intro p2 (And.intro b2 (And.intro a2 (And.intro le2 (And.intro ll2 hrest2)))))
      have hl2 : L2.length ≤ 4900000000200 := by omega
      clear p2 b2 le2 ll2 a2 hrest2
      go_wp2_with fail
      refine (pair_depth (unhide HK) bq bx bp bb F2 v2 s ro2 E2 L2 _ ve2 vm2 vl2 vn2 _ _ _ w2 (unhide HA2).1 (unhide HA2).2.1 (unhide HA2).2.2.1 (by omega) (by omega) (by omega)).mono ?_
      rintro e w3 ⟨rfl, F3, v3, ro3, E3, L3, ve3, vm3, vl3, vn3, p3, b3, le3, ll3, a3, hrest3⟩
      have HA3 := hide (And.intro p3 (And.intro b3 (And.intro a3 (And.intro le3 (And.intro ll3 hrest3)))))
      clear p3 b3 le3 ll3 a3 hrest3
      go_wp2_with (go_at_call 36; refine (pair_look (unhide HK) bq bx bp F3 v3 s _ _ (unhide HA3).1).mono ?_; rintro e w4 ⟨rfl, hf4⟩; have HF4 := hide hf4; clear hf4)
      go_roundg (8 - (k + 1))
      case rel =>
        obtain ⟨p1, b1, a1, le1, ll1⟩ := unhide HA
        obtain ⟨f1, d1, d2, d3⟩ := unhide HB
        obtain ⟨p2, b2, a2, le2, ll2, f2, d21, d22, d23⟩ := unhide HA2
        obtain ⟨p3, b3, a3, le3, ll3, f3, d31, d32, d33⟩ := unhide HA3
        have z4 := StepPost.same (unhide HK) p3 b3 a3 (unhide HF4)
        have z3 := StepPost.then f3 d31 d32 d33 z4
        have z2 := StepPost.then f2 d21 d22 d23 z3
        have z1 := StepPost.then f1 d1 d2 d3 z2
        refine ⟨k + 1, by omega, rfl, by go_num, ?_⟩
        rw [le3, ll3, le2, ll2, le1, ll1, show L.length + 8 * k + 4 + 4 = L.length + 8 * (k + 1) from by omega, show nx - 2 * (k : Int) - 1 - 1 = nx - 2 * ((k + 1 : Nat) : Int) from by omega] at z1
        exact z1
      case measure => have := unhide HGK; omega
    · have hk8 : k = 8 := by omega
      subst hk8
      have HA := hide (And.intro p1 (And.intro b1 (And.intro a1 (And.intro le1 ll1))))
      have HB := hide (And.intro f1 (And.intro d1 (And.intro d2 d3)))
      have hlen := p1.len
      have hbq := p1.cells.2.2
      clear p1 b1 le1 ll1 a1 f1 d1 d2 d3 hgk
      go_wp2
      go_loopg [9] s.L.length (fun f i w2 => ∃ j : Nat, j ≤ s.L.length ∧ f = s.L.length - j ∧ i = .int .i64 j ∧ Fr No wr w2)
      case atStart => exact ⟨0, Nat.zero_le _, rfl, rfl, Fr.refl _ _⟩
      case round =>
        obtain ⟨j, hj, hgj, rfl, hfr⟩ := hrel
        have HGJ := hide hgj
        have hP := (unhide HA).1.no (unhide HK) hfr
        obtain ⟨hc0, hc1, hbq2⟩ := hP.cells
        have hr := hP.ref
        have hcL := hr.cellL
        have hbp := hr.lt
        obtain ⟨ar, cr, hvr⟩ := hr.form
        rw [hvr] at hcL
        have HFR := hide (And.intro hfr hP)
        clear hgj hfr hP
        by_cases hlj : j < s.L.length
        · rw [hvr] at hr
          obtain ⟨g, rfl, hg, _, i0, _⟩ := os_at hr.own j hlj
          have hjI : (j : Int) < (s.L.length : Int) := by omega
          clear hr hvr
          go_wp2_with (go_at_call 37; refine (pair_order (unhide HK) bq bx bp F1 v1 s _ _ (unhide HFR).2).mono ?_; rintro e w4 ⟨rfl, hf4⟩; have HF4 := hide hf4; clear hf4)
          go_roundg (s.L.length - (j + 1))
          case rel => exact ⟨j + 1, by omega, rfl, by go_num, (unhide HFR).1.quiet (unhide HF4)⟩
          case measure => have := unhide HGJ; omega
        · clear hr hvr
          go_wp2
          go_region_held3 (fun w' : World => w'.cell? ⟨bq, 0, none⟩ = some (.pointer (some ⟨bx, 0, none⟩)) ∧ w'.cell? ⟨bq, 1, none⟩ = some (.pointer (some ⟨bp, 0, none⟩))) (go_keep)
            (first
              | (go_at_call 15; refine ((unhide HK).volume_ (F := F1) (s := s) ((unhide HK).fr (unhide HFR).2.rep ((Fr.refl No _).drew) (fun _ _ => id)) (unhide HFR).2.good).mono ?_; rintro e w5 ⟨rfl, hf1'⟩; have hf1 := (show Fr No _ w5 from ((unhide HFR).1.drew).quiet hf1'); have he0 := (hf1.below.cell (p := ⟨bq, 0, none⟩) hbq).trans ((unhide HA).1.cells.1); have he1 := (hf1.below.cell (p := ⟨bq, 1, none⟩) hbq).trans ((unhide HA).1.cells.2.1); have HF1 := hide hf1; clear hf1 hf1')
              | (go_at_call 38; refine (volume_T bp v1 s _ ((unhide HA).1.ref.no (unhide HF1))).mono ?_; rintro e w6 ⟨rfl, hf2'⟩; have hf2 := (show Fr No _ w6 from (unhide HF1).quiet hf2'); have hg0 := (hf2.below.cell (p := ⟨bq, 0, none⟩) hbq).trans ((unhide HA).1.cells.1); have hg1 := (hf2.below.cell (p := ⟨bq, 1, none⟩) hbq).trans ((unhide HA).1.cells.2.1); have HF2 := hide hf2; clear hf2 hf2'))
          go_wp2
          go_ret
          obtain ⟨p1, b1, a1, le1, ll1⟩ := unhide HA
          obtain ⟨f1, d1, d2, d3⟩ := unhide HB
          have z := StepPost.then f1 d1 d2 d3 (StepPost.same (unhide HK) p1 b1 a1 (unhide HF2))
          rw [le1, ll1] at z
          exact z
end Go.Proofs.YtigpgnjgmaoejaaGreat

/- Two pairs and the book, in new memory, apart from one another: what a step of one of them leaves. Conditions: as in the hypotheses. -/
namespace Go.Proofs.YtigpgnjgmaoejaaGreat
open Go.RowKit

/-- The memory of a pair. -/
def Foot (bq bp : Nat) (F : Nat → Prop) (v : Value) : Nat → Prop := fun k => k = bq ∨ F k ∨ RefS bp v k

/-- Two pairs (their blocks: the pair's, the program's pit's, the document's pit's) and the book lie in memory from block B on. -/
def Two (Rep : World → Nat → (Nat → Prop) → Ref → Prop) (B : Nat) (w : World) (bq bx bp bq' bx' bp' bb ne nl : Nat) (nx : Int) : Prop :=
  ∃ F v s F' v' s' ro E L ve vm vl vn, PairAt Rep w bq bx bp F v s ∧ PairAt Rep w bq' bx' bp' F' v' s' ∧ BookAt w bb ro E L nx ve vm vl vn ∧ E.length ≤ ne ∧ L.length ≤ nl ∧
    Apart bq bp F v ro ∧ Apart bq' bp' F' v' ro ∧ (∀ k, Foot bq bp F v k → ¬ Foot bq' bp' F' v' k) ∧ ∀ k, (Foot bq bp F v k ∨ Foot bq' bp' F' v' k ∨ ro k < 6) → B ≤ k

theorem Two.swap {Rep : World → Nat → (Nat → Prop) → Ref → Prop} {B : Nat} {w : World} {bq bx bp bq' bx' bp' bb ne nl : Nat} {nx : Int} (h : Two Rep B w bq bx bp bq' bx' bp' bb ne nl nx) : Two Rep B w bq' bx' bp' bq bx bp bb ne nl nx := by
  obtain ⟨F, v, s, F', v', s', ro, E, L, ve, vm, vl, vn, h1, h2, h3, h4, h5, h6, h7, h8, h9⟩ := h
  exact ⟨F', v', s', F, v, s, ro, E, L, ve, vm, vl, vn, h2, h1, h3, h4, h5, h7, h6, fun k a b => h8 k b a, fun k a => h9 k (a.elim (fun a => .inr (.inl a)) (fun a => a.elim .inl (fun a => .inr (.inr a))))⟩

theorem Two.more {Rep : World → Nat → (Nat → Prop) → Ref → Prop} {B : Nat} {w : World} {bq bx bp bq' bx' bp' bb ne nl ne2 nl2 : Nat} {nx : Int} (h : Two Rep B w bq bx bp bq' bx' bp' bb ne nl nx) (a : ne ≤ ne2) (b : nl ≤ nl2) : Two Rep B w bq bx bp bq' bx' bp' bb ne2 nl2 nx := by
  obtain ⟨F, v, s, F', v', s', ro, E, L, ve, vm, vl, vn, h1, h2, h3, h4, h5, h6⟩ := h
  exact ⟨F, v, s, F', v', s', ro, E, L, ve, vm, vl, vn, h1, h2, h3, by omega, by omega, h6⟩

theorem Two.no {Rep : World → Nat → (Nat → Prop) → Ref → Prop} (K : PitLaw Rep) {B : Nat} {w w' : World} {bq bx bp bq' bx' bp' bb ne nl : Nat} {nx : Int} (h : Two Rep B w bq bx bp bq' bx' bp' bb ne nl nx) (hf : Fr No w w') : Two Rep B w' bq bx bp bq' bx' bp' bb ne nl nx := by
  obtain ⟨F, v, s, F', v', s', ro, E, L, ve, vm, vl, vn, h1, h2, h3, h4, h5, h6⟩ := h
  exact ⟨F, v, s, F', v', s', ro, E, L, ve, vm, vl, vn, h1.no K hf, h2.no K hf, h3.fr hf (fun _ _ => id), h4, h5, h6⟩

/-- A step of the first pair: the second one is as it was. -/
theorem two_step {Rep : World → Nat → (Nat → Prop) → Ref → Prop} (K : PitLaw Rep) {B : Nat} {w w' : World} {bq bx bp bq' bx' bp' bb : Nat} {F F' : Nat → Prop} {v v' : Value} {s' s2 : Ref} {ro : Nat → Nat} {nx2 : Int} {ne nl : Nat} {e : Ending}
    (h2 : PairAt Rep w bq' bx' bp' F' v' s') (h7 : Apart bq' bp' F' v' ro)
    (h8 : ∀ k, Foot bq bp F v k → ¬ Foot bq' bp' F' v' k) (h9 : ∀ k, (Foot bq bp F v k ∨ Foot bq' bp' F' v' k ∨ ro k < 6) → B ≤ k) (hB : B ≤ w.heap.size)
    (h : StepPost Rep w bq bx bp bb F v ro s2 ne nl nx2 e w') : Two Rep B w' bq bx bp bq' bx' bp' bb ne nl nx2 ∧ Fr (fun k => B ≤ k) w w' ∧ e = .returned (.bool true) := by
  obtain ⟨he, F1, v1, ro1, E1, L1, ve1, vm1, vl1, vn1, p1, b1, le, ll, ap1, hf, c1, c2, c3⟩ := h
  have q1 : ∀ k, Foot bq' bp' F' v' k → ¬ (F k ∨ RefS bp v k ∨ ro k < 6) := by
    intro k hk hs
    rcases hs with a | a | a
    · exact h8 k (.inr (.inl a)) hk
    · exact h8 k (.inr (.inr a)) hk
    · rcases hk with rfl | b | b
      · have := h7.qb; omega
      · have := h7.fb k b; omega
      · have := h7.rb k b; omega
  have hqlt : ∀ k, Foot bq' bp' F' v' k → k < w.heap.size := by
    rintro k (rfl | b | rfl | b)
    · exact lt_of_heap h2.blk
    · exact K.lt h2.rep k b
    · exact h2.ref.lt
    · exact (h2.ref.own.lt k b).2
  have h2' : PairAt Rep w' bq' bx' bp' F' v' s' :=
    ⟨hf.heap h2.blk (q1 _ (.inl rfl)), K.fr h2.rep hf (fun k hk => q1 k (.inr (.inl hk))), h2.ref.fr hf (q1 _ (.inr (.inr (.inl rfl)))) (fun g hg => q1 g (.inr (.inr (.inr hg)))), h2.good, h2.len⟩
  have ro6 : ∀ k, Foot bq' bp' F' v' k → 6 ≤ ro1 k := fun k hk => Nat.le_of_not_lt fun h => by
    rcases c3 k h with a | a
    · exact q1 k hk (.inr (.inr a))
    · have := hqlt k hk; omega
  refine ⟨⟨F1, v1, s2, F', v', s', ro1, E1, L1, ve1, vm1, vl1, vn1, p1, h2', b1, by omega, by omega, ap1, ⟨h7.fr, fun k hk => ro6 k (.inr (.inl hk)), fun k hk => ro6 k (.inr (.inr hk)), h7.qf, h7.qr, ro6 _ (.inl rfl)⟩, ?_, ?_⟩, hf.mono ?_, he⟩
  · rintro k (a | a | a) hk
    · exact h8 k (.inl a) hk
    · rcases c1 k a with b | b
      · exact h8 k (.inr (.inl b)) hk
      · have := hqlt k hk; omega
    · rcases c2 k a with b | b
      · exact h8 k (.inr (.inr b)) hk
      · have := hqlt k hk; omega
  · rintro k (a | a | a)
    · rcases a with a | a | a
      · exact h9 k (.inl (.inl a))
      · rcases c1 k a with b | b
        · exact h9 k (.inl (.inr (.inl b)))
        · omega
      · rcases c2 k a with b | b
        · exact h9 k (.inl (.inr (.inr b)))
        · omega
    · exact h9 k (.inr (.inl a))
    · rcases c3 k a with b | b
      · exact h9 k (.inr (.inr b))
      · omega
  · rintro k _ (a | a | a)
    · exact h9 k (.inl (.inr (.inl a)))
    · exact h9 k (.inl (.inr (.inr a)))
    · exact h9 k (.inr (.inr a))

end Go.Proofs.YtigpgnjgmaoejaaGreat
