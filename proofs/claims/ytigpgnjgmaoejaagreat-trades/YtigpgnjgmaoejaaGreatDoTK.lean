/- The document's Do over a good pit, and that the pit stays good. Condition: the pit is good. -/
import Derived.Test.YtigpgnjgmaoejaaGreatRefWX
import Derived.Test.YtigpgnjgmaoejaaGreatSimAT
import Derived.Test.YtigpgnjgmaoejaaGreatLawI
import Derived.Test.YtigpgnjgmaoejaaGreatLawD
import Derived.Test.YtigpgnjgmaoejaaGreatLawH
namespace Go.Proofs.YtigpgnjgmaoejaaGreat
open Go.RowKit

theorem opens_ok {s : Ref} (hg : Good s) : ∀ nb : Nat, 1 ≤ nb → nb ≤ 8 → OInv nb s.L (priceO s.L nb).vol ∧ (priceO s.L nb).vol ≤ 10000000000 := fun nb h1 _ => by
  refine ⟨open_inv hg h1, ?_⟩
  obtain ⟨k, rfl⟩ : ∃ k, nb = k + 1 := ⟨nb - 1, by omega⟩
  have e : (((k + 1 : Nat)) : Int) = (k : Int) + 1 := by omega
  rw [e, price_open hg k]
  have := openTn_bound (good_bk hg k)
  omega
theorem good_all {s : Ref} (hg : Good s) (c : Cmd) : Good (tDo s c).1 ∧ (tDo s c).1.L.length ≤ 10000 ∧ (tDo s c).2.length ≤ 100000 := by
  have h := good_do hg (fun nb h1 h8 => (opens_ok hg nb h1 h8).1) c
  have h1 := h.1.len
  have h2 := h.2
  have h3 := hg.len
  exact ⟨h.1, by omega, by omega⟩
theorem do_any (bp : Nat) (v : Value) (s : Ref) (c : Cmd) (w : World) (hr : RefAt w bp v s) (hg : Good s) :
    Calls Tryz.prog 31 #[.pointer (some ⟨bp, 0, none⟩), c.val] w (TPost w bp v (tDo s c)) := do_T bp v s c w hr hg (opens_ok hg)

set_option maxHeartbeats 1000000 in
theorem volume_T (bp : Nat) (v : Value) (s : Ref) (w : World) (hr : RefAt w bp v s) :
    Calls Tryz.prog 38 #[.pointer (some ⟨bp, 0, none⟩)] w fun e w' => e = .returned (.int .i64 (wrp (volTo s.td 8))) ∧ Fr No w w' := by
  have HR := hide hr
  clear hr
  go_enter Tryz.func38, Tryz.ntmps38
  go_wp2
  go_loopw [3, 4] (fun n i wr => ∃ k : Nat, k ≤ 8 ∧ i = .int .i64 ((k : Int) + 1) ∧ n = .int .i64 (wrp (volTo s.td k)) ∧ ∃ m, wr = w.drewN m) (fun _ i _ => 9 - (intOf i).toNat)
  case atStart => exact ⟨0, by omega, rfl, by rw [show wrp (volTo s.td 0) = 0 from by simp [volTo, wrp, IntKind.wrap_i64]], 0, rfl⟩
  case round =>
    obtain ⟨k, hk, rfl, rfl, m, rfl⟩ := hrel
    by_cases hlt : k < 8
    · have hc := (unhide HR).cellTd (k + 1) (by omega)
      have HS : Hid (volTo s.td (k + 1) = volTo s.td k + s.td (k + 1)) := rfl
      obtain ⟨x, hx⟩ : ∃ x, wrp (volTo s.td k) = x := ⟨_, rfl⟩
      rw [hx]
      have HX := hide hx
      clear hx
      generalize s.td (k + 1) = y at *
      go_wp2
      go_roundw
      case rel => exact ⟨k + 1, by omega, by go_num, valI (by rw [unhide HS, ← wrp_plus (unhide HX), IntKind.wrap_i64]; unfold wrap64; rfl), m, rfl⟩
      case measure => simp [intOf]; omega
    · have hk8 : k = 8 := by omega
      subst hk8
      go_wp2
      go_ret
      exact ⟨rfl, (Fr.refl _ _).drewN _⟩
end Go.Proofs.YtigpgnjgmaoejaaGreat

/- The law's do: a command is done by both pits, which say the same. Conditions: both pits and the book lie in memory, apart from one another. -/
namespace Go.Proofs.YtigpgnjgmaoejaaGreat
open Go.RowKit

/-- The pits of a pair and the book do not share memory. -/
structure Apart (bq bp : Nat) (F : Nat → Prop) (v : Value) (ro : Nat → Nat) : Prop where
  fr : ∀ k, F k → ¬ RefS bp v k
  fb : ∀ k, F k → 6 ≤ ro k
  rb : ∀ k, RefS bp v k → 6 ≤ ro k
  qf : ¬ F bq
  qr : ¬ RefS bp v bq
  qb : 6 ≤ ro bq

/-- What a step leaves: the pair, the book, apart again, in old memory of theirs or new memory. -/
def StepPost (Rep : World → Nat → (Nat → Prop) → Ref → Prop) (w : World) (bq bx bp bb : Nat) (F : Nat → Prop) (v : Value) (ro : Nat → Nat) (s' : Ref) (ne nl : Nat) (nx : Int) (e : Ending) (w' : World) : Prop :=
  e = .returned (.bool true) ∧ ∃ F' v' ro' E' L' ve' vm' vl' vn', PairAt Rep w' bq bx bp F' v' s' ∧ BookAt w' bb ro' E' L' nx ve' vm' vl' vn' ∧ E'.length = ne ∧ L'.length = nl ∧ Apart bq bp F' v' ro' ∧
    Fr (fun k => F k ∨ RefS bp v k ∨ ro k < 6) w w' ∧ (∀ k, F' k → F k ∨ w.heap.size ≤ k) ∧ (∀ k, RefS bp v' k → RefS bp v k ∨ w.heap.size ≤ k) ∧ ∀ k, ro' k < 6 → ro k < 6 ∨ w.heap.size ≤ k

set_option maxRecDepth 100000 in
set_option maxHeartbeats 4000000 in
theorem pair_do {Rep : World → Nat → (Nat → Prop) → Ref → Prop} (K : PitLaw Rep) (bq bx bp bb : Nat) (F : Nat → Prop) (v : Value) (s : Ref) (ro : Nat → Nat) (E L : List (Value × Int)) (nx : Int) (ve vm vl vn : Value) (c : Cmd) (w : World)
    (h : PairAt Rep w bq bx bp F v s) (hb : BookAt w bb ro E L nx ve vm vl vn) (hap : Apart bq bp F v ro)
    (hg' : Good (tDo s c).1) (hl' : (tDo s c).1.L.length ≤ 10000) (hev : (tDo s c).2.length ≤ 100000) (hE : E.length ≤ 5000000000000) (hn1 : -9000000000000000000 ≤ nx) (hn2 : nx ≤ 0) :
    Calls Tryz.prog 20 #[.pointer (some ⟨bq, 0, none⟩), .pointer (some ⟨bb, 0, none⟩), c.val] w (StepPost Rep w bq bx bp bb F v ro (tDo s c).1 (E.length + 4) L.length (nx - 1)) := by
  obtain ⟨hc0, hc1, hbq⟩ := h.cells
  have HP := hide h
  have HK := hide K
  have HB := hide (And.intro hb hap)
  have HG := hide hg'
  have hsl := h.len
  have HS := hide hl'
  generalize hXd : tDo s c = X at *
  have HXD := hide hXd
  obtain ⟨cw, cid, ct, cb, cs, ck, cp, cc⟩ := c
  unfold Cmd.val
  simp only
  have hFlt := K.lt h.rep
  have hFw : ¬ F w.heap.size := fun e => by have := hFlt _ e; omega
  have hRlt : ∀ k, RefS bp v k → k < w.heap.size := by
    rintro k (rfl | e)
    · exact h.ref.lt
    · exact (h.ref.own.lt k e).2
  have HFL := hide (And.intro hFlt hRlt)
  have hqf := hap.qf
  have HQ := hide (And.intro hqf hFw)
  clear h K hb hap hg' hXd hFlt hRlt hqf hFw hl'
  go_enter Tryz.func20, Tryz.ntmps20
  go_wp2
  generalize hW0 : World.alloc w _ = W0
  have hf0 : Fr No w W0 := by rw [← hW0]; exact (Fr.refl _ _).alloc _
  have hs0 : w.heap.size < W0.heap.size := by rw [← hW0]; simp
  have hbx0 : W0.heap[w.heap.size]? = some (.cells #[.int .i64 cw, .int .i64 cid, .int .i64 ct, .int .i64 cb, .int .i64 cs, .int .i64 ck, .int .i64 cp, .int .i64 cc] 31 (0, 0)) := by rw [← hW0]; exact heap_alloc_new w _
  clear hW0
  obtain ⟨y0, y1, y2, y3, y4, y5, y6, y7, _⟩ := box8 hbx0
  have hd0 := (hf0.below.cell (p := ⟨bq, 0, none⟩) hbq).trans hc0
  have hd1 := (hf0.below.cell (p := ⟨bq, 1, none⟩) hbq).trans hc1
  have HF0 := hide (And.intro hf0 hbx0)
  clear hf0 hbx0 hc0 hc1
  go_region_held3 (fun w' : World => w'.cell? ⟨bq, 0, none⟩ = some (.pointer (some ⟨bx, 0, none⟩)) ∧ w'.cell? ⟨w.heap.size, 0, none⟩ = some (.int .i64 cw) ∧ w'.cell? ⟨w.heap.size, 1, none⟩ = some (.int .i64 cid) ∧ w'.cell? ⟨w.heap.size, 2, none⟩ = some (.int .i64 ct) ∧ w'.cell? ⟨w.heap.size, 3, none⟩ = some (.int .i64 cb) ∧ w'.cell? ⟨w.heap.size, 4, none⟩ = some (.int .i64 cs) ∧ w'.cell? ⟨w.heap.size, 5, none⟩ = some (.int .i64 ck) ∧ w'.cell? ⟨w.heap.size, 6, none⟩ = some (.int .i64 cp) ∧ w'.cell? ⟨w.heap.size, 7, none⟩ = some (.int .i64 cc)) (go_keep)
    (first
      | (go_at_call 13; refine ((unhide HK).do_ (F := F) (s := s) ⟨cw, cid, ct, cb, cs, ck, cp, cc⟩ ((unhide HK).fr (unhide HP).rep (unhide HF0).1.drew (fun _ _ => id)) (unhide HP).good).mono ?_; rintro e w1 ⟨r1, F1, rfl, hrep1, hf1', hF1, hes1, hrF1⟩; have hf1 : Fr F W0 w1 := ((Fr.refl _ _).drew).same hf1'; have hbx1 := hf1.heap (unhide HF0).2 (unhide HQ).2; obtain ⟨z0, z1, z2, z3, z4, z5, z6, z7, _⟩ := box8 hbx1; have he0 := (World.cell?_of_block (a := ⟨bq, 0, none⟩) (hf1.block bq (by omega) (unhide HQ).1)).trans hd0; have he1 := (World.cell?_of_block (a := ⟨bq, 1, none⟩) (hf1.block bq (by omega) (unhide HQ).1)).trans hd1; have HN1 := hide (And.intro hrep1 (And.intro hf1 (And.intro hF1 (And.intro hes1 (And.intro hrF1 hbx1))))); clear hrep1 hf1 hf1' hF1 hes1 hrF1 hbx1))
  go_wp2
  obtain ⟨hrep1, hf1, hF1, hes1, hrF1, hbx1⟩ := unhide HN1
  obtain ⟨hb, hap⟩ := unhide HB
  obtain ⟨hFlt, hRlt⟩ := unhide HFL
  have hf01 := (unhide HF0).1
  have hR1 : RefAt w1 bp v s := ((unhide HP).ref.no hf01).fr hf1 (fun e => hap.fr _ e (.inl rfl)) (fun g hg e => hap.fr _ e (.inr hg))
  have hs1 := hf1.size
  have hRw : ¬ RefS bp v w.heap.size := fun e => by have := hRlt _ e; omega
  have HN2 := hide (And.intro hR1 (And.intro hap.qr hRw))
  have hgd := (unhide HP).good
  have HGD := hide hgd
  clear hrep1 hf1 hF1 hes1 hrF1 hb hap hFlt hRlt hf01 hR1 hRw hgd hd0 hd1 y0 y1 y2 y3 y4 y5 y6 y7 he0
  go_region_held3 (fun w' : World => w'.cell? ⟨bq, 1, none⟩ = some (.pointer (some ⟨bp, 0, none⟩)) ∧ w'.cell? ⟨w.heap.size, 0, none⟩ = some (.int .i64 cw) ∧ w'.cell? ⟨w.heap.size, 1, none⟩ = some (.int .i64 cid) ∧ w'.cell? ⟨w.heap.size, 2, none⟩ = some (.int .i64 ct) ∧ w'.cell? ⟨w.heap.size, 3, none⟩ = some (.int .i64 cb) ∧ w'.cell? ⟨w.heap.size, 4, none⟩ = some (.int .i64 cs) ∧ w'.cell? ⟨w.heap.size, 5, none⟩ = some (.int .i64 ck) ∧ w'.cell? ⟨w.heap.size, 6, none⟩ = some (.int .i64 cp) ∧ w'.cell? ⟨w.heap.size, 7, none⟩ = some (.int .i64 cc)) (go_keep)
    (first
      | (go_at_call 31; refine (do_any bp v s ⟨cw, cid, ct, cb, cs, ck, cp, cc⟩ _ ((unhide HN2).1.no ((Fr.refl _ _).drew)) (unhide HGD)).mono ?_; rintro e w2 ⟨r2, v2, rfl, ho2⟩; have hf2 : Fr (RefS bp v) w1 w2 := ((Fr.refl _ _).drew).same ho2.fr; have hbx2 := hf2.heap hbx1 (unhide HN2).2.2; obtain ⟨t0, t1, t2, t3, t4, t5, t6, t7, _⟩ := box8 hbx2; have hu1 := (World.cell?_of_block (a := ⟨bq, 1, none⟩) (hf2.block bq (by omega) (unhide HN2).2.1)).trans he1; have HN3 := hide (And.intro ho2 hf2); clear ho2 hf2 hbx2))
  obtain ⟨hrep1, hf1, hF1, hes1, hrF1, _⟩ := unhide HN1
  obtain ⟨ho2, hf2⟩ := unhide HN3
  obtain ⟨hb, hap⟩ := unhide HB
  obtain ⟨hFlt, hRlt⟩ := unhide HFL
  have hf01 := (unhide HF0).1
  rw [unhide HXD] at hrep1 hes1 ho2
  have hr1lt : ∀ k, OwnS r1 k → W0.heap.size ≤ k ∧ k < w1.heap.size := fun k hk => hes1.lt k hk
  have hes2 : Es w2 0 r1 X.2 := own_base (own_fr hes1 hf2 (fun g hg e => by have := hRlt _ e; have := (hr1lt g hg).1; omega)) (fun _ _ => Nat.zero_le _)
  have hev2 : Es w2 0 r2 X.2 := own_base ho2.evs (fun _ _ => Nat.zero_le _)
  have hFro : ∀ k, w.heap.size ≤ k → 6 ≤ ro k := fun k hk => Nat.le_of_not_lt fun h => by have := hb.rlt k h; omega
  have hb2 : BookAt w2 bb ro E L nx ve vm vl vn := ((hb.fr hf01 (fun _ _ => id)).fr hf1 (fun k hk e => by have := hap.fb k e; omega)).fr hf2 (fun k hk e => by have := hap.rb k e; omega)
  have HM := hide (And.intro hes2 (And.intro hev2 hb2))
  have hr1ro : ∀ k, OwnS r1 k → 6 ≤ ro k := fun k hk => hFro k (by have := (hr1lt k hk).1; omega)
  have HRO := hide hr1ro
  clear hrep1 hf1 hF1 hes1 hrF1 ho2 hf2 hb hap hFlt hRlt hf01 hr1lt hes2 hev2 hFro hb2 hr1ro
  go_wp2_with (first
    | (go_at_call 32; refine (same_any _ _ X.2 _ (unhide HM).1 (unhide HM).2.1 hev).mono ?_; rintro e w3 ⟨rfl, hf3⟩; have HF3 := hide hf3; clear hf3)
    | (go_at_call 33; refine (ownsEvents_any bb ro E L nx ve vm vl vn r1 X.2 _ ((unhide HM).2.2.fr (unhide HF3) (fun _ _ => id)) (own_fr (unhide HM).1 (unhide HF3) (fun _ _ => id)) (unhide HRO) hev hE hn1 hn2).mono ?_; rintro e w4 ⟨rfl, ro4, v41, v42, v43, ve4, vm4, hb4, hf4, hro4⟩; have HN4 := hide (And.intro hb4 (And.intro hf4 hro4)); clear hb4 hf4 hro4))
  go_ret
  obtain ⟨hb4, hf4, hro4⟩ := unhide HN4
  obtain ⟨hrep1, hf1, hF1, hes1, hrF1, _⟩ := unhide HN1
  obtain ⟨ho2, hf2⟩ := unhide HN3
  obtain ⟨hb, hap⟩ := unhide HB
  obtain ⟨hFlt, hRlt⟩ := unhide HFL
  have hf01 := (unhide HF0).1
  have hf3 := unhide HF3
  rw [unhide HXD] at hrep1 hes1 ho2
  have hr1lt : ∀ k, OwnS r1 k → W0.heap.size ≤ k ∧ k < w1.heap.size := fun k hk => hes1.lt k hk
  have hFro : ∀ k, w.heap.size ≤ k → 6 ≤ ro k := fun k hk => Nat.le_of_not_lt fun h => by have := hb.rlt k h; omega
  have s01 := hf01.size
  have s1 := hf1.size
  have s2 := hf2.size
  have s3 := hf3.size
  have hF1' : ∀ k, F1 k → F k ∨ W0.heap.size ≤ k := fun k hk => hF1 k hk
  have hF1lt := (unhide HK).lt hrep1
  have hv2 : ∀ k, v2.ownBlock = some k → (v.ownBlock = some k ∨ w1.heap.size ≤ k) ∧ k < w2.heap.size := fun k hk => ⟨ho2.new k hk, (ho2.ref.own.lt k hk).2⟩
  have hF1R : ∀ k, F1 k → ¬ RefS bp v k := fun k hk e => by
    rcases hF1' k hk with h | h
    · exact hap.fr k h e
    · have := hRlt k e; omega
  have hF1o : ∀ k, F1 k → 6 ≤ ro k := fun k hk => (hF1' k hk).elim (hap.fb k) (fun h => hFro k (by omega))
  have hR2 : ∀ k, RefS bp v2 k → RefS bp v k ∨ w1.heap.size ≤ k := by
    rintro k (h | h)
    · exact .inl (.inl h)
    · exact (hv2 k h).1.imp .inr id
  have hR2lt : ∀ k, RefS bp v2 k → k < w2.heap.size := by
    rintro k (h | h)
    · have := hRlt k (.inl h); omega
    · exact (hv2 k h).2
  have hR2o : ∀ k, RefS bp v2 k → 6 ≤ ro k := fun k hk => (hR2 k hk).elim (hap.rb k) (fun h => hFro k (by omega))
  have hR2r : ∀ k, RefS bp v2 k → ¬ OwnS r1 k := fun k hk e => by
    have := hr1lt k e
    rcases hR2 k hk with h | h
    · have := hRlt k h; omega
    · omega
  have hb4o : ∀ k, k < w3.heap.size → 6 ≤ ro k → ¬ OwnS r1 k → 6 ≤ ro4 k := fun k h1 h2 h3 => Nat.le_of_not_lt fun h => by
    rcases hro4 k h with h' | h' | h'
    · omega
    · exact h3 h'
    · omega
  have hbqr : ¬ OwnS r1 bq := fun e => by have := (hr1lt _ e).1; omega
  refine ⟨rfl, F1, v2, ro4, _, L, ve4, vm4, vl, vn, ⟨?_, ?_, ?_, unhide HG, unhide HS⟩, hb4, by simp, rfl, ⟨?_, ?_, ?_, ?_, ?_, ?_⟩, ?_, ?_, ?_, ?_⟩
  · exact hf4.heap (hf3.heap (hf2.heap (hf1.heap (hf01.heap (unhide HP).blk id) hap.qf) hap.qr) id) (fun e => e.elim (fun e => by have := hap.qb; omega) hbqr)
  · exact (unhide HK).fr ((unhide HK).fr ((unhide HK).fr hrep1 hf2 hF1R) hf3 (fun _ _ => id)) hf4 (fun k hk e => e.elim (fun e => by have := hF1o k hk; omega) (fun e => hrF1 k e hk))
  · exact (ho2.ref.no hf3).fr hf4 (fun e => e.elim (fun e => by have := hR2o bp (.inl rfl); omega) (hR2r bp (.inl rfl))) (fun g hg e => e.elim (fun e => by have := hR2o g (.inr hg); omega) (hR2r g (.inr hg)))
  · intro k hk e
    rcases hR2 k e with h | h
    · exact hF1R k hk h
    · have := hF1lt k hk; omega
  · exact fun k hk => hb4o k (by have := hF1lt k hk; omega) (hF1o k hk) (fun e => hrF1 k e hk)
  · exact fun k hk => hb4o k (by have := hR2lt k hk; omega) (hR2o k hk) (hR2r k hk)
  · intro e
    rcases hF1' _ e with h | h
    · exact hap.qf h
    · omega
  · intro e
    rcases hR2 _ e with h | h
    · exact hap.qr h
    · omega
  · exact hb4o bq (by omega) hap.qb hbqr
  · have a1 : Fr (fun k => F k ∨ RefS bp v k ∨ ro k < 6) w w3 := (((hf01.of_no.same (hf1.mono fun k _ hk => .inl hk)).same (hf2.mono fun k _ hk => .inr (.inl hk))).quiet hf3)
    exact a1.trans hf4 (fun k hk e => e.elim (fun e => .inr (.inr e)) (fun e => by have := (hr1lt k e).1; omega))
  · exact fun k hk => (hF1' k hk).imp id (fun h => by omega)
  · exact fun k hk => (hR2 k hk).imp id (fun h => by omega)
  · intro k hk
    rcases hro4 k hk with h | h | h
    · exact .inl h
    · right; have := (hr1lt k h).1; omega
    · right; omega
end Go.Proofs.YtigpgnjgmaoejaaGreat

/- The law's depth: both pits tell the same levels. Conditions: both pits and the book lie in memory, apart from one another. -/
namespace Go.Proofs.YtigpgnjgmaoejaaGreat
open Go.RowKit

/-- What Depth tells, and its error. -/
def depthX (s : Ref) (b sd most : Int) : List Lev × Int := if inB b 1 8 = true ∧ sideOk sd = true then (cutTo most (levelsO s.L b sd), 0) else ([], 2)

def DepthPost (w : World) (X : List Lev × Int) (e : Ending) (w' : World) : Prop := ∃ r, e = .returned (.tuple #[r, .int .i64 X.2]) ∧ Ls w' w.heap.size r X.1 ∧ Fr No w w'

theorem depth_ref (bp : Nat) (v : Value) (s : Ref) (b sd most : Int) (w : World) (hr : RefAt w bp v s) (hn : s.L.length ≤ 100000) (hg : Good s) :
    Calls Tryz.prog 64 #[.pointer (some ⟨bp, 0, none⟩), .int .i64 b, .int .i64 sd, .int .i64 most] w (DepthPost w (depthX s b sd most)) := by
  unfold depthX
  by_cases h : inB b 1 8 = true ∧ sideOk sd = true
  · rw [if_pos h]
    refine (depth_any bp v s b sd most w hr hn (fun o ho => by have := (hg.ord o ho).2.2.1; omega) h.1 (by simpa [sideOk] using h.2)).mono fun e w' ⟨r, he, hl, hf⟩ => ⟨r, he, hl, hf⟩
  · rw [if_neg h]
    have h' : inB b 1 8 = false ∨ sideOk sd = false := by
      cases h1 : inB b 1 8
      · exact .inl rfl
      · cases h2 : sideOk sd
        · exact .inr rfl
        · exact absurd ⟨h1, h2⟩ h
    exact (depth_bad bp b sd most w h').mono fun e w' ⟨he, hf⟩ => ⟨_, he, World.ownsRow_nil _ _ _ _, hf⟩

theorem depth_pit {Rep : World → Nat → (Nat → Prop) → Ref → Prop} (K : PitLaw Rep) (bx : Nat) (F : Nat → Prop) (s : Ref) (b sd most : Int) (w : World) (hr : Rep w bx F s) (hg : Good s) :
    Calls Tryz.prog 63 #[.pointer (some ⟨bx, 0, none⟩), .int .i64 b, .int .i64 sd, .int .i64 most] w (DepthPost w (depthX s b sd most)) := by
  unfold depthX
  by_cases h : inB b 1 8 = true ∧ sideOk sd = true
  · rw [if_pos h]
    exact (K.depth_ b sd most hr hg h.1 (by simpa [sideOk] using h.2)).mono fun e w' ⟨r, he, hl, hf⟩ => ⟨r, he, hl, hf⟩
  · rw [if_neg h]
    have h' : inB b 1 8 = false ∨ sideOk sd = false := by
      cases h1 : inB b 1 8
      · exact .inl rfl
      · cases h2 : sideOk sd
        · exact .inr rfl
        · exact absurd ⟨h1, h2⟩ h
    exact (K.depthBad b sd most hr hg h').mono fun e w' ⟨he, hf⟩ => ⟨_, he, World.ownsRow_nil _ _ _ _, hf⟩

theorem addLev_len {l : List Lev} {x : Ord} : (addLev l x).length ≤ l.length + 1 := by
  unfold addLev
  split
  · simp
  · split
    · rename_i y hy _
      have := List.length_pos_of_mem (List.mem_of_getLast? hy)
      simp only [List.length_append, List.length_dropLast, List.length_cons, List.length_nil]; omega
    · simp
theorem dWhile_len {b s : Int} : ∀ {f : Nat} {L : List Ord} {l : List Lev}, (dWhile b s f L l).length ≤ l.length + f
  | 0, _, l => by simp [dWhile]
  | f + 1, L, l => by
    unfold dWhile
    split
    · omega
    · split
      · omega
      · rename_i x _
        have h1 := dWhile_len (b := b) (s := s) (f := f) (L := L.eraseIdx ‹Nat›) (l := addLev l x)
        have h2 := addLev_len (l := l) (x := x)
        omega
theorem cutTo_len {most : Int} {l : List Lev} : (cutTo most l).length ≤ l.length := by
  unfold cutTo
  by_cases h : 0 ≤ most ∧ most < l.length
  · rw [if_pos h]; simp; omega
  · rw [if_neg h]; exact Nat.le_refl _
theorem depthX_len {s : Ref} {b sd most : Int} : (depthX s b sd most).1.length ≤ s.L.length := by
  unfold depthX
  by_cases h : inB b 1 8 = true ∧ sideOk sd = true
  · rw [if_pos h]
    have h1 := dWhile_len (b := b) (s := sd) (f := s.L.length) (L := s.L) (l := [])
    have h2 := cutTo_len (most := most) (l := levelsO s.L b sd)
    simp only [levelsO, List.length_nil, Nat.zero_add] at h1 h2 ⊢
    omega
  · rw [if_neg h]; simp

set_option maxRecDepth 100000 in
set_option maxHeartbeats 4000000 in
theorem pair_depth {Rep : World → Nat → (Nat → Prop) → Ref → Prop} (K : PitLaw Rep) (bq bx bp bb : Nat) (F : Nat → Prop) (v : Value) (s : Ref) (ro : Nat → Nat) (E L : List (Value × Int)) (nx : Int) (ve vm vl vn : Value) (b sd most : Int) (w : World)
    (h : PairAt Rep w bq bx bp F v s) (hb : BookAt w bb ro E L nx ve vm vl vn) (hap : Apart bq bp F v ro) (hL : L.length ≤ 5000000000000) (hn1 : -9000000000000000000 ≤ nx) (hn2 : nx ≤ 0) :
    Calls Tryz.prog 35 #[.pointer (some ⟨bq, 0, none⟩), .pointer (some ⟨bb, 0, none⟩), .int .i64 b, .int .i64 sd, .int .i64 most] w (StepPost Rep w bq bx bp bb F v ro s E.length (L.length + 4) (nx - 1)) := by
  obtain ⟨hc0, hc1, hbq⟩ := h.cells
  have HP := hide h
  have HK := hide K
  have HB := hide (And.intro hb hap)
  have hxl := depthX_len (s := s) (b := b) (sd := sd) (most := most)
  have hsl := h.len
  generalize hX : depthX s b sd most = X at *
  have HX := hide hX
  have hxl2 : X.1.length ≤ 100000 := by omega
  clear h K hb hap hX hxl
  go_enter Tryz.func35, Tryz.ntmps35
  go_wp2_with fail
  refine (depth_pit (unhide HK) bx F s b sd most w (unhide HP).rep (unhide HP).good).mono ?_
  rintro e w1 ⟨r1, rfl, hl1, hf1⟩
  rw [unhide HX] at hl1 ⊢
  have hd1 := (hf1.below.cell (p := ⟨bq, 1, none⟩) hbq).trans hc1
  have hs1 := hf1.size
  obtain ⟨a1, c1, rfl, _⟩ := own_form hl1
  have HF1 := hide (And.intro hl1 hf1)
  clear hl1 hf1 hc0 hc1
  go_wp2_with fail
  refine (depth_ref bp v s b sd most w1 ((unhide HP).ref.no (unhide HF1).2) (by omega) (unhide HP).good).mono ?_
  rintro e w2 ⟨r2, rfl, hl2, hf2⟩
  rw [unhide HX] at hl2 ⊢
  obtain ⟨a2, c2, rfl, _⟩ := own_form hl2
  have hs2 := hf2.size
  have HF2 := hide (And.intro hl2 hf2)
  clear hl2 hf2
  go_wp2_with (go_at_call 65; refine (num_any _ _).mono ?_; rintro e w3 ⟨rfl, hw3⟩; have hw4 := hw3.symm; subst hw4)
  go_loopg [15, 16] X.1.length (fun f sm i wr => ∃ k : Nat, ∃ m, k ≤ X.1.length ∧ f = X.1.length - k ∧ sm = .bool true ∧ i = .int .i64 k ∧ wr = w2.drewN m)
  case atStart => exact ⟨0, 0, Nat.zero_le _, rfl, by simp, rfl, rfl⟩
  case round =>
    obtain ⟨k, m, hk, hgk, rfl, rfl, rfl⟩ := hrel
    have HGK := hide hgk
    clear hgk
    have hq1 : Ls w2 0 (.slice a1 X.1.length c1) X.1 := own_base (own_fr (unhide HF1).1 (unhide HF2).2 (fun _ _ => id)) (fun _ _ => Nat.zero_le _)
    by_cases hlt : k < X.1.length
    · obtain ⟨g1, rfl, hg1, _, i0, i1, i2, _⟩ := ls_at hq1 k hlt
      obtain ⟨g2, rfl, hg2, _, j0, j1, j2, _⟩ := ls_at (unhide HF2).1 k hlt
      have hkI : (k : Int) < (X.1.length : Int) := by omega
      generalize X.1[k] = x at *
      obtain ⟨x0, x1, x2⟩ := x
      simp only at *
      clear hq1
      go_wp2
      go_quiet (fail)
      go_wp2
      go_roundg (X.1.length - (k + 1))
      case rel => exact ⟨k + 1, m + nq, by omega, rfl, by simp, by go_num, rfl⟩
      case measure => have := unhide HGK; omega
    · obtain ⟨hb, hap⟩ := unhide HB
      have hf12 : Fr No w (w2.drewN m) := ((unhide HF1).2.quiet (unhide HF2).2).drewN _
      have hr1lt : ∀ k, OwnS (.slice a1 X.1.length c1) k → w.heap.size ≤ k ∧ k < w1.heap.size := fun k hk => (unhide HF1).1.lt k hk
      have hr1ro : ∀ k, OwnS (.slice a1 X.1.length c1) k → 6 ≤ ro k := fun k hk => Nat.le_of_not_lt fun h => by have := hb.rlt k h; have := (hr1lt k hk).1; omega
      have HM := hide (And.intro (hb.fr hf12 (fun _ _ => id)) (And.intro (own_fr hq1 ((Fr.refl No _).drewN m) (fun _ _ => id)) (And.intro hr1ro (And.intro hr1lt hf12))))
      clear hq1 hb hap hf12 hr1lt hr1ro
      go_wp2_with (go_at_call 66; refine (ownsLevels_any bb ro E L nx ve vm vl vn _ X.1 _ (unhide HM).1 (unhide HM).2.1 (unhide HM).2.2.1 hxl2 hL hn1 hn2).mono ?_; rintro e w4 ⟨rfl, ro4, v41, v42, v43, vl4, vn4, hb4, hf4, hro4⟩; have HN4 := hide (And.intro hb4 (And.intro hf4 hro4)); clear hb4 hf4 hro4)
      go_ret
      obtain ⟨hb4, hf4, hro4⟩ := unhide HN4
      obtain ⟨hb, hap⟩ := unhide HB
      obtain ⟨_, _, hr1ro, hr1lt, hf12⟩ := unhide HM
      have hP := unhide HP
      have hFlt := (unhide HK).lt hP.rep
      have hRlt : ∀ k, RefS bp v k → k < w.heap.size := by
        rintro k (rfl | e)
        · exact hP.ref.lt
        · exact (hP.ref.own.lt k e).2
      have nr : ∀ k, k < w.heap.size → ¬ OwnS (.slice a1 X.1.length c1) k := fun k hk e => by have := (hr1lt k e).1; omega
      have s12 := hf12.size
      have ho4 : ∀ k, k < w.heap.size → 6 ≤ ro k → 6 ≤ ro4 k := fun k h1 h2 => Nat.le_of_not_lt fun h => by
        rcases hro4 k h with h' | h' | h'
        · omega
        · exact nr k h1 h'
        · omega
      refine ⟨rfl, F, v, ro4, E, _, ve, vm, vl4, vn4, ⟨?_, ?_, ?_, hP.good, hP.len⟩, hb4, rfl, by simp, ⟨hap.fr, ?_, ?_, hap.qf, hap.qr, ?_⟩, ?_, fun k hk => .inl hk, fun k hk => .inl hk, ?_⟩
      · exact hf4.heap (hf12.heap hP.blk id) (fun e => e.elim (fun e => by have := hap.qb; omega) (nr bq hbq))
      · exact (unhide HK).fr ((unhide HK).fr hP.rep hf12 (fun _ _ => id)) hf4 (fun k hk e => e.elim (fun e => by have := hap.fb k hk; omega) (nr k (hFlt k hk)))
      · exact (hP.ref.no hf12).fr hf4 (fun e => e.elim (fun e => by have := hap.rb bp (.inl rfl); omega) (nr bp (hRlt bp (.inl rfl)))) (fun g hg e => e.elim (fun e => by have := hap.rb g (.inr hg); omega) (nr g (hRlt g (.inr hg))))
      · exact fun k hk => ho4 k (hFlt k hk) (hap.fb k hk)
      · exact fun k hk => ho4 k (hRlt k hk) (hap.rb k hk)
      · exact ho4 bq hbq hap.qb
      · exact (Fr.of_no (S := fun k => F k ∨ RefS bp v k ∨ ro k < 6) hf12).trans hf4 (fun k hk e => e.elim (fun e => .inr (.inr e)) (fun e => absurd e (nr k hk)))
      · intro k hk
        rcases hro4 k hk with h | h | h
        · exact .inl h
        · exact .inr (hr1lt k h).1
        · right; omega
end Go.Proofs.YtigpgnjgmaoejaaGreat
