/- Contracts of the statements' own begun, top and crossed. Conditions: the pit lies in memory and is as it should be. -/
import Derived.Test.YtigpgnjgmaoejaaKeepA
namespace Go.Proofs.Ytigpgnjgmaoejaa
open Go.RowKit

/-- A pit of the call's own. -/
structure KP (w wr : World) (bx : Nat) (bb : Nat → Nat) (v : Nat → Nat → Value) (ro : Nat → Nat) (s : St) : Prop where
  pit : PitAt wr bx bb v ro s
  wf : WF s
  fr : Fr No w wr
  lo : ∀ g, PS bx bb v g → w.heap.size ≤ g
theorem KP.no {w wr w1 : World} {bx : Nat} {bb : Nat → Nat} {v : Nat → Nat → Value} {ro : Nat → Nat} {s : St} (h : KP w wr bx bb v ro s) (hf : Fr No wr w1) : KP w w1 bx bb v ro s := ⟨h.pit.no hf, h.wf, h.fr.quiet hf, h.lo⟩
/-- Something of the call's own beside the pit is written. -/
theorem KP.beside {S : Nat → Prop} {w wr w1 : World} {bx : Nat} {bb : Nat → Nat} {v : Nat → Nat → Value} {ro : Nat → Nat} {s : St} (h : KP w wr bx bb v ro s) (hf : Fr S wr w1) (h1 : ∀ g, S g → w.heap.size ≤ g) (h2 : ∀ g, PS bx bb v g → ¬ S g) : KP w w1 bx bb v ro s :=
  ⟨h.pit.fr hf h2, h.wf, h.fr.trans hf (fun g hg e => by have := h1 g e; omega), h.lo⟩
/-- What a command leaves. -/
structure KTo (w wr w' : World) (bx : Nat) (bb : Nat → Nat) (v v' : Nat → Nat → Value) (ro' : Nat → Nat) (x : St × List Ev) (r : Value) : Prop where
  kp : KP w w' bx bb v' ro' x.1
  evs : Es w' wr.heap.size r x.2
  own : ∀ g, OwnS r g → ¬ PS bx bb v' g
  fr : Fr (PS bx bb v) wr w'
  new : ∀ g, PS bx bb v' g → PS bx bb v g ∨ wr.heap.size ≤ g
def KPost (w wr : World) (bx : Nat) (bb : Nat → Nat) (v : Nat → Nat → Value) (x : St × List Ev) (e : Ending) (w' : World) : Prop :=
  ∃ r v' ro', e = .returned r ∧ KTo w wr w' bx bb v v' ro' x r
theorem kDo_any {w wr : World} {bx : Nat} {bb : Nat → Nat} {v : Nat → Nat → Value} {ro : Nat → Nat} {s : St} (h : KP w wr bx bb v ro s) (c : Cmd) :
    Calls Try.prog 8 #[.pointer (some ⟨bx, 0, none⟩), c.val] wr (KPost w wr bx bb v (sDo s c)) :=
  (pDo_any bx bb v ro s c wr h.pit h.wf).mono fun e w' ⟨r, v', ro', he, ht⟩ =>
    ⟨r, v', ro', he, ⟨ht.to.pit, sDo_wf h.wf c, h.fr.trans ht.to.fr (fun g hg e => by have := h.lo g e; omega), fun g hg => (ht.to.new g hg).elim (h.lo g) (fun h2 => Nat.le_trans h.fr.size h2)⟩, ht.evs, ht.own, ht.to.fr, ht.to.new⟩

/-- The best price of a side. -/
def topP : List Ord → Int
  | [] => 0
  | x :: _ => x.price
theorem addLev_head {e : Lev} {R : List Lev} {y : Ord} : ∃ e' R', addLev (e :: R) y = e' :: R' ∧ e'.price = e.price := by
  rcases List.eq_nil_or_concat R with rfl | ⟨R0, z, rfl⟩
  · by_cases h : e.price = y.price
    · have h1 : addLev [e] y = [⟨e.price, e.count + y.opn, e.orders + 1⟩] := addLev_same (l0 := []) h
      exact ⟨_, _, h1, rfl⟩
    · have h1 : addLev [e] y = [e, ⟨y.price, y.opn, 1⟩] := addLev_new (l0 := []) h
      exact ⟨_, _, h1, rfl⟩
  · rw [List.concat_eq_append, ← List.cons_append]
    by_cases h : z.price = y.price
    · have h1 := addLev_same (l0 := e :: R0) h
      exact ⟨_, _, h1, rfl⟩
    · have h1 := addLev_new (l0 := e :: R0) h
      exact ⟨_, _, h1, rfl⟩
theorem fold_head : ∀ {l : List Ord} {e : Lev} {R : List Lev}, ∃ e' R', l.foldl addLev (e :: R) = e' :: R' ∧ e'.price = e.price
  | [], e, R => ⟨e, R, rfl, rfl⟩
  | y :: l, e, R => by
    obtain ⟨e1, R1, h1, p1⟩ := addLev_head (e := e) (R := R) (y := y)
    obtain ⟨e2, R2, h2, p2⟩ := fold_head (l := l) (e := e1) (R := R1)
    exact ⟨e2, R2, by rw [List.foldl_cons, h1, h2], p2.trans p1⟩
theorem levels_top (L : List Ord) : L = [] ∧ cutTo 1 (L.foldl addLev []) = [] ∨ ∃ e : Lev, cutTo 1 (L.foldl addLev []) = [e] ∧ e.price = topP L := by
  cases L with
  | nil => exact .inl ⟨rfl, rfl⟩
  | cons x l =>
    obtain ⟨e, R, h, p⟩ := fold_head (l := l) (e := ⟨x.price, x.opn, 1⟩) (R := [])
    refine .inr ⟨e, ?_, p⟩
    rw [List.foldl_cons, show addLev [] x = [⟨x.price, x.opn, 1⟩] from rfl, h]
    cases R with
    | nil => simp [cutTo]
    | cons z R =>
      have : (1 : Int) < ((e :: z :: R).length : Int) := by simp only [List.length_cons]; omega
      simp [cutTo]
      omega

set_option maxHeartbeats 1000000 in
theorem top_any {w wr : World} {bx : Nat} {bb : Nat → Nat} {v : Nat → Nat → Value} {ro : Nat → Nat} {s : St} (h : KP w wr bx bb v ro s) (b sd : Int) (hb : inB b 1 8 = true) (hsd : sd = 1 ∨ sd = 2) :
    Calls Try.prog 20 #[.pointer (some ⟨bx, 0, none⟩), .int .i64 b, .int .i64 sd] wr fun e w' => e = .returned (.int .i64 (topP (s.M (bk b) (sj sd)))) ∧ Fr No wr w' := by
  obtain ⟨h1, h8⟩ := inB_true' hb
  have hk8 : bk b < 8 := by unfold bk; omega
  have HD := hide (pDepth_any bx bb v ro s b sd 1 wr h.pit (fun j hj o ho => by have := (h.wf.book _ hk8).opns hj o ho; omega) hb hsd)
  clear h hb hsd h1 h8
  rcases levels_top (s.M (bk b) (sj sd)) with ⟨hL, hl⟩ | ⟨e, hl, hp⟩
  · rw [hL]
    rw [hl] at HD
    clear hL hl
    go_enter Try.func20, Try.ntmps20
    go_wp2_with fail
    refine (unhide HD).mono ?_
    rintro e w1 ⟨r1, rfl, hl1, hf1⟩
    obtain ⟨a, cap, rfl, -⟩ := own_form hl1
    simp only [List.length_nil] at hl1 ⊢
    have HF := hide hf1
    clear hl1 hf1
    go_wp2
    go_ret
    exact ⟨rfl, unhide HF⟩
  · rw [← hp]
    rw [hl] at HD
    clear hp hl
    go_enter Try.func20, Try.ntmps20
    go_wp2_with fail
    refine (unhide HD).mono ?_
    rintro e1 w1 ⟨r1, rfl, hl1, hf1⟩
    obtain ⟨a, cap, rfl, -⟩ := own_form hl1
    obtain ⟨g, rfl, hg, -, c0, -⟩ := ls_at hl1 0 (by simp)
    simp only [List.getElem_cons_zero, Nat.zero_mul, List.length_cons, List.length_nil, Nat.zero_add] at c0 ⊢
    have HF := hide hf1
    clear hl1 hf1
    go_wp2
    go_ret
    exact ⟨rfl, unhide HF⟩

/-- Whether something rests that could trade, by the best prices. -/
def crossM (M : Nat → List Ord) : Bool := decide (0 < topP (M 0)) && decide (0 < topP (M 1)) && decide (topP (M 1) ≤ topP (M 0))
theorem unx_crossM {M : Nat → List Ord} (h : Unx M) : crossM M = false := by
  unfold crossM
  cases h0 : M 0 with
  | nil => simp [topP]
  | cons a A =>
    cases h1 : M 1 with
    | nil => simp [topP]
    | cons b B =>
      have := h a (by rw [h0]; exact List.mem_cons_self) b (by rw [h1]; exact List.mem_cons_self)
      have hd : decide (topP (b :: B) ≤ topP (a :: A)) = false := by
        show decide (b.price ≤ a.price) = false
        rw [decide_eq_false_iff_not]
        omega
      rw [hd, Bool.and_false]

set_option maxHeartbeats 1000000 in
theorem crossed_any {w wr : World} {bx : Nat} {bb : Nat → Nat} {v : Nat → Nat → Value} {ro : Nat → Nat} {s : St} (h : KP w wr bx bb v ro s) (hu : Unx (s.M 0)) :
    Calls Try.prog 10 #[.pointer (some ⟨bx, 0, none⟩), .int .i64 1] wr fun e w' => e = .returned (.bool false) ∧ Fr No wr w' := by
  have hc := unx_crossM hu
  unfold crossM at hc
  have HT : Hid (∀ sd w', sd = 1 ∨ sd = 2 → Fr No wr w' → Calls Try.prog 20 #[.pointer (some ⟨bx, 0, none⟩), .int .i64 1, .int .i64 sd] w' fun e w'' => e = .returned (.int .i64 (topP (s.M 0 (sj sd)))) ∧ Fr No w' w'') := fun sd w' hsd hf => top_any (h.no hf) 1 sd rfl hsd
  have HA : Hid (∀ w', Fr No wr w' → Calls Try.prog 20 #[.pointer (some ⟨bx, 0, none⟩), .int .i64 1, .int .i64 1] w' fun e w'' => e = .returned (.int .i64 (topP (s.M 0 0))) ∧ Fr No w' w'') := fun w' hf => unhide HT 1 w' (.inl rfl) hf
  have HB : Hid (∀ w', Fr No wr w' → Calls Try.prog 20 #[.pointer (some ⟨bx, 0, none⟩), .int .i64 1, .int .i64 2] w' fun e w'' => e = .returned (.int .i64 (topP (s.M 0 1))) ∧ Fr No w' w'') := fun w' hf => unhide HT 2 w' (.inr rfl) hf
  generalize topP (s.M 0 0) = a at *
  generalize topP (s.M 0 1) = b at *
  clear HT h hu
  have hcase : a ≤ 0 ∨ (0 < a ∧ b ≤ 0) ∨ (0 < a ∧ 0 < b ∧ a < b) := by
    simp only [Bool.and_eq_false_iff, decide_eq_false_iff_not] at hc
    omega
  clear hc
  go_enter Try.func10, Try.ntmps10
  go_wp2_with fail
  refine (unhide HA _ (Fr.refl _ _)).mono ?_
  rintro e w1 ⟨rfl, hf1⟩
  have HF1 := hide hf1
  clear hf1
  go_wp2_with fail
  refine (unhide HB _ (unhide HF1)).mono ?_
  rintro e w2 ⟨rfl, hf2⟩
  have HF2 := hide ((unhide HF1).quiet hf2)
  clear hf2
  rcases hcase with h1 | ⟨h1, h2⟩ | ⟨h1, h2, h3⟩
  · have d1 : decide (0 < a) = false := by simp; omega
    go_wp2
    go_ret
    exact ⟨rfl, unhide HF2⟩
  · have d2 : decide (0 < b) = false := by simp; omega
    go_wp2
    go_ret
    exact ⟨rfl, unhide HF2⟩
  · have d3 : decide (b ≤ a) = false := by simp; omega
    go_wp2
    go_ret
    exact ⟨rfl, unhide HF2⟩

/-- Two orders meet in book 8. -/
def BegunPost (w : World) (e : Ending) (w' : World) : Prop := ∃ bx bb v ro, e = .returned (.pointer (some ⟨bx, 0, none⟩)) ∧ KP w w' bx bb v ro stB

set_option maxHeartbeats 4000000 in
set_option maxRecDepth 20000 in
theorem begun_any (w : World) : Calls Try.prog 7 #[] w (BegunPost w) := by
  go_enter Try.func7, Try.ntmps7
  go_wp2_with fail
  refine (pNew_any w).mono ?_
  rintro e w1 ⟨bb, v1, ro1, rfl, hp1, hf1, hlo1⟩
  have hk1 : KP w w1 w.heap.size bb v1 ro1 stNil := ⟨hp1, nil_wf, hf1, hlo1⟩
  have HK1 := hide hk1
  clear hk1 hp1 hf1 hlo1
  generalize hbx : w.heap.size = bx at *
  go_wp2_with fail
  refine (kDo_any (unhide HK1) cB1).mono ?_
  rintro e w2 ⟨r2, v2, ro2, rfl, ht2⟩
  have hk2 : KP w w2 bx bb v2 ro2 stB1 := ht2.kp
  have he2 : Es w2 w1.heap.size r2 [openedE 0 0] := by have := ht2.evs; rw [begunE1] at this; exact this
  obtain ⟨a2, c2, rfl, -⟩ := own_form he2
  have HK2 := hide hk2
  clear hk2 he2 ht2
  simp only [List.length_cons, List.length_nil, Nat.zero_add]
  go_wp2_with fail
  refine (kDo_any (unhide HK2) cB2).mono ?_
  rintro e w3 ⟨r3, v3, ro3, rfl, ht3⟩
  have hk3 : KP w w3 bx bb v3 ro3 stB2 := ht3.kp
  have he3 : Es w3 w2.heap.size r3 [takenE 900000001 2, restsE 900000001 50 2] := by have := ht3.evs; rw [begunE2] at this; exact this
  obtain ⟨a3, c3, rfl, -⟩ := own_form he3
  have HK3 := hide hk3
  clear hk3 he3 ht3
  simp only [List.length_cons, List.length_nil, Nat.zero_add]
  go_wp2_with fail
  refine (kDo_any (unhide HK3) cB3).mono ?_
  rintro e w4 ⟨r4, v4, ro4, rfl, ht4⟩
  have hk4 : KP w w4 bx bb v4 ro4 stB := ht4.kp
  have he4 : Es w4 w3.heap.size r4 [takenE 900000002 2, tradedE 900000002 900000001 50 2] := by have := ht4.evs; rw [begunE3] at this; exact this
  obtain ⟨a4, c4, rfl, -⟩ := own_form he4
  obtain ⟨g4, rfl, hg4, -, d0, d1, d2, d3, d4, d5, -⟩ := es_at he4 1 (by simp)
  simp only [List.getElem_cons_succ, List.getElem_cons_zero, tradedE] at d0 d1 d2 d3 d4 d5
  have HK4 := hide hk4
  clear hk4 he4 ht4
  simp only [List.length_cons, List.length_nil, Nat.zero_add]
  have HV : Hid (Calls Try.prog 13 #[.pointer (some ⟨bx, 0, none⟩)] w4 fun e w' => e = .returned (.int .i64 2) ∧ w' = w4) := pVolume_any bx bb v4 ro4 stB w4 (unhide HK4).pit
  go_wp2_with (go_at_call 13; refine (unhide HV).mono ?_; rintro e w5 ⟨rfl, hw5⟩; have hw6 := hw5.symm; subst hw6)
  go_ret
  exact ⟨bx, bb, v4, ro4, rfl, unhide HK4⟩
end Go.Proofs.Ytigpgnjgmaoejaa

/- Uncrossed returns true at every list of steps. Conditions: the list lies in memory, its raw numbers are int64's. -/
namespace Go.Proofs.Ytigpgnjgmaoejaa
open Go.RowKit

/-- A step in memory. -/
structure StepAt (w : World) (b o : Nat) (s : Sp) : Prop where
  c0 : w.cell? ⟨b, o, none⟩ = some (.int .i64 s.what)
  c1 : w.cell? ⟨b, o + 1, none⟩ = some (.int .i64 s.trader)
  c2 : w.cell? ⟨b, o + 2, none⟩ = some (.int .i64 s.side)
  c3 : w.cell? ⟨b, o + 3, none⟩ = some (.int .i64 s.kind)
  c4 : w.cell? ⟨b, o + 4, none⟩ = some (.int .i64 s.price)
  c5 : w.cell? ⟨b, o + 5, none⟩ = some (.int .i64 s.count)
/-- A list of steps that came in. -/
def Steps (w : World) (a : Option Addr) (len : Nat) : Prop := ∀ i, i < len → ∃ b off s, a = some ⟨b, off, none⟩ ∧ b < w.heap.size ∧ StepAt w b (off + i * 6) s ∧ s.ok
theorem StepAt.fr {w w' : World} {b o : Nat} {s : Sp} (h : StepAt w b o s) (hf : Fr No w w') (hb : b < w.heap.size) : StepAt w' b o s :=
  ⟨(hf.below.cell (p := ⟨b, o, none⟩) hb).trans h.c0, (hf.below.cell (p := ⟨b, o + 1, none⟩) hb).trans h.c1, (hf.below.cell (p := ⟨b, o + 2, none⟩) hb).trans h.c2, (hf.below.cell (p := ⟨b, o + 3, none⟩) hb).trans h.c3, (hf.below.cell (p := ⟨b, o + 4, none⟩) hb).trans h.c4, (hf.below.cell (p := ⟨b, o + 5, none⟩) hb).trans h.c5⟩

/-- Book 1 is opened with nothing in it. -/
def cO1 : Cmd := ⟨5, 0, 0, 1, 0, 0, 0, 0⟩
def stO : St := (sDo stB cO1).1
theorem openE1 : (sDo stB cO1).2 = [openedE 0 0] := rfl
theorem stO_tr : stO.tr 0 = true := rfl
theorem stO_M0 : stO.M 0 0 = [] := rfl
theorem stO_M1 : stO.M 0 1 = [] := rfl
theorem stO_unx : Unx (stO.M 0) := fun a ha => by rw [stO_M0] at ha; cases ha

theorem cmdOf_what (s : Sp) (i books : Int) : (cmdOf s i books).what ≠ 5 ∧ (cmdOf s i books).what ≠ 6 := by
  unfold cmdOf
  split
  · exact ⟨by simp, by simp⟩
  · split
    · exact ⟨by simp, by simp⟩
    · split
      · exact ⟨by simp, by simp⟩
      · exact ⟨by simp [baseC], by simp [baseC]⟩

set_option maxHeartbeats 4000000 in
set_option maxRecDepth 20000 in
theorem uncrossed_calls (a : Option Addr) (len cap : Nat) (w : World) (hst : Steps w a len) :
    Calls Try.prog 3 #[.slice a len cap] w fun e w' => e = .returned (.bool true) ∧ Fr No w w' := by
  have HS := hide hst
  clear hst
  go_enter Try.func3, Try.ntmps3
  go_wp2_with fail
  refine (begun_any w).mono ?_
  rintro e w1 ⟨bx, bb, v1, ro1, rfl, hk1⟩
  have HK1 := hide hk1
  clear hk1
  go_wp2_with fail
  refine (kDo_any (unhide HK1) cO1).mono ?_
  rintro e w2 ⟨r2, v2, ro2, rfl, ht2⟩
  have hk2 : KP w w2 bx bb v2 ro2 stO := ht2.kp
  have he2 : Es w2 w1.heap.size r2 [openedE 0 0] := by have := ht2.evs; rw [openE1] at this; exact this
  obtain ⟨a2, c2, rfl, -⟩ := own_form he2
  obtain ⟨g2, rfl, hg2, -, d0, d1, d2, d3, d4, d5, -⟩ := es_at he2 0 (by simp)
  simp only [List.getElem_cons_zero, openedE, Nat.zero_mul, Nat.zero_add] at d0 d1 d2 d3 d4 d5
  have HK2 := hide hk2
  clear hk2 he2 ht2
  simp only [List.length_cons, List.length_nil, Nat.zero_add]
  go_wp2
  go_loopw [5] (fun i wr => ∃ (k : Nat) (v : Nat → Nat → Value) (ro : Nat → Nat) (s : St), k ≤ len ∧ k ≤ 190 ∧ i = .int .i64 k ∧ KP w wr bx bb v ro s ∧ s.tr 0 = true ∧ Unx (s.M 0)) (fun i _ => 190 - (intOf i).toNat)
  case atStart => exact ⟨0, v2, ro2, stO, Nat.zero_le _, Nat.zero_le _, rfl, unhide HK2, stO_tr, stO_unx⟩
  case round =>
    obtain ⟨k, v, ro, s, hkl, hk190, rfl, hkp, htr, hux⟩ := hrel
    have HK := hide (And.intro hkp (And.intro htr hux))
    by_cases hlt : k < len
    · by_cases h190 : k < 190
      · obtain ⟨b, off, st, rfl, hb, hat, hok⟩ := unhide HS k hlt
        obtain ⟨s0, s1, s2, s3, s4, s5⟩ := hat.fr hkp.fr hb
        have hbr : b < wr.heap.size := Nat.lt_of_lt_of_le hb hkp.fr.size
        have HOK := hide hok
        have e1 : (k : Int) < (len : Int) := by omega
        have e2 : (k : Int) < 190 := by omega
        clear hkp htr hux hat hok
        go_wp2_with fail
        refine (command_any st k 1 wr (unhide HOK) (by omega) (by omega)).mono ?_
        rintro e w3 ⟨rfl, hf3⟩
        have hk3 := (unhide HK).1.no hf3
        have HK3 := hide hk3
        clear hk3 hf3
        go_wp2_with fail
        refine (kDo_any (unhide HK3) (cmdOf st k 1)).mono ?_
        rintro e w4 ⟨r4, v4, ro4, rfl, ht4⟩
        have hkeep := sDo_keeps (unhide HK3).wf (cmdOf_what st k 1)
        have hux4 : Unx ((sDo s (cmdOf st k 1)).1.M 0) := hkeep.unx 0 (by omega) (unhide HK).2.1 (unhide HK).2.2
        have htr4 : (sDo s (cmdOf st k 1)).1.tr 0 = true := by rw [hkeep.tr]; exact (unhide HK).2.1
        have HK4 := hide (And.intro ht4.kp (And.intro htr4 hux4))
        clear ht4 hkeep hux4 htr4
        go_wp2_with fail
        refine (crossed_any (unhide HK4).1 (unhide HK4).2.2).mono ?_
        rintro e w5 ⟨rfl, hf5⟩
        have HF5 := hide hf5
        clear hf5
        go_wp2
        go_roundw
        case rel => exact ⟨k + 1, v4, ro4, _, by omega, by omega, by go_num, (unhide HK4).1.no (unhide HF5), (unhide HK4).2.1, (unhide HK4).2.2⟩
        case measure => simp [intOf]; omega
      · have e2 : decide ((k : Int) < 190) = false := by simp; omega
        have e1 : (k : Int) < (len : Int) := by omega
        clear hkp htr hux
        go_wp2
        go_ret
        exact ⟨rfl, (unhide HK).1.fr⟩
    · have e1 : decide ((k : Int) < (len : Int)) = false := by simp; omega
      clear hkp htr hux
      go_wp2
      go_ret
      exact ⟨rfl, (unhide HK).1.fr⟩
end Go.Proofs.Ytigpgnjgmaoejaa
