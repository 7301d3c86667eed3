/- Fair returns true at every list of steps and every last step. Conditions: the list lies in memory, the raw numbers are int64's. -/
import Derived.Test.YtigpgnjgmaoejaaKeepBC
import Derived.Test.YtigpgnjgmaoejaaFairMN
import Derived.BigQuiet
import Derived.Deep.LoopGhost
namespace Go.Proofs.Ytigpgnjgmaoejaa
open Go.RowKit

theorem stO_M : ∀ k, k < 8 → ∀ j, j < 2 → stO.M k j = []
  | 0, _, 0, _ => rfl
  | 0, _, 1, _ => rfl
  | 1, _, 0, _ | 2, _, 0, _ | 3, _, 0, _ | 4, _, 0, _ | 5, _, 0, _ | 6, _, 0, _ | 7, _, 0, _ => rfl
  | 1, _, 1, _ | 2, _, 1, _ | 3, _, 1, _ | 4, _, 1, _ | 5, _, 1, _ | 6, _, 1, _ | 7, _, 1, _ => rfl
theorem stO_ids (n : Int) : IdsLe stO n := fun k hk j hj o ho => by rw [stO_M k hk j hj] at ho; cases ho
theorem cmdOf_id (s : Sp) (i b : Int) (hi : 0 ≤ i) : (cmdOf s i b).id ≤ i + 1 := by
  have := pickI_rng (c := s.kind) (n := i + 1) (by omega)
  unfold cmdOf
  split
  · simp only; omega
  · split
    · simp only; omega
    · split
      · simp [baseC]
      · simp [baseC]
/-- The parts of a step's command. -/
structure CmdIn (c : Cmd) : Prop where
  trader : 1 ≤ c.trader ∧ c.trader ≤ 4
  book : c.book = 1
  side : c.side = 1 ∨ c.side = 2
  kind : 1 ≤ c.kind ∧ c.kind ≤ 5
  price : 100 ≤ c.price ∧ c.price ≤ 111
  count : 1 ≤ c.count ∧ c.count ≤ 30
theorem baseC_in (s : Sp) (i : Int) : CmdIn (baseC s i 1) := by
  have r4 := pickI_rng (c := s.trader) (n := 4) (by omega)
  have rb := pickI_rng (c := s.trader.tdiv 4) (n := 1) (by omega)
  have r2 := pickI_rng (c := s.side) (n := 2) (by omega)
  have r5 := pickI_rng (c := s.kind) (n := 5) (by omega)
  have r12 := pickI_rng (c := s.price) (n := 12) (by omega)
  have r30 := pickI_rng (c := s.count) (n := 30) (by omega)
  constructor <;> simp only [baseC] <;> omega
theorem cmdOf_in (s : Sp) (i : Int) : CmdIn (cmdOf s i 1) := by
  have h := baseC_in s i
  unfold cmdOf
  split
  · exact ⟨h.1, h.2, h.3, h.4, h.5, h.6⟩
  · split
    · exact ⟨h.1, h.2, h.3, h.4, h.5, h.6⟩
    · split
      · exact ⟨h.1, h.2, h.3, h.4, h.5, h.6⟩
      · exact h
/-- The order that comes last. -/
def lastC (c : Cmd) : Cmd := ⟨1, 950000000, c.trader, c.book, c.side, c.kind, c.price, c.count⟩
theorem lastC_ok {c : Cmd} (h : CmdIn c) : newOk (lastC c) = true := by
  obtain ⟨h1, h2, h3, h4, h5, h6⟩ := h
  have e : sideOk c.side = true := by rcases h3 with e | e <;> rw [e] <;> decide
  unfold newOk lastC inB
  simp only [h2, e]
  simp
  omega
theorem FairL_pos {a : FairA} : ∀ {E : List Ev} {pr : Int}, FairL a pr E → 0 ≤ sumT E
  | [], _, _ => by simp [sumT]
  | x :: E, pr, h => by
    unfold FairL at h
    unfold sumT
    by_cases hx : x.what = 3
    · rw [if_pos hx] at h ⊢
      have := FairL_pos h.2.2.2.2.2
      omega
    · rw [if_neg hx] at h ⊢
      have := FairL_pos h
      omega
/-- Between two events. -/
structure FMid (a : FairA) (E : List Ev) (k : Nat) (sum pr : Int) : Prop where
  kl : k ≤ E.length
  sm : sum = sumT (E.take k)
  nn : 0 ≤ sum
  fair : FairL a pr (E.drop k)
theorem FMid.skip {a : FairA} {E : List Ev} {k : Nat} {sum pr : Int} (h : FMid a E k sum pr) (hk : k < E.length) (hw : E[k].what ≠ 3) : FMid a E (k + 1) sum pr := by
  obtain ⟨h1, h2, h3, h4⟩ := h
  rw [List.drop_eq_getElem_cons hk] at h4
  unfold FairL at h4
  rw [if_neg hw] at h4
  exact ⟨hk, by rw [sumT_take hk, if_neg hw]; omega, h3, h4⟩
theorem FMid.next {a : FairA} {E : List Ev} {k : Nat} {sum pr : Int} (h : FMid a E k sum pr) (hk : k < E.length) (hw : E[k].what = 3) :
    goodP a E[k].price = true ∧ orderP a pr E[k].price = true ∧ a.there E[k].price = true ∧ E[k].id = a.id ∧ 1 ≤ E[k].count ∧ sum + E[k].count ≤ sumT E ∧ FMid a E (k + 1) (sum + E[k].count) E[k].price := by
  obtain ⟨h1, h2, h3, h4⟩ := h
  rw [List.drop_eq_getElem_cons hk] at h4
  unfold FairL at h4
  rw [if_pos hw] at h4
  obtain ⟨g1, g2, g3, g4, g5, g6⟩ := h4
  have hs : sum + E[k].count = sumT (E.take (k + 1)) := by rw [sumT_take hk, if_pos hw, h2]
  have ht : sumT E = sumT (E.take (k + 1)) + sumT (E.drop (k + 1)) := by rw [← sumT_append, List.take_append_drop]
  have := FairL_pos g6
  exact ⟨g1, g2, g3, g4, g5, by omega, hk, hs, by omega, g6⟩
theorem take_any_succ {B : List Lev} {j : Nat} (hj : j < B.length) (q : Int) : thereIn (B.take (j + 1)) q = (thereIn (B.take j) q || B[j].price == q) := by
  unfold thereIn
  rw [List.take_succ_eq_append_getElem hj, List.any_append]
  simp

theorem addLev_le {l : List Lev} {x : Ord} : (addLev l x).length ≤ l.length + 1 := by
  rcases List.eq_nil_or_concat l with rfl | ⟨l0, z, rfl⟩
  · simp [addLev]
  · rw [List.concat_eq_append]
    by_cases h : z.price = x.price
    · rw [addLev_same h]; simp
    · rw [addLev_new h]; simp
theorem fold_le : ∀ {L : List Ord} {l : List Lev}, (L.foldl addLev l).length ≤ l.length + L.length
  | [], l => by simp
  | x :: L, l => by
    have h1 := fold_le (L := L) (l := addLev l x)
    have h2 := addLev_le (l := l) (x := x)
    rw [List.foldl_cons, List.length_cons]
    omega
theorem side_le {k : Nat} {M : Nat → List Ord} (h : BkOk k M) (j : Nat) (hj : j < 2) : ((M j).foldl addLev []).length ≤ 200 := by
  have h1 := fold_le (L := M j) (l := [])
  have h2 := h.cap
  match j, hj with
  | 0, _ => simp at h1; omega
  | 1, _ => simp at h1; omega

set_option maxHeartbeats 8000000 in
set_option maxRecDepth 20000 in
theorem fair_calls (a : Option Addr) (len cap : Nat) (last : Sp) (w : World) (hst : Steps w a len) (hla : last.ok) :
    Calls Try.prog 5 #[.slice a len cap, last.val] w fun e w' => e = .returned (.bool true) ∧ Fr No w w' := by
  have HS := hide hst
  have HL := hide hla
  clear hst hla
  obtain ⟨sw, st, ss, sk, sp, sc⟩ := last
  unfold Sp.val
  simp only
  go_enter Try.func5, Try.ntmps5
  go_wp2_with fail
  generalize hW0 : World.alloc w _ = W0
  have hf0 : Fr No w W0 := by rw [← hW0]; exact (Fr.refl _ _).alloc _
  have h30 : W0.heap[w.heap.size]? = some (.cells #[.int .i64 sw, .int .i64 st, .int .i64 ss, .int .i64 sk, .int .i64 sp, .int .i64 sc] 34 (0, 0)) := by rw [← hW0]; exact heap_alloc_new w _
  clear hW0
  generalize hN : w.heap.size = N at *
  have HF0 := hide (And.intro hf0 (And.intro h30 hN))
  clear hf0 h30 hN
  refine (begun_any W0).mono ?_
  rintro e w1 ⟨bx, bb, v1, ro1, rfl, hk1⟩
  have HK1 := hide hk1
  clear hk1
  go_wp2_with fail
  refine (kDo_any (unhide HK1) cO1).mono ?_
  rintro e w2 ⟨r2, v2, ro2, rfl, ht2⟩
  have hk2 : KP W0 w2 bx bb v2 ro2 stO := ht2.kp
  have HK2 := hide hk2
  clear hk2 ht2
  go_wp2
  go_loopg [6, 7] 190 (fun g n i wr => ∃ (k : Nat) (v : Nat → Nat → Value) (ro : Nat → Nat) (s : St), k ≤ len ∧ k ≤ 190 ∧ g = 190 - k ∧ n = .int .i64 k ∧ i = .int .i64 k ∧ KP W0 wr bx bb v ro s ∧ s.tr 0 = true ∧ IdsLe s 1000)
  case atStart => exact ⟨0, v2, ro2, stO, Nat.zero_le _, Nat.zero_le _, rfl, rfl, rfl, unhide HK2, stO_tr, stO_ids _⟩
  case round =>
    obtain ⟨k, v, ro, s, hkl, hk190, rfl, rfl, rfl, hkp, htr, hid⟩ := hrel
    have HK := hide (And.intro hkp (And.intro htr hid))
    by_cases hgo : k < len ∧ k < 190
    · obtain ⟨hlt, h190⟩ := hgo
      obtain ⟨b, off, s1, rfl, hb, hat, hok⟩ := unhide HS k hlt
      obtain ⟨s0, s1', s2, s3, s4, s5⟩ := hat.fr ((unhide HF0).1.quiet hkp.fr) hb
      have hbr : b < wr.heap.size := Nat.lt_of_lt_of_le hb ((unhide HF0).1.quiet hkp.fr).size
      have HOK := hide hok
      have e1 : (k : Int) < (len : Int) := by omega
      have e2 : (k : Int) < 190 := by omega
      clear hkp htr hid hat hok
      go_wp2_with fail
      refine (command_any s1 k 1 wr (unhide HOK) (by omega) (by omega)).mono ?_
      rintro e w3 ⟨rfl, hf3⟩
      have hk3 := (unhide HK).1.no hf3
      have HK3 := hide hk3
      clear hk3 hf3
      go_wp2_with fail
      refine (kDo_any (unhide HK3) (cmdOf s1 k 1)).mono ?_
      rintro e w4 ⟨r4, v4, ro4, rfl, ht4⟩
      have hkeep := sDo_keeps (unhide HK3).wf (cmdOf_what s1 k 1)
      have htr4 : (sDo s (cmdOf s1 k 1)).1.tr 0 = true := by rw [hkeep.tr]; exact (unhide HK).2.1
      have hid4 : IdsLe (sDo s (cmdOf s1 k 1)).1 1000 := sDo_ids (unhide HK3).wf (unhide HK).2.2 (by have := cmdOf_id s1 k 1 (by omega); omega) (cmdOf_what s1 k 1)
      have HK4 := hide (And.intro ht4.kp (And.intro htr4 hid4))
      clear ht4 hkeep htr4 hid4
      go_wp2
      go_roundg (190 - (k + 1))
      case measure => omega
      case rel => exact ⟨k + 1, v4, ro4, _, by omega, by omega, rfl, by go_num, by go_num, (unhide HK4).1, (unhide HK4).2.1, (unhide HK4).2.2⟩
    · have e12 : (decide ((k : Int) < (len : Int)) = false) ∨ (((k : Int) < (len : Int)) ∧ decide ((k : Int) < 190) = false) := by
        by_cases h : k < len
        · exact .inr ⟨by omega, by simp; omega⟩
        · exact .inl (by simp; omega)
      have h3 : wr.heap[N]? = some (.cells #[.int .i64 sw, .int .i64 st, .int .i64 ss, .int .i64 sk, .int .i64 sp, .int .i64 sc] 34 (0, 0)) := hkp.fr.heap (unhide HF0).2.1 id
      obtain ⟨l0, l1, l2, l3, l4, l5, -⟩ := box6 h3
      clear hkp htr hid hgo h3
      go_upto_region 7 with fail
      go_cut [35] from 28 to 47 (fun s35 wx => s35 = .bool false ∧ wr = wx)
      case first =>
        rcases e12 with e1 | ⟨e1, e2⟩
        · have n1 : ¬ k < len := by have := of_decide_eq_false e1; omega
          go_wp2_with fail
          go_meet
          exact ⟨rfl, rfl⟩
        · go_wp2_with fail
          go_meet
          exact ⟨rfl, rfl⟩
      case rest =>
        obtain ⟨rfl, rfl⟩ := hcut
        clear e12
        go_wp2_with fail
        refine (command_any ⟨sw, st, ss, sk, sp, sc⟩ k 1 wr (unhide HL) (by omega) (by omega)).mono ?_
        rintro e w3 ⟨rfl, hf3⟩
        have hk3 := (unhide HK).1.no hf3
        have HK3 := hide (And.intro hk3 (unhide HK).2)
        have hin := cmdOf_in ⟨sw, st, ss, sk, sp, sc⟩ (k : Int)
        clear hk3 hf3 l0 l1 l2 l3 l4 l5
        generalize cmdOf ⟨sw, st, ss, sk, sp, sc⟩ (k : Int) 1 = c0 at hin ⊢
        have hok := lastC_ok hin
        obtain ⟨cw, ci, ct, cb, cs, ck, cp, cc⟩ := c0
        have HC := hide (And.intro hin hok)
        have hs3 : 1 ≤ 3 - cs ∧ 3 - cs ≤ 2 := by have := hin.side; simp only at this; omega
        clear hin hok
        unfold Cmd.val
        simp only
        go_wp2_with fail
        generalize hWA : World.alloc w3 _ = W8
        have hf8 : Fr No w3 W8 := by rw [← hWA]; exact (Fr.refl _ _).alloc _
        have h8 : W8.heap[w3.heap.size]? = some (.cells #[.int .i64 1, .int .i64 950000000, .int .i64 ct, .int .i64 cb, .int .i64 cs, .int .i64 ck, .int .i64 cp, .int .i64 cc] 28 (0, 0)) := by rw [← hWA]; exact heap_alloc_new w3 _
        clear hWA
        have hP8 : ∀ g, PS bx bb v g → g < w3.heap.size := (unhide HK3).1.pit.lt
        generalize hN8 : w3.heap.size = P8 at *
        have hk8 := (unhide HK3).1.no hf8
        have HK8 := hide (And.intro hk8 (And.intro (unhide HK3).2 (And.intro h8 hP8)))
        clear hk8 hf8 h8 hP8 hN8
        refine (pDepth_any bx bb v ro s 1 (3 - cs) (-1) W8 (unhide HK8).1.pit (fun j hj o ho => by have := ((unhide HK8).1.wf.book _ (by decide : bk 1 < 8)).opns hj o ho; omega) rfl (by omega)).mono ?_
        rintro e w9 ⟨r9, rfl, hl9, hf9⟩
        have ecut : ∀ L : List Lev, cutTo (-1) L = L := fun L => by unfold cutTo; rw [if_neg (by omega)]
        rw [ecut] at hl9
        have hfe := new_fair (unhide HK8).1.wf (unhide HK8).2.1.1 (unhide HK8).2.1.2 (c := lastC ⟨cw, ci, ct, cb, cs, ck, cp, cc⟩) rfl (by show (1000 : Int) < 950000000; omega) (unhide HC).2 (unhide HC).1.book
        have hk9 := (unhide HK8).1.no hf9
        have h9 := hf9.heap (unhide HK8).2.2.1 id
        change FairE _ (thereIn ((s.M 0 (sj (3 - cs))).foldl addLev [])) _ at hfe
        change Ls w9 W8.heap.size _ ((s.M 0 (sj (3 - cs))).foldl addLev []) at hl9
        have hLl : ((s.M 0 (sj (3 - cs))).foldl addLev []).length ≤ 200 := side_le ((unhide HK8).1.wf.book 0 (by omega)) _ (by unfold sj; split <;> omega)
        generalize hLV : (s.M 0 (sj (3 - cs))).foldl addLev [] = LV at *
        clear hLV
        obtain ⟨ga, gc, rfl, -⟩ := own_form hl9
        have HK9 := hide (And.intro hk9 (And.intro h9 hl9))
        have HFE := hide hfe
        obtain ⟨c0, c1, c2, c3, c4, c5, c6, c7, -⟩ := box8 h9
        clear hk9 h9 hl9 hf9 hfe ecut
        go_wp2_with fail
        refine (kDo_any (unhide HK9).1 (lastC ⟨cw, ci, ct, cb, cs, ck, cp, cc⟩)).mono ?_
        rintro e w10 ⟨r10, v10, ro10, rfl, ht10⟩
        have h10 := ht10.fr.heap (unhide HK9).2.1 (fun e => by have := (unhide HK8).2.2.2 _ e; omega)
        have hl10 : Ls w10 W8.heap.size _ LV := own_fr (unhide HK9).2.2 ht10.fr (fun g hg e => by have h1 := ((unhide HK9).2.2.lt g hg).1; have h2 := (unhide HK8).1.pit.lt g e; omega)
        have he10 := ht10.evs
        have hk10 := ht10.kp
        obtain ⟨ea, ec, rfl, -⟩ := own_form he10
        have hfe := unhide HFE
        generalize hE : (sDo s (lastC ⟨cw, ci, ct, cb, cs, ck, cp, cc⟩)).2 = E at *
        have hfe : FairE ⟨1, 950000000, ct, cb, cs, ck, cp, cc⟩ (thereIn LV) E := hfe
        have HF10 := hide (And.intro ((unhide HF0).1.quiet hk10.fr) (And.intro h10 (And.intro hl10 (And.intro he10 hfe))))
        clear hE HFE hk10 h10 hl10 he10 hfe ht10 c0 c1 c2 c3 c4 c5 c6 c7
        have hEl : E.length ≤ 300 := (unhide HF10).2.2.2.2.len
        go_wp2
        go_loopg [13, 14, 15] E.length (fun g s13 s14 s15 wx => ∃ (k2 : Nat) (sum pr : Int), g = E.length - k2 ∧ s13 = .int .i64 sum ∧ s14 = .int .i64 pr ∧ s15 = .int .i64 k2 ∧ FMid ⟨ck, cs, cp, 950000000, thereIn LV⟩ E k2 sum pr ∧ Fr No w10 wx)
        case atStart => exact ⟨0, 0, 0, rfl, rfl, rfl, rfl, ⟨Nat.zero_le _, rfl, Int.le_refl _, (unhide HF10).2.2.2.2.fair⟩, Fr.refl _ _⟩
        case round =>
          obtain ⟨k2, sum, pr, rfl, rfl, rfl, rfl, hmid, hfx⟩ := hrel
          by_cases hlt : k2 < E.length
          · have e1 : (k2 : Int) < (E.length : Int) := by omega
            obtain ⟨ge, rfl, hge, -, d0, d1, d2, d3, d4, d5, -⟩ := es_at (own_fr (unhide HF10).2.2.2.1 hfx (fun _ _ => id)) k2 hlt
            by_cases hw3 : E[k2].what = 3
            · have hnx := hmid.next hlt hw3
              generalize hx : E[k2] = x at *
              obtain ⟨xw, xi, xo, xp, xc, xe⟩ := x
              simp only at hw3 hnx d0 d1 d2 d3 d4 d5
              subst hw3
              obtain ⟨g1, g2, g3, rfl, g5, g6, hm2⟩ := hnx
              have HX := hide (And.intro hm2 (And.intro g1 (And.intro g2 g3)))
              have HNN := hide hmid.nn
              have HFX := hide hfx
              clear hmid hm2 g1 g2 g3 hx hfx
              go_upto_region 26 with fail
              generalize hWE : World.alloc wr _ = WE
              have hfE : Fr No wr WE := by rw [← hWE]; exact (Fr.refl _ _).alloc _
              have hE0 : WE.heap[wr.heap.size]? = some (.cells #[.int .i64 3, .int .i64 950000000, .int .i64 xo, .int .i64 xp, .int .i64 xc, .int .i64 xe] 31 (0, 0)) := by rw [← hWE]; exact heap_alloc_new wr _
              clear hWE d0 d1 d2 d3 d4 d5
              have hfE' := (unhide HFX).quiet hfE
              have h11 := hfE'.heap (unhide HF10).2.1 id
              obtain ⟨c0, c1, c2, c3, c4, c5, c6, c7, -⟩ := box8 h11
              obtain ⟨d0, d1, d2, d3, d4, d5, -⟩ := box6 hE0
              generalize hPE : wr.heap.size = PE at *
              have HFE := hide hfE'
              have HE0 := hide hE0
              have hss : (cs = 1 ∧ decide (cs = 2) = false) ∨ (cs = 2 ∧ decide (cs = 1) = false) := by
                rcases (unhide HC).1.side with e | e
                · exact .inl ⟨e, by have e : cs = 1 := e; rw [e]; rfl⟩
                · exact .inr ⟨e, by have e : cs = 2 := e; rw [e]; rfl⟩
              have hg : ck = 2 ∨ (decide (ck = 2) = false ∧ cs = 1 ∧ xp ≤ cp) ∨ (decide (ck = 2) = false ∧ cs = 2 ∧ cp ≤ xp) := by
                have := (unhide HX).2.1
                simp only [goodP, Bool.or_eq_true, Bool.and_eq_true, beq_iff_eq, decide_eq_true_eq] at this
                by_cases h2 : ck = 2
                · exact .inl h2
                · have hd : decide (ck = 2) = false := by simpa using h2
                  rcases this with (h | h) | h
                  · exact absurd h h2
                  · exact .inr (.inl ⟨hd, h⟩)
                  · exact .inr (.inr ⟨hd, h⟩)
              have ho : pr = 0 ∨ (decide (pr = 0) = false ∧ cs = 1 ∧ pr ≤ xp) ∨ (decide (pr = 0) = false ∧ cs = 2 ∧ xp ≤ pr) := by
                have := (unhide HX).2.2.1
                simp only [orderP, Bool.or_eq_true, Bool.and_eq_true, beq_iff_eq, decide_eq_true_eq] at this
                by_cases h2 : pr = 0
                · exact .inl h2
                · have hd : decide (pr = 0) = false := by simpa using h2
                  rcases this with (h | h) | h
                  · exact absurd h h2
                  · exact .inr (.inl ⟨hd, h⟩)
                  · exact .inr (.inr ⟨hd, h⟩)
              have HSS := hide (And.intro hss (And.intro hg ho))
              clear hfE hfE' h11 hE0 hPE hss hg ho
              go_cut [17] from 67 to 175 (fun s17 wx => s17 = .bool true ∧ WE = wx)
              case first =>
                have HH : Hid (Fr No w10 WE) := HFE
                rcases (unhide HSS).2.1 with rfl | ⟨h1, rfl, h2⟩ | ⟨h1, rfl, h2⟩
                · go_wp2_with fail
                  go_meet
                  exact ⟨rfl, rfl⟩
                · have h1' : (ck == 2) = false := by simpa using h1
                  have h2' : decide (xp ≤ cp) = true := by simpa using h2
                  go_wp2_with fail
                  go_meet
                  exact ⟨rfl, rfl⟩
                · have h1' : (ck == 2) = false := by simpa using h1
                  have h2' : decide (cp ≤ xp) = true := by simpa using h2
                  go_wp2_with fail
                  go_meet
                  exact ⟨rfl, rfl⟩
              case rest =>
                obtain ⟨rfl, rfl⟩ := hcut
                go_upto_region 27 with fail
                go_cut [18] from 67 to 175 (fun s18 wx => s18 = .bool true ∧ WE = wx)
                case first =>
                  rcases (unhide HSS).2.2 with rfl | ⟨h1, rfl, h2⟩ | ⟨h1, rfl, h2⟩
                  · go_wp2_with fail
                    go_meet
                    exact ⟨rfl, rfl⟩
                  · have h1' : (pr == 0) = false := by simpa using h1
                    have h2' : decide (pr ≤ xp) = true := by simpa using h2
                    go_wp2_with fail
                    go_meet
                    exact ⟨rfl, rfl⟩
                  · have h1' : (pr == 0) = false := by simpa using h1
                    have h2' : decide (xp ≤ pr) = true := by simpa using h2
                    go_wp2_with fail
                    go_meet
                    exact ⟨rfl, rfl⟩
                case rest =>
                  obtain ⟨rfl, rfl⟩ := hcut
                  clear d0 d1 d2 d3 d4 d5 c0 c1 c2 c3 c4 c5 c6 c7
                  go_wp2_with fail
                  go_loopg [19, 20] LV.length (fun g s19 s20 wx => ∃ (j : Nat), j ≤ LV.length ∧ g = LV.length - j ∧ s19 = .bool (thereIn (LV.take j) xp) ∧ s20 = .int .i64 j ∧ Fr No WE wx)
                  case atStart => exact ⟨0, Nat.zero_le _, rfl, rfl, rfl, Fr.refl _ _⟩
                  case round =>
                    obtain ⟨j, hj, rfl, rfl, rfl, hfj⟩ := hrel
                    obtain ⟨d0, d1, d2, d3, d4, d5, -⟩ := box6 (hfj.heap (unhide HE0) id)
                    by_cases hjl : j < LV.length
                    · have ej : (j : Int) < (LV.length : Int) := by omega
                      obtain ⟨gl, rfl, hgl, -, l0, -, -, -⟩ := ls_at (own_fr (unhide HF10).2.2.1 ((unhide HFE).quiet hfj) (fun _ _ => id)) j hjl
                      have hsu := take_any_succ hjl xp
                      have HFJ := hide (And.intro hfj hsu)
                      clear hfj hsu
                      cases hT : thereIn (LV.take j) xp
                      · by_cases hq : LV[j].price = xp
                        · have hqd : (LV[j].price == xp) = true := by simpa using hq
                          have hR : thereIn (LV.take (j + 1)) xp = true := by rw [(unhide HFJ).2, hT, hqd]; rfl
                          have HR := hide hR
                          clear hR hT
                          go_wp2_with fail
                          go_quiet (fail)
                          go_wp2
                          go_roundg (LV.length - (j + 1))
                          case measure => omega
                          case rel => exact ⟨j + 1, hjl, rfl, by rw [unhide HR], by go_num, (unhide HFJ).1.drewN _⟩
                        · have hqd : (LV[j].price == xp) = false := by simpa using hq
                          have hR : thereIn (LV.take (j + 1)) xp = false := by rw [(unhide HFJ).2, hT, hqd]; rfl
                          have HR := hide hR
                          clear hR hT
                          go_wp2_with fail
                          go_quiet (fail)
                          go_wp2
                          go_roundg (LV.length - (j + 1))
                          case measure => omega
                          case rel => exact ⟨j + 1, hjl, rfl, by rw [unhide HR], by go_num, (unhide HFJ).1.drewN _⟩
                      · have hR : thereIn (LV.take (j + 1)) xp = true := by rw [(unhide HFJ).2, hT]; rfl
                        have HR := hide hR
                        clear hR hT
                        go_wp2_with fail
                        go_quiet (fail)
                        go_wp2
                        go_roundg (LV.length - (j + 1))
                        case measure => omega
                        case rel => exact ⟨j + 1, hjl, rfl, by rw [unhide HR], by go_num, (unhide HFJ).1.drewN _⟩
                    · have ej : decide ((j : Int) < (LV.length : Int)) = false := by simp; omega
                      have hT : thereIn (LV.take j) xp = true := by rw [List.take_of_length_le (by omega)]; exact (unhide HX).2.2.2
                      obtain ⟨c0, c1, c2, c3, c4, c5, c6, c7, -⟩ := box8 (((unhide HFE).quiet hfj).heap (unhide HF10).2.1 id)
                      rw [hT]
                      have HFJ := hide ((unhide HFE).quiet hfj)
                      have hxc : decide (xc < 1) = false := by simp; omega
                      have hcb : sumT E ≤ cc ∧ cc ≤ 30 := ⟨(unhide HF10).2.2.2.2.le, (unhide HC).1.count.2⟩
                      have hnn : 0 ≤ sum := (unhide HNN)
                      clear hT hfj
                      go_wp2
                      go_roundg (E.length - (k2 + 1))
                      case measure => omega
                      case rel => exact ⟨k2 + 1, sum + xc, xp, rfl, by go_num, rfl, by go_num, (unhide HX).1, unhide HFJ⟩
            · have hm2 := hmid.skip hlt hw3
              have hw3d : (E[k2].what != 3) = true := by simpa using hw3
              have HX := hide (And.intro hm2 hfx)
              clear hmid hm2 hfx
              go_wp2
              go_roundg (E.length - (k2 + 1))
              case measure => omega
              case rel => exact ⟨k2 + 1, sum, pr, rfl, rfl, rfl, by go_num, (unhide HX).1, by first | exact (unhide HX).2.alloc _⟩
          · have e1 : decide ((k2 : Int) < (E.length : Int)) = false := by simp; omega
            have hsum : sum = sumT E := by rw [hmid.sm, List.take_of_length_le (by omega)]
            have hfe := (unhide HF10).2.2.2.2
            obtain ⟨c0, c1, c2, c3, c4, c5, c6, c7, -⟩ := box8 (hfx.heap (unhide HF10).2.1 id)
            have hle : sumT E ≤ cc := hfe.le
            have hcc : 1 ≤ cc ∧ cc ≤ 30 := (unhide HC).1.count
            have hnn : 0 ≤ sumT E := by rw [← hsum]; exact hmid.nn
            have HFX := hide ((unhide HF10).1.quiet hfx)
            by_cases h4 : ck = 4
            · rcases hfe.whole h4 with hE | ⟨E', hE, hwh⟩
              · have hwh : sumT E = 0 := by rw [hE]; rfl
                obtain ⟨ge, rfl, hge, -, d0, d1, d2, d3, d4, d5, -⟩ := es_at (own_fr (unhide HF10).2.2.2.1 hfx (fun _ _ => id)) 0 (by rw [hE]; simp)
                have hEl1 : E.length = 1 := by rw [hE]; rfl
                simp only [hE, List.getElem_cons_zero, refusedE, Nat.zero_mul, Nat.zero_add] at d0 d1 d2 d3 d4 d5
                rw [hsum, hwh]
                rw [hEl1] at e1 ⊢
                clear hmid hfe hsum hwh hE hfx hle hnn
                subst h4
                go_wp2_with fail
                go_quiet (fail)
                go_wp2
                go_ret
                exact ⟨rfl, (unhide HFX).drewN _⟩
              · have hEl1 : E.length ≠ 1 := fun h => by
                  rw [hE] at h hwh
                  have : E' = [] := by cases E' with | nil => rfl | cons _ _ => simp at h
                  rw [this] at hwh
                  have h0 : sumT [takenE (950000000 : Int) cc] = 0 := rfl
                  have hwh : sumT [takenE (950000000 : Int) cc] = cc := hwh
                  omega
                have hEd : decide ((E.length : Int) = 1) = false := by simp; omega
                have hEd2 : ((E.length : Int) == 1) = false := by simp; omega
                have hsc : sum = cc := hsum.trans hwh
                clear hmid hfe hsum hwh hE hfx hle hnn
                subst h4 hsc
                go_wp2_with fail
                go_quiet (fail)
                go_wp2
                go_ret
                exact ⟨rfl, (unhide HFX).drewN _⟩
            · have h4d : (ck == 4) = false := by simpa using h4
              have hle2 : decide (sum ≤ cc) = true := by rw [hsum]; simpa using hle
              clear hmid hfe hsum hfx hle hnn
              go_wp2
              go_ret
              exact ⟨by simp, unhide HFX⟩
end Go.Proofs.Ytigpgnjgmaoejaa
