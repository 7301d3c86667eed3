/- Contract of the document's bestOf: the place of the best order of a trader. Conditions: the pit lies in memory, fewer than 100001 orders rest. -/
import Derived.Test.YtigpgnjgmaoejaaGreatRefE
import Derived.Test.YtigpgnjgmaoejaaGreatLay
import Derived.Test.YtigpgnjgmaoejaaGreatRefFG
import Derived.Deep.LoopGhost
import Derived.Deep.RegionHeld3
namespace Go.Proofs.YtigpgnjgmaoejaaGreat
open Go.RowKit

def natCell (n : Nat) : List Value := [.int .i64 (n : Int)]
theorem natCell_len (n : Nat) : (natCell n).length = 1 := rfl
theorem natCell_one (n : Nat) : ∀ u ∈ natCell n, u.oneCell' = true := by intro u hu; simp only [natCell, List.mem_cons, List.not_mem_nil, or_false] at hu; subst hu; rfl
/-- A slice of numbers. -/
def Ns (w : World) (base : Nat) (v : Value) (L : List Nat) : Prop := w.ownsRow base 3 1 v L.length (L.flatMap natCell)

theorem app_nat {ops : Array Oper} {rest : List Oper} {o : Oper} {a : Act} {Q : Exit → Act → World → Prop} {w : World} (hgd : o.guard = none) (s x : Operand) (ho : o.op = .call { callee := .builtin .append, args := #[s, x], argTypes := #[26, 26] })
    (base : Nat) (v : Value) (L : List Nat) (hown : Ns w base v L) (hs : a.eval s = v)
    (ad : Addr) (m c : Nat) (N : List Nat) (hx : a.eval x = .slice (some ad) m c) (hm : m = N.length) (hN : 0 < N.length) (hnews : ∀ j u, (N.flatMap natCell)[j]? = some u → w.cell? (ad.add j) = some u)
    (hb : L.length + N.length ≤ 1000000) (hbase : base ≤ w.heap.size)
    (h : ∀ g cap w', Ns w' base (.slice (some ⟨g, 0, none⟩) (L.length + m) cap) (L ++ N) → Fr (OwnS v) w w' → (v.ownBlock = some g ∨ g = w.heap.size) → g < w'.heap.size → wpList Tryz.prog ops Q rest (a.put o.dst (.slice (some ⟨g, 0, none⟩) (L.length + m) cap)) w') : wpList Tryz.prog ops Q (o :: rest) a w :=
  wpList_plain hgd fun _ hK => app_wp infoInt Tryz.underlying26 natCell_len rfl (by decide) natCell_one s x ho base v L hown hs ad m c N hx hm hN hnews (by omega) (by omega) hbase fun g cap w' h2 h3 h4 h5 => hK _ _ (h g cap w' h2 h3 h4 h5)

def isOf (t : Int) (o : Ord) : Bool := o.trader == t
/-- The places of a trader's orders among the first k. -/
def idxTo (L : List Ord) (t : Int) (k : Nat) : List Nat := (List.range k).filter fun j => (L[j]?.map (isOf t)).getD false

theorem idxTo_succ {L : List Ord} {t : Int} {k : Nat} (hk : k < L.length) : idxTo L t (k + 1) = if isOf t L[k] = true then idxTo L t k ++ [k] else idxTo L t k := by
  unfold idxTo
  rw [List.range_succ, List.filter_append]
  simp only [List.filter_cons, List.filter_nil, List.getElem?_eq_getElem hk, Option.map_some, Option.getD_some]
  split <;> simp
theorem subTo_succ {L : List Ord} {t : Int} {k : Nat} (hk : k < L.length) : (L.take (k + 1)).filter (isOf t) = if isOf t L[k] = true then (L.take k).filter (isOf t) ++ [L[k]] else (L.take k).filter (isOf t) := by
  rw [List.take_succ_eq_append_getElem hk, List.filter_append]
  simp only [List.filter_cons, List.filter_nil]
  split <;> simp
theorem idxTo_len {L : List Ord} {t : Int} : ∀ {k : Nat}, k ≤ L.length → (idxTo L t k).length = ((L.take k).filter (isOf t)).length
  | 0, _ => by simp [idxTo]
  | k + 1, h => by
    rw [idxTo_succ (by omega), subTo_succ (by omega)]
    have := idxTo_len (L := L) (t := t) (k := k) (by omega)
    split <;> simp [this]
theorem sub_le {L : List Ord} {t : Int} {k : Nat} : ((L.take k).filter (isOf t)).length ≤ k := Nat.le_trans (List.length_filter_le _ _) (List.length_take_le _ _)

def bestOfO (L : List Ord) (b s t : Int) : Option Nat := (bestO (L.filter (isOf t)) b s).bind fun j => (idxTo L t L.length)[j]?

theorem ns_at {w : World} {base : Nat} {a : Option Addr} {n cap : Nat} {L : List Nat} (h : Ns w base (.slice a n cap) L) (i : Nat) (hi : i < L.length) :
    ∃ g, a = some ⟨g, 0, none⟩ ∧ g < w.heap.size ∧ n = L.length ∧ w.cell? ⟨g, i, none⟩ = some (.int .i64 (L[i] : Int)) := by
  obtain ⟨g, rfl, h1, _, h3, _, hc, _⟩ := own_at natCell_len h i hi
  exact ⟨g, rfl, h1, h3, by have := hc 0 _ (by omega) rfl; simpa using this⟩

set_option maxRecDepth 100000 in
set_option maxHeartbeats 4000000 in
theorem bestOf_any (bp : Nat) (v : Value) (s : Ref) (b sd t : Int) (w : World) (hr : RefAt w bp v s) (hn : s.L.length ≤ 100000) :
    Calls Tryz.prog 120 #[.pointer (some ⟨bp, 0, none⟩), .int .i64 b, .int .i64 sd, .int .i64 t] w fun e w' => e = .returned (.int .i64 (enc (bestOfO s.L b sd t))) ∧ Fr No w w' := by
  obtain ⟨a, cap, rfl⟩ := hr.form
  have HR := hide hr
  have hL := hr.cellL
  have hbp := hr.lt
  clear hr
  generalize hnn : s.L.length = n at *
  have Hn := hide hnn
  clear hnn
  go_enter Tryz.func120, Tryz.ntmps120
  go_wp2
  go_loopw [10, 11] (fun l i wr => ∃ k : Nat, ∃ vq, k ≤ n ∧ i = .int .i64 k ∧ RefAt wr w.heap.size vq (refNil ((s.L.take k).filter (isOf t))) ∧ Ns wr (w.heap.size + 1) l (idxTo s.L t k) ∧ Fr No w wr ∧ (∀ g, vq.ownBlock = some g → w.heap.size + 1 ≤ g) ∧ (∀ g, vq.ownBlock = some g → l.ownBlock ≠ some g)) (fun _ i _ => n - (intOf i).toNat)
  case atStart =>
    refine ⟨0, .slice none 0 0, Nat.zero_le _, rfl, ⟨heap_alloc_new w _, World.ownsRow_nil _ _ _ _, by simp [Value.ownBlock]⟩, World.ownsRow_nil _ _ _ _, (Fr.refl _ _).alloc _, by simp [Value.ownBlock], by simp [Value.ownBlock]⟩
  case round =>
    obtain ⟨k, vq, hk, rfl, hq, hown, hfr, hvq, hne⟩ := hrel
    have hr2 := (unhide HR).no hfr
    have hL2 := hr2.cellL
    have hbp2 := hr2.lt
    have hbq := hq.lt
    have hsz := hfr.size
    by_cases hlt : k < n
    · have hlt' : k < s.L.length := by rw [unhide Hn]; exact hlt
      obtain ⟨g, rfl, hg, _, hc0, hc1, hc2, hc3, hc4, hc5, _⟩ := os_at hr2.own k hlt'
      have HI := hide (idxTo_succ (t := t) hlt')
      have HS := hide (subTo_succ (t := t) hlt')
      have hil := idxTo_len (t := t) (Nat.le_of_lt hlt')
      have hsl := sub_le (L := s.L) (t := t) (k := k)
      by_cases hof : isOf t s.L[k] = true
      · have hof' : (s.L[k].trader == t) = true := hof
        rw [if_pos hof] at HI HS
        generalize hsub : (s.L.take k).filter (isOf t) = sub at *
        generalize hidx : idxTo s.L t k = idx at *
        obtain ⟨aq, cq, rfl⟩ := hq.form
        have hLq := hq.cellL
        have hfq := hq.frozen 0
        have hilN : idx.length ≤ 100000 := by omega
        have hslN : (refNil sub).L.length ≤ 100000 := by show sub.length ≤ _; omega
        have HQ := hide hq
        have HO := hide hown
        have HE := hide (And.intro hvq hne)
        have HF := hide hfr
        clear hq hown hfr hr2 hL hsub hidx hil hvq hne hof
        go_wp2
        go_region_law (refine step_ord rfl (.tmp 38) (.tmp 46) rfl (w.heap.size + 1) _ sub (own_fr (S := No) (own_base (unhide HQ).own (unhide HE).1) (by repeat (first | exact Fr.refl _ _ | refine Fr.drew ?_ | refine Fr.alloc ?_ _)) (fun _ _ => id)) (by simp [Act.eval, refNil]) ⟨wr.heap.size, 0, none⟩ 1 1 [s.L[k]] (by simp [Act.eval]) rfl (by simp) (new_cells wr.drew s.L[k].cells _) (by have : sub.length ≤ 100000 := hslN; simp; omega) (by simp; omega) ?_; intro g1 c1 w1 hown1 hfr1 hat1 hlt1; have hf1w : Fr (OwnS (.slice aq (refNil sub).L.length cq)) wr w1 := Fr.same (by repeat (first | exact Fr.refl _ _ | refine Fr.drew ?_ | refine Fr.alloc ?_ _)) hfr1; have hb1 := hf1w.heap (unhide HQ).blk (unhide HQ).apart; have hf1 := frozen_heap hb1 0; have hl1 : w1.cell? ⟨w.heap.size, 0, none⟩ = some (.slice aq (refNil sub).L.length cq) := cell_heap hb1 0; have HH := hide (And.intro hown1 (And.intro hf1w (And.intro hat1 hb1))); clear hown1 hf1w hat1 hb1 hfr1)
        all_goals
          obtain ⟨hown1, hf1w, hat1, hb1⟩ := unhide HH
          obtain ⟨hvq, hne⟩ := unhide HE
          have hqlt : ∀ j, OwnS (.slice aq (refNil sub).L.length cq) j → w.heap.size + 1 ≤ j ∧ j < wr.heap.size := fun j hj => ⟨hvq j hj, ((unhide HQ).own.lt j hj).2⟩
          have hg1 : (OwnS (.slice aq (refNil sub).L.length cq) g1 ∧ g1 < wr.heap.size) ∨ g1 = wr.heap.size + 1 := by
            rcases hat1 with h | h
            · exact .inl ⟨h, (hqlt g1 h).2⟩
            · exact .inr (by simpa using h)
          have hg1b := (own_form hown1)
          have hgw : w.heap.size + 1 ≤ g1 := by
            rcases hg1 with h | h
            · exact (hqlt g1 h.1).1
            · omega
          generalize hW2 : World.setCell w1 _ _ = W2
          have hq3 : RefAt W2 w.heap.size (.slice (some ⟨g1, 0, none⟩) (sub.length + 1) c1) (refNil (sub ++ [s.L[k]])) := by
            rw [← hW2]
            exact ref_store (s := refNil sub) hb1 hown1 (fun j hj => by have := own_eq hj; omega)
          have hf3 : Fr (RefS w.heap.size (.slice aq (refNil sub).L.length cq)) wr W2 := by
            rw [← hW2]; exact Fr.setAt (S := RefS w.heap.size (.slice aq (refNil sub).L.length cq)) (hf1w.mono fun i _ hi => Or.inr hi) w.heap.size (.inr (Or.inl rfl)) 0 _
          have hsz2 : w1.heap.size ≤ W2.heap.size := by rw [← hW2]; simp [World.setCell]
          have hl2 : Ns W2 (w.heap.size + 1) u10 idx := own_fr (unhide HO) hf3 (fun j hj e => by
            have := ((unhide HO).lt j hj).1
            rcases e with e | e
            · omega
            · exact hne j e hj)
          have hfa : Fr No w W2 := (unhide HF).trans hf3 (fun j hj e => by
            rcases e with e | e
            · omega
            · have := (hqlt j e).1; omega)
          have hsz3 := hf3.size
          have hu10 : ∀ j, u10.ownBlock = some j → w.heap.size + 1 ≤ j ∧ j < wr.heap.size := fun j hj => (unhide HO).lt j hj
          have hne10 : ∀ j, u10.ownBlock = some j → ¬ OwnS (.slice aq (refNil sub).L.length cq) j := fun j hj e => hne j e hj
          have HX := hide (And.intro hq3 (And.intro hl2 (And.intro hfa (And.intro hg1 (And.intro hgw (And.intro hu10 hne10))))))
          clear HH hq3 hl2 hfa hg1 hgw hf3 hW2 hown1 hf1w hat1 hb1 hvq hne hqlt hg1b hu10 hne10
          go_wp2_with (at_builtin; refine app_nat rfl (.tmp 50) (.tmp 52) rfl (w.heap.size + 1) _ idx (own_fr (S := No) (unhide HX).2.1 ((Fr.refl _ _).alloc _) (fun _ _ => id)) rfl ⟨W2.heap.size, 0, none⟩ 1 1 [k] rfl rfl (by simp) (new_cells W2 (natCell k) _) (by simp; omega) (by simp; omega) ?_; intro g4 c4 w4 hown4 hfr4 hat4 hlt4)
          obtain ⟨hq3, hl2, hfa, hg1, hgw, hu10, hne10⟩ := unhide HX
          have hf4 : Fr (OwnS u10) W2 w4 := Fr.same ((Fr.refl _ _).alloc _) hfr4
          go_roundw
          case rel =>
            refine ⟨k + 1, .slice (some ⟨g1, 0, none⟩) (sub.length + 1) c1, by omega, by go_num, ?_, ?_, ?_, ?_, ?_⟩
            · rw [unhide HS]
              refine hq3.fr hf4 (fun e => by have := (hu10 _ e).1; omega) (fun j hj e => ?_)
              have := own_eq hj
              subst this
              rcases hg1 with h | h
              · exact hne10 _ e h.1
              · have := (hu10 _ e).2; omega
            · rw [unhide HI]; exact hown4
            · exact hfa.trans hf4 (fun j hj e => by have := (hu10 j e).1; omega)
            · intro j hj; have := own_eq hj; omega
            · intro j hj hj'
              have e1 := own_eq hj
              have e2 := own_eq hj'
              rcases hat4 with h | h
              · have := hu10 _ h
                rcases hg1 with h' | h'
                · exact hne10 _ h (by rw [← e2, e1]; exact h'.1)
                · omega
              · simp at h; omega
          case measure => simp [intOf]; omega
      · have hof' : (s.L[k].trader == t) = false := by simpa [isOf] using hof
        rw [if_neg hof] at HI HS
        have HQ := hide (And.intro hq (And.intro hown (And.intro hfr (And.intro hvq hne))))
        clear hq hown hfr hr2 hL hof hil hvq hne
        go_wp2
        go_roundw
        case rel =>
          obtain ⟨hq, hown, hfr, hvq, hne⟩ := unhide HQ
          exact ⟨k + 1, vq, by omega, by go_num, by rw [unhide HS]; exact hq, by rw [unhide HI]; exact hown, hfr, hvq, hne⟩
        case measure => simp [intOf]; omega
    · have hkn : k = s.L.length := by have := unhide Hn; omega
      have hsub : (s.L.take k).filter (isOf t) = s.L.filter (isOf t) := by rw [List.take_of_length_le (by omega)]
      rw [hsub] at hq
      have hil := idxTo_len (L := s.L) (t := t) (k := k) (by omega)
      rw [hsub] at hil
      have hle : (s.L.filter (isOf t)).length ≤ 100000 := by have := List.length_filter_le (isOf t) s.L; have := unhide Hn; omega
      have HB : Hid (bestOfO s.L b sd t = (bestO (s.L.filter (isOf t)) b sd).bind fun j => (idxTo s.L t k)[j]?) := by show _ = _; rw [hkn]; rfl
      have HQ := hide (And.intro hq (And.intro hown (And.intro hfr hil)))
      clear hq hown hfr hr2 hL hkn hsub hil hvq hne
      go_wp2_with fail
      refine (best_any w.heap.size vq (refNil (s.L.filter (isOf t))) b sd wr (unhide HQ).1 hle).mono ?_
      rintro e w1 ⟨rfl, hf1⟩
      obtain ⟨hq, hown, hfr, hil⟩ := unhide HQ
      have hown1 : Ns w1 _ u10 _ := own_fr hown hf1 (fun _ _ => id)
      cases hbo : bestO (refNil (s.L.filter (isOf t))).L b sd with
      | none =>
        have HE : Hid (bestOfO s.L b sd t = none) := (unhide HB).trans (by rw [show bestO (s.L.filter (isOf t)) b sd = none from hbo]; rfl)
        rw [show enc none = -1 from rfl]
        have HFF := hide (hfr.quiet hf1)
        clear hq hown hfr hil hown1 hf1 hbo
        go_wp2
        go_ret
        exact ⟨retI (by rw [unhide HE]; rfl), unhide HFF⟩
      | some j =>
        have hj : j < (s.L.filter (isOf t)).length := bestO_lt hbo
        have hj2 : j < (idxTo s.L t k).length := by omega
        obtain ⟨a1, c1, rfl, _⟩ := own_form hown1
        obtain ⟨g1, rfl, hg1, _, hcell⟩ := ns_at hown1 j hj2
        have HE : Hid (bestOfO s.L b sd t = some (idxTo s.L t k)[j]) := (unhide HB).trans (by rw [show bestO (s.L.filter (isOf t)) b sd = some j from hbo]; simp [List.getElem?_eq_getElem hj2])
        rw [show enc (some j) = (j : Int) from rfl]
        have hjn : (j : Int) < ((idxTo s.L t k).length : Int) := by omega
        have HFF := hide (hfr.quiet hf1)
        clear hq hown hfr hil hown1 hf1 hbo
        go_wp2
        go_ret
        exact ⟨retI (by rw [unhide HE]; rfl), unhide HFF⟩
end Go.Proofs.YtigpgnjgmaoejaaGreat

/- Contract of the document's cancels (CancelAll). Conditions: the pit lies in memory, fewer than 100001 orders rest. -/
namespace Go.Proofs.YtigpgnjgmaoejaaGreat
open Go.RowKit

/-- The best one of a trader, again and again. -/
def cWhile (b s t : Int) : Nat → List Ord → List Ev → List Ord × List Ev
  | 0, L, E => (L, E)
  | f + 1, L, E => match bestOfO L b s t with
    | none => (L, E)
    | some i => cWhile b s t f (L.eraseIdx i) (E ++ [goneE ((L[i]?.map Ord.id).getD 0) ((L[i]?.map Ord.opn).getD 0)])

def cOne (b s t : Int) (x : List Ord × List Ev) : List Ord × List Ev := cWhile b s t x.1.length x.1 x.2
def cBook (b t : Int) (x : List Ord × List Ev) : List Ord × List Ev := cOne b 2 t (cOne b 1 t x)
def cTo (L : List Ord) (t : Int) : Nat → List Ord × List Ev
  | 0 => (L, [])
  | k + 1 => cBook ((k + 1 : Nat) : Int) t (cTo L t k)

theorem bestOfO_lt {L : List Ord} {b s t : Int} {i : Nat} (h : bestOfO L b s t = some i) : i < L.length := by
  unfold bestOfO at h
  cases hb : bestO (L.filter (isOf t)) b s with
  | none => rw [hb] at h; simp at h
  | some j =>
    rw [hb] at h
    simp only [Option.bind_some] at h
    have hm := List.mem_of_getElem? h
    have := (List.mem_filter.1 hm).1
    simpa using this

theorem cWhile_none {b s t : Int} {f : Nat} {L : List Ord} {E : List Ev} (h : bestOfO L b s t = none) : cWhile b s t f L E = (L, E) := by
  cases f with
  | zero => rfl
  | succ f => simp [cWhile, h]
theorem cWhile_some {b s t : Int} {f : Nat} {L : List Ord} {E : List Ev} {i : Nat} (hi : i < L.length) (h : bestOfO L b s t = some i) : cWhile b s t (f + 1) L E = cWhile b s t f (L.eraseIdx i) (E ++ [goneE L[i].id L[i].opn]) := by
  simp [cWhile, h, List.getElem?_eq_getElem hi]
theorem cWhile_len {b s t : Int} : ∀ {f : Nat} {L : List Ord} {E : List Ev}, (cWhile b s t f L E).1.length + (cWhile b s t f L E).2.length = L.length + E.length
  | 0, L, E => rfl
  | f + 1, L, E => by
    unfold cWhile
    split
    · rfl
    · rename_i i h
      have hi := bestOfO_lt h
      rw [cWhile_len]
      rw [List.length_eraseIdx, if_pos hi, List.length_append]
      simp; omega
theorem cBook_len {b t : Int} {x : List Ord × List Ev} : (cBook b t x).1.length + (cBook b t x).2.length = x.1.length + x.2.length := by
  unfold cBook cOne
  rw [cWhile_len, cWhile_len]
theorem cTo_len {L : List Ord} {t : Int} : ∀ {k : Nat}, (cTo L t k).1.length + (cTo L t k).2.length = L.length
  | 0 => by simp [cTo]
  | k + 1 => by rw [cTo, cBook_len, cTo_len]

/-- A piece behind it that only made memory of its own. -/
theorem RefOut.more {w w1 w' : World} {bp : Nat} {v v' r : Value} {s' : Ref} {E : List Ev} (h : RefOut w w1 bp v v' s' r E) (hf : Fr No w1 w') : RefOut w w' bp v v' s' r E :=
  ⟨h.ref.no hf, h.fr.quiet hf, h.new, own_fr h.evs hf (fun _ _ => id), h.apart⟩

/-- Where the two sides' loop stands. -/
def cSide (b t : Int) (x : List Ord × List Ev) (j : Nat) : List Ord × List Ev := if j = 0 then x else if j = 1 then cOne b 1 t x else cBook b t x
theorem cSide_succ {b t : Int} {x : List Ord × List Ev} {j : Nat} (h : j < 2) : cSide b t x (j + 1) = cOne b ((j : Int) + 1) t (cSide b t x j) := by
  match j, h with
  | 0, _ => rfl
  | 1, _ => rfl

/-- What holds of memory in the midst of it. -/
structure CMid (w wr : World) (bp : Nat) (v : Value) (s : Ref) (l : Value) (x : List Ord × List Ev) : Prop where
  ex : ∃ v', RefOut w wr bp v v' { s with L := x.1 } l x.2
  le : x.1.length + x.2.length ≤ s.L.length

set_option maxRecDepth 100000 in
set_option maxHeartbeats 4000000 in
theorem cancels_any (bp : Nat) (v : Value) (s : Ref) (t : Int) (w : World) (hr : RefAt w bp v s) (hn : s.L.length ≤ 100000) :
    Calls Tryz.prog 61 #[.pointer (some ⟨bp, 0, none⟩), .int .i64 t] w fun e w' => ∃ r v', e = .returned r ∧
      RefOut w w' bp v v' { s with L := (cTo s.L t 8).1 } r (cTo s.L t 8).2 := by
  have HR := hide hr
  clear hr
  go_enter Tryz.func61, Tryz.ntmps61
  go_wp2
  go_loopg [5, 6] 8 (fun f l b wr => ∃ k : Nat, k ≤ 8 ∧ f = 8 - k ∧ b = .int .i64 ((k : Int) + 1) ∧ CMid w wr bp v s l (cTo s.L t k))
  case atStart => exact ⟨0, by omega, rfl, rfl, ⟨⟨v, RefOut.said (unhide HR) (World.ownsRow_nil _ _ _ _) (Fr.refl _ _)⟩, by simp [cTo]⟩⟩
  case round =>
    obtain ⟨k, hk, hgk, rfl, hm⟩ := hrel
    have HGK := hide hgk
    have HM := hide hm
    clear hm hgk
    by_cases hlt : k < 8
    · have hk8 : decide ((k : Int) + 1 ≤ 8) = true := by simp; omega
      go_wp2
      go_loopg [5, 7] 2 (fun f l sd wr => ∃ j : Nat, j ≤ 2 ∧ f = 2 - j ∧ sd = .int .i64 ((j : Int) + 1) ∧ CMid w wr bp v s l (cSide ((k : Int) + 1) t (cTo s.L t k) j))
      case atStart => exact ⟨0, by omega, rfl, rfl, unhide HM⟩
      case round =>
        obtain ⟨j, hj, hgj, rfl, hm⟩ := hrel
        have HGJ := hide hgj
        have HM := hide hm
        clear hm hgj
        by_cases hlt2 : j < 2
        · have hj2 : decide ((j : Int) + 1 ≤ 2) = true := by simp; omega
          have HT := hide (cSide_succ (b := (k : Int) + 1) (t := t) (x := cTo s.L t k) hlt2)
          generalize hX : cSide ((k : Int) + 1) t (cTo s.L t k) j = X at *
          clear hX
          generalize hY : cSide ((k : Int) + 1) t (cTo s.L t k) (j + 1) = Y at *
          have HY := hide hY
          clear hY
          obtain ⟨⟨v1, ho1⟩, hle1⟩ := unhide HM
          have hxl : X.1.length ≤ 100000 := by omega
          go_wp2_with fail
          refine (bestOf_any bp v1 { s with L := X.1 } _ _ t wr ho1.ref hxl).mono ?_
          rintro e w1 ⟨rfl, hf1⟩
          have HM1 : Hid (CMid w w1 bp v s u5 X) := ⟨⟨v1, RefOut.more ho1 hf1⟩, hle1⟩
          clear ho1 hf1
          go_wp2
          go_loopg [5, 8] X.1.length (fun f l at_ wr => ∃ L E, at_ = .int .i64 (enc (bestOfO L ((k : Int) + 1) ((j : Int) + 1) t)) ∧ CMid w wr bp v s l (L, E) ∧ cWhile ((k : Int) + 1) ((j : Int) + 1) t f L E = Y ∧ L.length ≤ f)
          case atStart => exact ⟨X.1, X.2, rfl, unhide HM1, (unhide HT).symm, Nat.le_refl _⟩
          case round =>
            obtain ⟨L, E, rfl, hm, hcw, hle⟩ := hrel
            cases hbo : bestOfO L ((k : Int) + 1) ((j : Int) + 1) t with
            | none =>
              have HY2 : Hid ((L, E) = Y) := (cWhile_none hbo).symm.trans hcw
              have HM2 := hide hm
              rw [show enc none = -1 from rfl]
              clear hm hcw hbo
              go_wp2
              go_roundg (2 - (j + 1))
              case rel => exact ⟨j + 1, by omega, rfl, by go_num, by rw [unhide HY, ← unhide HY2]; exact unhide HM2⟩
              case measure => have := unhide HGJ; omega
            | some i =>
              have hi := bestOfO_lt hbo
              obtain ⟨f, rfl⟩ : ∃ f, gk = f + 1 := ⟨gk - 1, by omega⟩
              have HCW : Hid (cWhile ((k : Int) + 1) ((j : Int) + 1) t f (L.eraseIdx i) (E ++ [goneE L[i].id L[i].opn]) = Y) := (cWhile_some hi hbo).symm.trans hcw
              have HLE : Hid ((L.eraseIdx i).length ≤ f) := by show _ ≤ _; rw [List.length_eraseIdx, if_pos hi]; omega
              obtain ⟨⟨v2, ho2⟩, hle2⟩ := hm
              simp only at hle2
              have hr2 := ho2.ref
              obtain ⟨a2, c2, rfl⟩ := hr2.form
              obtain ⟨g, rfl, hg, _, hc0, _, _, _, _, hc5, _⟩ := os_at hr2.own i hi
              have hL2 := hr2.cellL
              have hbp2 := hr2.lt
              have hE : Es wr w.heap.size u5 E := ho2.evs
              have hsz := ho2.fr.size
              have hin : (i : Int) < (L.length : Int) := by omega
              have hEl : E.length ≤ 100000 := by omega
              have hel := hE.lt
              have hne5 : ∀ q, OwnS u5 q → q ≠ bp ∧ q ≠ g ∧ w.heap.size ≤ q := fun q hq => ⟨fun e => by have := (hel q hq).1; have := (unhide HR).lt; omega, fun e => ho2.apart q hq (by rw [e]; rfl), (hel q hq).1⟩
              have HO2 := hide ho2
              have HE := hide hE
              have HN5 := hide hne5
              rw [show enc (some i) = (i : Int) from rfl]
              clear hcw hbo hle ho2 hr2 hE hel hne5
              go_wp2
              go_region_held3 (fun w' => w'.cell? ⟨bp, 0, none⟩ = some (.slice (some ⟨g, 0, none⟩) L.length c2) ∧ w'.cell? ⟨g, i * 6, none⟩ = some (.int .i64 L[i].id) ∧ w'.cell? ⟨g, i * 6 + 5, none⟩ = some (.int .i64 L[i].opn)) (go_keep)
                (first
                  | (go_at_call 119; (refine (gone_any _ _ _).mono ?_; rintro e w2 ⟨rfl, hf2'⟩; unfold goneE Ev.val; have hf2 : Fr No wr w2 := ((Fr.refl _ _).drew).quiet hf2'; clear hf2'; have hd1 := (hf2.below.cell (p := ⟨bp, 0, none⟩) hbp2).trans hL2; have hd2 := (hf2.below.cell (p := ⟨g, i * 6, none⟩) hg).trans hc0; have hd3 := (hf2.below.cell (p := ⟨g, i * 6 + 5, none⟩) hg).trans hc5; have hsz2 : wr.heap.size ≤ w2.heap.size := hf2.size; have hbp3 : bp < w2.heap.size := (by omega); have hg3 : g < w2.heap.size := (by omega); have HF2 := hide hf2; clear hf2))
                  | (refine step_ev rfl (.tmp 24) (.tmp 42) rfl w.heap.size _ E (own_fr (S := No) (unhide HE) ((unhide HF2).alloc _) (fun _ _ => id)) (by simp [Act.eval]) ⟨w2.heap.size, 0, none⟩ 1 1 [goneE L[i].id L[i].opn] (by simp [Act.eval]) rfl (by simp) (new_cells w2 (goneE L[i].id L[i].opn).cells _) (by simp; omega) (by simp; omega) ?_; intro g3 c3 w3 hown3 hfr3 hat3 hlt3; have hf3 : Fr (OwnS u5) w2 w3 := Fr.same ((Fr.refl _ _).alloc _) hfr3; have he1 := (World.cell?_of_block (a := ⟨bp, 0, none⟩) (hf3.block bp hbp3 (fun e => (unhide HN5 _ e).1 rfl))).trans hd1; have he2 := (World.cell?_of_block (a := ⟨g, i * 6, none⟩) (hf3.block g hg3 (fun e => (unhide HN5 _ e).2.1 rfl))).trans hd2; have he3 := (World.cell?_of_block (a := ⟨g, i * 6 + 5, none⟩) (hf3.block g hg3 (fun e => (unhide HN5 _ e).2.1 rfl))).trans hd3; have HX := hide (And.intro hown3 (And.intro hf3 hat3)); clear hown3 hf3 hat3 hfr3))
              obtain ⟨hown3, hf3, hat3⟩ := unhide HX
              have ho2 := unhide HO2
              have hn5 := unhide HN5
              have hbw := (unhide HR).lt
              have hr3 : RefAt w3 bp (.slice (some ⟨g, 0, none⟩) L.length c2) { s with L := L } := (ho2.ref.no (unhide HF2)).fr hf3 (fun e => (hn5 _ e).1 rfl) (fun q hq e => (hn5 _ e).2.1 (own_eq hq))
              have hll : L.length ≤ 100000 := by omega
              have hfa : Fr (RefS bp v) w w3 := (ho2.fr.quiet (unhide HF2)).trans hf3 (fun q hq e => by have := (hn5 _ e).2.2; omega)
              have hgn := ho2.new g rfl
              have hg3e : OwnS u5 g3 ∨ g3 = w2.heap.size + 1 := by
                rcases hat3 with h | h
                · exact .inl h
                · exact .inr (by simpa using h)
              have hEw : w.heap.size ≤ g3 ∧ g3 ≠ bp := by
                rcases hg3e with h | h
                · exact ⟨(hn5 _ h).2.2, (hn5 _ h).1⟩
                · omega
              have HZ := hide (And.intro hown3 (And.intro hr3 (And.intro hfa (And.intro hgn hEw))))
              clear hown3 hf3 hat3 HX ho2 hn5 hr3 hfa hg3e hgn hEw hL2 hc0 hc5 hd1 hd2 hd3
              go_wp2_with fail
              refine (drop_any bp _ { s with L := L } i w3 (unhide HZ).2.1 hll).mono ?_
              rintro e w4 ⟨rfl, v4, hr4, hf4, hv4⟩
              have hl4 : (L.eraseIdx i).length ≤ 100000 := by rw [List.length_eraseIdx, if_pos hi]; omega
              have hle4 : (L.eraseIdx i).length + (E.length + 1) ≤ s.L.length := by rw [List.length_eraseIdx, if_pos hi]; omega
              have HV := hide (And.intro hr4 (And.intro hf4 (And.intro hv4 hle4)))
              clear hr4 hf4 hv4 hle4
              go_wp2_with fail
              refine (bestOf_any bp v4 { s with L := L.eraseIdx i } _ _ t w4 (unhide HV).1 hl4).mono ?_
              rintro e w5 ⟨rfl, hf5⟩
              have HF5 := hide hf5
              clear hf5
              go_wp2
              go_roundg f
              case rel =>
                obtain ⟨hown3, hr3, hfa, hgn, hEw⟩ := unhide HZ
                obtain ⟨hr4, hf4, hv4, hle4⟩ := unhide HV
                have h3lt := (hown3.lt g3 rfl).2
                refine ⟨L.eraseIdx i, E ++ [goneE L[i].id L[i].opn], rfl, ⟨⟨v4, RefOut.more ⟨hr4, hfa.trans hf4 (fun q _ e => .inl e), fun q hq => .inr ?_, own_fr hown3 hf4 (fun q hq e => ?_), fun q hq hq' => ?_⟩ (unhide HF5)⟩, ?_⟩, unhide HCW, unhide HLE⟩
                · have := hv4 q hq; have := hfa.size; omega
                · have e1 := own_eq hq; have e2 : q = bp := e; omega
                · have e1 := own_eq hq; have := hv4 q hq'; omega
                · simpa using hle4
              case measure => omega
        · have hj2 : j = 2 := by omega
          subst hj2
          go_wp2
          go_roundg (8 - (k + 1))
          case rel => exact ⟨k + 1, by omega, rfl, by go_num, by have := unhide HM; rw [cTo]; simpa [cSide] using this⟩
          case measure => have := unhide HGK; omega
    · have hk8 : k = 8 := by omega
      subst hk8
      obtain ⟨⟨v1, ho1⟩, hle1⟩ := unhide HM
      have HO := hide ho1
      clear ho1
      go_wp2
      go_ret
      exact ⟨_, v1, rfl, unhide HO⟩
end Go.Proofs.YtigpgnjgmaoejaaGreat
