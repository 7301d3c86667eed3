/- A desk's command CancelAll. Conditions: the pit lies in memory and is as it should be. -/
import Derived.Test.YtigpgnjgmaoejaaGreatDoAN
import Derived.Test.YtigpgnjgmaoejaaGreatOfAB
namespace Go.Proofs.YtigpgnjgmaoejaaGreat
open Go.RowKit

theorem PitAt.congr {w : World} {bx : Nat} {bb : Nat → Nat} {v : Nat → Nat → Value} {ro : Nat → Nat} {s s' : St} (h : PitAt w bx bb v ro s) (htr : s.tr = s'.tr) (htd : s.td = s'.td) (hv : s.vol = s'.vol) (hM : ∀ k, k < 8 → ∀ j, j < 2 → s.M k j = s'.M k j) : PitAt w bx bb v ro s' :=
  ⟨by rw [← hv]; exact h.blk, fun k hk => by rw [← htr, ← htd]; exact (h.book k hk).congr (hM k hk), h.ro0, h.rob⟩
theorem CmdTo.congr {w w' : World} {bx : Nat} {bb : Nat → Nat} {v v' : Nat → Nat → Value} {ro' : Nat → Nat} {s s' : St} {E : List Ev} {r : Value} (h : CmdTo w w' bx bb v v' ro' s E r) (htr : s.tr = s'.tr) (htd : s.td = s'.td) (hv : s.vol = s'.vol) (hM : ∀ k, k < 8 → ∀ j, j < 2 → s.M k j = s'.M k j) : CmdTo w w' bx bb v v' ro' s' E r :=
  ⟨⟨h.to.pit.congr htr htd hv hM, h.to.fr, h.to.new⟩, h.evs, h.own⟩

/-- What rests without some. -/
def remAll (O : List Ord) (L : List Ord) : List Ord := O.foldl (fun L o => without o.id L) L
theorem remAll_snoc (O : List Ord) (x : Ord) (L : List Ord) : remAll (O ++ [x]) L = without x.id (remAll O L) := by simp [remAll]
theorem remAll_sub : ∀ (O L : List Ord), (remAll O L).Sublist L
  | [], _ => List.Sublist.refl _
  | x :: O, L => (remAll_sub O (without x.id L)).trans List.filter_sublist
theorem mem_remAll : ∀ {O L : List Ord} {y : Ord}, y ∈ remAll O L ↔ y ∈ L ∧ y.id ∉ O.map Ord.id
  | [], L, y => by simp [remAll]
  | x :: O, L, y => by
    show y ∈ remAll O (without x.id L) ↔ _
    rw [mem_remAll, without, List.mem_filter]
    simp only [bne_iff_ne, ne_eq, List.map_cons, List.mem_cons, not_or]
    exact ⟨fun h => ⟨h.1.1, h.1.2, h.2⟩, fun h => ⟨⟨h.1, h.2.1⟩, h.2.2⟩⟩
theorem remAll_filter : ∀ (O L : List Ord), remAll O L = L.filter fun o => decide (o.id ∉ O.map Ord.id)
  | [], L => (List.filter_eq_self.2 fun o _ => by simp).symm
  | x :: O, L => by
    show remAll O (without x.id L) = _
    rw [remAll_filter, without, List.filter_filter]
    refine List.filter_congr fun o _ => ?_
    rw [Bool.eq_iff_iff]
    simp only [Bool.and_eq_true, decide_eq_true_eq, bne_iff_ne, ne_eq, List.map_cons, List.mem_cons, not_or]
    exact ⟨fun h => ⟨h.2, h.1⟩, fun h => ⟨h.2, h.1⟩⟩

theorem mem_ofT2 {M : Nat → List Ord} {t : Int} {o : Ord} : o ∈ ofT2 M t ↔ (o ∈ M 0 ∨ o ∈ M 1) ∧ o.trader = t := by
  unfold ofT2
  rw [List.mem_append, List.mem_filter, List.mem_filter]
  simp only [isOf, beq_iff_eq]
  constructor
  · rintro (⟨h1, h2⟩ | ⟨h1, h2⟩)
    · exact ⟨.inl h1, h2⟩
    · exact ⟨.inr h1, h2⟩
  · rintro ⟨h1 | h1, h2⟩
    · exact .inl ⟨h1, h2⟩
    · exact .inr ⟨h1, h2⟩
theorem ofT2_nodup {M : Nat → List Ord} (h : Uniq M) (t : Int) : ((ofT2 M t).map Ord.id).Nodup := by
  unfold Uniq at h
  rw [← List.map_append] at h
  exact h.sublist ((List.filter_sublist.append List.filter_sublist).map Ord.id)
theorem ofT2_len (M : Nat → List Ord) (t : Int) : (ofT2 M t).length ≤ (M 0).length + (M 1).length := by
  unfold ofT2
  rw [List.length_append]
  exact Nat.add_le_add (List.length_filter_le _ _) (List.length_filter_le _ _)
/-- All of a trader's taken out. -/
theorem remAll_of {M : Nat → List Ord} (h : Uniq M) (t : Int) {j : Nat} (hj : j < 2) : remAll (ofT2 M t) (M j) = (M j).filter fun o => !isOf t o := by
  rw [remAll_filter]
  refine List.filter_congr fun o ho => ?_
  have hm : ∀ x : Ord, x ∈ M 0 ∨ x ∈ M 1 → x ∈ M 0 ++ M 1 := fun x hx => List.mem_append.2 hx
  have ho2 : o ∈ M 0 ∨ o ∈ M 1 := by
    match j, hj with
    | 0, _ => exact .inl ho
    | 1, _ => exact .inr ho
  unfold Uniq at h
  rw [← List.map_append] at h
  have key : o.id ∈ (ofT2 M t).map Ord.id ↔ o.trader = t := by
    constructor
    · intro hmm
      obtain ⟨y, hy, e⟩ := List.mem_map.1 hmm
      obtain ⟨h1, h2⟩ := mem_ofT2.1 hy
      have := id_inj h (hm y h1) (hm o ho2) e
      subst this
      exact h2
    · intro ht
      exact List.mem_map_of_mem (mem_ofT2.2 ⟨ho2, ht⟩)
  rw [Bool.eq_iff_iff]
  simp only [decide_eq_true_eq, key, isOf, Bool.not_eq_true', beq_eq_false_iff_ne, ne_eq]

/-- The first books are without the trader's. -/
def dropTo (s : St) (t : Int) (k : Nat) : St := { s with M := fun i j => if i < k then (s.M i j).filter (fun o => !isOf t o) else s.M i j }
def dropE (s : St) (t : Int) (k : Nat) : List Ev := ((List.range k).flatMap fun i => ofT2 (s.M i) t).map goneO
/-- And some of the next one's are. -/
def midS (s : St) (t : Int) (k : Nat) (l : List Ord) : St := { s with M := upd (dropTo s t k).M k fun i => remAll l (s.M k i) }
theorem midS_nil (s : St) (t : Int) (k : Nat) : midS s t k [] = dropTo s t k := by
  have e : (fun i => remAll [] (s.M k i)) = (dropTo s t k).M k := by funext i; simp [remAll, dropTo]
  unfold midS
  rw [e, upd_same]
  rfl
theorem midS_snoc (s : St) (t : Int) (k : Nat) (l : List Ord) (x : Ord) : ({ midS s t k l with M := upd (midS s t k l).M k fun i => without x.id ((midS s t k l).M k i) } : St) = midS s t k (l ++ [x]) := by
  unfold midS
  simp only [upd_upd, upd_self, remAll_snoc]
theorem midS_k (s : St) (t : Int) (k : Nat) (l : List Ord) (i : Nat) : (midS s t k l).M k i = remAll l (s.M k i) := by
  unfold midS
  simp only [upd_self]
theorem midS_all {s : St} {t : Int} {k : Nat} (hu : Uniq (s.M k)) : ∀ i, i < 8 → ∀ j, j < 2 → (midS s t k (ofT2 (s.M k) t)).M i j = (dropTo s t (k + 1)).M i j := by
  intro i _ j hj
  by_cases e : i = k
  · subst e
    rw [midS_k, remAll_of hu t hj]
    simp [dropTo]
  · unfold midS
    simp only [upd_other e, dropTo]
    by_cases h : i < k
    · rw [if_pos h, if_pos (by omega)]
    · rw [if_neg h, if_neg (by omega)]
theorem dropE_succ (s : St) (t : Int) (k : Nat) : dropE s t (k + 1) = dropE s t k ++ (ofT2 (s.M k) t).map goneO := by
  unfold dropE
  rw [List.range_succ, List.flatMap_append, List.map_append]
  simp
theorem dropE_len {s : St} (hg : WF s) (t : Int) : ∀ k, k ≤ 8 → (dropE s t k).length ≤ 200 * k
  | 0, _ => by simp [dropE]
  | k + 1, hk => by
    rw [dropE_succ, List.length_append, List.length_map]
    have h1 := dropE_len hg t k (by omega)
    have h2 := ofT2_len (s.M k) t
    have h3 := (hg.book k (by omega)).cap
    omega
theorem midS_uniq {s : St} {t : Int} {k : Nat} (hu : Uniq (s.M k)) (l : List Ord) : Uniq ((midS s t k l).M k) := by
  unfold Uniq
  rw [midS_k, midS_k]
  exact hu.sublist (((remAll_sub _ _).map Ord.id).append ((remAll_sub _ _).map Ord.id))

/-- One order less, one event more. -/
theorem CmdTo.rem {W0 wi wa w1 w2 w3 : World} {bx : Nat} {bb : Nat → Nat} {v vj : Nat → Nat → Value} {roj : Nat → Nat} {s : St} {E : List Ev} {l : Value} (h : CmdTo W0 wi bx bb v vj roj s E l) {k : Nat} (hk : k < 8) {x : Ord}
    (ha : Fr No wi wa) {v1 : Nat → Value} (ht : BTo wa w1 (bb k) bx (s.tr k) (s.td k) (vj k) v1 (fun j => without x.id (s.M k j))) (h2 : Fr No w1 w2) {g n c : Nat} (h3 : Fr (OwnS l) w2 w3) (hes : Es w3 W0.heap.size (.slice (some ⟨g, 0, none⟩) n c) (E ++ [goneO x])) (hat : OwnS l g ∨ w1.heap.size ≤ g) :
    ∃ ro', CmdTo W0 w3 bx bb v (upd vj k v1) ro' { s with M := upd s.M k fun j => without x.id (s.M k j) } (E ++ [goneO x]) (.slice (some ⟨g, 0, none⟩) n c) ∧ Fr (fun q => PS bx bb vj q ∨ OwnS l q) wi w3 ∧ ∀ q, PS bx bb (upd vj k v1) q → PS bx bb vj q ∨ wi.heap.size ≤ q := by
  obtain ⟨ro1, ⟨hp1, hf1, hn1⟩⟩ := (h.to.pit.no ha).to hk ht
  have hlt := h.to.pit.lt
  have hll : ∀ q, OwnS l q → W0.heap.size ≤ q ∧ q < wi.heap.size := h.evs.lt
  have hnn : ∀ q, PS bx bb (upd vj k v1) q → PS bx bb vj q ∨ wi.heap.size ≤ q := fun q hq => (hn1 q hq).imp id (fun h => Nat.le_trans ha.size h)
  have hdis : ∀ q, OwnS l q → ¬ PS bx bb (upd vj k v1) q := fun q hq hp => by
    rcases hnn q hp with h1 | h1
    · exact h.own q hq h1
    · have := (hll q hq).2; omega
  have hs1 := hf1.size
  have hs2 := ha.size
  have hfr : Fr (fun q => PS bx bb vj q ∨ OwnS l q) wi w3 :=
    (((ha.of_no.same (hf1.mono fun _ _ e => .inl e)).quiet h2).same (h3.mono fun _ _ e => .inr e))
  refine ⟨ro1, ⟨⟨(hp1.no h2).fr h3 (fun q hq e => hdis q e hq), ?_, fun q hq => ?_⟩, hes, fun q hq hp => ?_⟩, hfr, hnn⟩
  · refine h.to.fr.trans hfr (fun q hq e => ?_)
    rcases e with e | e
    · exact (h.to.new q e).elim id (fun h => by omega)
    · have := (hll q e).1; omega
  · rcases hnn q hq with h1 | h1
    · exact h.to.new q h1
    · right; have := h.to.fr.size; omega
  · have e := own_eq' hq
    subst e
    rcases hat with h1 | h1
    · exact hdis _ h1 hp
    · have := hp1.lt _ hp; omega
theorem CmdTo.no {W0 wi w1 : World} {bx : Nat} {bb : Nat → Nat} {v vj : Nat → Nat → Value} {roj : Nat → Nat} {s : St} {E : List Ev} {l : Value} (h : CmdTo W0 wi bx bb v vj roj s E l) (hf : Fr No wi w1) : CmdTo W0 w1 bx bb v vj roj s E l :=
  ⟨h.to.no hf, own_fr h.evs hf (fun _ _ => id), h.own⟩
set_option maxHeartbeats 8000000 in
set_option maxRecDepth 20000 in
theorem dCancelAll_any (bx : Nat) (bb : Nat → Nat) (v : Nat → Nat → Value) (ro : Nat → Nat) (s : St) (c : Cmd) (w : World) (h : PitAt w bx bb v ro s) (hg : WF s) :
    Calls Tryz.prog 47 #[.pointer (some ⟨bx, 0, none⟩), c.val] w (CmdPost w bx bb v (sCancelAll s c)) := by
  have HP := hide h
  have HG := hide hg
  clear h hg
  unfold Cmd.val
  cases hb : inB c.trader 1 1000 with
  | false =>
    have HB := hide hb
    have HE : Hid (sCancelAll s c = (s, [refusedE 0 2])) := by show _ = _; simp [sCancelAll, hb]
    clear hb
    rw [unhide HE]
    go_enter Tryz.func47, Tryz.ntmps47
    go_wp2_with (first
      | (go_at_call 75; refine (isTrader_any c.trader _).mono ?_; rintro e w2 ⟨rfl, rfl⟩; rw [unhide HB])
      | (go_at_call 50; refine (pRefused_any _ _ _).mono ?_; rintro e w2 ⟨r2, rfl, he2, hf2⟩))
    go_ret
    have hfa := (Fr.refl No w).alloc (.cells #[.int .i64 c.what, .int .i64 c.id, .int .i64 c.trader, .int .i64 c.book, .int .i64 c.side, .int .i64 c.kind, .int .i64 c.price, .int .i64 c.count] 31)
    exact CmdPost.said (unhide HP) (hfa.quiet hf2) (es_more hfa he2)
  | true =>
    have HB := hide hb
    have HE : Hid (sCancelAll s c = (s.dropT c.trader, dropE s c.trader 8)) := by show _ = _; simp [sCancelAll, hb, dropE]
    clear hb
    rw [unhide HE]
    have c0 := (unhide HP).cellB 0 (by omega)
    have c1 := (unhide HP).cellB 1 (by omega)
    have c2 := (unhide HP).cellB 2 (by omega)
    have c3 := (unhide HP).cellB 3 (by omega)
    have c4 := (unhide HP).cellB 4 (by omega)
    have c5 := (unhide HP).cellB 5 (by omega)
    have c6 := (unhide HP).cellB 6 (by omega)
    have c7 := (unhide HP).cellB 7 (by omega)
    have hbx : bx < w.heap.size := (unhide HP).lt _ (.inl rfl)
    go_enter Tryz.func47, Tryz.ntmps47
    go_wp2_with (go_at_call 75; refine (isTrader_any c.trader _).mono ?_; rintro e w2 ⟨rfl, rfl⟩; rw [unhide HB])
    clear c0 c1 c2 c3 c4 c5 c6 c7
    generalize hW : World.alloc w _ = W0
    have hB0 : Boxed w W0 w.heap.size c := newAt hW rfl
    generalize hN : w.heap.size = N at *
    have HN := hide hN
    clear hW hN
    have hp0 := (unhide HP).no hB0.fr
    have hNp : ¬ PS bx bb v N := fun e => by have := (unhide HP).lt _ e; have := unhide HN; omega
    have HB0 := hide (And.intro hB0 (And.intro hp0 hNp))
    clear hB0 hp0 hNp
    go_loopw [5, 19] (fun l i wr => ∃ k : Nat, k ≤ 8 ∧ i = .int .i64 k ∧ ∃ vk rok, CmdTo W0 wr bx bb v vk rok (dropTo s c.trader k) (dropE s c.trader k) l) (fun _ i _ => 8 - (intOf i).toNat)
    case atStart => exact ⟨0, by omega, rfl, v, ro, ⟨(unhide HB0).2.1.congr rfl rfl rfl (fun _ _ _ _ => by simp [dropTo]), Fr.refl _ _, fun _ hq => .inl hq⟩, World.ownsRow_nil _ _ _ _, fun q hq => by simp [OwnS, Value.ownBlock] at hq⟩
    case round =>
      obtain ⟨k, hk, rfl, vk, rok, hm⟩ := hrel
      by_cases hlt : k < 8
      · have hix := fun w => run_books bb w k hlt
        unfold booksV at hix
        have hbox := hm.to.fr.heap (unhide HB0).1.box (unhide HB0).2.2
        obtain ⟨y0, y1, y2, y3, y4, y5, y6, y7, _⟩ := box8 hbox
        have hEk : (dropE s c.trader k).length ≤ 1600 := by have := dropE_len (unhide HG) c.trader k (by omega); omega
        have hu := ((unhide HG).book k hlt).ids
        rw [← midS_nil] at hm
        have hpb := hm.to.pit.book k hlt
        have HU := hide hu
        have HM := hide (And.intro hm hbox)
        have HPB := hide hpb
        have HDE := hide (dropE_succ s c.trader k)
        have hOn := ofT2_len (s.M k) c.trader
        have hc200 := ((unhide HG).book k hlt).cap
        generalize dropE s c.trader k = Ek at *
        clear hm hbox hu hpb
        go_wp2_with fail
        refine (bOf_any (bb k) bx _ _ (vk k) _ c.trader wr (unhide HPB)).mono ?_
        rintro e w1 ⟨rO, rfl, hoO, hf1⟩
        have hm1 := (unhide HM).1.no hf1
        obtain ⟨O, hO⟩ : ∃ O, O = ofT2 (s.M k) c.trader := ⟨_, rfl⟩
        have hoO : Os w1 wr.heap.size rO O := by
          rw [hO]
          simp only [midS_k] at hoO
          exact hoO
        have hOl : O.length ≤ 2000 := by rw [hO]; omega
        have hrd : ∀ g, OwnS rO g → ¬ PS bx bb vk g ∧ ¬ OwnS u5 g := fun g hg => by
          have h1 := (hoO.lt g hg).1
          exact ⟨fun e => by have := (unhide HM).1.to.pit.lt g e; omega, fun e => by have := ((unhide HM).1.evs.lt g e).2; omega⟩
        obtain ⟨aO, capO, rfl, _⟩ := own_form hoO
        have HO := hide hO
        have hoO0 : Os w1 0 (.slice aO O.length capO) O := own_base hoO (fun _ _ => Nat.zero_le _)
        have HS := hide (And.intro hm1 (And.intro hoO0 hrd))
        clear hoO hoO0 hf1 hm1 hrd hO hOn hc200 y0 y1 y2 y3 y4 y5 y6 y7
        generalize hnn : O.length = n at *
        have Hn := hide hnn
        clear hnn
        go_wp2
        go_loopw [5, 27] (fun l ci wi => ∃ j : Nat, j ≤ n ∧ ci = .int .i64 j ∧ ∃ vj roj, CmdTo W0 wi bx bb v vj roj (midS s c.trader k (O.take j)) (Ek ++ (O.take j).map goneO) l ∧ Os wi 0 (.slice aO n capO) O ∧ ∀ g, OwnS (.slice aO n capO) g → ¬ PS bx bb vj g ∧ ¬ OwnS l g) (fun _ ci _ => n - (intOf ci).toNat)
        case atStart => exact ⟨0, Nat.zero_le _, rfl, vk, rok, by simpa using (unhide HS).1, (unhide HS).2.1, (unhide HS).2.2⟩
        case round =>
          obtain ⟨j, hj, rfl, vj, roj, hm, hoO, hrd⟩ := hrel
          by_cases hjn : j < n
          · have hjl : j < O.length := by rw [unhide Hn]; exact hjn
            obtain ⟨g, rfl, hgl, _, x0, x1, x2, x3, x4, x5, _⟩ := os_at hoO j hjl
            have hst : O.take (j + 1) = O.take j ++ [O[j]] := List.take_succ_eq_append_getElem hjl
            have hEl : (Ek ++ (O.take j).map goneO).length ≤ 4000 := by
              have : (O.take j).length ≤ j := List.length_take_le _ _
              simp only [List.length_append, List.length_map]
              omega
            have huj := midS_uniq (t := c.trader) (unhide HU) (O.take j)
            generalize hE : Ek ++ (O.take j).map goneO = Ej at *
            have HST : Hid (midS s c.trader k (O.take (j + 1)) = { midS s c.trader k (O.take j) with M := upd (midS s c.trader k (O.take j)).M k fun i => without O[j].id ((midS s c.trader k (O.take j)).M k i) } ∧ Ek ++ (O.take (j + 1)).map goneO = Ej ++ [goneO O[j]]) := by
              constructor
              · rw [hst, midS_snoc]
              · rw [hst, List.map_append, ← List.append_assoc, hE]; rfl
            generalize midS s c.trader k (O.take j) = sj at *
            clear hst hE
            generalize O[j] = x at *
            have HMJ := hide (And.intro hm (And.intro hoO (And.intro hrd huj)))
            clear hm hoO hrd huj
            go_wp2_with fail
            generalize hWa : World.alloc wr _ = Wa
            have hfa : Fr No wr Wa := by rw [← hWa]; exact (Fr.refl _ _).alloc _
            have hqa : Wa.heap[wr.heap.size]? = some (.cells #[.int .i64 x.id, .int .i64 x.trader, .int .i64 x.book, .int .i64 x.side, .int .i64 x.price, .int .i64 x.opn] 95 (0, 0)) := by rw [← hWa]; exact heap_alloc_new wr _
            clear hWa
            have HFA := hide (And.intro hfa hqa)
            clear hfa hqa
            refine (bRemove_any (bb k) bx _ _ (vj k) (sj.M k) x.id Wa (((unhide HMJ).1.to.pit.book k hlt).no (unhide HFA).1) (unhide HMJ).2.2.2).mono ?_
            rintro e w5 ⟨rfl, v5, ht5⟩
            have hq5 := ht5.fr.heap (unhide HFA).2 (fun e => by have := (unhide HMJ).1.to.pit.lt _ (.inr ⟨k, hlt, e⟩); omega)
            obtain ⟨r0, r1, r2, r3, r4, r5, _⟩ := box6 hq5
            have hQ5 := lt_of_heap hq5
            have HT5 := hide ht5
            clear ht5 hq5
            go_wp2_with fail
            refine (eGone_any x w5).mono ?_
            rintro e w6 ⟨rfl, hf6⟩
            have HF6 := hide hf6
            have hs6 := hf6.size
            clear hf6
            rw [show (goneO x).val = .agg #[.int .i64 5, .int .i64 x.id, .int .i64 0, .int .i64 0, .int .i64 x.opn, .int .i64 0] from rfl]
            have hsW : W0.heap.size ≤ w6.heap.size := by
              have h1 := (unhide HMJ).1.to.fr.size
              have h2 := (unhide HFA).1.size
              have h3 := (unhide HT5).fr.size
              omega
            have hes6 : Es w6 W0.heap.size u5 Ej := own_fr (own_fr (own_fr (unhide HMJ).1.evs (unhide HFA).1 (fun _ _ => id)) (unhide HT5).fr (fun q hq e => (unhide HMJ).1.own q hq (.inr ⟨k, hlt, e⟩))) (unhide HF6) (fun _ _ => id)
            have HES := hide hes6
            clear hes6
            go_wp2_with (at_builtin; refine app_ev rfl (.tmp 35) (.tmp 38) rfl W0.heap.size _ Ej (own_fr (S := No) (unhide HES) ((Fr.refl _ _).alloc _) (fun _ _ => id)) rfl ⟨w6.heap.size, 0, none⟩ 1 1 [goneO x] rfl rfl (by simp) (new_cells w6 (goneO x).cells _) (by simp; omega) (by simp; omega) ?_; intro g9 c9 w9 hown9 hfr9 hat9 hlt9)
            go_roundw
            case rel =>
              obtain ⟨hm, hoO, hrd, huj⟩ := unhide HMJ
              obtain ⟨ro9, hc9, hf9, hn9⟩ := hm.rem hlt (unhide HFA).1 (unhide HT5) ((unhide HF6).alloc _) hfr9 hown9 (hat9.imp id (fun h => by have : g9 = w6.heap.size + 1 := (by simpa using h); omega))
              refine ⟨j + 1, by omega, by go_num, upd vj k v5, ro9, ?_, own_fr hoO hf9 (fun q hq e => e.elim (hrd q hq).1 (hrd q hq).2), fun q hq => ⟨fun e => ?_, fun e => ?_⟩⟩
              · rw [(unhide HST).1, (unhide HST).2]; exact hc9
              · have := (hoO.lt q hq).2
                rcases hn9 q e with h1 | h1
                · exact (hrd q hq).1 h1
                · omega
              · have e2 := own_eq' e
                subst e2
                have := (hoO.lt _ hq).2
                have h5 := (unhide HT5).fr.size
                have h6 := (unhide HFA).1.size
                rcases hat9 with h1 | h1
                · exact (hrd _ hq).2 h1
                · have : g9 = w6.heap.size + 1 := by simpa using h1
                  omega
            case measure => simp [intOf]; omega
          · have hjn2 : O.take j = O := List.take_of_length_le (by have := unhide Hn; omega)
            rw [hjn2, unhide HO, ← unhide HDE] at hm
            replace hm := hm.congr (s' := dropTo s c.trader (k + 1)) rfl rfl rfl (midS_all (unhide HU))
            have HM9 := hide hm
            clear hm hoO hrd hjn2
            go_wp2
            go_roundw
            case rel => exact ⟨k + 1, by omega, by go_num, vj, roj, unhide HM9⟩
            case measure => simp [intOf]; omega
      · have hk8 : k = 8 := by omega
        rw [hk8] at hm
        have HM := hide hm
        clear hm hk8
        go_wp2
        go_ret
        exact CmdPost.after (unhide HB0).1.fr ⟨_, vk, rok, rfl, (unhide HM).congr rfl rfl rfl (fun i hi j _ => by simp [dropTo, St.dropT, hi])⟩
end Go.Proofs.YtigpgnjgmaoejaaGreat
