/- The document's Do, whole. Conditions: the pit is good. -/
import Derived.Test.YtigpgnjgmaoejaaGreatRefS15
import Derived.Test.YtigpgnjgmaoejaaGreatRefS23
import Derived.Test.YtigpgnjgmaoejaaGreatRefS4
import Derived.Test.YtigpgnjgmaoejaaGreatRefHK
import Derived.Test.YtigpgnjgmaoejaaGreatRefLM
import Derived.Test.YtigpgnjgmaoejaaGreatRefV
namespace Go.Proofs.YtigpgnjgmaoejaaGreat
open Go.RowKit

theorem mWhile_grow {x : Ord} : ∀ {f : Nat} {L : List Ord} {t o : Int} {E : List Ev}, E.length ≤ (mWhile x f L t o E).2.2.2.length
  | 0, L, t, o, E => Nat.le_refl _
  | f + 1, L, t, o, E => by
    unfold mWhile
    split
    · split
      · exact Nat.le_refl _
      · split
        · exact Nat.le_refl _
        · split
          · exact Nat.le_trans (by simp) mWhile_grow
          · exact Nat.le_trans (by simp) mWhile_grow
    · exact Nat.le_refl _
theorem tTakes_pos (s : Ref) (x : Ord) (kind : Int) : 0 < (tTakes s x kind).2.length := by
  unfold tTakes
  split
  · have h := mWhile_grow (x := mkt x) (f := s.L.length + 1) (L := s.L) (t := s.td x.book.toNat) (o := x.opn) (E := [takenE x.id x.opn])
    generalize mWhile (mkt x) (s.L.length + 1) s.L (s.td x.book.toNat) x.opn [takenE x.id x.opn] = R at *
    simp only [List.length_cons, List.length_nil] at h
    unfold takesT
    split
    · exact h
    · split <;> simp
  · simp

set_option maxRecDepth 100000 in
set_option maxHeartbeats 4000000 in
theorem comes_phaseT (bp : Nat) (v : Value) (s : Ref) (c : Cmd) (w : World) (hr : RefAt w bp v s) (hn : s.L.length ≤ 100000) (hok : newOk c = true) (hk : findO s.L c.id = none)
    (htr : s.tr c.book.toNat = false) (hkind : c.kind ≠ 1) :
    Calls Tryz.prog 58 #[.pointer (some ⟨bp, 0, none⟩), c.val] w fun e w' => ∃ r, e = .returned r ∧ RefOut w w' bp v v s r [refusedE c.id 6] := by
  have HR := hide hr
  have hbp := hr.lt
  obtain ⟨h1, h2, h3, h4, h5, h5', h6, h7⟩ := newOk_parts hok
  obtain ⟨cw, cid, ct, cb, cs, ck, cp, cc⟩ := c
  unfold Cmd.val
  simp only at *
  have HK := hide hk
  obtain ⟨hb1, hb8⟩ := inB_true h3
  obtain ⟨nb, rfl⟩ := Int.eq_ofNat_of_zero_le (by omega : 0 ≤ cb)
  have hT := hr.cellTr nb (by omega)
  have htn : s.tr nb = false := by simpa using htr
  rw [htn] at hT
  have hkd : (ck != 1) = true := by simpa using hkind
  clear hk hok hr htr htn hkind
  rcases h4 with rfl | rfl
  all_goals
    by_cases h8 : ck = 2
    all_goals
      first | subst h8 | (replace h6 := h6.resolve_left h8; have h8' : (ck != 2) = true := by simpa using h8)
      try clear h8
      go_enter Tryz.func58, Tryz.ntmps58
      go_wp2_with (first
        | (go_at_call 57; refine (in_any _ _ _ _).mono ?_; rintro e w1 ⟨rfl, rfl⟩)
        | (go_at_call 113; refine (find_any bp v s _ _ ((unhide HR).no ((Fr.refl _ _).alloc _)) hn).mono ?_; rintro e w1 ⟨rfl, rfl⟩; rw [unhide HK, show enc none = -1 from rfl]))
      go_quiet (fail)
      go_wp2_with (go_at_call 60; refine (refused_any _ _ _).mono ?_; rintro e w1 ⟨r, rfl, he, hf⟩)
      go_ret
      exact ⟨_, rfl, RefOut.said (unhide HR) (own_base he (fun g hg => by have := (he.lt g hg).1; simp at this; omega)) ((((Fr.refl _ _).alloc _).drewN _).quiet hf)⟩

set_option maxRecDepth 100000 in
set_option maxHeartbeats 4000000 in
theorem turns_anewT (bp : Nat) (v : Value) (s : Ref) (c : Cmd) (w : World) (hr : RefAt w bp v s) (hn : s.L.length ≤ 100000) (hok : turnOk c = true)
    (i : Nat) (hi : i < s.L.length) (hk : findO s.L c.id = some i) (heq : s.L[i].trader = c.trader) (hwh : c.what = 3) (hno : ¬ (c.price = s.L[i].price ∧ c.count ≤ s.L[i].opn))
    (hgd : Good s) (X : Ref × List Ev) (hX : tTakes { s with L := s.L.eraseIdx i } { s.L[i] with price := c.price, opn := c.count } 1 = X) :
    Calls Tryz.prog 59 #[.pointer (some ⟨bp, 0, none⟩), c.val] w fun e w' => ∃ r v', e = .returned r ∧
      RefOut w w' bp v v' X.1 r (goneE s.L[i].id s.L[i].opn :: X.2) := by
  have hXp := tTakes_pos { s with L := s.L.eraseIdx i } { s.L[i] with price := c.price, opn := c.count } 1
  have hcc := turnOk_parts hok
  have hmc := change_may hgd hi (inB_true (hcc.2.2 hwh).1) (inB_true (hcc.2.2 hwh).2)
  have hgs := hgd.sub (List.eraseIdx_sublist s.L i)
  have hXl := (good_takes hgs hmc).2
  have hXn : ({ s with L := s.L.eraseIdx i } : Ref).L.length ≤ 100000 := by show (s.L.eraseIdx i).length ≤ 100000; rw [List.length_eraseIdx]; split <;> omega
  rw [hX] at hXp hXl
  have HMC := hide (And.intro hmc hgs)
  have HXX := hide hX
  clear hcc hmc hgs hX hgd
  have HR := hide hr
  have hbp := hr.lt
  have hL := hr.cellL
  obtain ⟨a, cap, rfl⟩ := hr.form
  obtain ⟨h1, h2, h3⟩ := turnOk_parts hok
  obtain ⟨cw, cid, ct, cb, cs, ck, cp, cc⟩ := c
  unfold Cmd.val
  simp only at *
  subst hwh
  obtain ⟨h4, h5⟩ := h3 rfl
  obtain ⟨hp1, _⟩ := inB_true h4
  obtain ⟨hq1, _⟩ := inB_true h5
  obtain ⟨g, rfl, hg, _, hc0, hc1, hc2, hc3, hc4, hc5, hfz⟩ := os_at hr.own i hi
  have HK := hide hk
  have hne' : (s.L[i].trader != ct) = false := by simpa using heq
  have hi0 : decide ((i : Int) < 0) = false := by simp
  have hin : (i : Int) < s.L.length := by omega
  have hno' : (cp == s.L[i].price) = false ∨ decide (cc ≤ s.L[i].opn) = false := by
    by_cases h : cp = s.L[i].price
    · right; have : ¬ cc ≤ s.L[i].opn := fun h' => hno ⟨h, h'⟩; simpa using this
    · left; simpa using h
  clear hk hok hr heq h3 hno hfz
  by_cases hpe : (cp == s.L[i].price) = true
  all_goals
    first | replace hno' := hno'.resolve_left (by rw [hpe]; simp) | (replace hpe : (cp == s.L[i].price) = false := by simpa using hpe)
    go_enter Tryz.func59, Tryz.ntmps59
    go_wp2_with (first
      | (go_at_call 57; refine (in_any _ _ _ _).mono ?_; rintro e w1 ⟨rfl, rfl⟩)
      | (go_at_call 113; refine (find_any bp _ s _ _ ((unhide HR).no ((Fr.refl _ _).alloc _)) hn).mono ?_; rintro e w1 ⟨rfl, rfl⟩; rw [unhide HK, show enc (some i) = (i : Int) from rfl]))
    go_quiet (fail)
    go_wp2_with fail
    generalize hW : World.alloc (World.drewN _ nq) _ = W
    have hWf : Fr No w W := by rw [← hW]; exact (((Fr.refl _ _).alloc _).drewN _).alloc _
    have HWS : Hid (W.heap.size = w.heap.size + 2) := by show _ = _; rw [← hW]; simp
    have hWc : W.heap[w.heap.size]? = some (.cells #[.int .i64 3, .int .i64 cid, .int .i64 ct, .int .i64 cb, .int .i64 cs, .int .i64 ck, .int .i64 cp, .int .i64 cc] 31 (0, 0)) := by
      rw [← hW]; exact (((Fr.refl No _).drewN _).alloc _).heap (heap_alloc_new w _) id
    have hWx : W.heap[w.heap.size + 1]? = some (.cells #[.int .i64 s.L[i].id, .int .i64 s.L[i].trader, .int .i64 s.L[i].book, .int .i64 s.L[i].side, .int .i64 s.L[i].price, .int .i64 s.L[i].opn] 95 (0, 0)) := by
      rw [← hW]; exact heap_newAt _ _ (by simp)
    clear hW
    have hne1 : ¬ Is bp w.heap.size := fun e => by have : w.heap.size = bp := e; omega
    have hne2 : ¬ Is bp (w.heap.size + 1) := fun e => by have : w.heap.size + 1 = bp := e; omega
    refine (drop_any bp _ s i W ((unhide HR).no hWf) hn).mono ?_
    rintro e w1 ⟨rfl, v1, hr1, hf1, hv1⟩
    obtain ⟨hx0, hx1, hx2, hx3, hx4, hx5, _⟩ := box6 (hf1.heap hWx hne2)
    have hsz := hf1.size
    have HH := hide (And.intro hWf (And.intro hr1 (And.intro hf1 hv1)))
    have HC := hide (And.intro (hf1.heap hWc hne1) (hf1.heap hWx hne2))
    clear hWf hr1 hf1 hv1 hWc hWx hL hc0 hc1 hc2 hc3 hc4 hc5
    go_wp2_with fail
    refine (gone_any _ _ _).mono ?_
    rintro e w2 ⟨rfl, hf2⟩
    unfold goneE Ev.val
    obtain ⟨hz0, hz1, hz2, hz3, hz4, hz5, hz6, hz7, _⟩ := box8 (hf2.heap (unhide HC).1 id)
    obtain ⟨hu0, hu1, hu2, hu3, hu4, hu5, huf⟩ := box6 (hf2.heap (unhide HC).2 id)
    have hu6 := huf 4
    have hu7 := huf 5
    have hsz2 := hf2.size
    have hsz3 : w.heap.size + 1 < w2.heap.size := by have := unhide HWS; omega
    have hsz4 : w.heap.size < w2.heap.size := by omega
    clear hx0 hx1 hx2 hx3 hx4 hx5
    go_wp2_with fail
    generalize hW3 : World.alloc (World.setCell _ _ _) _ = W3
    have hF3 : Fr (Is (w.heap.size + 1)) w2 W3 := by
      rw [← hW3]
      exact (((Fr.refl _ _).setAt _ (.inr (Is.self _)) _ _).setAt _ (.inr (Is.self _)) _ _).alloc _
    have HS3 : Hid (W3.heap.size = w2.heap.size + 1) := by show _ = _; rw [← hW3]; simp [World.setCell]
    obtain ⟨hWf, hr1, hf1, hv1⟩ := unhide HH
    have hWS := unhide HWS
    have hlt1 : ∀ g, v1.ownBlock = some g → w.heap.size + 2 ≤ g := fun g hg => by have := hv1 g hg; omega
    have hr2 := hr1.no hf2
    have hr3 : RefAt W3 bp v1 { s with L := s.L.eraseIdx i } := hr2.fr hF3 (fun e => by have : bp = w.heap.size + 1 := e; omega) (fun g hg e => by have : g = w.heap.size + 1 := e; have := hlt1 g hg; omega)
    have hl3 : Es W3 (w.heap.size) (.slice (some ⟨w2.heap.size, 0, none⟩) 1 1) [goneE s.L[i].id s.L[i].opn] := by
      rw [← hW3]
      exact es_newAt (goneE s.L[i].id s.L[i].opn) (by simp [World.setCell]) (by simp [World.setCell]; omega)
    have hfa : Fr (RefS bp (.slice (some ⟨g, 0, none⟩) s.L.length cap)) w W3 := by
      refine ((hWf.of_no.same (hf1.mono fun k _ hk => Or.inl hk)).quiet hf2).trans hF3 ?_
      intro k hk e
      have : k = w.heap.size + 1 := e
      omega
    clear hW3
    refine (takes_T bp v1 { s with L := s.L.eraseIdx i } { s.L[i] with price := cp, opn := cc } 1 W3 hr3 (unhide HMC).2 (unhide HMC).1 (.inr hp1)).mono ?_
    rintro e w4 ⟨r4, v4, rfl, ho4⟩
    rw [unhide HXX] at ho4
    have hv1lt : ∀ g, v1.ownBlock = some g → g < w2.heap.size := fun g hg => (hr2.own.lt g hg).2
    have hS3 := unhide HS3
    have hnl : ¬ RefS bp v1 w2.heap.size := by
      rintro (h | h)
      · omega
      · have := hv1lt _ h; omega
    have hl4 := own_fr hl3 ho4.fr (fun g hg => by have := own_eq hg; subst this; exact hnl)
    obtain ⟨g4, c4, hr4e, _, hg4⟩ := World.ownsRow.form ho4.evs hXp
    subst hr4e
    have hn4 := own_news ho4.evs
    have hf4 := ho4.fr
    have hsz5 := hf4.size
    have hsz6 : w.heap.size ≤ w4.heap.size := by omega
    have HX := hide (And.intro hfa (And.intro ho4 (And.intro hl4 (And.intro hv1lt (And.intro hlt1 (And.intro hS3 hn4))))))
    clear hfa ho4 hl4 hv1lt hlt1 hS3 hWf hr1 hf1 hv1 hr2 hr3 hl3 hF3 hn4 hf4 hWS hf2
    go_wp2_with (at_builtin; go_loud (refine app_ev rfl (.tmp 131) (.tmp 132) rfl w.heap.size _ [goneE s.L[i].id s.L[i].opn] (unhide HX).2.2.1 rfl ⟨g4, 0, none⟩ X.2.length c4 X.2 rfl rfl hXp (unhide HX).2.2.2.2.2.2 (by simp; omega) (by omega) ?_; intro g5 c5 w5 hown5 hfr5 hat5 hlt5))
    go_ret
    obtain ⟨hfa, ho4, hl4, hv1lt, hlt1, hS3, _⟩ := unhide HX
    have hv4 : ∀ g, v4.ownBlock = some g → g ≠ w2.heap.size ∧ w.heap.size ≤ g ∧ g < w4.heap.size := fun g hg => by
      have h1 := (ho4.ref.own.lt g hg).2
      rcases ho4.new g hg with h | h
      · have := hv1lt g h; have := hlt1 g h; omega
      · omega
    have hl0 : ∀ g, OwnS (.slice (some ⟨w2.heap.size, 0, none⟩) 1 1) g → g = w2.heap.size := fun g hg => own_eq hg
    refine ⟨_, v4, rfl, ⟨ho4.ref.fr hfr5 (fun e => by have := hl0 _ e; omega) (fun g hg e => (hv4 g hg).1 (hl0 _ e)), ?_, fun g hg => .inr (hv4 g hg).2.1, hown5, ?_⟩⟩
    · refine (hfa.trans ho4.fr ?_).trans hfr5 (fun k hk e => by have := hl0 _ e; omega)
      rintro k hk (h | h)
      · exact .inl h
      · have := hlt1 k h; omega
    · intro k hk hk'
      have e1 := own_eq hk
      have := hv4 k hk'
      rcases hat5 with h | h
      · have := hl0 _ h; omega
      · omega

theorem comes_T (bp : Nat) (v : Value) (s : Ref) (c : Cmd) (w : World) (hr : RefAt w bp v s) (hg : Good s) :
    Calls Tryz.prog 58 #[.pointer (some ⟨bp, 0, none⟩), c.val] w (TPost w bp v (tNew s c)) := by
  have hlen := hg.len
  unfold tNew
  by_cases hok : newOk c = false
  · rw [if_pos hok]
    exact (comes_bad bp v s c w hr hok).mono fun e w' ⟨r, he, ho⟩ => ⟨r, v, he, ho⟩
  · have hok' : newOk c = true := by simpa using hok
    rw [if_neg hok]
    cases hf : findO s.L c.id with
    | some i =>
      rw [if_pos (show (some i).isSome = true from rfl)]
      exact (comes_known bp v s c w hr (by omega) hok' i hf).mono fun e w' ⟨r, he, ho⟩ => ⟨r, v, he, ho⟩
    | none =>
      rw [if_neg (by simp)]
      by_cases hp : s.tr c.book.toNat = false ∧ c.kind ≠ 1
      · rw [if_pos hp]
        exact (comes_phaseT bp v s c w hr (by omega) hok' hf hp.1 hp.2).mono fun e w' ⟨r, he, ho⟩ => ⟨r, v, he, ho⟩
      · rw [if_neg hp]
        have hIN : (if c.kind = 5 ∧ crossB s.L (ordOf c) = true ∨ c.kind = 4 ∧ matchedO s.L (ordOf c) < c.count then (s, [refusedE c.id 7])
          else if (c.kind = 1 ∨ c.kind = 5) ∧ 200 ≤ restN s.L c.book 1 + restN s.L c.book 2 then (s, [refusedE c.id 5])
          else tTakes s { ordOf c with price := if c.kind = 2 then 0 else c.price } c.kind) = tIn s (ordOf c) c.kind := rfl
        rw [hIN]
        have hmay : ¬ ((c.kind = 1 ∨ c.kind = 5) ∧ 200 ≤ restN s.L c.book 1 + restN s.L c.book 2) → MayCome s { ordOf c with price := if c.kind = 2 then 0 else c.price } c.kind := fun q => new_may hok' (by rw [hf]; rfl) hp q
        obtain ⟨n1, n2, n3, n4, n5, n6, n7⟩ := newOk_all hok'
        obtain ⟨cw, cid, ct, cb, cs, ck, cp, cc⟩ := c
        simp only at n3 n5 hf hp
        obtain ⟨nb, rfl⟩ := Int.eq_ofNat_of_zero_le (by omega : 0 ≤ cb)
        have htr : ck ≠ 1 → s.tr nb = true := fun h => by
          cases ht : s.tr nb with
          | true => rfl
          | false => exact absurd ⟨by simpa using ht, h⟩ hp
        have hck : ck = 1 ∨ ck = 2 ∨ ck = 3 ∨ ck = 4 ∨ ck = 5 := by omega
        rcases hck with rfl | rfl | rfl | rfl | rfl
        · exact comes_k1 bp v s cw cid ct cs cp cc nb w hr hg hok' hf (fun h => hmay (fun q => by have := q.2; simp only at this; omega))
        · exact comes_k2 bp v s cw cid ct cs cp cc nb w hr hg hok' hf (htr (by decide)) (hmay (fun q => q.1.elim (fun q => absurd (show (2 : Int) = 1 from q) (by decide)) (fun q => absurd (show (2 : Int) = 5 from q) (by decide))))
        · exact comes_k3 bp v s cw cid ct cs cp cc nb w hr hg hok' hf (htr (by decide)) (hmay (fun q => q.1.elim (fun q => absurd (show (3 : Int) = 1 from q) (by decide)) (fun q => absurd (show (3 : Int) = 5 from q) (by decide))))
        · exact comes_k4 bp v s cw cid ct cs cp cc nb w hr hg hok' hf (htr (by decide)) (hmay (fun q => q.1.elim (fun q => absurd (show (4 : Int) = 1 from q) (by decide)) (fun q => absurd (show (4 : Int) = 5 from q) (by decide))))
        · exact comes_k5 bp v s cw cid ct cs cp cc nb w hr hg hok' hf (htr (by decide)) (fun h => hmay (fun q => by have := q.2; simp only at this; omega))

theorem turns_T (bp : Nat) (v : Value) (s : Ref) (c : Cmd) (w : World) (hr : RefAt w bp v s) (hg : Good s) :
    Calls Tryz.prog 59 #[.pointer (some ⟨bp, 0, none⟩), c.val] w (TPost w bp v (tTurn s c)) := by
  have hlen := hg.len
  unfold tTurn
  by_cases hok : turnOk c = false
  · rw [if_pos hok]
    exact (turns_bad bp v s c w hr hok).mono fun e w' ⟨r, he, ho⟩ => ⟨r, v, he, ho⟩
  · have hok' : turnOk c = true := by simpa using hok
    rw [if_neg hok]
    cases hf : findO s.L c.id with
    | none => exact (turns_none bp v s c w hr (by omega) hok' (.inl hf)).mono fun e w' ⟨r, he, ho⟩ => ⟨r, v, he, ho⟩
    | some i =>
      have hi := findO_some_lt hf
      simp only [List.getElem?_eq_getElem hi]
      unfold tAt
      by_cases ht : s.L[i].trader = c.trader
      · rw [if_neg (by simpa using ht)]
        by_cases hw : c.what = 3
        · rw [if_neg (by simpa using hw)]
          by_cases hp : c.price = s.L[i].price ∧ c.count ≤ s.L[i].opn
          · rw [if_pos hp]
            exact (turns_shrink bp v s c w hr (by omega) hok' i hi hf ht hw hp.1 hp.2).mono fun e w' ⟨r, he, ho⟩ => ⟨r, v, he, ho⟩
          · rw [if_neg hp]
            exact turns_anewT bp v s c w hr (by omega) hok' i hi hf ht hw hp hg _ rfl
        · rw [if_pos hw]
          exact turns_cancel bp v s c w hr (by omega) hok' i hi hf ht hw
      · rw [if_pos ht]
        exact (turns_none bp v s c w hr (by omega) hok' (.inr ⟨i, hi, hf, ht⟩)).mono fun e w' ⟨r, he, ho⟩ => ⟨r, v, he, ho⟩
end Go.Proofs.YtigpgnjgmaoejaaGreat

/- The document's Do, whole. Conditions: the pit is good; what an opening is by the sorted sides (OInv). -/
namespace Go.Proofs.YtigpgnjgmaoejaaGreat
open Go.RowKit

set_option maxRecDepth 100000 in
set_option maxHeartbeats 8000000 in
theorem do_T (bp : Nat) (v : Value) (s : Ref) (c : Cmd) (w : World) (hr : RefAt w bp v s) (hg : Good s) (hopen : ∀ nb : Nat, 1 ≤ nb → nb ≤ 8 → OInv nb s.L (priceO s.L nb).vol ∧ (priceO s.L nb).vol ≤ 10000000000) :
    Calls Tryz.prog 31 #[.pointer (some ⟨bp, 0, none⟩), c.val] w (TPost w bp v (tDo s c)) := by
  have hlen := hg.len
  have hbp := hr.lt
  have HR := hide hr
  have HG := hide hg
  have HO := hide hopen
  by_cases h1 : c.what = 1
  · have hD : tDo s c = tNew s c := by unfold tDo; rw [if_pos h1]
    rw [hD]
    clear hD
    generalize hX : tNew s c = X at *
    have HX := hide hX
    obtain ⟨cw, cid, ct, cb, cs, ck, cp, cc⟩ := c
    simp only at h1
    subst h1
    unfold Cmd.val
    simp only
    clear hX hr hg hopen
    go_enter Tryz.func31, Tryz.ntmps31
    go_wp2_with (first
      | (go_at_call 57; refine (in_any _ _ _ _).mono ?_; rintro e w1 ⟨rfl, rfl⟩)
      | (go_at_call 58; refine (comes_T bp v s ⟨1, cid, ct, cb, cs, ck, cp, cc⟩ _ ((unhide HR).no ((Fr.refl _ _).alloc _)) (unhide HG)).mono ?_; rintro e w1 ⟨r, v1, rfl, ho⟩))
    go_ret
    exact ⟨_, v1, rfl, RefOut.after ((Fr.refl _ _).alloc _) (by rw [unhide HX] at ho; exact ho)⟩
  · by_cases h2 : c.what = 2 ∨ c.what = 3
    · have hD : tDo s c = tTurn s c := by unfold tDo; rw [if_neg h1, if_pos h2]
      rw [hD]
      clear hD
      generalize hX : tTurn s c = X at *
      have HX := hide hX
      obtain ⟨cw, cid, ct, cb, cs, ck, cp, cc⟩ := c
      simp only at h1 h2
      unfold Cmd.val
      simp only
      clear hX hr hg hopen h1
      rcases h2 with rfl | rfl
      all_goals
        go_enter Tryz.func31, Tryz.ntmps31
        go_wp2_with (first
          | (go_at_call 57; refine (in_any _ _ _ _).mono ?_; rintro e w1 ⟨rfl, rfl⟩)
          | (go_at_call 59; refine (turns_T bp v s ⟨_, cid, ct, cb, cs, ck, cp, cc⟩ _ ((unhide HR).no ((Fr.refl _ _).alloc _)) (unhide HG)).mono ?_; rintro e w1 ⟨r, v1, rfl, ho⟩))
        go_ret
        exact ⟨_, v1, rfl, RefOut.after ((Fr.refl _ _).alloc _) (by rw [unhide HX] at ho; exact ho)⟩
    · by_cases h4 : c.what = 4
      · by_cases ht : inB c.trader 1 1000 = true
        · have hD : tDo s c = ({ s with L := (cTo s.L c.trader 8).1 }, (cTo s.L c.trader 8).2) := by unfold tDo; rw [if_neg h1, if_neg h2, if_pos h4, if_pos ht]
          rw [hD]
          clear hD
          generalize hX : cTo s.L c.trader 8 = X at *
          have HX := hide hX
          obtain ⟨cw, cid, ct, cb, cs, ck, cp, cc⟩ := c
          simp only at h4 ht
          subst h4
          unfold Cmd.val
          simp only
          clear hX hr hg hopen h1 h2
          go_enter Tryz.func31, Tryz.ntmps31
          go_wp2_with (first
            | (go_at_call 57; refine (in_any _ _ _ _).mono ?_; rintro e w1 ⟨rfl, rfl⟩)
            | (go_at_call 61; refine (cancels_any bp v s _ _ ((unhide HR).no ((Fr.refl _ _).alloc _)) (by omega)).mono ?_; rintro e w1 ⟨r, v1, rfl, ho⟩))
          go_ret
          exact ⟨_, v1, rfl, RefOut.after ((Fr.refl _ _).alloc _) (by rw [unhide HX] at ho; exact ho)⟩
        · have ht' : inB c.trader 1 1000 = false := by simpa using ht
          have hD : tDo s c = (s, [refusedE 0 2]) := by unfold tDo; rw [if_neg h1, if_neg h2, if_pos h4, if_neg ht]
          rw [hD]
          clear hD
          obtain ⟨cw, cid, ct, cb, cs, ck, cp, cc⟩ := c
          simp only at h4 ht'
          subst h4
          unfold Cmd.val
          simp only
          clear hr hg hopen h1 h2 ht
          go_enter Tryz.func31, Tryz.ntmps31
          go_wp2_with (first
            | (go_at_call 57; refine (in_any _ _ _ _).mono ?_; rintro e w1 ⟨rfl, rfl⟩)
            | (go_at_call 60; refine (refused_any _ _ _).mono ?_; rintro e w1 ⟨r, rfl, he, hf⟩))
          go_ret
          exact ⟨_, v, rfl, RefOut.said (unhide HR) (own_base he (fun g hg => by have := (he.lt g hg).1; simp at this; omega)) (((Fr.refl _ _).alloc _).quiet hf)⟩
      · by_cases h56 : c.what = 5 ∨ c.what = 6
        · by_cases hb : inB c.book 1 8 = false
          · have hD : tDo s c = (s, [refusedE 0 2]) := by
              unfold tDo tOpen tClose
              rw [if_neg h1, if_neg h2, if_neg h4, if_pos hb, if_pos hb]
              split
              · rfl
              · rw [if_pos (by omega)]
            rw [hD]
            clear hD
            obtain ⟨cw, cid, ct, cb, cs, ck, cp, cc⟩ := c
            simp only at h1 h2 h4 h56 hb
            unfold Cmd.val
            simp only
            clear hr hg hopen h1 h2 h4
            rcases h56 with rfl | rfl
            all_goals
              go_enter Tryz.func31, Tryz.ntmps31
              go_wp2_with (first
                | (go_at_call 57; refine (in_any _ _ _ _).mono ?_; rintro e w1 ⟨rfl, rfl⟩)
                | (go_at_call 60; refine (refused_any _ _ _).mono ?_; rintro e w1 ⟨r, rfl, he, hf⟩))
              go_ret
              exact ⟨_, v, rfl, RefOut.said (unhide HR) (own_base he (fun g hg => by have := (he.lt g hg).1; simp at this; omega)) (((Fr.refl _ _).alloc _).quiet hf)⟩
          · have hb' : inB c.book 1 8 = true := by simpa using hb
            obtain ⟨hb1, hb8⟩ := inB_true hb'
            obtain ⟨cw, cid, ct, cb, cs, ck, cp, cc⟩ := c
            simp only at h1 h2 h4 h56 hb hb' hb1 hb8
            obtain ⟨nb, rfl⟩ := Int.eq_ofNat_of_zero_le (by omega : 0 ≤ cb)
            have hT := hr.cellTr nb (by omega)
            have hcz : (0 : Int) ≤ (nb : Int) := by omega
            have hc9 : (nb : Int) < 9 := by omega
            have hTo : ((nb : Int)).toNat = nb := by simp
            rcases h56 with rfl | rfl
            · cases htr : s.tr nb with
              | true =>
                have hD : tDo s ⟨5, cid, ct, nb, cs, ck, cp, cc⟩ = (s, [refusedE 0 6]) := by
                  unfold tDo tOpen
                  simp [hb', htr]
                rw [hD]
                clear hD
                rw [htr] at hT
                unfold Cmd.val
                simp only
                clear hr hg hopen h1 h2 h4 hb
                go_enter Tryz.func31, Tryz.ntmps31
                go_wp2_with (go_at_call 57; refine (in_any _ _ _ _).mono ?_; rintro e w1 ⟨rfl, rfl⟩)
                go_quiet (fail)
                go_wp2_with (go_at_call 60; refine (refused_any _ _ _).mono ?_; rintro e w1 ⟨r, rfl, he, hf⟩)
                go_ret
                exact ⟨_, v, rfl, RefOut.said (unhide HR) (own_base he (fun g hg => by have := (he.lt g hg).1; simp at this; omega)) ((((Fr.refl _ _).alloc _).drewN _).quiet hf)⟩
              | false =>
                have hD : tDo s ⟨5, cid, ct, nb, cs, ck, cp, cc⟩ = tOpenAt s nb := by
                  unfold tDo tOpen
                  simp [hb', htr]
                rw [hD]
                clear hD
                rw [htr] at hT
                generalize hX2 : tOpenAt s nb = X at *
                have HX := hide hX2
                unfold Cmd.val
                simp only
                clear hX2 hr hg hopen h1 h2 h4 hb
                go_enter Tryz.func31, Tryz.ntmps31
                go_wp2_with (go_at_call 57; refine (in_any _ _ _ _).mono ?_; rintro e w1 ⟨rfl, rfl⟩)
                go_quiet (fail)
                go_wp2_with (go_at_call 62; refine (opens_any bp v s _ ((unhide HR).no (((Fr.refl _ _).alloc _).drewN _)) (unhide HG) nb (by omega) (by omega) (unhide HO nb (by omega) (by omega)).1 (unhide HO nb (by omega) (by omega)).2).mono ?_; rintro e w1 ⟨r, v1, rfl, ho⟩)
                go_ret
                exact ⟨_, v1, rfl, RefOut.after (((Fr.refl _ _).alloc _).drewN _) (by rw [unhide HX] at ho; exact ho)⟩
            · cases htr : s.tr nb with
              | false =>
                have hD : tDo s ⟨6, cid, ct, nb, cs, ck, cp, cc⟩ = (s, [refusedE 0 6]) := by
                  unfold tDo tClose
                  simp [hb', htr]
                rw [hD]
                clear hD
                rw [htr] at hT
                unfold Cmd.val
                simp only
                clear hr hg hopen h1 h2 h4 hb
                go_enter Tryz.func31, Tryz.ntmps31
                go_wp2_with (go_at_call 57; refine (in_any _ _ _ _).mono ?_; rintro e w1 ⟨rfl, rfl⟩)
                go_quiet (fail)
                go_wp2_with (go_at_call 60; refine (refused_any _ _ _).mono ?_; rintro e w1 ⟨r, rfl, he, hf⟩)
                go_ret
                exact ⟨_, v, rfl, RefOut.said (unhide HR) (own_base he (fun g hg => by have := (he.lt g hg).1; simp at this; omega)) ((((Fr.refl _ _).alloc _).drewN _).quiet hf)⟩
              | true =>
                have hD : tDo s ⟨6, cid, ct, nb, cs, ck, cp, cc⟩ = ({ s with tr := setTr s.tr nb false }, [closedE]) := by
                  unfold tDo tClose
                  simp [hb', htr]
                rw [hD]
                clear hD
                rw [htr] at hT
                unfold Cmd.val
                simp only
                clear hr hg hopen h1 h2 h4 hb
                go_enter Tryz.func31, Tryz.ntmps31
                go_wp2_with (go_at_call 57; refine (in_any _ _ _ _).mono ?_; rintro e w1 ⟨rfl, rfl⟩)
                go_quiet (fail)
                go_wp2
                generalize hW : World.drewN _ nq = W
                have hWf : Fr No w W := by rw [← hW]; exact ((Fr.refl _ _).alloc _).drewN _
                have hWc : W.heap[w.heap.size]? = some (.cells #[.int .i64 6, .int .i64 cid, .int .i64 ct, .int .i64 nb, .int .i64 cs, .int .i64 ck, .int .i64 cp, .int .i64 cc] 31 (0, 0)) := by rw [← hW]; exact heap_alloc_new w _
                have hWs := lt_of_heap hWc
                obtain ⟨y0, y1, y2, y3, y4, y5, y6, y7, _⟩ := box8 hWc
                have hrW := (unhide HR).no hWf
                have hbW := hrW.lt
                have hTW := hrW.cellTr nb (by omega)
                have hfW := hrW.frozen (1 + nb)
                have HW := hide (And.intro hWf hrW)
                have hne : bp ≠ w.heap.size := by omega
                clear hW hWf hWc hrW hT
                go_region
                all_goals
                  go_wp2
                  go_ret
                  obtain ⟨hWf, hrW⟩ := unhide HW
                  have hr2 := hrW.setTr nb (by omega) false
                  have hf2 : Fr (RefS bp v) w (W.setCell ⟨bp, 1 + nb, none⟩ (.bool false)) := Fr.setAt (S := RefS bp v) hWf.of_no bp (.inr (.inl rfl)) _ _
                  have hs2 := hf2.size
                  have hs0 : (W.setCell ⟨bp, 1 + nb, none⟩ (.bool false)).heap.size = W.heap.size := by simp [World.setCell]
                  generalize hW2 : World.setCell W _ _ = W2 at *
                  refine ⟨_, v, rfl, ⟨hr2.no (by repeat (first | exact Fr.refl _ _ | refine Fr.alloc ?_ _ | refine Fr.drew ?_)), hf2.quiet (by repeat (first | exact Fr.refl _ _ | refine Fr.alloc ?_ _ | refine Fr.drew ?_)), fun _ h => .inl h, es_newAt closedE hs0.symm hs2, fun g hg hv => ?_⟩⟩
                  have e1 := own_eq hg
                  have h2 := (hr2.own.lt g hv).2
                  try simp at e1
                  omega
        · have hD : tDo s c = (s, [refusedE 0 1]) := by unfold tDo; rw [if_neg h1, if_neg h2, if_neg h4, if_neg (fun q => h56 (.inl q)), if_neg (fun q => h56 (.inr q))]
          rw [hD]
          clear hD
          obtain ⟨cw, cid, ct, cb, cs, ck, cp, cc⟩ := c
          simp only at h1 h2 h4 h56
          have hc1 : (cw == 1) = false := by simpa using h1
          have hc2 : (cw == 2) = false := by simp; omega
          have hc3 : (cw == 3) = false := by simp; omega
          have hc4 : (cw == 4) = false := by simpa using h4
          have hc5 : (cw == 5) = false := by simp; omega
          have hc6 : (cw == 6) = false := by simp; omega
          unfold Cmd.val
          simp only
          clear hr hg hopen h1 h2 h4 h56
          go_enter Tryz.func31, Tryz.ntmps31
          go_wp2_with (first
            | (go_at_call 57; refine (in_any _ _ _ _).mono ?_; rintro e w1 ⟨rfl, rfl⟩)
            | (go_at_call 60; refine (refused_any _ _ _).mono ?_; rintro e w1 ⟨r, rfl, he, hf⟩))
          go_ret
          exact ⟨_, v, rfl, RefOut.said (unhide HR) (own_base he (fun g hg => by have := (he.lt g hg).1; simp at this; omega)) (((Fr.refl _ _).alloc _).quiet hf)⟩
end Go.Proofs.YtigpgnjgmaoejaaGreat
