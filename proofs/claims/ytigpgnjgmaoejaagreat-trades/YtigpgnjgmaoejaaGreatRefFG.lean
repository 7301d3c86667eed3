/- Contract of the document's comes (New) in books that gather. Conditions: the pit lies in memory, fewer than 100000 orders rest, no book trades. -/
import Derived.Test.YtigpgnjgmaoejaaGreatRefE
namespace Go.Proofs.YtigpgnjgmaoejaaGreat
open Go.RowKit

/-- Nothing is changed, and some events are said. -/
theorem RefOut.said {w w' : World} {bp : Nat} {v r : Value} {s : Ref} {E : List Ev} (hr : RefAt w bp v s) (he : Es w' w.heap.size r E) (hf : Fr No w w') : RefOut w w' bp v v s r E :=
  ⟨hr.no hf, hf.of_no, fun _ h => .inl h, he, fun g hg hv => by have := (he.lt g hg).1; have := (hr.own.lt g hv).2; omega⟩

def sideOk (s : Int) : Bool := s == 1 || s == 2
def newOk (c : Cmd) : Bool :=
  inB c.id 1 1000000000 && inB c.trader 1 1000 && inB c.book 1 8 && sideOk c.side && inB c.kind 1 5 && (c.kind == 2 || inB c.price 1 1000000) && inB c.count 1 1000000

theorem inB_true {n lo hi : Int} (h : inB n lo hi = true) : lo ≤ n ∧ n ≤ hi := by simpa [inB] using h
theorem inB_false {n lo hi : Int} (h : inB n lo hi = false) : n < lo ∨ hi < n := by
  simp [inB] at h; omega

set_option maxRecDepth 100000 in
set_option maxHeartbeats 4000000 in
theorem comes_bad (bp : Nat) (v : Value) (s : Ref) (c : Cmd) (w : World) (hr : RefAt w bp v s) (hbad : newOk c = false) :
    Calls Tryz.prog 58 #[.pointer (some ⟨bp, 0, none⟩), c.val] w fun e w' => ∃ r, e = .returned r ∧ RefOut w w' bp v v s r [refusedE c.id 2] := by
  have HR := hide hr
  clear hr
  obtain ⟨cw, cid, ct, cb, cs, ck, cp, cc⟩ := c
  unfold Cmd.val
  simp only
  have hB : Hid (newOk ⟨cw, cid, ct, cb, cs, ck, cp, cc⟩ = false) := hbad
  clear hbad
  go_enter Tryz.func58, Tryz.ntmps58
  go_wp2_with (go_at_call 57; refine (in_any _ _ _ _).mono ?_; rintro e w1 ⟨rfl, rfl⟩)
  all_goals first
    | (go_at_call 60
       refine (refused_any _ _ _).mono ?_
       rintro e w1 ⟨r, rfl, he, hf⟩
       go_wp2
       go_ret
       exact ⟨_, rfl, RefOut.said (unhide HR) (own_base he (fun g hg => by have := (he.lt g hg).1; simp at this; omega)) (((Fr.refl _ _).alloc _).quiet hf)⟩)
    | (exfalso
       have hb := unhide hB
       clear HR
       simp_all [newOk, sideOk, inB]
       try omega)

theorem newOk_parts {c : Cmd} (h : newOk c = true) : inB c.id 1 1000000000 = true ∧ inB c.trader 1 1000 = true ∧ inB c.book 1 8 = true ∧ (c.side = 1 ∨ c.side = 2) ∧ 1 ≤ c.kind ∧ c.kind ≤ 5 ∧ (c.kind = 2 ∨ inB c.price 1 1000000 = true) ∧ inB c.count 1 1000000 = true := by
  simp only [newOk, sideOk, Bool.and_eq_true, Bool.or_eq_true, beq_iff_eq] at h
  obtain ⟨⟨⟨⟨⟨⟨h1, h2⟩, h3⟩, h4⟩, h5⟩, h6⟩, h7⟩ := h
  have := inB_true h5
  exact ⟨h1, h2, h3, h4, this.1, this.2, h6, h7⟩

set_option maxRecDepth 100000 in
set_option maxHeartbeats 4000000 in
theorem comes_known (bp : Nat) (v : Value) (s : Ref) (c : Cmd) (w : World) (hr : RefAt w bp v s) (hn : s.L.length ≤ 100000) (hok : newOk c = true) (i : Nat) (hk : findO s.L c.id = some i) :
    Calls Tryz.prog 58 #[.pointer (some ⟨bp, 0, none⟩), c.val] w fun e w' => ∃ r, e = .returned r ∧ RefOut w w' bp v v s r [refusedE c.id 3] := by
  have HR := hide hr
  clear hr
  obtain ⟨h1, h2, h3, h4, h5, h5', h6, h7⟩ := newOk_parts hok
  obtain ⟨cw, cid, ct, cb, cs, ck, cp, cc⟩ := c
  unfold Cmd.val
  simp only at *
  have HK := hide hk
  clear hk hok
  have hi0 : decide ((0 : Int) ≤ (i : Int)) = true := by simp
  rcases h4 with rfl | rfl
  all_goals
    by_cases h8 : ck = 2
    all_goals
      first | subst h8 | (replace h6 := h6.resolve_left h8; have h8' : (ck != 2) = true := by simpa using h8)
      try clear h8
      go_enter Tryz.func58, Tryz.ntmps58
      go_wp2_with (first
        | (go_at_call 57; refine (in_any _ _ _ _).mono ?_; rintro e w1 ⟨rfl, rfl⟩)
        | (go_at_call 113; refine (find_any bp v s _ _ ((unhide HR).no ((Fr.refl _ _).alloc _)) hn).mono ?_; rintro e w1 ⟨rfl, rfl⟩; rw [unhide HK, show enc (some i) = (i : Int) from rfl])
        | (go_at_call 60; refine (refused_any _ _ _).mono ?_; rintro e w1 ⟨r, rfl, he, hf⟩))
      go_ret
      exact ⟨_, rfl, RefOut.said (unhide HR) (own_base he (fun g hg => by have := (he.lt g hg).1; simp at this; omega)) (((Fr.refl _ _).alloc _).quiet hf)⟩
end Go.Proofs.YtigpgnjgmaoejaaGreat

/- Contract of the document's comes (New) in books that gather, further: another kind, a full book, an order that comes to rest. Conditions: the pit lies in memory, fewer than 100000 orders rest, no book trades. -/
namespace Go.Proofs.YtigpgnjgmaoejaaGreat
open Go.RowKit

set_option maxRecDepth 100000 in
set_option maxHeartbeats 4000000 in
theorem comes_phase (bp : Nat) (v : Value) (s : Ref) (c : Cmd) (w : World) (hr : RefAt w bp v s) (hn : s.L.length ≤ 100000) (hok : newOk c = true) (hk : findO s.L c.id = none)
    (htr : ∀ k, k < 9 → s.tr k = false) (hkind : c.kind ≠ 1) :
    Calls Tryz.prog 58 #[.pointer (some ⟨bp, 0, none⟩), c.val] w fun e w' => ∃ r, e = .returned r ∧ RefOut w w' bp v v s r [refusedE c.id 6] := by
  have HR := hide hr
  have hbp := hr.lt
  obtain ⟨h1, h2, h3, h4, h5, h5', h6, h7⟩ := newOk_parts hok
  obtain ⟨cw, cid, ct, cb, cs, ck, cp, cc⟩ := c
  unfold Cmd.val
  simp only at *
  have HK := hide hk
  obtain ⟨hb1, hb8⟩ := inB_true h3
  obtain ⟨nb, rfl⟩ := Int.eq_ofNat_of_zero_le (by omega : 0 ≤ cb)
  have hT := hr.cellTr nb (by omega)
  rw [htr nb (by omega)] at hT
  have hkd : (ck != 1) = true := by simpa using hkind
  clear hk hok hr htr hkind
  rcases h4 with rfl | rfl
  all_goals
    by_cases h8 : ck = 2
    all_goals
      first | subst h8 | (replace h6 := h6.resolve_left h8; have h8' : (ck != 2) = true := by simpa using h8)
      try clear h8
      go_enter Tryz.func58, Tryz.ntmps58
      go_wp2_with (first
        | (go_at_call 57; refine (in_any _ _ _ _).mono ?_; rintro e w1 ⟨rfl, rfl⟩)
        | (go_at_call 113; refine (find_any bp v s _ _ ((unhide HR).no ((Fr.refl _ _).alloc _)) hn).mono ?_; rintro e w1 ⟨rfl, rfl⟩; rw [unhide HK, show enc none = -1 from rfl]))
      go_quiet (fail)
      go_wp2_with (go_at_call 60; refine (refused_any _ _ _).mono ?_; rintro e w1 ⟨r, rfl, he, hf⟩)
      go_ret
      exact ⟨_, rfl, RefOut.said (unhide HR) (own_base he (fun g hg => by have := (he.lt g hg).1; simp at this; omega)) ((((Fr.refl _ _).alloc _).drewN _).quiet hf)⟩

end Go.Proofs.YtigpgnjgmaoejaaGreat
