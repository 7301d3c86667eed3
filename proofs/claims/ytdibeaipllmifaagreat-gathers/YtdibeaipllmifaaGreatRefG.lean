/- Contract of the document's comes (New) in books that gather, further: another kind, a full book, an order that comes to rest. Conditions: the pit lies in memory, fewer than 100000 orders rest, no book trades. -/
import Derived.Test.YtdibeaipllmifaaGreatRefF
namespace Go.Proofs.YtdibeaipllmifaaGreat
open Go.RowKit

set_option maxRecDepth 100000 in
set_option maxHeartbeats 4000000 in
theorem comes_phase (bp : Nat) (v : Value) (s : Ref) (c : Cmd) (w : World) (hr : RefAt w bp v s) (hn : s.L.length ≤ 100000) (hok : newOk c = true) (hk : findO s.L c.id = none)
    (htr : ∀ k, k < 9 → s.tr k = false) (hkind : c.kind ≠ 1) :
    Calls Tryz.prog 31 #[.pointer (some ⟨bp, 0, none⟩), c.val] w fun e w' => ∃ r, e = .returned r ∧ RefOut w w' bp v v s r [refusedE c.id 6] := by
  have HR := hide hr
  have hbp := hr.lt
  obtain ⟨h1, h2, h3, h4, h5, h5', h6, h7⟩ := newOk_parts hok
  obtain ⟨cw, cid, ct, cb, cs, ck, cp, cc⟩ := c
  unfold Cmd.val
  simp only at *
  have HK := hide hk
  obtain ⟨hb1, hb8⟩ := inB_true h3
  obtain ⟨nb, rfl⟩ := Int.eq_ofNat_of_zero_le (by omega : 0 ≤ cb)
  have hT := hr.cellTr nb (by omega)
  rw [htr nb (by omega)] at hT
  have hkd : (ck != 1) = true := by simpa using hkind
  clear hk hok hr htr hkind
  rcases h4 with rfl | rfl
  all_goals
    by_cases h8 : ck = 2
    all_goals
      first | subst h8 | (replace h6 := h6.resolve_left h8; have h8' : (ck != 2) = true := by simpa using h8)
      try clear h8
      go_enter Tryz.func31, Tryz.ntmps31
      go_wp2_with (first
        | (go_at_call 30; refine (in_any _ _ _ _).mono ?_; rintro e w1 ⟨rfl, rfl⟩)
        | (go_at_call 68; refine (find_any bp v s _ _ ((unhide HR).no ((Fr.refl _ _).alloc _)) hn).mono ?_; rintro e w1 ⟨rfl, rfl⟩; rw [unhide HK, show enc none = -1 from rfl]))
      go_quiet (fail)
      go_wp2_with (go_at_call 33; refine (refused_any _ _ _).mono ?_; rintro e w1 ⟨r, rfl, he, hf⟩)
      go_ret
      exact ⟨_, rfl, RefOut.said (unhide HR) (own_base he (fun g hg => by have := (he.lt g hg).1; simp at this; omega)) ((((Fr.refl _ _).alloc _).drewN _).quiet hf)⟩

end Go.Proofs.YtdibeaipllmifaaGreat
