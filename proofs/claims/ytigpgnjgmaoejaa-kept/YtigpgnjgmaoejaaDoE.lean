/- A desk's commands Open and Close, and what every command comes to: do and Do. Conditions: the pit lies in memory and is as it should be. -/
import Derived.Test.YtigpgnjgmaoejaaDoBC
import Derived.Test.YtigpgnjgmaoejaaDoD
import Derived.Test.YtigpgnjgmaoejaaOpDE
import Derived.Test.YtigpgnjgmaoejaaPitD
namespace Go.Proofs.Ytigpgnjgmaoejaa
open Go.RowKit

/-- Why a command that wants a phase is refused. -/
def phasedE (s : St) (b ph : Int) : Int := if inB b 1 8 = false then 2 else if (if s.tr (bk b) = true then (2 : Int) else 1) ≠ ph then 6 else 0

set_option maxHeartbeats 1000000 in
theorem phased_any (bx : Nat) (bb : Nat → Nat) (v : Nat → Nat → Value) (ro : Nat → Nat) (s : St) (b ph : Int) (w : World) (h : PitAt w bx bb v ro s) :
    Calls Try.prog 55 #[.pointer (some ⟨bx, 0, none⟩), .int .i64 b, .int .i64 ph] w fun e w' => e = .returned (.int .i64 (phasedE s b ph)) ∧ w' = w := by
  have HP := hide h
  clear h
  cases hb : inB b 1 8 with
  | false =>
    have HB := hide hb
    have HE : Hid (phasedE s b ph = 2) := by show _ = _; simp [phasedE, hb]
    clear hb
    go_enter Try.func55, Try.ntmps55
    go_wp2_with (go_at_call 21; refine (isBook_any _ _).mono ?_; rintro e w1 ⟨rfl, hw1⟩; have hw1' := hw1.symm; subst hw1'; rw [unhide HB])
    go_ret
    exact ⟨retI (unhide HE).symm, rfl⟩
  | true =>
    obtain ⟨h1, h8⟩ := inB_true' hb
    obtain ⟨k, hk⟩ := Int.eq_ofNat_of_zero_le (by omega : 0 ≤ b - 1)
    have hbk : b = (k : Int) + 1 := by omega
    have hk8 : k < 8 := by omega
    have hbe : bk b = k := by unfold bk; omega
    have HB := hide hb
    have HBK := hide hbk
    generalize hph : (if s.tr k = true then (2 : Int) else 1) = q at *
    have HPH := hide hph
    by_cases hq : q = ph
    · have hqb : (q != ph) = false := by simpa using hq
      have HE : Hid (phasedE s b ph = 0) := by show _ = _; unfold phasedE; rw [if_neg (by rw [hb]; decide), hbe, hph, if_neg (by simpa using hq)]
      clear hb h1 h8 hk hbk hbe hph hq
      go_enter Try.func55, Try.ntmps55
      go_wp2_with (first
        | (go_at_call 21; refine (isBook_any _ _).mono ?_; rintro e w1 ⟨rfl, hw1⟩; have hw1' := hw1.symm; subst hw1'; rw [unhide HB])
        | (go_at_call 22; refine (dBook_any bx bb v ro s k hk8 b (unhide HBK) _ (unhide HP)).mono ?_; rintro e w2 ⟨rfl, hw2⟩; have hw2' := hw2.symm; subst hw2')
        | (go_at_call 76; refine (bPhase_any (bb k) bx _ _ (v k) (s.M k) _ ((unhide HP).book k hk8)).mono ?_; rintro e w3 ⟨rfl, hw3⟩; have hw3' := hw3.symm; subst hw3'; rw [unhide HPH]))
      go_ret
      exact ⟨retI (unhide HE).symm, rfl⟩
    · have hqb : (q != ph) = true := by simpa using hq
      have HE : Hid (phasedE s b ph = 6) := by show _ = _; unfold phasedE; rw [if_neg (by rw [hb]; decide), hbe, hph, if_pos hq]
      clear hb h1 h8 hk hbk hbe hph hq
      go_enter Try.func55, Try.ntmps55
      go_wp2_with (first
        | (go_at_call 21; refine (isBook_any _ _).mono ?_; rintro e w1 ⟨rfl, hw1⟩; have hw1' := hw1.symm; subst hw1'; rw [unhide HB])
        | (go_at_call 22; refine (dBook_any bx bb v ro s k hk8 b (unhide HBK) _ (unhide HP)).mono ?_; rintro e w2 ⟨rfl, hw2⟩; have hw2' := hw2.symm; subst hw2')
        | (go_at_call 76; refine (bPhase_any (bb k) bx _ _ (v k) (s.M k) _ ((unhide HP).book k hk8)).mono ?_; rintro e w3 ⟨rfl, hw3⟩; have hw3' := hw3.symm; subst hw3'; rw [unhide HPH]))
      go_ret
      exact ⟨retI (unhide HE).symm, rfl⟩

/-- A book is as MeetTo says; so is the pit. -/
theorem PitAt.cmd {w w' : World} {bx : Nat} {bb : Nat → Nat} {v : Nat → Nat → Value} {ro : Nat → Nat} {s : St} (h : PitAt w bx bb v ro s) {k : Nat} (hk : k < 8) {v' : Nat → Value} {M' : Nat → List Ord} {tr' : Bool} {td' vol' : Int} {l : Value} {E : List Ev}
    (hb : MeetTo w w' (bb k) bx tr' (v k) v' M' (pitCells bb s.vol) td' vol' l E) : CmdPost w bx bb v (⟨upd s.tr k tr', upd s.td k td', upd s.M k M', vol'⟩, E) (.returned l) w' := by
  obtain ⟨ro', ht⟩ := h.turned hk hb.px hb.fr hb.new
  refine ⟨l, _, ro', rfl, ht, hb.evs, fun g hg hp => ?_⟩
  have hge := (hb.evs.lt g hg).1
  rcases hp with hp | ⟨i, hi, hp⟩
  · have := h.lt g (.inl hp); omega
  · by_cases hik : i = k
    · subst hik
      rw [upd_self] at hp
      exact hb.el g hg hp
    · rw [upd_other hik] at hp
      have := h.lt g (.inr ⟨i, hi, hp⟩)
      omega
theorem pOpen_any (bx : Nat) (bb : Nat → Nat) (v : Nat → Nat → Value) (ro : Nat → Nat) (s : St) (k : Nat) (hk : k < 8) (w : World) (h : PitAt w bx bb v ro s) (hw : WF s) :
    Calls Try.prog 56 #[.pointer (some ⟨bb k, 0, none⟩)] w (CmdPost w bx bb v (s.open_ k)) :=
  (bOpen_any k (bb k) bx (s.tr k) (s.td k) (v k) (s.M k) (pitCells bb s.vol) s.vol (hw.book k hk) w (h.px hk)).mono fun _ _ ⟨_, _, he, hm⟩ => by rw [he]; exact h.cmd hk hm
theorem pClose_any (bx : Nat) (bb : Nat → Nat) (v : Nat → Nat → Value) (ro : Nat → Nat) (s : St) (k : Nat) (hk : k < 8) (w : World) (h : PitAt w bx bb v ro s) :
    Calls Try.prog 57 #[.pointer (some ⟨bb k, 0, none⟩)] w (CmdPost w bx bb v (s.close_ k)) :=
  (bClose_any (bb k) bx (s.tr k) (s.td k) (v k) (s.M k) (pitCells bb s.vol) s.vol w (h.px hk)).mono fun _ _ ⟨_, he, hm⟩ => by
    have := h.cmd hk hm
    rw [upd_same, upd_same] at this
    rw [he]
    exact this

theorem sOpen_ph (s : St) (c : Cmd) : sOpen s c = if phasedE s c.book 1 ≠ 0 then (s, [refusedE 0 (phasedE s c.book 1)]) else s.open_ (bk c.book) := by
  unfold sOpen phasedE
  cases inB c.book 1 8 <;> cases s.tr (bk c.book) <;> simp
theorem sClose_ph (s : St) (c : Cmd) : sClose s c = if phasedE s c.book 2 ≠ 0 then (s, [refusedE 0 (phasedE s c.book 2)]) else s.close_ (bk c.book) := by
  unfold sClose phasedE
  cases inB c.book 1 8 <;> cases s.tr (bk c.book) <;> simp
theorem phased_ok {s : St} {b ph : Int} (h : phasedE s b ph = 0) : ∃ k : Nat, k < 8 ∧ b = (k : Int) + 1 ∧ bk b = k := by
  cases hb : inB b 1 8 with
  | false => simp [phasedE, hb] at h
  | true =>
    obtain ⟨h1, h8⟩ := inB_true' hb
    exact ⟨bk b, by unfold bk; omega, by unfold bk; omega, rfl⟩

set_option maxHeartbeats 2000000 in
theorem dOpen_any (bx : Nat) (bb : Nat → Nat) (v : Nat → Nat → Value) (ro : Nat → Nat) (s : St) (c : Cmd) (w : World) (h : PitAt w bx bb v ro s) (hg : WF s) :
    Calls Try.prog 33 #[.pointer (some ⟨bx, 0, none⟩), c.val] w (CmdPost w bx bb v (sOpen s c)) := by
  have HP := hide h
  have HG := hide hg
  clear h hg
  obtain ⟨B, hB⟩ : ∃ B, phasedE s c.book 1 = B := ⟨_, rfl⟩
  obtain ⟨X, hX⟩ : ∃ X, X = sOpen s c := ⟨_, rfl⟩
  rw [← hX]
  rw [sOpen_ph, hB] at hX
  have HX := hide hX
  have HB := hide hB
  clear hB hX
  unfold Cmd.val
  go_enter Try.func33, Try.ntmps33
  go_wp2_with fail
  generalize hW : World.alloc w _ = W0
  have hB0 : Boxed w W0 w.heap.size c := newAt hW rfl
  generalize hN : w.heap.size = N at *
  clear hW hN
  have hN1 := hB0.lt
  obtain ⟨y0, y1, y2, y3, y4, y5, y6, y7, _⟩ := box8 hB0.box
  have HB0 := hide hB0
  clear hB0
  refine (phased_any bx bb v ro s c.book 1 W0 ((unhide HP).no (unhide HB0).fr)).mono ?_
  rintro e w1 ⟨rfl, rfl⟩
  rw [unhide HB]
  by_cases hB0 : B = 0
  · have hb : (B != 0) = false := by simpa using hB0
    obtain ⟨k, hk8, hbk, hke⟩ := phased_ok ((unhide HB).trans hB0)
    have HE : Hid (X = s.open_ k) := by show _ = _; rw [unhide HX, if_neg (by simpa using hB0), hke]
    have HBK := hide hbk
    clear hB0 hbk hke
    go_wp2_with fail
    refine (dBook_any bx bb v ro s k hk8 c.book (unhide HBK) w1 ((unhide HP).no (unhide HB0).fr)).mono ?_
    rintro e w2 ⟨rfl, rfl⟩
    go_wp2_with (go_at_call 56; refine (pOpen_any bx bb v ro s k hk8 _ ((unhide HP).no (unhide HB0).fr) (unhide HG)).mono ?_; rintro e w3 ⟨r3, v3, ro3, rfl, ht3⟩; have HT3 := hide ht3; clear ht3)
    go_ret
    rw [unhide HE]
    exact CmdPost.after (unhide HB0).fr ⟨_, v3, ro3, rfl, unhide HT3⟩
  · have hb : (B != 0) = true := by simpa using hB0
    have HE : Hid (X = (s, [refusedE 0 B])) := by show _ = _; rw [unhide HX, if_pos hB0]
    clear hB0
    go_wp2_with (go_at_call 35; refine (pRefused_any _ _ _).mono ?_; rintro e w6 ⟨r6, rfl, he6, hf6⟩)
    go_ret
    rw [unhide HE]
    exact CmdPost.said (unhide HP) ((unhide HB0).fr.quiet hf6) (es_more (unhide HB0).fr he6)
set_option maxHeartbeats 2000000 in
theorem dClose_any (bx : Nat) (bb : Nat → Nat) (v : Nat → Nat → Value) (ro : Nat → Nat) (s : St) (c : Cmd) (w : World) (h : PitAt w bx bb v ro s) :
    Calls Try.prog 34 #[.pointer (some ⟨bx, 0, none⟩), c.val] w (CmdPost w bx bb v (sClose s c)) := by
  have HP := hide h
  clear h
  obtain ⟨B, hB⟩ : ∃ B, phasedE s c.book 2 = B := ⟨_, rfl⟩
  obtain ⟨X, hX⟩ : ∃ X, X = sClose s c := ⟨_, rfl⟩
  rw [← hX]
  rw [sClose_ph, hB] at hX
  have HX := hide hX
  have HB := hide hB
  clear hB hX
  unfold Cmd.val
  go_enter Try.func34, Try.ntmps34
  go_wp2_with fail
  generalize hW : World.alloc w _ = W0
  have hB0 : Boxed w W0 w.heap.size c := newAt hW rfl
  generalize hN : w.heap.size = N at *
  clear hW hN
  have hN1 := hB0.lt
  obtain ⟨y0, y1, y2, y3, y4, y5, y6, y7, _⟩ := box8 hB0.box
  have HB0 := hide hB0
  clear hB0
  refine (phased_any bx bb v ro s c.book 2 W0 ((unhide HP).no (unhide HB0).fr)).mono ?_
  rintro e w1 ⟨rfl, rfl⟩
  rw [unhide HB]
  by_cases hB0 : B = 0
  · have hb : (B != 0) = false := by simpa using hB0
    obtain ⟨k, hk8, hbk, hke⟩ := phased_ok ((unhide HB).trans hB0)
    have HE : Hid (X = s.close_ k) := by show _ = _; rw [unhide HX, if_neg (by simpa using hB0), hke]
    have HBK := hide hbk
    clear hB0 hbk hke
    go_wp2_with fail
    refine (dBook_any bx bb v ro s k hk8 c.book (unhide HBK) w1 ((unhide HP).no (unhide HB0).fr)).mono ?_
    rintro e w2 ⟨rfl, rfl⟩
    go_wp2_with (go_at_call 57; refine (pClose_any bx bb v ro s k hk8 _ ((unhide HP).no (unhide HB0).fr)).mono ?_; rintro e w3 ⟨r3, v3, ro3, rfl, ht3⟩; have HT3 := hide ht3; clear ht3)
    go_ret
    rw [unhide HE]
    exact CmdPost.after (unhide HB0).fr ⟨_, v3, ro3, rfl, unhide HT3⟩
  · have hb : (B != 0) = true := by simpa using hB0
    have HE : Hid (X = (s, [refusedE 0 B])) := by show _ = _; rw [unhide HX, if_pos hB0]
    clear hB0
    go_wp2_with (go_at_call 35; refine (pRefused_any _ _ _).mono ?_; rintro e w6 ⟨r6, rfl, he6, hf6⟩)
    go_ret
    rw [unhide HE]
    exact CmdPost.said (unhide HP) ((unhide HB0).fr.quiet hf6) (es_more (unhide HB0).fr he6)
set_option maxHeartbeats 8000000 in
set_option maxRecDepth 20000 in
theorem dDo_any (bx : Nat) (bb : Nat → Nat) (v : Nat → Nat → Value) (ro : Nat → Nat) (s : St) (c : Cmd) (w : World) (h : PitAt w bx bb v ro s) (hg : WF s) :
    Calls Try.prog 19 #[.pointer (some ⟨bx, 0, none⟩), c.val] w (CmdPost w bx bb v (sDo s c)) := by
  have HP := hide h
  have HG := hide hg
  clear h hg
  obtain ⟨X, hX⟩ : ∃ X, X = sDo s c := ⟨_, rfl⟩
  rw [← hX]
  have HX := hide hX
  clear hX
  unfold Cmd.val
  by_cases h1 : c.what = 1
  · have b1 : (c.what == 1) = true := by simpa using h1
    have HE : Hid (X = sNew s c) := by show _ = _; rw [unhide HX]; simp [sDo, h1]
    clear h1
    go_enter Try.func19, Try.ntmps19
    go_wp2_with fail
    generalize hW : World.alloc w _ = W0
    have hB0 : Boxed w W0 w.heap.size c := newAt hW rfl
    have HB0 := hide hB0
    clear hW hB0
    refine (dEnter_any bx bb v ro s c W0 ((unhide HP).no (unhide HB0).fr) (unhide HG)).mono ?_
    rintro e w3 ⟨r3, v3, ro3, rfl, ht3⟩
    have HT3 := hide ht3
    clear ht3
    go_wp2
    go_ret
    rw [unhide HE]
    exact CmdPost.after (unhide HB0).fr ⟨_, v3, ro3, rfl, unhide HT3⟩
  · have b1 : (c.what == 1) = false := by simpa using h1
    by_cases h2 : c.what = 2
    · have b2 : (c.what == 2) = true := by simpa using h2
      have HE : Hid (X = sCancel s c) := by show _ = _; rw [unhide HX]; simp [sDo, h2]
      clear h1 h2
      go_enter Try.func19, Try.ntmps19
      go_wp2_with fail
      generalize hW : World.alloc w _ = W0
      have hB0 : Boxed w W0 w.heap.size c := newAt hW rfl
      have HB0 := hide hB0
      clear hW hB0
      refine (dCancel_any bx bb v ro s c W0 ((unhide HP).no (unhide HB0).fr) (unhide HG)).mono ?_
      rintro e w3 ⟨r3, v3, ro3, rfl, ht3⟩
      have HT3 := hide ht3
      clear ht3
      go_wp2
      go_ret
      rw [unhide HE]
      exact CmdPost.after (unhide HB0).fr ⟨_, v3, ro3, rfl, unhide HT3⟩
    · have b2 : (c.what == 2) = false := by simpa using h2
      by_cases h3 : c.what = 3
      · have b3 : (c.what == 3) = true := by simpa using h3
        have HE : Hid (X = sChange s c) := by show _ = _; rw [unhide HX]; simp [sDo, h3]
        clear h1 h2 h3
        go_enter Try.func19, Try.ntmps19
        go_wp2_with fail
        generalize hW : World.alloc w _ = W0
        have hB0 : Boxed w W0 w.heap.size c := newAt hW rfl
        have HB0 := hide hB0
        clear hW hB0
        refine (dChange_any bx bb v ro s c W0 ((unhide HP).no (unhide HB0).fr) (unhide HG)).mono ?_
        rintro e w3 ⟨r3, v3, ro3, rfl, ht3⟩
        have HT3 := hide ht3
        clear ht3
        go_wp2
        go_ret
        rw [unhide HE]
        exact CmdPost.after (unhide HB0).fr ⟨_, v3, ro3, rfl, unhide HT3⟩
      · have b3 : (c.what == 3) = false := by simpa using h3
        by_cases h4 : c.what = 4
        · have b4 : (c.what == 4) = true := by simpa using h4
          have HE : Hid (X = sCancelAll s c) := by show _ = _; rw [unhide HX]; simp [sDo, h4]
          clear h1 h2 h3 h4
          go_enter Try.func19, Try.ntmps19
          go_wp2_with fail
          generalize hW : World.alloc w _ = W0
          have hB0 : Boxed w W0 w.heap.size c := newAt hW rfl
          have HB0 := hide hB0
          clear hW hB0
          refine (dCancelAll_any bx bb v ro s c W0 ((unhide HP).no (unhide HB0).fr) (unhide HG)).mono ?_
          rintro e w3 ⟨r3, v3, ro3, rfl, ht3⟩
          have HT3 := hide ht3
          clear ht3
          go_wp2
          go_ret
          rw [unhide HE]
          exact CmdPost.after (unhide HB0).fr ⟨_, v3, ro3, rfl, unhide HT3⟩
        · have b4 : (c.what == 4) = false := by simpa using h4
          by_cases h5 : c.what = 5
          · have b5 : (c.what == 5) = true := by simpa using h5
            have HE : Hid (X = sOpen s c) := by show _ = _; rw [unhide HX]; simp [sDo, h5]
            clear h1 h2 h3 h4 h5
            go_enter Try.func19, Try.ntmps19
            go_wp2_with fail
            generalize hW : World.alloc w _ = W0
            have hB0 : Boxed w W0 w.heap.size c := newAt hW rfl
            have HB0 := hide hB0
            clear hW hB0
            refine (dOpen_any bx bb v ro s c W0 ((unhide HP).no (unhide HB0).fr) (unhide HG)).mono ?_
            rintro e w3 ⟨r3, v3, ro3, rfl, ht3⟩
            have HT3 := hide ht3
            clear ht3
            go_wp2
            go_ret
            rw [unhide HE]
            exact CmdPost.after (unhide HB0).fr ⟨_, v3, ro3, rfl, unhide HT3⟩
          · have b5 : (c.what == 5) = false := by simpa using h5
            by_cases h6 : c.what = 6
            · have b6 : (c.what == 6) = true := by simpa using h6
              have HE : Hid (X = sClose s c) := by show _ = _; rw [unhide HX]; simp [sDo, h6]
              clear h1 h2 h3 h4 h5 h6
              go_enter Try.func19, Try.ntmps19
              go_wp2_with fail
              generalize hW : World.alloc w _ = W0
              have hB0 : Boxed w W0 w.heap.size c := newAt hW rfl
              have HB0 := hide hB0
              clear hW hB0
              refine (dClose_any bx bb v ro s c W0 ((unhide HP).no (unhide HB0).fr)).mono ?_
              rintro e w3 ⟨r3, v3, ro3, rfl, ht3⟩
              have HT3 := hide ht3
              clear ht3
              go_wp2
              go_ret
              rw [unhide HE]
              exact CmdPost.after (unhide HB0).fr ⟨_, v3, ro3, rfl, unhide HT3⟩
            · have b6 : (c.what == 6) = false := by simpa using h6
              have HE : Hid (X = (s, [refusedE 0 1])) := by show _ = _; rw [unhide HX]; simp [sDo, h1, h2, h3, h4, h5, h6]
              clear h1 h2 h3 h4 h5 h6
              go_enter Try.func19, Try.ntmps19
              go_wp2_with fail
              generalize hW : World.alloc w _ = W0
              have hB0 : Boxed w W0 w.heap.size c := newAt hW rfl
              have HB0 := hide hB0
              clear hW hB0
              refine (pRefused_any 0 1 W0).mono ?_
              rintro e w2 ⟨r2, rfl, he2, hf2⟩
              go_wp2
              go_ret
              rw [unhide HE]
              exact CmdPost.said (unhide HP) ((unhide HB0).fr.quiet hf2) (es_more (unhide HB0).fr he2)

set_option maxHeartbeats 4000000 in
set_option maxRecDepth 20000 in
theorem pDo_any (bx : Nat) (bb : Nat → Nat) (v : Nat → Nat → Value) (ro : Nat → Nat) (s : St) (c : Cmd) (w : World) (h : PitAt w bx bb v ro s) (hg : WF s) :
    Calls Try.prog 8 #[.pointer (some ⟨bx, 0, none⟩), c.val] w (CmdPost w bx bb v (sDo s c)) := by
  have HP := hide h
  have HG := hide hg
  clear h hg
  unfold Cmd.val
  go_enter Try.func8, Try.ntmps8
  go_wp2_with fail
  generalize hW : World.alloc w _ = W0
  have hB0 : Boxed w W0 w.heap.size c := newAt hW rfl
  have hnp : ¬ PS bx bb v w.heap.size := fun e => by have := (unhide HP).lt _ e; omega
  generalize hN : w.heap.size = N at *
  have HNP := hide hnp
  clear hW hN hnp
  have hN1 := hB0.lt
  obtain ⟨y0, y1, y2, y3, y4, y5, y6, y7, _⟩ := box8 hB0.box
  have HB0 := hide hB0
  clear hB0
  go_region_held3 (fun w' : World => w'.cell? ⟨N, 0, none⟩ = some (.int .i64 c.what) ∧ w'.cell? ⟨N, 1, none⟩ = some (.int .i64 c.id) ∧ w'.cell? ⟨N, 2, none⟩ = some (.int .i64 c.trader) ∧ w'.cell? ⟨N, 3, none⟩ = some (.int .i64 c.book) ∧ w'.cell? ⟨N, 4, none⟩ = some (.int .i64 c.side) ∧ w'.cell? ⟨N, 5, none⟩ = some (.int .i64 c.kind) ∧ w'.cell? ⟨N, 6, none⟩ = some (.int .i64 c.price) ∧ w'.cell? ⟨N, 7, none⟩ = some (.int .i64 c.count)) (go_keep)
    (first
      | (go_at_call 18; refine (ready_any bx bb v ro s _ ((unhide HP).no ((unhide HB0).fr.quiet (by repeat (first | exact Fr.refl _ _ | refine Fr.drew ?_))))).mono ?_; rintro e w1 ⟨rfl, rfl⟩)
      | (go_at_call 19; refine (dDo_any bx bb v ro s c _ ((unhide HP).no ((unhide HB0).fr.quiet (by repeat (first | exact Fr.refl _ _ | refine Fr.drew ?_)))) (unhide HG)).mono ?_; rintro e w2 ht2; have hB2 := ht2.keep (unhide HB0).box (unhide HNP); obtain ⟨a0, a1, a2, a3, a4, a5, a6, a7, _⟩ := box8 hB2; obtain ⟨r2, v2, ro2, rfl, ht2⟩ := ht2; have HT2 := hide ht2; clear hB2 ht2))
  go_wp2
  go_ret
  exact CmdPost.after (unhide HB0).fr.drew ⟨_, v2, ro2, rfl, unhide HT2⟩
end Go.Proofs.Ytigpgnjgmaoejaa
