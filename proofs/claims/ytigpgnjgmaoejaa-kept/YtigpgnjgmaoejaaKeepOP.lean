/- Contract of the statements' own volume. Conditions: the levels lie in memory, their numbers are small. -/
import Derived.Test.YtigpgnjgmaoejaaKeepF
import Derived.Test.YtigpgnjgmaoejaaOpP
namespace Go.Proofs.Ytigpgnjgmaoejaa
open Go.RowKit

/-- What could be traded at a price, by the levels. -/
def volP (B S : List Lev) (q : Int) : Int × Int :=
  if levAt 1 q B < levAt 2 q S then (levAt 1 q B, levAt 2 q S - levAt 1 q B) else (levAt 2 q S, levAt 1 q B - levAt 2 q S)
theorem levAt_part {sd q : Int} {B : List Lev} (h : ∀ l ∈ B, 0 ≤ l.count) (k : Nat) : 0 ≤ levAt sd q (B.take k) ∧ levAt sd q (B.take k) ≤ levAt sd q B := by
  have h1 := levAt_le (sd := sd) (q := q) (B := B.take k) fun l hl => h l (List.mem_of_mem_take hl)
  have h2 := levAt_le (sd := sd) (q := q) (B := B.drop k) fun l hl => h l (List.mem_of_mem_drop hl)
  have h3 := levAt_append sd q (B.take k) (B.drop k)
  rw [List.take_append_drop] at h3
  omega

set_option maxHeartbeats 4000000 in
set_option maxRecDepth 20000 in
theorem kvol_any (a0 a1 : Option Addr) (c0 c1 b0 b1 : Nat) (B S : List Lev) (q : Int) (w : World) (hB : Ls w b0 (.slice a0 B.length c0) B) (hS : Ls w b1 (.slice a1 S.length c1) S) (hBp : ∀ l ∈ B, 0 ≤ l.count) (hSp : ∀ l ∈ S, 0 ≤ l.count)
    (hb : levAt 1 q B ≤ 1000000000) (hs : levAt 2 q S ≤ 1000000000) (hlB : B.length ≤ 1000) (hlS : S.length ≤ 1000) :
    Calls Try.prog 16 #[.slice a0 B.length c0, .slice a1 S.length c1, .int .i64 q] w fun e w' => e = .returned (.tuple #[.int .i64 (volP B S q).1, .int .i64 (volP B S q).2]) ∧ w' = w := by
  have HB := hide (And.intro hB (And.intro hS (And.intro hBp hSp)))
  clear hB hS hBp hSp
  go_enter Try.func16, Try.ntmps16
  go_wp2_with fail
  go_loopg [8, 10] B.length (fun g s8 s10 wr => ∃ k : Nat, k ≤ B.length ∧ g = B.length - k ∧ s8 = .int .i64 (levAt 1 q (B.take k)) ∧ s10 = .int .i64 k ∧ wr = w)
  case atStart => exact ⟨0, Nat.zero_le _, rfl, rfl, rfl, rfl⟩
  case round =>
    obtain ⟨k, hk, rfl, rfl, rfl, hwr⟩ := hrel
    have hwr' := hwr.symm
    subst hwr'
    clear hwr
    by_cases hlt : k < B.length
    · have e1 : (k : Int) < (B.length : Int) := by omega
      obtain ⟨g, rfl, hg, -, d0, d1, -⟩ := ls_at (unhide HB).1 k hlt
      have hp := levAt_part (sd := 1) (q := q) (unhide HB).2.2.1 k
      have hp1 := levAt_part (sd := 1) (q := q) (unhide HB).2.2.1 (k + 1)
      have ht := levAt_take (sd := 1) (q := q) hlt
      have HT := hide ht
      by_cases hq : q ≤ B[k].price
      · have hbt : beatsB 1 q B[k].price = false := by simp [beatsB]; omega
        rw [if_pos hbt] at ht
        have HT := hide ht
        generalize levAt 1 q (B.take k) = X at *
        have hx : 0 ≤ X + B[k].count ∧ X + B[k].count ≤ 1000000000 := by omega
        have hx2 : 0 ≤ B[k].count := (unhide HB).2.2.1 _ (List.getElem_mem hlt)
        clear ht hbt hp1
        go_wp2
        go_roundg (B.length - (k + 1))
        case measure => omega
        case rel => exact ⟨k + 1, hlt, rfl, by rw [unhide HT], by go_num, rfl⟩
      · have hbt : beatsB 1 q B[k].price ≠ false := by simp [beatsB]; omega
        rw [if_neg hbt] at ht
        have HT := hide ht
        have hqd : decide (q ≤ B[k].price) = false := by simpa using hq
        generalize levAt 1 q (B.take k) = X at *
        clear ht hbt hp1
        go_wp2
        go_roundg (B.length - (k + 1))
        case measure => omega
        case rel => exact ⟨k + 1, hlt, rfl, by rw [unhide HT]; simp, by go_num, rfl⟩
    · have e1 : decide ((k : Int) < (B.length : Int)) = false := by simp; omega
      rw [List.take_of_length_le (by omega)]
      have hpB := levAt_part (sd := 1) (q := q) (unhide HB).2.2.1 0
      have hB0 : 0 ≤ levAt 1 q B := by omega
      clear hpB
      go_wp2_with fail
      go_loopg [9, 11] S.length (fun g s9 s11 wr => ∃ j : Nat, j ≤ S.length ∧ g = S.length - j ∧ s9 = .int .i64 (levAt 2 q (S.take j)) ∧ s11 = .int .i64 j ∧ wr = w)
      case atStart => exact ⟨0, Nat.zero_le _, rfl, rfl, rfl, rfl⟩
      case round =>
        obtain ⟨j, hj, rfl, rfl, rfl, hwr⟩ := hrel
        have hwr' := hwr.symm
        subst hwr'
        clear hwr
        by_cases hjl : j < S.length
        · have e1 : (j : Int) < (S.length : Int) := by omega
          obtain ⟨g, rfl, hg, -, d0, d1, -⟩ := ls_at (unhide HB).2.1 j hjl
          have hp := levAt_part (sd := 2) (q := q) (unhide HB).2.2.2 j
          have hp1 := levAt_part (sd := 2) (q := q) (unhide HB).2.2.2 (j + 1)
          have ht := levAt_take (sd := 2) (q := q) hjl
          by_cases hq : S[j].price ≤ q
          · have hbt : beatsB 2 q S[j].price = false := by simp [beatsB]; omega
            rw [if_pos hbt] at ht
            have HT := hide ht
            generalize levAt 2 q (S.take j) = X at *
            have hx : 0 ≤ X + S[j].count ∧ X + S[j].count ≤ 1000000000 := by omega
            have hx2 : 0 ≤ S[j].count := (unhide HB).2.2.2 _ (List.getElem_mem hjl)
            clear ht hbt hp1
            go_wp2
            go_roundg (S.length - (j + 1))
            case measure => omega
            case rel => exact ⟨j + 1, hjl, rfl, by rw [unhide HT], by go_num, rfl⟩
          · have hbt : beatsB 2 q S[j].price ≠ false := by simp [beatsB]; omega
            rw [if_neg hbt] at ht
            have HT := hide ht
            have hqd : decide (S[j].price ≤ q) = false := by simpa using hq
            generalize levAt 2 q (S.take j) = X at *
            clear ht hbt hp1
            go_wp2
            go_roundg (S.length - (j + 1))
            case measure => omega
            case rel => exact ⟨j + 1, hjl, rfl, by rw [unhide HT]; simp, by go_num, rfl⟩
        · have e1 : decide ((j : Int) < (S.length : Int)) = false := by simp; omega
          rw [List.take_of_length_le (by omega)]
          have hpS := levAt_part (sd := 2) (q := q) (unhide HB).2.2.2 0
          have hS0 : 0 ≤ levAt 2 q S := by omega
          clear hpS
          have HV : Hid (volP B S q = if levAt 1 q B < levAt 2 q S then (levAt 1 q B, levAt 2 q S - levAt 1 q B) else (levAt 2 q S, levAt 1 q B - levAt 2 q S)) := rfl
          generalize levAt 1 q B = X at *
          generalize levAt 2 q S = Y at *
          by_cases hxy : X < Y
          · go_wp2
            go_ret2
            exact ⟨by rw [unhide HV, if_pos hxy]; rfl, rfl⟩
          · have hd : decide (X < Y) = false := by simpa using hxy
            go_wp2
            go_ret2
            exact ⟨by rw [unhide HV, if_neg (by omega)]; rfl, rfl⟩
end Go.Proofs.Ytigpgnjgmaoejaa

/- Opened returns true at every list of steps and of other prices. Conditions: the lists lie in memory, the raw numbers are int64's. -/
namespace Go.Proofs.Ytigpgnjgmaoejaa
open Go.RowKit

/-- A list of numbers that came in. -/
def IntsIn (w : World) (a : Option Addr) (len : Nat) : Prop := ∀ i, i < len → ∃ b off z, a = some ⟨b, off, none⟩ ∧ b < w.heap.size ∧ w.cell? ⟨b, off + i, none⟩ = some (.int .i64 z) ∧ I64 z

theorem sDo_open {s : St} (h : s.tr 0 = false) : sDo s cO1 = s.open_ 0 := by
  have e1 : cO1.what = 5 := rfl
  have e2 : inB cO1.book 1 8 = true := rfl
  have e3 : bk cO1.book = 0 := rfl
  unfold sDo
  rw [e1, if_neg (by decide), if_neg (by decide), if_neg (by decide), if_neg (by decide), if_pos rfl]
  unfold sOpen
  rw [e2, e3, h, if_neg (by decide), if_neg (by decide)]
theorem volP_tn {k : Nat} {M : Nat → List Ord} (h : BkOk k M) (q : Int) : volP ((M 0).foldl addLev []) ((M 1).foldl addLev []) q = ((tnAt M q).vol, (tnAt M q).rest) := by
  have h1 := levAt_fold (sd := 1) (q := q) (L := M 0) (l := []) (h.nobody 0 (by omega))
  have h2 := levAt_fold (sd := 2) (q := q) (L := M 1) (l := []) (h.nobody 1 (by omega))
  have z1 : levAt 1 q [] = 0 := rfl
  have z2 : levAt 2 q [] = 0 := rfl
  rw [z1, Int.zero_add] at h1
  rw [z2, Int.zero_add] at h2
  unfold volP tnAt
  rw [h1, h2]
  by_cases hlt : openAtO 1 q 0 (M 0) < openAtO 2 q 0 (M 1)
  · rw [if_pos hlt, if_pos (by omega)]
  · rw [if_neg hlt]
    by_cases he : openAtO 1 q 0 (M 0) ≤ openAtO 2 q 0 (M 1)
    · rw [if_pos he]
      have : openAtO 1 q 0 (M 0) = openAtO 2 q 0 (M 1) := by omega
      rw [this]
    · rw [if_neg he]
/-- What is known of a book's levels. -/
structure LvOk (M : Nat → List Ord) (B S : List Lev) : Prop where
  bp : ∀ l ∈ B, 0 ≤ l.count
  sp : ∀ l ∈ S, 0 ≤ l.count
  bl : B.length ≤ 200
  sl : S.length ≤ 200
  ba : ∀ q, levAt 1 q B ≤ 1000000000
  sa : ∀ q, levAt 2 q S ≤ 1000000000
  vol : ∀ q, volP B S q = ((tnAt M q).vol, (tnAt M q).rest)
theorem lvOk {k : Nat} {M : Nat → List Ord} (h : BkOk k M) : LvOk M ((M 0).foldl addLev []) ((M 1).foldl addLev []) := by
  have hc := h.cap
  have b0 : ∀ o ∈ M 0, 0 ≤ o.opn ∧ o.opn ≤ 1000000 := fun o ho => by have := h.opns (j := 0) (by omega) o ho; omega
  have b1 : ∀ o ∈ M 1, 0 ≤ o.opn ∧ o.opn ≤ 1000000 := fun o ho => by have := h.opns (j := 1) (by omega) o ho; omega
  refine ⟨fold_pos (by simp) fun y hy => (b0 y hy).1, fold_pos (by simp) fun y hy => (b1 y hy).1, side_le h 0 (by omega), side_le h 1 (by omega), fun q => ?_, fun q => ?_, volP_tn h⟩
  · have := openAt_bound (sd := 1) (p := q) (own := 0) b0
    rw [levAt_fold (h.nobody 0 (by omega))]
    have z : levAt 1 q [] = 0 := rfl
    omega
  · have := openAt_bound (sd := 2) (p := q) (own := 0) b1
    rw [levAt_fold (h.nobody 1 (by omega))]
    have z : levAt 2 q [] = 0 := rfl
    omega
/-- What an opening is, by the levels. -/
structure OpenIs (M : Nat → List Ord) (P V : Int) (B S : List Lev) (N : List Ev) : Prop where
  lev : LvOk M B S
  pz : (P = 0 ∧ V = 0) ∨ (1 ≤ P ∧ 0 < V)
  vb : 0 ≤ V ∧ V ≤ 200000000
  pb : 0 ≤ P ∧ P ≤ 1000001
  at_ : 0 < V → ∃ R, volP B S P = (V, R) ∧ ∀ q, (tnAt M q).vol = V → ¬ ((tnAt M q).rest < R ∨ ((tnAt M q).rest = R ∧ q < P))
  best : ∀ q, (tnAt M q).vol ≤ V
  evs : ∀ x ∈ N, x.what = 3 ∧ x.price = P ∧ 1 ≤ x.count
  sum : sumT N = V
  len : N.length ≤ 200
theorem openIs {k : Nat} {M : Nat → List Ord} (h : BkOk k M) : Unx (openM M) ∧ ∃ N P V, openE M = N ++ [openedE P V] ∧ OpenIs M P V ((M 0).foldl addLev []) ((M 1).foldl addLev []) N := by
  obtain ⟨hu, N, e1, e2, e3, e4⟩ := open_all h
  obtain ⟨z1, z2, z3, z4⟩ := openTn_zero h
  have hn := openTn_nonneg M
  refine ⟨hu, N, _, _, e1, lvOk h, ?_, ⟨hn, openTn_bound h⟩, ⟨z2, z3⟩, fun hv => ⟨(openTn M).rest, ?_, fun q hq => (open_best h q).2 hv hq⟩, fun q => (open_best h q).1, e2, e3, e4⟩
  · by_cases hv : (openTn M).vol = 0
    · exact .inl ⟨z1.2 hv, hv⟩
    · have : (openTn M).price ≠ 0 := fun h => hv (z1.1 h)
      exact .inr ⟨by omega, by omega⟩
  · rw [volP_tn h, ← z4 hv]
theorem sum_part {N : List Ev} (h : ∀ x ∈ N, x.what = 3 ∧ 1 ≤ x.count) (k : Nat) : 0 ≤ sumT (N.take k) ∧ sumT (N.take k) ≤ sumT N := by
  have pos : ∀ {L : List Ev}, (∀ x ∈ L, x.what = 3 ∧ 1 ≤ x.count) → 0 ≤ sumT L := by
    intro L
    induction L with
    | nil => intro _; simp [sumT]
    | cons x L ih =>
      intro hL
      have h1 := hL x List.mem_cons_self
      have h2 := ih fun y hy => hL y (List.mem_cons_of_mem _ hy)
      unfold sumT
      rw [if_pos h1.1]
      omega
  have h1 := pos (L := N.take k) fun x hx => h x (List.mem_of_mem_take hx)
  have h2 := pos (L := N.drop k) fun x hx => h x (List.mem_of_mem_drop hx)
  have h3 := sumT_append (N.take k) (N.drop k)
  rw [List.take_append_drop] at h3
  omega

theorem es_front {w : World} {base : Nat} {a : Option Addr} {n cap : Nat} {N : List Ev} {x : Ev} (h : Es w base (.slice a n cap) (N ++ [x])) (i : Nat) (hi : i < N.length) :
    ∃ g, a = some ⟨g, 0, none⟩ ∧ g < w.heap.size ∧ w.cell? ⟨g, i * 6, none⟩ = some (.int .i64 N[i].what) ∧ w.cell? ⟨g, i * 6 + 3, none⟩ = some (.int .i64 N[i].price) ∧ w.cell? ⟨g, i * 6 + 4, none⟩ = some (.int .i64 N[i].count) := by
  obtain ⟨g, rfl, hg, -, d0, d1, d2, d3, d4, d5, -⟩ := es_at h i (by simp; omega)
  have e : (N ++ [x])[i]'(by simp; omega) = N[i] := List.getElem_append_left hi
  rw [e] at d0 d3 d4
  exact ⟨g, rfl, hg, d0, d3, d4⟩
theorem es_last {w : World} {base : Nat} {a : Option Addr} {n cap : Nat} {N : List Ev} {x : Ev} (h : Es w base (.slice a n cap) (N ++ [x])) :
    ∃ g, a = some ⟨g, 0, none⟩ ∧ g < w.heap.size ∧ w.cell? ⟨g, N.length * 6, none⟩ = some (.int .i64 x.what) ∧ w.cell? ⟨g, N.length * 6 + 1, none⟩ = some (.int .i64 x.id) ∧
      w.cell? ⟨g, N.length * 6 + 2, none⟩ = some (.int .i64 x.other) ∧ w.cell? ⟨g, N.length * 6 + 3, none⟩ = some (.int .i64 x.price) ∧
      w.cell? ⟨g, N.length * 6 + 4, none⟩ = some (.int .i64 x.count) ∧ w.cell? ⟨g, N.length * 6 + 5, none⟩ = some (.int .i64 x.err) := by
  obtain ⟨g, rfl, hg, -, d0, d1, d2, d3, d4, d5, -⟩ := es_at h N.length (by simp)
  have e : (N ++ [x])[N.length]'(by simp) = x := by simp
  rw [e] at d0 d1 d2 d3 d4 d5
  exact ⟨g, rfl, hg, d0, d1, d2, d3, d4, d5⟩

set_option maxHeartbeats 8000000 in
set_option maxRecDepth 20000 in
theorem opened_calls (a : Option Addr) (len cap : Nat) (a2 : Option Addr) (len2 cap2 : Nat) (w : World) (hst : Steps w a len) (hin : IntsIn w a2 len2) (hl2 : len2 ≤ 281474976710656) :
    Calls Try.prog 6 #[.slice a len cap, .slice a2 len2 cap2] w fun e w' => e = .returned (.bool true) ∧ Fr No w w' := by
  have HS := hide hst
  have HI := hide hin
  clear hst hin
  go_enter Try.func6, Try.ntmps6
  go_wp2_with fail
  refine (begun_any w).mono ?_
  rintro e w1 ⟨bx, bb, v1, ro1, rfl, hk1⟩
  have HK1 := hide hk1
  clear hk1
  go_wp2
  go_loopg [6] 190 (fun g i wr => ∃ (k : Nat) (v : Nat → Nat → Value) (ro : Nat → Nat) (s : St), k ≤ len ∧ k ≤ 190 ∧ g = 190 - k ∧ i = .int .i64 k ∧ KP w wr bx bb v ro s ∧ s.tr 0 = false)
  case atStart => exact ⟨0, v1, ro1, stB, Nat.zero_le _, Nat.zero_le _, rfl, rfl, unhide HK1, rfl⟩
  case round =>
    obtain ⟨k, v, ro, s, hkl, hk190, rfl, rfl, hkp, htr⟩ := hrel
    have HK := hide (And.intro hkp htr)
    by_cases hgo : k < len ∧ k < 190
    · obtain ⟨hlt, h190⟩ := hgo
      obtain ⟨b, off, s1, rfl, hb, hat, hok⟩ := unhide HS k hlt
      obtain ⟨s0, s1', s2, s3, s4, s5⟩ := hat.fr hkp.fr hb
      have hbr : b < wr.heap.size := Nat.lt_of_lt_of_le hb hkp.fr.size
      have HOK := hide hok
      have e1 : (k : Int) < (len : Int) := by omega
      have e2 : (k : Int) < 190 := by omega
      clear hkp htr hat hok
      go_wp2_with fail
      refine (command_any s1 k 1 wr (unhide HOK) (by omega) (by omega)).mono ?_
      rintro e w3 ⟨rfl, hf3⟩
      have hk3 := (unhide HK).1.no hf3
      have hwh := cmdOf_what s1 k 1
      have HK3 := hide (And.intro hk3 (unhide HK).2)
      clear hk3 hf3
      generalize cmdOf s1 (k : Int) 1 = c0 at hwh ⊢
      obtain ⟨cw, ci, ct, cb, cs, ck, cp, cc⟩ := c0
      have HW := hide hwh
      clear hwh
      unfold Cmd.val
      simp only
      go_wp2_with fail
      have hf8 : Fr No w3 (w3.alloc (.cells #[.int .i64 cw, .int .i64 ci, .int .i64 ct, .int .i64 cb, .int .i64 cs, .int .i64 1, .int .i64 cp, .int .i64 cc] 28)) := (Fr.refl _ _).alloc _
      have hk4 := (unhide HK3).1.no hf8
      have HK4 := hide (And.intro hk4 (unhide HK3).2)
      clear hk4 hf8
      refine (kDo_any (unhide HK4).1 ⟨cw, ci, ct, cb, cs, 1, cp, cc⟩).mono ?_
      rintro e w4 ⟨r4, v4, ro4, rfl, ht4⟩
      have hkeep := sDo_keeps (unhide HK4).1.wf (c := ⟨cw, ci, ct, cb, cs, 1, cp, cc⟩) (unhide HW)
      have htr4 : (sDo s ⟨cw, ci, ct, cb, cs, 1, cp, cc⟩).1.tr 0 = false := by rw [hkeep.tr]; exact (unhide HK4).2
      have HK5 := hide (And.intro ht4.kp htr4)
      clear ht4 hkeep htr4
      go_wp2
      go_roundg (190 - (k + 1))
      case measure => omega
      case rel => exact ⟨k + 1, v4, ro4, _, by omega, by omega, rfl, by go_num, (unhide HK5).1, (unhide HK5).2⟩
    · have e12 : (decide ((k : Int) < (len : Int)) = false) ∨ (((k : Int) < (len : Int)) ∧ decide ((k : Int) < 190) = false) := by
        by_cases h : k < len
        · exact .inr ⟨by omega, by simp; omega⟩
        · exact .inl (by simp; omega)
      clear hkp htr hgo
      go_upto_region 5 with fail
      go_cut [33] from 26 to 45 (fun s33 wx => s33 = .bool false ∧ wr = wx)
      case first =>
        rcases e12 with e1 | ⟨e1, e2⟩
        · have n1 : ¬ k < len := by have := of_decide_eq_false e1; omega
          go_wp2_with fail
          go_meet
          exact ⟨rfl, rfl⟩
        · go_wp2_with fail
          go_meet
          exact ⟨rfl, rfl⟩
      case rest =>
        obtain ⟨rfl, rfl⟩ := hcut
        clear e12
        go_wp2_with fail
        have hob : ∀ j, j < 2 → ∀ o ∈ s.M (bk 1) j, 0 ≤ o.opn ∧ o.opn ≤ 1000000 := fun j hj o ho => by have := ((unhide HK).1.wf.book _ (by decide : bk 1 < 8)).opns hj o ho; omega
        have HOB := hide hob
        clear hob
        have ecut : Hid (∀ L : List Lev, cutTo (-1) L = L) := fun L => by unfold cutTo; rw [if_neg (by omega)]
        refine (pDepth_any bx bb v ro s 1 1 (-1) wr (unhide HK).1.pit (unhide HOB) rfl (.inl rfl)).mono ?_
        rintro e w3 ⟨r3, rfl, hl3, hf3⟩
        rw [unhide ecut] at hl3
        change Ls w3 wr.heap.size _ ((s.M 0 0).foldl addLev []) at hl3
        have hk3 := (unhide HK).1.no hf3
        have HK3 := hide (And.intro hk3 (And.intro hl3 hf3.size))
        clear hk3 hl3 hf3
        go_wp2_with fail
        refine (pDepth_any bx bb v ro s 1 2 (-1) w3 (unhide HK3).1.pit (unhide HOB) rfl (.inr rfl)).mono ?_
        rintro e w4 ⟨r4, rfl, hl4, hf4⟩
        rw [unhide ecut] at hl4
        change Ls w4 w3.heap.size _ ((s.M 0 1).foldl addLev []) at hl4
        have hk4 := (unhide HK3).1.no hf4
        have hsz3 := (unhide HK3).2.2
        have hl3 : Ls w4 wr.heap.size r3 ((s.M 0 0).foldl addLev []) := own_fr (unhide HK3).2.1 hf4 (fun _ _ => id)
        have hbk := (unhide HK).1.wf.book 0 (by omega)
        obtain ⟨hux, N, P, V, hE, hop⟩ := openIs hbk
        generalize hB : (s.M 0 0).foldl addLev [] = B at *
        generalize hS : (s.M 0 1).foldl addLev [] = S at *
        clear hB hS
        have HX := hide (And.intro hux (And.intro hE hop))
        obtain ⟨ga, gc, rfl, -⟩ := own_form hl3
        obtain ⟨ha, hc, rfl, -⟩ := own_form hl4
        have HK4 := hide (And.intro hk4 (And.intro hl3 hl4))
        clear hk4 hl3 hl4 hf4 HK3 ecut HOB hux hE hop hbk
        go_wp2_with fail
        refine (kDo_any (unhide HK4).1 cO1).mono ?_
        rintro e w5 ⟨r5, v5, ro5, rfl, ht5⟩
        have hE5 : (sDo s cO1).2 = N ++ [openedE P V] := by rw [sDo_open (unhide HK).2]; exact (unhide HX).2.1
        have hM5 : Unx ((sDo s cO1).1.M 0) := by rw [sDo_open (unhide HK).2]; exact (unhide HX).1
        have hlt4 := (unhide HK).1.pit.lt
        have hl3 := own_fr (unhide HK4).2.1 ht5.fr (fun g hg e => by have h1 := ((unhide HK4).2.1.lt g hg).1; have h2 := hlt4 g e; omega)
        have hl4 := own_fr (unhide HK4).2.2 ht5.fr (fun g hg e => by have h1 := ((unhide HK4).2.2.lt g hg).1; have h2 := hlt4 g e; have h3 := (unhide HK).1.fr.size; have h5 := hsz3; omega)
        have he5 := ht5.evs
        rw [hE5] at he5
        have hk5 := ht5.kp
        obtain ⟨ea, ec, rfl, -⟩ := own_form he5
        obtain ⟨ge, rfl, hge, d0, d1, d2, d3, d4, d5⟩ := es_last he5
        simp only [openedE] at d0 d1 d2 d3 d4 d5
        have hnl : (N ++ [openedE P V]).length = N.length + 1 := by simp
        rw [hnl] at he5 ⊢
        have hN200 := (unhide HX).2.2.len
        have HK5 := hide (And.intro hk5 (And.intro hM5 (And.intro hl3 (And.intro hl4 he5))))
        clear hk5 hM5 hl3 hl4 he5 ht5 hnl hE5 hlt4
        have hi1 : ((N.length + 1 : Nat) : Int) - 1 = (N.length : Int) := by omega
        go_wp2_with fail
        generalize hWA : World.alloc w5 _ = W5
        have hf5 : Fr No w5 W5 := by rw [← hWA]; exact (Fr.refl _ _).alloc _
        have hb5 : W5.heap[w5.heap.size]? = some (.cells #[.int .i64 6, .int .i64 0, .int .i64 0, .int .i64 P, .int .i64 V, .int .i64 0] 31 (0, 0)) := by rw [← hWA]; exact heap_alloc_new w5 _
        clear hWA d0 d1 d2 d3 d4 d5 hi1
        generalize w5.heap.size = P5 at *
        have HW5 := hide (And.intro hf5 hb5)
        clear hf5 hb5
        go_loopg [14, 15] N.length (fun g s14 s15 wx => ∃ k2 : Nat, k2 ≤ N.length ∧ g = N.length - k2 ∧ s14 = .int .i64 (sumT (N.take k2)) ∧ s15 = .int .i64 k2 ∧ Fr No W5 wx)
        case atStart => exact ⟨0, Nat.zero_le _, rfl, rfl, rfl, Fr.refl _ _⟩
        case round =>
          obtain ⟨k2, hk2, rfl, rfl, rfl, hfx⟩ := hrel
          have hev : ∀ x ∈ N, x.what = 3 ∧ 1 ≤ x.count := fun x hx => ⟨((unhide HX).2.2.evs x hx).1, ((unhide HX).2.2.evs x hx).2.2⟩
          have hpt := sum_part hev k2
          have hsm := (unhide HX).2.2.sum
          have hvb := (unhide HX).2.2.vb
          obtain ⟨d0, d1, d2, d3, d4, d5, -⟩ := box6 (hfx.heap (unhide HW5).2 id)
          by_cases hlt : k2 < N.length
          · have e1 : (k2 : Int) + 1 < ((N.length + 1 : Nat) : Int) := by omega
            have e2 : (k2 : Int) < ((N.length + 1 : Nat) : Int) := by omega
            obtain ⟨ge2, hge2, hgl, c0, c3, c4⟩ := es_front (own_fr (unhide HK5).2.2.2.2 ((unhide HW5).1.quiet hfx) (fun _ _ => id)) k2 hlt
            obtain rfl : ge = ge2 := by simpa using hge2
            have hx := (unhide HX).2.2.evs _ (List.getElem_mem hlt)
            have hpt1 := sum_part hev (k2 + 1)
            have hst := sumT_take hlt
            rw [if_pos hx.1] at hst
            rw [hx.1] at c0
            rw [hx.2.1] at c3
            have hx3 := hx.2.2
            have HFX := hide (And.intro hfx hst)
            generalize N[k2].count = xc at *
            have hsb : 0 ≤ sumT (N.take k2) + xc ∧ sumT (N.take k2) + xc ≤ 1000000000 := by omega
            generalize sumT (N.take k2) = X at *
            clear hfx hev hx hpt1 hst hge2
            go_wp2_with fail
            go_quiet (fail)
            go_wp2
            go_roundg (N.length - (k2 + 1))
            case measure => omega
            case rel => exact ⟨k2 + 1, hlt, rfl, by rw [(unhide HFX).2], by go_num, (unhide HFX).1.drewN _⟩
          · have e1 : decide ((k2 : Int) + 1 < ((N.length + 1 : Nat) : Int)) = false := by simp; omega
            have hke : k2 = N.length := by omega
            rw [List.take_of_length_le (by omega), hsm]
            have HFX := hide hfx
            clear hfx hev hpt hsm
            go_wp2_with fail
            refine (crossed_any ((unhide HK5).1.no ((unhide HW5).1.quiet (unhide HFX))) (unhide HK5).2.1).mono ?_
            rintro e w6 ⟨rfl, hf6⟩
            have hfx6 := (unhide HFX).quiet hf6
            obtain ⟨d0, d1, d2, d3, d4, d5, -⟩ := box6 (hfx6.heap (unhide HW5).2 id)
            have HF6 := hide ((unhide HW5).1.quiet hfx6)
            have HF6b := hide (hfx6.heap (unhide HW5).2 id)
            clear hf6 hfx6
            have hpz := (unhide HX).2.2.pz
            go_upto_region 24 with fail
            go_cut [127] from 106 to 142 (fun s127 wx => s127 = .bool false ∧ w6 = wx)
            case first =>
              rcases hpz with ⟨rfl, rfl⟩ | ⟨h1, h2⟩
              · go_wp2_with fail
                go_meet
                exact ⟨rfl, rfl⟩
              · have h1' : (P == 0) = false := by simp; omega
                have h2' : (V == 0) = false := by simp; omega
                go_wp2_with fail
                go_meet
                exact ⟨rfl, rfl⟩
            case rest =>
              obtain ⟨rfl, rfl⟩ := hcut
              go_wp2_with fail
              have hl := (unhide HX).2.2.lev
              have hV : ∀ q w', Fr No w5 w' → Calls Try.prog 16 #[.slice ga B.length gc, .slice ha S.length hc, .int .i64 q] w' fun e w'' => e = .returned (.tuple #[.int .i64 (volP B S q).1, .int .i64 (volP B S q).2]) ∧ w'' = w' := fun q w' hf =>
                kvol_any ga ha gc hc _ _ B S q w' (own_fr (unhide HK5).2.2.1 hf (fun _ _ => id)) (own_fr (unhide HK5).2.2.2.1 hf (fun _ _ => id)) hl.bp hl.sp (hl.ba q) (hl.sa q) (by have := hl.bl; omega) (by have := hl.sl; omega)
              have HV := hide hV
              clear hV hl
              refine (unhide HV P w6 (unhide HF6)).mono ?_
              rintro e w7 ⟨rfl, hw7⟩
              have hw7' := hw7.symm
              subst hw7'
              clear hw7
              have hat := (unhide HX).2.2.at_
              have HAT : Hid (0 < V → (volP B S P).1 = V ∧ ∀ q, (tnAt (s.M 0) q).vol = V → ¬ ((tnAt (s.M 0) q).rest < (volP B S P).2 ∨ ((tnAt (s.M 0) q).rest = (volP B S P).2 ∧ q < P))) := fun hv => by
                obtain ⟨R, h1, h2⟩ := hat hv
                rw [h1]
                exact ⟨rfl, h2⟩
              clear hat
              generalize (volP B S P).1 = vv at *
              generalize (volP B S P).2 = rr at *
              go_upto_region 27 with fail
              go_cut [142] from 106 to 142 (fun s142 wx => s142 = .bool false ∧ w6 = wx)
              case first =>
                rcases hpz with ⟨h1, rfl⟩ | ⟨h1, h2⟩
                · go_wp2_with fail
                  go_meet
                  exact ⟨rfl, rfl⟩
                · have h3 := (unhide HAT h2).1
                  subst h3
                  go_wp2_with fail
                  go_meet
                  exact ⟨rfl, rfl⟩
              case rest =>
                obtain ⟨rfl, rfl⟩ := hcut
                clear d0 d1 d2 d3 d4 d5
                go_wp2_with fail
                go_loopg [19] (15 + len2) (fun g s19 wx => ∃ j : Nat, j ≤ 15 + len2 ∧ g = 15 + len2 - j ∧ s19 = .int .i64 (99 + (j : Int)) ∧ Fr No w6 wx)
                case atStart => exact ⟨0, Nat.zero_le _, rfl, rfl, Fr.refl _ _⟩
                case round =>
                  obtain ⟨j, hj, rfl, rfl, hfj⟩ := hrel
                  obtain ⟨d0, d1, d2, d3, d4, d5, -⟩ := box6 (hfj.heap (unhide HF6b) id)
                  have hfj5 := (unhide HF6).quiet hfj
                  have HFJ := hide (And.intro hfj hfj5)
                  by_cases hjl : j < 15 + len2
                  · have e1 : 99 + (j : Int) ≤ 113 + (len2 : Int) := by omega
                    have hcell : ∀ i, i = j - 15 → 15 ≤ j → ∃ b off z, a2 = some ⟨b, off, none⟩ ∧ b < wr.heap.size ∧ wr.cell? ⟨b, off + i, none⟩ = some (.int .i64 z) ∧ I64 z := fun i hi hj15 => by
                      obtain ⟨b, off, z, h1, h2, h3, h4⟩ := unhide HI i (by omega)
                      have hfw := (unhide HK5).1.fr.quiet hfj5
                      exact ⟨b, off, z, h1, Nat.lt_of_lt_of_le h2 hfw.size, (hfw.below.cell (p := ⟨b, off + i, none⟩) h2).trans h3, h4⟩
                    have HCE := hide hcell
                    clear hcell hfj hfj5
                    go_upto_if 152 with fail
                    go_cut [20] from 143 to 194 (fun s20 wx => ∃ p : Int, s20 = .int .i64 p ∧ wr = wx)
                    case first =>
                      by_cases hq : 15 ≤ j
                      · obtain ⟨b, off, z, rfl, hb, hz, hi⟩ := unhide HCE (j - 15) rfl hq
                        have eq1 : (113 : Int) < 99 + (j : Int) := by omega
                        have hsub : 99 + (j : Int) - 114 = ((j - 15 : Nat) : Int) := by omega
                        have hlen : ((j - 15 : Nat) : Int) < (len2 : Int) := by omega
                        have HZ := hide hi
                        have hpr := pickI_rng (c := z) (n := 1000000) (by omega)
                        clear hi
                        go_wp2_with fail
                        refine (pick_any z 1000000 wr (unhide HZ) (by omega)).mono ?_
                        rintro e w8 ⟨rfl, hw8⟩
                        have hw8' := hw8.symm
                        subst hw8'
                        clear hw8
                        go_wp2_with fail
                        go_meet
                        exact ⟨_, rfl, rfl⟩
                      · have eq1 : decide ((113 : Int) < 99 + (j : Int)) = false := by simp; omega
                        go_wp2_with fail
                        go_meet
                        exact ⟨_, rfl, rfl⟩
                    case rest =>
                      obtain ⟨p, rfl, rfl⟩ := hcut
                      go_wp2_with fail
                      refine (unhide HV p wr (unhide HFJ).2).mono ?_
                      rintro e w8 ⟨rfl, hw8⟩
                      have hw8' := hw8.symm
                      subst hw8'
                      clear hw8
                      have hvl := (unhide HX).2.2.lev.vol p
                      have hbs := (unhide HX).2.2.best p
                      rw [hvl]
                      clear hvl
                      have HAP : Hid (0 < V → (tnAt (s.M 0) p).vol = V → ¬ ((tnAt (s.M 0) p).rest < rr ∨ ((tnAt (s.M 0) p).rest = rr ∧ p < P))) := fun hv hq => (unhide HAT hv).2 p hq
                      simp only
                      generalize (tnAt (s.M 0) p).vol = x at *
                      generalize (tnAt (s.M 0) p).rest = t at *
                      have f1 : decide (V < x) = false := by simp; omega
                      go_upto_region 36 with fail
                      go_cut [194] from 143 to 194 (fun s194 wx => s194 = .bool false ∧ wr = wx)
                      case first =>
                        by_cases hv : 0 < V
                        · by_cases hx : x = V
                          · have hn := unhide HAP hv hx
                            have f2 : decide (t < rr) = false := by simp; omega
                            subst hx
                            by_cases ht : t = rr
                            · have f3 : decide (p < P) = false := by simp; omega
                              subst ht
                              go_wp2_with fail
                              go_meet
                              exact ⟨rfl, rfl⟩
                            · have f3 : (t == rr) = false := by simpa using ht
                              go_wp2_with fail
                              go_meet
                              exact ⟨rfl, rfl⟩
                          · have f2 : (x == V) = false := by simpa using hx
                            go_wp2_with fail
                            go_meet
                            exact ⟨rfl, rfl⟩
                        · have f2 : decide (0 < V) = false := by simpa using hv
                          go_wp2_with fail
                          go_meet
                          exact ⟨rfl, rfl⟩
                      case rest =>
                        obtain ⟨rfl, rfl⟩ := hcut
                        go_wp2
                        go_roundg (15 + len2 - (j + 1))
                        case measure => omega
                        case rel => exact ⟨j + 1, by omega, rfl, by go_num, (unhide HFJ).1⟩
                  · have e1 : decide (99 + (j : Int) ≤ 113 + (len2 : Int)) = false := by simp; omega
                    have HFF := hide ((unhide HK5).1.fr.quiet hfj5)
                    clear hfj hfj5
                    go_wp2
                    go_ret
                    exact ⟨rfl, unhide HFF⟩
end Go.Proofs.Ytigpgnjgmaoejaa
