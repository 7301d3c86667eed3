/- Contract of the document's cancels (CancelAll). Conditions: the pit lies in memory, fewer than 100001 orders rest. -/
import Derived.Test.YtigpgnjgmaoejaaGreatRefL
import Derived.Test.YtigpgnjgmaoejaaGreatRefFG
import Derived.Deep.LoopGhost
import Derived.Deep.RegionHeld3
namespace Go.Proofs.YtigpgnjgmaoejaaGreat
open Go.RowKit

/-- The best one of a trader, again and again. -/
def cWhile (b s t : Int) : Nat → List Ord → List Ev → List Ord × List Ev
  | 0, L, E => (L, E)
  | f + 1, L, E => match bestOfO L b s t with
    | none => (L, E)
    | some i => cWhile b s t f (L.eraseIdx i) (E ++ [goneE ((L[i]?.map Ord.id).getD 0) ((L[i]?.map Ord.opn).getD 0)])

def cOne (b s t : Int) (x : List Ord × List Ev) : List Ord × List Ev := cWhile b s t x.1.length x.1 x.2
def cBook (b t : Int) (x : List Ord × List Ev) : List Ord × List Ev := cOne b 2 t (cOne b 1 t x)
def cTo (L : List Ord) (t : Int) : Nat → List Ord × List Ev
  | 0 => (L, [])
  | k + 1 => cBook ((k + 1 : Nat) : Int) t (cTo L t k)

theorem bestOfO_lt {L : List Ord} {b s t : Int} {i : Nat} (h : bestOfO L b s t = some i) : i < L.length := by
  unfold bestOfO at h
  cases hb : bestO (L.filter (isOf t)) b s with
  | none => rw [hb] at h; simp at h
  | some j =>
    rw [hb] at h
    simp only [Option.bind_some] at h
    have hm := List.mem_of_getElem? h
    have := (List.mem_filter.1 hm).1
    simpa using this

theorem cWhile_none {b s t : Int} {f : Nat} {L : List Ord} {E : List Ev} (h : bestOfO L b s t = none) : cWhile b s t f L E = (L, E) := by
  cases f with
  | zero => rfl
  | succ f => simp [cWhile, h]
theorem cWhile_some {b s t : Int} {f : Nat} {L : List Ord} {E : List Ev} {i : Nat} (hi : i < L.length) (h : bestOfO L b s t = some i) : cWhile b s t (f + 1) L E = cWhile b s t f (L.eraseIdx i) (E ++ [goneE L[i].id L[i].opn]) := by
  simp [cWhile, h, List.getElem?_eq_getElem hi]
theorem cWhile_len {b s t : Int} : ∀ {f : Nat} {L : List Ord} {E : List Ev}, (cWhile b s t f L E).1.length + (cWhile b s t f L E).2.length = L.length + E.length
  | 0, L, E => rfl
  | f + 1, L, E => by
    unfold cWhile
    split
    · rfl
    · rename_i i h
      have hi := bestOfO_lt h
      rw [cWhile_len]
      rw [List.length_eraseIdx, if_pos hi, List.length_append]
      simp; omega
theorem cBook_len {b t : Int} {x : List Ord × List Ev} : (cBook b t x).1.length + (cBook b t x).2.length = x.1.length + x.2.length := by
  unfold cBook cOne
  rw [cWhile_len, cWhile_len]
theorem cTo_len {L : List Ord} {t : Int} : ∀ {k : Nat}, (cTo L t k).1.length + (cTo L t k).2.length = L.length
  | 0 => by simp [cTo]
  | k + 1 => by rw [cTo, cBook_len, cTo_len]

/-- A piece behind it that only made memory of its own. -/
theorem RefOut.more {w w1 w' : World} {bp : Nat} {v v' r : Value} {s' : Ref} {E : List Ev} (h : RefOut w w1 bp v v' s' r E) (hf : Fr No w1 w') : RefOut w w' bp v v' s' r E :=
  ⟨h.ref.no hf, h.fr.quiet hf, h.new, own_fr h.evs hf (fun _ _ => id), h.apart⟩

/-- Where the two sides' loop stands. -/
def cSide (b t : Int) (x : List Ord × List Ev) (j : Nat) : List Ord × List Ev := if j = 0 then x else if j = 1 then cOne b 1 t x else cBook b t x
theorem cSide_succ {b t : Int} {x : List Ord × List Ev} {j : Nat} (h : j < 2) : cSide b t x (j + 1) = cOne b ((j : Int) + 1) t (cSide b t x j) := by
  match j, h with
  | 0, _ => rfl
  | 1, _ => rfl

/-- What holds of memory in the midst of it. -/
structure CMid (w wr : World) (bp : Nat) (v : Value) (s : Ref) (l : Value) (x : List Ord × List Ev) : Prop where
  ex : ∃ v', RefOut w wr bp v v' { s with L := x.1 } l x.2
  le : x.1.length + x.2.length ≤ s.L.length

set_option maxRecDepth 100000 in
set_option maxHeartbeats 4000000 in
theorem cancels_any (bp : Nat) (v : Value) (s : Ref) (t : Int) (w : World) (hr : RefAt w bp v s) (hn : s.L.length ≤ 100000) :
    Calls Tryz.prog 61 #[.pointer (some ⟨bp, 0, none⟩), .int .i64 t] w fun e w' => ∃ r v', e = .returned r ∧
      RefOut w w' bp v v' { s with L := (cTo s.L t 8).1 } r (cTo s.L t 8).2 := by
  have HR := hide hr
  clear hr
  go_enter Tryz.func61, Tryz.ntmps61
  go_wp2
  go_loopg [5, 6] 8 (fun f l b wr => ∃ k : Nat, k ≤ 8 ∧ f = 8 - k ∧ b = .int .i64 ((k : Int) + 1) ∧ CMid w wr bp v s l (cTo s.L t k))
  case atStart => exact ⟨0, by omega, rfl, rfl, ⟨⟨v, RefOut.said (unhide HR) (World.ownsRow_nil _ _ _ _) (Fr.refl _ _)⟩, by simp [cTo]⟩⟩
  case round =>
    obtain ⟨k, hk, hgk, rfl, hm⟩ := hrel
    have HGK := hide hgk
    have HM := hide hm
    clear hm hgk
    by_cases hlt : k < 8
    · have hk8 : decide ((k : Int) + 1 ≤ 8) = true := by simp; omega
      go_wp2
      go_loopg [5, 7] 2 (fun f l sd wr => ∃ j : Nat, j ≤ 2 ∧ f = 2 - j ∧ sd = .int .i64 ((j : Int) + 1) ∧ CMid w wr bp v s l (cSide ((k : Int) + 1) t (cTo s.L t k) j))
      case atStart => exact ⟨0, by omega, rfl, rfl, unhide HM⟩
      case round =>
        obtain ⟨j, hj, hgj, rfl, hm⟩ := hrel
        have HGJ := hide hgj
        have HM := hide hm
        clear hm hgj
        by_cases hlt2 : j < 2
        · have hj2 : decide ((j : Int) + 1 ≤ 2) = true := by simp; omega
          have HT := hide (cSide_succ (b := (k : Int) + 1) (t := t) (x := cTo s.L t k) hlt2)
          generalize hX : cSide ((k : Int) + 1) t (cTo s.L t k) j = X at *
          clear hX
          generalize hY : cSide ((k : Int) + 1) t (cTo s.L t k) (j + 1) = Y at *
          have HY := hide hY
          clear hY
          obtain ⟨⟨v1, ho1⟩, hle1⟩ := unhide HM
          have hxl : X.1.length ≤ 100000 := by omega
          go_wp2_with fail
          refine (bestOf_any bp v1 { s with L := X.1 } _ _ t wr ho1.ref hxl).mono ?_
          rintro e w1 ⟨rfl, hf1⟩
          have HM1 : Hid (CMid w w1 bp v s u5 X) := ⟨⟨v1, RefOut.more ho1 hf1⟩, hle1⟩
          clear ho1 hf1
          go_wp2
          go_loopg [5, 8] X.1.length (fun f l at_ wr => ∃ L E, at_ = .int .i64 (enc (bestOfO L ((k : Int) + 1) ((j : Int) + 1) t)) ∧ CMid w wr bp v s l (L, E) ∧ cWhile ((k : Int) + 1) ((j : Int) + 1) t f L E = Y ∧ L.length ≤ f)
          case atStart => exact ⟨X.1, X.2, rfl, unhide HM1, (unhide HT).symm, Nat.le_refl _⟩
          case round =>
            obtain ⟨L, E, rfl, hm, hcw, hle⟩ := hrel
            cases hbo : bestOfO L ((k : Int) + 1) ((j : Int) + 1) t with
            | none =>
              have HY2 : Hid ((L, E) = Y) := (cWhile_none hbo).symm.trans hcw
              have HM2 := hide hm
              rw [show enc none = -1 from rfl]
              clear hm hcw hbo
              go_wp2
              go_roundg (2 - (j + 1))
              case rel => exact ⟨j + 1, by omega, rfl, by go_num, by rw [unhide HY, ← unhide HY2]; exact unhide HM2⟩
              case measure => have := unhide HGJ; omega
            | some i =>
              have hi := bestOfO_lt hbo
              obtain ⟨f, rfl⟩ : ∃ f, gk = f + 1 := ⟨gk - 1, by omega⟩
              have HCW : Hid (cWhile ((k : Int) + 1) ((j : Int) + 1) t f (L.eraseIdx i) (E ++ [goneE L[i].id L[i].opn]) = Y) := (cWhile_some hi hbo).symm.trans hcw
              have HLE : Hid ((L.eraseIdx i).length ≤ f) := by show _ ≤ _; rw [List.length_eraseIdx, if_pos hi]; omega
              obtain ⟨⟨v2, ho2⟩, hle2⟩ := hm
              simp only at hle2
              have hr2 := ho2.ref
              obtain ⟨a2, c2, rfl⟩ := hr2.form
              obtain ⟨g, rfl, hg, _, hc0, _, _, _, _, hc5, _⟩ := os_at hr2.own i hi
              have hL2 := hr2.cellL
              have hbp2 := hr2.lt
              have hE : Es wr w.heap.size u5 E := ho2.evs
              have hsz := ho2.fr.size
              have hin : (i : Int) < (L.length : Int) := by omega
              have hEl : E.length ≤ 100000 := by omega
              have hel := hE.lt
              have hne5 : ∀ q, OwnS u5 q → q ≠ bp ∧ q ≠ g ∧ w.heap.size ≤ q := fun q hq => ⟨fun e => by have := (hel q hq).1; have := (unhide HR).lt; omega, fun e => ho2.apart q hq (by rw [e]; rfl), (hel q hq).1⟩
              have HO2 := hide ho2
              have HE := hide hE
              have HN5 := hide hne5
              rw [show enc (some i) = (i : Int) from rfl]
              clear hcw hbo hle ho2 hr2 hE hel hne5
              go_wp2
              go_region_held3 (fun w' => w'.cell? ⟨bp, 0, none⟩ = some (.slice (some ⟨g, 0, none⟩) L.length c2) ∧ w'.cell? ⟨g, i * 6, none⟩ = some (.int .i64 L[i].id) ∧ w'.cell? ⟨g, i * 6 + 5, none⟩ = some (.int .i64 L[i].opn)) (go_keep)
                (first
                  | (go_at_call 119; (refine (gone_any _ _ _).mono ?_; rintro e w2 ⟨rfl, hf2'⟩; unfold goneE Ev.val; have hf2 : Fr No wr w2 := ((Fr.refl _ _).drew).quiet hf2'; clear hf2'; have hd1 := (hf2.below.cell (p := ⟨bp, 0, none⟩) hbp2).trans hL2; have hd2 := (hf2.below.cell (p := ⟨g, i * 6, none⟩) hg).trans hc0; have hd3 := (hf2.below.cell (p := ⟨g, i * 6 + 5, none⟩) hg).trans hc5; have hsz2 : wr.heap.size ≤ w2.heap.size := hf2.size; have hbp3 : bp < w2.heap.size := (by omega); have hg3 : g < w2.heap.size := (by omega); have HF2 := hide hf2; clear hf2))
                  | (refine step_ev rfl (.tmp 24) (.tmp 42) rfl w.heap.size _ E (own_fr (S := No) (unhide HE) ((unhide HF2).alloc _) (fun _ _ => id)) (by simp [Act.eval]) ⟨w2.heap.size, 0, none⟩ 1 1 [goneE L[i].id L[i].opn] (by simp [Act.eval]) rfl (by simp) (new_cells w2 (goneE L[i].id L[i].opn).cells _) (by simp; omega) (by simp; omega) ?_; intro g3 c3 w3 hown3 hfr3 hat3 hlt3; have hf3 : Fr (OwnS u5) w2 w3 := Fr.same ((Fr.refl _ _).alloc _) hfr3; have he1 := (World.cell?_of_block (a := ⟨bp, 0, none⟩) (hf3.block bp hbp3 (fun e => (unhide HN5 _ e).1 rfl))).trans hd1; have he2 := (World.cell?_of_block (a := ⟨g, i * 6, none⟩) (hf3.block g hg3 (fun e => (unhide HN5 _ e).2.1 rfl))).trans hd2; have he3 := (World.cell?_of_block (a := ⟨g, i * 6 + 5, none⟩) (hf3.block g hg3 (fun e => (unhide HN5 _ e).2.1 rfl))).trans hd3; have HX := hide (And.intro hown3 (And.intro hf3 hat3)); clear hown3 hf3 hat3 hfr3))
              obtain ⟨hown3, hf3, hat3⟩ := unhide HX
              have ho2 := unhide HO2
              have hn5 := unhide HN5
              have hbw := (unhide HR).lt
              have hr3 : RefAt w3 bp (.slice (some ⟨g, 0, none⟩) L.length c2) { s with L := L } := (ho2.ref.no (unhide HF2)).fr hf3 (fun e => (hn5 _ e).1 rfl) (fun q hq e => (hn5 _ e).2.1 (own_eq hq))
              have hll : L.length ≤ 100000 := by omega
              have hfa : Fr (RefS bp v) w w3 := (ho2.fr.quiet (unhide HF2)).trans hf3 (fun q hq e => by have := (hn5 _ e).2.2; omega)
              have hgn := ho2.new g rfl
              have hg3e : OwnS u5 g3 ∨ g3 = w2.heap.size + 1 := by
                rcases hat3 with h | h
                · exact .inl h
                · exact .inr (by simpa using h)
              have hEw : w.heap.size ≤ g3 ∧ g3 ≠ bp := by
                rcases hg3e with h | h
                · exact ⟨(hn5 _ h).2.2, (hn5 _ h).1⟩
                · omega
              have HZ := hide (And.intro hown3 (And.intro hr3 (And.intro hfa (And.intro hgn hEw))))
              clear hown3 hf3 hat3 HX ho2 hn5 hr3 hfa hg3e hgn hEw hL2 hc0 hc5 hd1 hd2 hd3
              go_wp2_with fail
              refine (drop_any bp _ { s with L := L } i w3 (unhide HZ).2.1 hll).mono ?_
              rintro e w4 ⟨rfl, v4, hr4, hf4, hv4⟩
              have hl4 : (L.eraseIdx i).length ≤ 100000 := by rw [List.length_eraseIdx, if_pos hi]; omega
              have hle4 : (L.eraseIdx i).length + (E.length + 1) ≤ s.L.length := by rw [List.length_eraseIdx, if_pos hi]; omega
              have HV := hide (And.intro hr4 (And.intro hf4 (And.intro hv4 hle4)))
              clear hr4 hf4 hv4 hle4
              go_wp2_with fail
              refine (bestOf_any bp v4 { s with L := L.eraseIdx i } _ _ t w4 (unhide HV).1 hl4).mono ?_
              rintro e w5 ⟨rfl, hf5⟩
              have HF5 := hide hf5
              clear hf5
              go_wp2
              go_roundg f
              case rel =>
                obtain ⟨hown3, hr3, hfa, hgn, hEw⟩ := unhide HZ
                obtain ⟨hr4, hf4, hv4, hle4⟩ := unhide HV
                have h3lt := (hown3.lt g3 rfl).2
                refine ⟨L.eraseIdx i, E ++ [goneE L[i].id L[i].opn], rfl, ⟨⟨v4, RefOut.more ⟨hr4, hfa.trans hf4 (fun q _ e => .inl e), fun q hq => .inr ?_, own_fr hown3 hf4 (fun q hq e => ?_), fun q hq hq' => ?_⟩ (unhide HF5)⟩, ?_⟩, unhide HCW, unhide HLE⟩
                · have := hv4 q hq; have := hfa.size; omega
                · have e1 := own_eq hq; have e2 : q = bp := e; omega
                · have e1 := own_eq hq; have := hv4 q hq'; omega
                · simpa using hle4
              case measure => omega
        · have hj2 : j = 2 := by omega
          subst hj2
          go_wp2
          go_roundg (8 - (k + 1))
          case rel => exact ⟨k + 1, by omega, rfl, by go_num, by have := unhide HM; rw [cTo]; simpa [cSide] using this⟩
          case measure => have := unhide HGK; omega
    · have hk8 : k = 8 := by omega
      subst hk8
      obtain ⟨⟨v1, ho1⟩, hle1⟩ := unhide HM
      have HO := hide ho1
      clear ho1
      go_wp2
      go_ret
      exact ⟨_, v1, rfl, unhide HO⟩
end Go.Proofs.YtigpgnjgmaoejaaGreat
