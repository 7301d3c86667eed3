/- Plain mathematics: what the document's commands come to, in books that gather and in books that trade (tDo), and when a pit is good. No condition. -/
import Derived.Test.YtigpgnjgmaoejaaGreatMarts
import Derived.Test.YtigpgnjgmaoejaaGreatRefLM
import Derived.Test.YtigpgnjgmaoejaaGreatRefHK
namespace Go.Proofs.YtigpgnjgmaoejaaGreat

def setTd (td : Nat → Int) (nb : Nat) (t : Int) : Nat → Int := fun k => if k = nb then t else td k
theorem setTd_self (td : Nat → Int) (nb : Nat) : setTd td nb (td nb) = td := by
  funext k
  unfold setTd
  split
  · rename_i h; rw [h]
  · rfl
def setTr (tr : Nat → Bool) (nb : Nat) (t : Bool) : Nat → Bool := fun k => if k = nb then t else tr k

/-- A price of 0 is any. -/
def mkt (x : Ord) : Ord := { x with price := if x.price = 0 then (if x.side = 2 then 1 else 1000000) else x.price }
theorem mkt_self {x : Ord} (h : x.price ≠ 0) : mkt x = x := by simp [mkt, h]

/-- What an order that is taken comes to, in a book that trades. -/
def takesT (s : Ref) (nb : Nat) (x : Ord) (kind : Int) (R : List Ord × Int × Int × List Ev) : Ref × List Ev :=
  if R.2.2.1 = 0 then ({ s with L := R.1, td := setTd s.td nb (wrp R.2.1) }, R.2.2.2)
  else if kind = 1 ∨ kind = 5 then ({ s with L := R.1 ++ [{ x with opn := R.2.2.1 }], td := setTd s.td nb (wrp R.2.1) }, R.2.2.2 ++ [restsE x.id x.price R.2.2.1])
  else ({ s with L := R.1, td := setTd s.td nb (wrp R.2.1) }, R.2.2.2 ++ [goneE x.id R.2.2.1])
def tTakes (s : Ref) (x : Ord) (kind : Int) : Ref × List Ev :=
  if s.tr x.book.toNat = true then takesT s x.book.toNat (mkt x) kind (mWhile (mkt x) (s.L.length + 1) s.L (s.td x.book.toNat) x.opn [takenE x.id x.opn])
  else ({ s with L := s.L ++ [x] }, [takenE x.id x.opn, restsE x.id x.price x.opn])

/-- How much of the other side is good for an order, of other traders. -/
def isMet (x y : Ord) : Bool := y.book == x.book && y.side != x.side && y.trader != x.trader && goodB x.side y.price x.price
def matchedO (L : List Ord) (x : Ord) : Int := ((L.filter (isMet x)).map Ord.opn).sum

def tNew (s : Ref) (c : Cmd) : Ref × List Ev :=
  if newOk c = false then (s, [refusedE c.id 2])
  else if (findO s.L c.id).isSome = true then (s, [refusedE c.id 3])
  else if s.tr c.book.toNat = false ∧ c.kind ≠ 1 then (s, [refusedE c.id 6])
  else if c.kind = 5 ∧ crossB s.L (ordOf c) = true ∨ c.kind = 4 ∧ matchedO s.L (ordOf c) < c.count then (s, [refusedE c.id 7])
  else if (c.kind = 1 ∨ c.kind = 5) ∧ 200 ≤ restN s.L c.book 1 + restN s.L c.book 2 then (s, [refusedE c.id 5])
  else tTakes s { ordOf c with price := if c.kind = 2 then 0 else c.price } c.kind

def tAt (s : Ref) (c : Cmd) (i : Nat) (x : Ord) : Ref × List Ev :=
  if x.trader ≠ c.trader then (s, [refusedE c.id 4])
  else if c.what ≠ 3 then ({ s with L := s.L.eraseIdx i }, [goneE x.id x.opn])
  else if c.price = x.price ∧ c.count ≤ x.opn then ({ s with L := s.L.set i { x with opn := c.count } }, [restsE x.id x.price c.count])
  else ((tTakes { s with L := s.L.eraseIdx i } { x with price := c.price, opn := c.count } 1).1, goneE x.id x.opn :: (tTakes { s with L := s.L.eraseIdx i } { x with price := c.price, opn := c.count } 1).2)
def tTurn (s : Ref) (c : Cmd) : Ref × List Ev :=
  if turnOk c = false then (s, [refusedE c.id 2])
  else match findO s.L c.id with
    | none => (s, [refusedE c.id 4])
    | some i => match s.L[i]? with
      | none => (s, [refusedE c.id 4])
      | some x => tAt s c i x

/-- How much is open to buy, and to sell, in a book at a price. -/
def isBuy (b q : Int) (o : Ord) : Bool := o.book == b && o.side == 1 && decide (q ≤ o.price)
def isSell (b q : Int) (o : Ord) : Bool := o.book == b && o.side == 2 && decide (o.price ≤ q)
def buyB (L : List Ord) (b q : Int) : Int := ((L.filter (isBuy b q)).map Ord.opn).sum
def sellB (L : List Ord) (b q : Int) : Int := ((L.filter (isSell b q)).map Ord.opn).sum
def tnB (L : List Ord) (b q : Int) : Tn := ⟨q, leastI (buyB L b q) (sellB L b q), buyB L b q + sellB L b q - 2 * leastI (buyB L b q) (sellB L b q)⟩
def bettB (x y : Tn) : Bool := decide (y.vol < x.vol) || (x.vol == y.vol && (decide (x.rest < y.rest) || (x.rest == y.rest && decide (x.price < y.price))))
def pStep (L : List Ord) (b : Int) (a : Tn) (q : Int) : Tn :=
  if 1000000 < q then a else if 0 < (tnB L b q).vol ∧ bettB (tnB L b q) a = true then tnB L b q else a
def cands (L : List Ord) : List Int := 1 :: 1 :: L.flatMap fun o => [o.price, o.price + 1]
def priceO (L : List Ord) (b : Int) : Tn := (cands L).foldl (pStep L b) ⟨0, 0, 0⟩

/-- The best of both sides trade. -/
def oSet (L : List Ord) (i j : Nat) (x y : Ord) : List Ord := (L.set i { x with opn := x.opn - leastI x.opn y.opn }).set j { y with opn := y.opn - leastI x.opn y.opn }
def oDropY (L : List Ord) (i j : Nat) (x y : Ord) : List Ord := if y.opn = leastI x.opn y.opn then (oSet L i j x y).eraseIdx j else oSet L i j x y
def dropId (L : List Ord) (id : Int) : List Ord := match findO L id with
  | some k => L.eraseIdx k
  | none => L
def oCut (L : List Ord) (i j : Nat) (x y : Ord) : List Ord := if x.opn = leastI x.opn y.opn then dropId (oDropY L i j x y) x.id else oDropY L i j x y
def oWhile (b p : Int) : Nat → List Ord → Int → Int → List Ev → List Ord × Int × List Ev
  | 0, L, t, _, E => (L, t, E)
  | f + 1, L, t, v, E =>
    if 0 < v then
      match bestO L b 1, bestO L b 2 with
      | some i, some j => match L[i]?, L[j]? with
        | some x, some y => oWhile b p f (oCut L i j x y) (t + leastI x.opn y.opn) (v - leastI x.opn y.opn) (E ++ [tradedE x.id y.id p (leastI x.opn y.opn)])
        | _, _ => (L, t, E)
      | _, _ => (L, t, E)
    else (L, t, E)
theorem oWhile_stop {b p : Int} {f : Nat} {L : List Ord} {t v : Int} {E : List Ev} (h : ¬ 0 < v) : oWhile b p f L t v E = (L, t, E) := by
  cases f with
  | zero => rfl
  | succ f => simp only [oWhile]; rw [if_neg h]
theorem oWhile_step {b p : Int} {f : Nat} {L : List Ord} {t v : Int} {E : List Ev} {i j : Nat} (h : 0 < v) (hi : i < L.length) (hj : j < L.length) (h1 : bestO L b 1 = some i) (h2 : bestO L b 2 = some j) :
    oWhile b p (f + 1) L t v E = oWhile b p f (oCut L i j L[i] L[j]) (t + leastI L[i].opn L[j].opn) (v - leastI L[i].opn L[j].opn) (E ++ [tradedE L[i].id L[j].id p (leastI L[i].opn L[j].opn)]) := by
  simp only [oWhile]
  rw [if_pos h, h1, h2]
  simp only [List.getElem?_eq_getElem hi, List.getElem?_eq_getElem hj]

def oRun (s : Ref) (nb : Nat) : List Ord × Int × List Ev := oWhile nb (priceO s.L nb).price (s.L.length + 1) s.L (s.td nb) (priceO s.L nb).vol []
def tOpenAt (s : Ref) (nb : Nat) : Ref × List Ev := (⟨(oRun s nb).1, setTr s.tr nb true, setTd s.td nb (wrp (oRun s nb).2.1)⟩, (oRun s nb).2.2 ++ [openedE (priceO s.L nb).price (priceO s.L nb).vol])
def tOpen (s : Ref) (c : Cmd) : Ref × List Ev :=
  if inB c.book 1 8 = false then (s, [refusedE 0 2]) else if s.tr c.book.toNat = true then (s, [refusedE 0 6]) else tOpenAt s c.book.toNat
def tClose (s : Ref) (c : Cmd) : Ref × List Ev :=
  if inB c.book 1 8 = false then (s, [refusedE 0 2]) else if s.tr c.book.toNat = false then (s, [refusedE 0 6]) else ({ s with tr := setTr s.tr c.book.toNat false }, [closedE])
def tDo (s : Ref) (c : Cmd) : Ref × List Ev :=
  if c.what = 1 then tNew s c
  else if c.what = 2 ∨ c.what = 3 then tTurn s c
  else if c.what = 4 then (if inB c.trader 1 1000 = true then ({ s with L := (cTo s.L c.trader 8).1 }, (cTo s.L c.trader 8).2) else (s, [refusedE 0 2]))
  else if c.what = 5 then tOpen s c
  else if c.what = 6 then tClose s c
  else (s, [refusedE 0 1])

/-- A pit as it should be. -/
structure Good (s : Ref) : Prop where
  td : ∀ k, wrp (s.td k) = s.td k
  ord : ∀ o ∈ s.L, (1 ≤ o.book ∧ o.book ≤ 8) ∧ (o.side = 1 ∨ o.side = 2) ∧ (1 ≤ o.opn ∧ o.opn ≤ 1000000) ∧ (1 ≤ o.price ∧ o.price ≤ 1000000) ∧ (1 ≤ o.id ∧ o.id ≤ 1000000000) ∧ 1 ≤ o.trader ∧ o.trader ≤ 1000
  ids : (s.L.map Ord.id).Nodup
  cap : ∀ b, restN s.L b 1 + restN s.L b 2 ≤ 200

/-- What holds between two trades of an opening. -/
structure OInv (b : Int) (L : List Ord) (v : Int) : Prop where
  ids : (L.map Ord.id).Nodup
  opn : ∀ y ∈ L, 1 ≤ y.opn ∧ y.opn ≤ 1000000
  last : Lasts (sideOf b 1 L) (sideOf b 2 L) v
  left : 0 ≤ v
end Go.Proofs.YtigpgnjgmaoejaaGreat

/- Plain mathematics: a trade of the document's opening, as the sorted sides see it. Conditions: no number twice, what is open of each order is 1 or more. -/
namespace Go.Proofs.YtigpgnjgmaoejaaGreat

theorem leastI_minO (a b : Int) : leastI a b = minO a b := by unfold leastI minO; split <;> split <;> omega

/-- The same by the numbers. -/
def cutId (x y : Ord) (n : Int) (S : List Ord) : List Ord :=
  (if x.opn = n then without x.id else id) ((if y.opn = n then without y.id else id) ((S.map (reopen x.id (x.opn - n))).map (reopen y.id (y.opn - n))))

theorem reopen_id (id c : Int) (o : Ord) : (reopen id c o).id = o.id := by unfold reopen; split <;> rfl
theorem reopen_key (id c : Int) (o : Ord) : key (reopen id c o) = key o := by unfold reopen key; split <;> rfl
theorem map_reopen_ids (id c : Int) (L : List Ord) : (L.map (reopen id c)).map Ord.id = L.map Ord.id := by
  rw [List.map_map]
  refine List.map_congr_left fun o _ => ?_
  exact reopen_id id c o
theorem dropId_without {L : List Ord} (h : (L.map Ord.id).Nodup) (id : Int) : dropId L id = without id L := by
  unfold dropId
  cases hf : findO L id with
  | none => exact (without_self (findO_not hf)).symm
  | some k =>
    have hk := findO_some_lt hf
    have e : L[k].id = id := by
      unfold findO at hf
      obtain ⟨_, h2, _⟩ := List.findIdx?_eq_some_iff_getElem.1 hf
      simpa using h2
    show L.eraseIdx k = without id L
    rw [erase_without h hk, e]
theorem getElem_ids {L : List Ord} (h : (L.map Ord.id).Nodup) {i j : Nat} (hi : i < L.length) (hj : j < L.length) (hne : i ≠ j) : L[i].id ≠ L[j].id := fun e => by
  have hp := List.pairwise_iff_getElem.1 h
  rcases Nat.lt_or_gt_of_ne hne with hlt | hlt
  · exact hp i j (by simpa using hi) (by simpa using hj) hlt (by simpa using e)
  · exact hp j i (by simpa using hj) (by simpa using hi) hlt (by simpa using e.symm)
theorem oSet_map {L : List Ord} (h : (L.map Ord.id).Nodup) {i j : Nat} (hi : i < L.length) (hj : j < L.length) (hne : i ≠ j) :
    oSet L i j L[i] L[j] = (L.map (reopen L[i].id (L[i].opn - leastI L[i].opn L[j].opn))).map (reopen L[j].id (L[j].opn - leastI L[i].opn L[j].opn)) := by
  unfold oSet
  rw [set_reopen h hi]
  generalize leastI L[i].opn L[j].opn = n
  have hj2 : j < (L.map (reopen L[i].id (L[i].opn - n))).length := by simpa using hj
  have e : (L.map (reopen L[i].id (L[i].opn - n)))[j] = L[j] := by
    rw [List.getElem_map]
    unfold reopen
    rw [if_neg (getElem_ids h hj hi (fun e => hne e.symm))]
  have := @set_reopen (L[j].opn - n) (L.map (reopen L[i].id (L[i].opn - n))) (by rw [map_reopen_ids]; exact h) j hj2
  rw [e] at this
  exact this
theorem without_ids (id : Int) (L : List Ord) : ((without id L).map Ord.id).Sublist (L.map Ord.id) := List.filter_sublist.map Ord.id
theorem oDropY_eq {L : List Ord} (h : (L.map Ord.id).Nodup) {i j : Nat} (hi : i < L.length) (hj : j < L.length) (hne : i ≠ j) :
    oDropY L i j L[i] L[j] = (if L[j].opn = leastI L[i].opn L[j].opn then without L[j].id else id) (oSet L i j L[i] L[j]) ∧ ((oSet L i j L[i] L[j]).map Ord.id) = L.map Ord.id := by
  have e := oSet_map h hi hj hne
  have hn : ((oSet L i j L[i] L[j]).map Ord.id) = L.map Ord.id := by rw [e, map_reopen_ids, map_reopen_ids]
  have hj2 : j < (oSet L i j L[i] L[j]).length := by
    have := congrArg List.length hn
    simp only [List.length_map] at this
    omega
  refine ⟨?_, hn⟩
  unfold oDropY
  split
  · rw [erase_without (by rw [hn]; exact h) hj2]
    congr 1
    have e2 : ((oSet L i j L[i] L[j]).map Ord.id)[j]'(by simpa using hj2) = (L.map Ord.id)[j]'(by simpa using hj) := by simp only [hn]
    simpa using e2
  · rfl
theorem oCut_cutId {L : List Ord} (h : (L.map Ord.id).Nodup) {i j : Nat} (hi : i < L.length) (hj : j < L.length) (hne : i ≠ j) : oCut L i j L[i] L[j] = cutId L[i] L[j] (leastI L[i].opn L[j].opn) L := by
  obtain ⟨e1, e2⟩ := oDropY_eq h hi hj hne
  have hn : ((oDropY L i j L[i] L[j]).map Ord.id).Nodup := by
    rw [e1]
    split
    · exact (by rw [e2]; exact h : ((oSet L i j L[i] L[j]).map Ord.id).Nodup).sublist (without_ids _ _)
    · rw [id, e2]; exact h
  unfold oCut cutId
  rw [← oSet_map h hi hj hne, ← e1]
  split
  · exact dropId_without hn _
  · rfl
theorem side_ifw (b s id : Int) (c : Prop) [Decidable c] (L : List Ord) : sideOf b s ((if c then without id else _root_.id) L) = (if c then without id else _root_.id) (sideOf b s L) := by
  split
  · exact side_without b s id L
  · rfl
theorem side_cutId (b s : Int) (x y : Ord) (n : Int) (L : List Ord) : sideOf b s (cutId x y n L) = cutId x y n (sideOf b s L) := by
  unfold cutId
  rw [side_ifw, side_ifw, side_reopen, side_reopen]
theorem ifw_none {id : Int} {c : Prop} [Decidable c] {L : List Ord} (h : id ∉ L.map Ord.id) : (if c then without id else _root_.id) L = L := by
  split
  · exact without_self h
  · rfl
theorem cutId_none {x y : Ord} {n : Int} {S : List Ord} (hx : x.id ∉ S.map Ord.id) (hy : y.id ∉ S.map Ord.id) : cutId x y n S = S := by
  unfold cutId
  rw [map_reopen_self hx, map_reopen_self hy, ifw_none hy, ifw_none hx]
theorem cutId_x {x y : Ord} {n : Int} {A : List Ord} (hx : x.id ∉ A.map Ord.id) (hy : y.id ∉ (x :: A).map Ord.id) : cutId x y n (x :: A) = cutO n x A := by
  unfold cutId
  rw [List.map_cons, map_reopen_self hx, show reopen x.id (x.opn - n) x = { x with opn := x.opn - n } by simp [reopen]]
  have hy2 : y.id ∉ (({ x with opn := x.opn - n } : Ord) :: A).map Ord.id := hy
  rw [map_reopen_self hy2, ifw_none hy2]
  unfold cutO
  by_cases e : x.opn = n
  · rw [if_pos e, if_pos e.symm]
    unfold without
    rw [List.filter_cons_of_neg (by simp)]
    exact without_self hx
  · rw [if_neg e, if_neg (fun q => e q.symm)]
    rfl
theorem cutId_y {x y : Ord} {n : Int} {A : List Ord} (hy : y.id ∉ A.map Ord.id) (hx : x.id ∉ (y :: A).map Ord.id) : cutId x y n (y :: A) = cutO n y A := by
  unfold cutId
  rw [map_reopen_self hx, List.map_cons, map_reopen_self hy, show reopen y.id (y.opn - n) y = { y with opn := y.opn - n } by simp [reopen]]
  have hx2 : x.id ∉ (({ y with opn := y.opn - n } : Ord) :: A).map Ord.id := hx
  unfold cutO
  by_cases e : y.opn = n
  · rw [if_pos e, if_pos e.symm]
    unfold without
    rw [List.filter_cons_of_neg (by simp)]
    have : A.filter (fun o => o.id != y.id) = A := without_self hy
    rw [this]
    exact ifw_none (fun h => hx2 (List.mem_cons_of_mem _ h))
  · rw [if_neg e, if_neg (show ¬ n = y.opn from fun q => e q.symm)]
    exact ifw_none hx2
theorem ifw_key (id : Int) (c : Prop) [Decidable c] (L : List Ord) : (((if c then without id else _root_.id) L).map key).Sublist (L.map key) := by
  split
  · exact List.filter_sublist.map key
  · exact List.Sublist.refl _
theorem ifw_mem {id : Int} {c : Prop} [Decidable c] {L : List Ord} {z : Ord} (h : z ∈ (if c then without id else _root_.id) L) : z ∈ L ∧ (c → z.id ≠ id) := by
  split at h
  · obtain ⟨h1, h2⟩ := List.mem_filter.1 h
    exact ⟨h1, fun _ => by simpa using h2⟩
  · exact ⟨h, fun hc => absurd hc ‹_›⟩
theorem map_reopen_key (id c : Int) (L : List Ord) : (L.map (reopen id c)).map key = L.map key := by
  rw [List.map_map]
  exact List.map_congr_left fun o _ => reopen_key id c o
theorem cutId_sub {x y : Ord} {n : Int} {L : List Ord} (hL : ∀ z ∈ L, 1 ≤ z.opn ∧ z.opn ≤ 1000000) (hx : n ≤ x.opn ∧ x.opn ≤ 1000000) (hy : n ≤ y.opn ∧ y.opn ≤ 1000000) (hn : 0 ≤ n) : SubL L (cutId x y n L) := by
  constructor
  · unfold cutId
    refine (ifw_key _ _ _).trans ((ifw_key _ _ _).trans ?_)
    rw [map_reopen_key, map_reopen_key]
    exact List.Sublist.refl _
  · intro z hz
    unfold cutId at hz
    obtain ⟨h1, h2⟩ := ifw_mem hz
    obtain ⟨h3, h4⟩ := ifw_mem h1
    obtain ⟨z1, hz1, e1⟩ := List.mem_map.1 h3
    obtain ⟨z2, hz2, e2⟩ := List.mem_map.1 hz1
    have hb := hL z2 hz2
    have i1 := reopen_id x.id (x.opn - n) z2
    have i2 := reopen_id y.id (y.opn - n) z1
    rw [e2] at i1
    rw [e1] at i2
    by_cases q1 : z1.id = y.id
    · have h5 : y.opn ≠ n := fun e => h4 e (i2.trans q1)
      rw [← e1]
      unfold reopen
      rw [if_pos q1]
      show 1 ≤ y.opn - n ∧ y.opn - n ≤ 1000000
      omega
    · have e3 : z = z1 := by rw [← e1]; unfold reopen; rw [if_neg q1]
      rw [e3]
      by_cases q2 : z2.id = x.id
      · have h5 : x.opn ≠ n := fun e => h2 e (i2.trans (i1.trans q2))
        rw [← e2]
        unfold reopen
        rw [if_pos q2]
        show 1 ≤ x.opn - n ∧ x.opn - n ≤ 1000000
        omega
      · have e4 : z1 = z2 := by rw [← e2]; unfold reopen; rw [if_neg q2]
        rw [e4]
        exact hb

/-- What a trade of an opening is. -/
structure OStep (b : Int) (L : List Ord) (v : Int) (i j : Nat) (hi : i < L.length) (hj : j < L.length) : Prop where
  bi : bestO L b 1 = some i
  bj : bestO L b 2 = some j
  ne : i ≠ j
  pos : 1 ≤ leastI L[i].opn L[j].opn
  lei : leastI L[i].opn L[j].opn ≤ L[i].opn
  lej : leastI L[i].opn L[j].opn ≤ L[j].opn
  lev : leastI L[i].opn L[j].opn ≤ v
  one : L[i].opn = leastI L[i].opn L[j].opn ∨ L[j].opn = leastI L[i].opn L[j].opn
  inv : OInv b (oCut L i j L[i] L[j]) (v - leastI L[i].opn L[j].opn)
  sub : SubL L (oCut L i j L[i] L[j])
  len : (oCut L i j L[i] L[j]).length + 1 ≤ L.length
  dlen : (oDropY L i j L[i] L[j]).length ≤ L.length
  fnd : ∃ k, findO (oDropY L i j L[i] L[j]) L[i].id = some k
  sx : sideOf b 1 L = L[i] :: sideOf b 1 (L.eraseIdx i) ∧ sideOf b 1 (oCut L i j L[i] L[j]) = cutO (minO L[i].opn L[j].opn) L[i] (sideOf b 1 (L.eraseIdx i))
  sy : sideOf b 2 L = L[j] :: sideOf b 2 (L.eraseIdx j) ∧ sideOf b 2 (oCut L i j L[i] L[j]) = cutO (minO L[i].opn L[j].opn) L[j] (sideOf b 2 (L.eraseIdx j))
  other : ∀ b2 s2, (b2, s2) ≠ (b, 1) → (b2, s2) ≠ (b, 2) → sideOf b2 s2 (oCut L i j L[i] L[j]) = sideOf b2 s2 L

theorem oinv_step {b : Int} {L : List Ord} {v : Int} (h : OInv b L v) (hv : 0 < v) : ∃ i j hi hj, OStep b L v i j hi hj := by
  obtain ⟨a, A, c, B, hA, hB⟩ := h.last.head hv
  cases h1 : bestO L b 1 with
  | none => rw [side_none h1] at hA; cases hA
  | some i =>
    cases h2 : bestO L b 2 with
    | none => rw [side_none h2] at hB; cases hB
    | some j =>
      obtain ⟨hi, si, ei⟩ := side_best h1
      obtain ⟨hj, sj, ej⟩ := side_best h2
      have hne : i ≠ j := by
        rintro rfl
        simp only [inSide, Bool.and_eq_true, beq_iff_eq] at si sj
        have := si.2
        have := sj.2
        omega
      have oi := h.opn _ (List.getElem_mem hi)
      have oj := h.opn _ (List.getElem_mem hj)
      have hl := h.last
      rw [ei, ej] at hl
      have pA : ∀ y ∈ L[i] :: sideOf b 1 (L.eraseIdx i), 1 ≤ y.opn := fun y hy => by rw [← ei] at hy; exact (h.opn y (mem_sideOf.1 hy).1).1
      have pB : ∀ y ∈ L[j] :: sideOf b 2 (L.eraseIdx j), 1 ≤ y.opn := fun y hy => by rw [← ej] at hy; exact (h.opn y (mem_sideOf.1 hy).1).1
      obtain ⟨q1, q2, q3⟩ := hl.step hv pA pB
      have hm := minO_le L[i].opn L[j].opn
      have hmin := leastI_minO L[i].opn L[j].opn
      have hcut := oCut_cutId h.ids hi hj hne
      have hsub : SubL L (oCut L i j L[i] L[j]) := by
        rw [hcut]
        exact cutId_sub h.opn (by omega) (by omega) (by omega)
      have ndA := sideOf_nodup (b := b) (s := 1) h.ids
      have ndB := sideOf_nodup (b := b) (s := 2) h.ids
      have ny1 : L[j].id ∉ (sideOf b 1 L).map Ord.id := side_other h.ids hj sj (by simp)
      have nx2 : L[i].id ∉ (sideOf b 2 L).map Ord.id := side_other h.ids hi si (by simp)
      rw [ei] at ndA ny1
      rw [ej] at ndB nx2
      have nA := (List.nodup_cons.1 (by simpa using ndA : (L[i].id :: (sideOf b 1 (L.eraseIdx i)).map Ord.id).Nodup)).1
      have nB := (List.nodup_cons.1 (by simpa using ndB : (L[j].id :: (sideOf b 2 (L.eraseIdx j)).map Ord.id).Nodup)).1
      have ex : sideOf b 1 (oCut L i j L[i] L[j]) = cutO (minO L[i].opn L[j].opn) L[i] (sideOf b 1 (L.eraseIdx i)) := by
        rw [hcut, side_cutId, ei, cutId_x nA ny1, hmin]
      have ey : sideOf b 2 (oCut L i j L[i] L[j]) = cutO (minO L[i].opn L[j].opn) L[j] (sideOf b 2 (L.eraseIdx j)) := by
        rw [hcut, side_cutId, ej, cutId_y nB nx2, hmin]
      obtain ⟨ed, eids⟩ := oDropY_eq h.ids hi hj hne
      have idD : L[i].id ∈ (oDropY L i j L[i] L[j]).map Ord.id := by
        have hmem : L[i].id ∈ (oSet L i j L[i] L[j]).map Ord.id := by rw [eids]; exact List.mem_map_of_mem (f := Ord.id) (List.getElem_mem hi)
        rw [ed]
        split
        · obtain ⟨z, hz, e⟩ := List.mem_map.1 hmem
          exact List.mem_map.2 ⟨z, List.mem_filter.2 ⟨hz, by rw [e]; simpa using getElem_ids h.ids hi hj hne⟩, e⟩
        · exact hmem
      have hdl : (oDropY L i j L[i] L[j]).length ≤ L.length := by
        rw [ed]
        have e0 := congrArg List.length eids
        simp only [List.length_map] at e0
        split
        · rw [← e0]; exact List.length_filter_le _ _
        · rw [id, e0]; exact Nat.le_refl _
      have hfnd : ∃ k, findO (oDropY L i j L[i] L[j]) L[i].id = some k := by
        cases hf : findO (oDropY L i j L[i] L[j]) L[i].id with
        | none => exact absurd idD (findO_not hf)
        | some k => exact ⟨k, rfl⟩
      refine ⟨i, j, hi, hj, h1, h2, hne, by omega, by omega, by omega, by omega, ?_, ⟨hsub.ids.nodup h.ids, hsub.2, by rw [ex, ey, hmin]; exact q3, by omega⟩, hsub, ?_, hdl, hfnd, ⟨ei, ex⟩, ⟨ej, ey⟩, fun b2 s2 n1 n2 => ?_⟩
      · rw [hmin]; omega
      · by_cases c1 : L[i].opn = leastI L[i].opn L[j].opn
        · unfold oCut
          rw [if_pos c1]
          obtain ⟨k, hk⟩ := hfnd
          unfold dropId
          rw [hk]
          simp only
          have := findO_some_lt hk
          rw [List.length_eraseIdx, if_pos this]
          omega
        · have c2 : L[j].opn = leastI L[i].opn L[j].opn := by rw [hmin] at c1 ⊢; omega
          unfold oCut
          rw [if_neg c1]
          unfold oDropY
          rw [if_pos c2]
          have e0 := congrArg List.length eids
          simp only [List.length_map] at e0
          rw [List.length_eraseIdx, if_pos (by omega)]
          omega
      · rw [hcut, side_cutId]
        exact cutId_none (side_other h.ids hi si n1) (side_other h.ids hj sj n2)
end Go.Proofs.YtigpgnjgmaoejaaGreat

/- A good pit stays one, whatever command is done. Plain lists and numbers. Condition: the pit is good. -/
namespace Go.Proofs.YtigpgnjgmaoejaaGreat

theorem restN_sub {A B : List Ord} (h : A.Sublist B) (b s : Int) : restN A b s ≤ restN B b s := by
  unfold restN
  exact (h.filter _).length_le

theorem Good.sub {s : Ref} (h : Good s) {A : List Ord} (hA : A.Sublist s.L) : Good { s with L := A } :=
  ⟨h.td, fun o ho => h.ord o (hA.subset ho), (hA.map Ord.id).nodup h.ids, fun b => by
    have h1 := restN_sub hA b 1
    have h2 := restN_sub hA b 2
    have := h.cap b
    show restN A b 1 + restN A b 2 ≤ 200
    omega⟩
def keyB (b s : Int) (k : Int × Int × Int × Int × Int) : Bool := k.2.2.1 == b && k.2.2.2.1 == s
theorem restN_key (L : List Ord) (b s : Int) : restN L b s = ((L.map key).filter (keyB b s)).length := by
  unfold restN
  rw [List.filter_map, List.length_map]
  rfl
theorem Good.subL {s : Ref} (h : Good s) {A : List Ord} (hA : SubL s.L A) : Good { s with L := A } := by
  refine ⟨h.td, fun o ho => ?_, hA.ids.nodup h.ids, fun b => ?_⟩
  · obtain ⟨z, hz, e⟩ := hA.mem ho
    have ho2 := hA.2 o ho
    have hk := h.ord z hz
    simp only [key, Prod.mk.injEq] at e
    obtain ⟨e1, e2, e3, e4, e5⟩ := e
    rw [e1, e2, e3, e4, e5]
    exact ⟨hk.1, hk.2.1, ho2, hk.2.2.2⟩
  · have h1 := (hA.1.filter (keyB b 1)).length_le
    have h2 := (hA.1.filter (keyB b 2)).length_le
    rw [← restN_key, ← restN_key] at h1 h2
    have := h.cap b
    show restN A b 1 + restN A b 2 ≤ 200
    omega
theorem Good.opns {s : Ref} (h : Good s) : ∀ y ∈ s.L, 1 ≤ y.opn ∧ y.opn ≤ 1000000 := fun y hy => (h.ord y hy).2.2.1
theorem Good.tdSet {s : Ref} (h : Good s) (nb : Nat) (t : Int) : Good { s with td := setTd s.td nb (wrp t) } :=
  ⟨fun k => by
    show wrp (setTd s.td nb (wrp t) k) = setTd s.td nb (wrp t) k
    unfold setTd
    split
    · exact wrp_wrp _
    · exact h.td k, h.ord, h.ids, h.cap⟩
theorem Good.trSet {s : Ref} (h : Good s) (tr : Nat → Bool) : Good { s with tr := tr } := ⟨h.td, h.ord, h.ids, h.cap⟩

theorem restN_append (A : List Ord) (x : Ord) (b s : Int) : restN (A ++ [x]) b s = restN A b s + if (x.book == b && x.side == s) = true then 1 else 0 := by
  unfold restN
  rw [List.filter_append, List.length_append]
  congr 1
  simp only [List.filter_cons, List.filter_nil]
  split <;> rfl

/-- How an order adds to what rests in a book. -/
theorem rest_one (x : Ord) (b : Int) : ((if (x.book == b && x.side == 1) = true then 1 else 0) + if (x.book == b && x.side == 2) = true then 1 else 0) ≤ if x.book = b then 1 else 0 := by
  by_cases hb : x.book = b
  · by_cases h1 : x.side = 1
    · simp [hb, h1]
    · by_cases h2 : x.side = 2 <;> simp [hb, h1, h2]
  · simp [hb]

theorem Good.add {s : Ref} (h : Good s) {x : Ord} (hx : (1 ≤ x.book ∧ x.book ≤ 8) ∧ (x.side = 1 ∨ x.side = 2) ∧ (1 ≤ x.opn ∧ x.opn ≤ 1000000) ∧ (1 ≤ x.price ∧ x.price ≤ 1000000) ∧ (1 ≤ x.id ∧ x.id ≤ 1000000000) ∧ 1 ≤ x.trader ∧ x.trader ≤ 1000)
    (hid : x.id ∉ s.L.map Ord.id) (hcap : restN s.L x.book 1 + restN s.L x.book 2 < 200) : Good { s with L := s.L ++ [x] } := by
  refine ⟨h.td, fun o ho => ?_, ?_, fun b => ?_⟩
  · rcases List.mem_append.1 ho with ho | ho
    · exact h.ord o ho
    · simp only [List.mem_cons, List.not_mem_nil, or_false] at ho; subst ho; exact hx
  · show ((s.L ++ [x]).map Ord.id).Nodup
    rw [List.map_append, List.nodup_append]
    refine ⟨h.ids, by simp, fun a ha b hb => ?_⟩
    simp only [List.map_cons, List.map_nil, List.mem_cons, List.not_mem_nil, or_false] at hb
    rintro rfl
    exact hid (hb ▸ ha)
  · show restN (s.L ++ [x]) b 1 + restN (s.L ++ [x]) b 2 ≤ 200
    rw [restN_append, restN_append]
    have h1 := rest_one x b
    have h2 := h.cap b
    by_cases hb : x.book = b
    · subst hb; simp only [if_true] at h1; omega
    · rw [if_neg hb] at h1; omega

theorem findO_notmem {L : List Ord} {id : Int} (h : findO L id = none) : id ∉ L.map Ord.id := by
  intro hm
  obtain ⟨o, ho, rfl⟩ := List.mem_map.1 hm
  have := List.findIdx?_eq_none_iff.1 h o ho
  simp at this

theorem findO_id {L : List Ord} {id : Int} {i : Nat} (h : findO L id = some i) (hi : i < L.length) : L[i].id = id := by
  obtain ⟨_, h2, _⟩ := List.findIdx?_eq_some_iff_getElem.1 h
  simpa using h2

theorem cWhile_sub {b s t : Int} : ∀ {f : Nat} {L : List Ord} {E : List Ev}, (cWhile b s t f L E).1.Sublist L
  | 0, L, E => List.Sublist.refl _
  | f + 1, L, E => by
    unfold cWhile
    split
    · exact List.Sublist.refl _
    · exact cWhile_sub.trans (List.eraseIdx_sublist _ _)
theorem cTo_sub {L : List Ord} {t : Int} : ∀ {k : Nat}, (cTo L t k).1.Sublist L
  | 0 => List.Sublist.refl _
  | k + 1 => by
    unfold cTo cBook cOne
    exact cWhile_sub.trans (cWhile_sub.trans cTo_sub)

theorem set_map {L : List Ord} {i : Nat} {x : Ord} (hi : i < L.length) (hx : x.id = L[i].id) : (L.set i x).map Ord.id = L.map Ord.id := by
  rw [List.map_set, hx]
  apply List.ext_getElem
  · simp
  · intro j h1 h2
    rw [List.getElem_set]
    split
    · rename_i h; subst h; simp
    · rfl

theorem restN_set {L : List Ord} {i : Nat} {x : Ord} (hi : i < L.length) (hb : x.book = L[i].book) (hs : x.side = L[i].side) (b s : Int) : restN (L.set i x) b s = restN L b s := by
  induction L generalizing i with
  | nil => simp at hi
  | cons y l ih =>
    cases i with
    | zero =>
      simp only [List.getElem_cons_zero] at hb hs
      unfold restN
      simp only [List.set_cons_zero, List.filter_cons, hb, hs]
      split <;> rfl
    | succ j =>
      simp only [List.getElem_cons_succ] at hb hs
      have := ih (by simpa using hi) hb hs
      unfold restN at *
      simp only [List.set_cons_succ, List.filter_cons]
      split
      · simp only [List.length_cons, this]
      · exact this

theorem restN_erase {L : List Ord} {i : Nat} (hi : i < L.length) (b s : Int) : restN (L.eraseIdx i) b s + (if (L[i].book == b && L[i].side == s) = true then 1 else 0) = restN L b s := by
  induction L generalizing i with
  | nil => simp at hi
  | cons y l ih =>
    cases i with
    | zero =>
      unfold restN
      simp only [List.eraseIdx_cons_zero, List.filter_cons, List.getElem_cons_zero]
      split <;> simp
    | succ j =>
      have := ih (i := j) (by simpa using hi)
      unfold restN at *
      simp only [List.eraseIdx_cons_succ, List.filter_cons, List.getElem_cons_succ]
      split
      · simp only [List.length_cons]; omega
      · exact this

theorem notmem_erase {L : List Ord} {i : Nat} (hi : i < L.length) (h : (L.map Ord.id).Nodup) : L[i].id ∉ (L.eraseIdx i).map Ord.id := by
  intro hm
  obtain ⟨o, ho, he⟩ := List.mem_map.1 hm
  obtain ⟨j, hj, hne, hoj⟩ := List.mem_eraseIdx_iff_getElem.1 ho
  subst hoj
  have h1 : (L.map Ord.id)[j]'(by simpa using hj) = (L.map Ord.id)[i]'(by simpa using hi) := by simpa using he
  have hp := List.pairwise_iff_getElem.1 h
  rcases Nat.lt_or_gt_of_ne hne with hlt | hlt
  · exact hp j i (by simpa using hj) (by simpa using hi) hlt h1
  · exact hp i j (by simpa using hi) (by simpa using hj) hlt h1.symm

theorem set_key {L : List Ord} {i : Nat} (hi : i < L.length) (c : Int) : (L.set i { L[i] with opn := c }).map key = L.map key := by
  rw [List.map_set]
  apply List.ext_getElem
  · simp
  · intro j h1 h2
    rw [List.getElem_set]
    split
    · rename_i h; subst h; simp [key]
    · rfl
theorem SubL.erase {L : List Ord} (h : ∀ y ∈ L, 1 ≤ y.opn ∧ y.opn ≤ 1000000) (i : Nat) : SubL L (L.eraseIdx i) := ⟨(List.eraseIdx_sublist _ _).map key, fun y hy => h y ((List.eraseIdx_sublist _ _).subset hy)⟩
theorem SubL.set {L : List Ord} (h : ∀ y ∈ L, 1 ≤ y.opn ∧ y.opn ≤ 1000000) {i : Nat} (hi : i < L.length) {c : Int} (hc : 1 ≤ c ∧ c ≤ 1000000) : SubL L (L.set i { L[i] with opn := c }) :=
  ⟨by rw [set_key hi]; exact List.Sublist.refl _, fun y hy => by
    rcases List.mem_or_eq_of_mem_set hy with h1 | h1
    · exact h y h1
    · rw [h1]; exact hc⟩

/-- What is met leaves some of the orders. -/
structure MLeft (L : List Ord) (o : Int) (ne : Nat) (r : List Ord × Int × Int × List Ev) : Prop where
  sub : SubL L r.1
  left : 0 ≤ r.2.2.1 ∧ r.2.2.1 ≤ o
  evs : r.2.2.2.length ≤ ne
theorem mWhile_left {x : Ord} : ∀ {f : Nat} {L : List Ord} {t o : Int} {E : List Ev}, (∀ y ∈ L, 1 ≤ y.opn ∧ y.opn ≤ 1000000) → 0 ≤ o → MLeft L o (E.length + f) (mWhile x f L t o E)
  | 0, L, t, o, E, h, ho => ⟨SubL.refl h, ⟨ho, Int.le_refl _⟩, Nat.le_refl _⟩
  | f + 1, L, t, o, E, h, ho => by
    by_cases hgo : crossB L x = true ∧ 0 < o
    · obtain ⟨i, hb⟩ : ∃ i, bestO L x.book (3 - x.side) = some i := by
        cases hb : bestO L x.book (3 - x.side) with
        | none => simp [crossB, hb] at hgo
        | some i => exact ⟨i, rfl⟩
      have hi := bestO_lt hb
      have hy := h _ (List.getElem_mem hi)
      by_cases ht : L[i].trader = x.trader
      · rw [mWhile_own hgo.1 hgo.2 hb hi ht]
        have s1 := SubL.erase h i
        have ih := mWhile_left (x := x) (f := f) (t := t) (o := o) (E := E ++ [goneE L[i].id L[i].opn]) s1.2 ho
        exact ⟨s1.trans ih.sub, ih.left, by have := ih.evs; simp at this; omega⟩
      · rw [mWhile_meet hgo.1 hgo.2 hb hi ht]
        have hl : leastI o L[i].opn ≤ o ∧ leastI o L[i].opn ≤ L[i].opn ∧ 1 ≤ leastI o L[i].opn := by unfold leastI; split <;> omega
        generalize leastI o L[i].opn = n at *
        have s1 : SubL L (if L[i].opn = n then L.eraseIdx i else L.set i { L[i] with opn := L[i].opn - n }) := by
          split
          · exact SubL.erase h i
          · exact SubL.set h hi (by omega)
        have ih := mWhile_left (x := x) (f := f) (t := t + n) (o := o - n) (E := E ++ [tradedE x.id L[i].id L[i].price n]) s1.2 (by omega)
        exact ⟨s1.trans ih.sub, ⟨ih.left.1, by have := ih.left.2; omega⟩, Nat.le_trans ih.evs (by rw [List.length_append]; simp; omega)⟩
    · rw [mWhile_stop hgo]
      exact ⟨SubL.refl h, ⟨ho, Int.le_refl _⟩, by simp⟩
theorem takesT_len {s : Ref} {nb : Nat} {x : Ord} {kind : Int} {R : List Ord × Int × Int × List Ev} : (takesT s nb x kind R).2.length ≤ R.2.2.2.length + 1 := by
  unfold takesT
  split
  · simp
  · split <;> simp

/-- An order may come. -/
structure MayCome (s : Ref) (x : Ord) (kind : Int) : Prop where
  book : 1 ≤ x.book ∧ x.book ≤ 8
  side : x.side = 1 ∨ x.side = 2
  opn : 1 ≤ x.opn ∧ x.opn ≤ 1000000
  price : (kind = 1 ∨ kind = 5) → 1 ≤ x.price ∧ x.price ≤ 1000000
  id : 1 ≤ x.id ∧ x.id ≤ 1000000000
  trader : 1 ≤ x.trader ∧ x.trader ≤ 1000
  new : x.id ∉ s.L.map Ord.id
  room : (kind = 1 ∨ kind = 5) → restN s.L x.book 1 + restN s.L x.book 2 < 200
  gath : s.tr x.book.toNat = false → kind = 1

theorem good_takes {s : Ref} (h : Good s) {x : Ord} {kind : Int} (hx : MayCome s x kind) : Good (tTakes s x kind).1 ∧ (tTakes s x kind).2.length ≤ s.L.length + 3 := by
  unfold tTakes
  split
  · have hm := mWhile_left (x := mkt x) (f := s.L.length + 1) (t := s.td x.book.toNat) (o := x.opn) (E := [takenE x.id x.opn]) h.opns (by have := hx.opn; omega)
    generalize mWhile (mkt x) (s.L.length + 1) s.L (s.td x.book.toNat) x.opn [takenE x.id x.opn] = R at *
    have hs := h.subL hm.sub
    refine ⟨?_, by have := takesT_len (s := s) (nb := x.book.toNat) (x := mkt x) (kind := kind) (R := R); have := hm.evs; simp at this; omega⟩
    unfold takesT
    split
    · exact hs.tdSet _ _
    · rename_i hne
      split
      · rename_i hk
        have hp := hx.price hk
        have hxm : mkt x = x := mkt_self (by omega)
        rw [hxm]
        have hl := hm.left
        have hr := hx.room hk
        have r1 := (hm.sub.1.filter (keyB x.book 1)).length_le
        have r2 := (hm.sub.1.filter (keyB x.book 2)).length_le
        rw [← restN_key, ← restN_key] at r1 r2
        have := (hs.add (x := { x with opn := R.2.2.1 }) ⟨hx.book, hx.side, by show 1 ≤ R.2.2.1 ∧ R.2.2.1 ≤ 1000000; have := hx.opn; omega, hp, hx.id, hx.trader⟩ (fun hm2 => hx.new (hm.sub.ids.subset hm2)) (by show restN R.1 x.book 1 + restN R.1 x.book 2 < 200; omega)).tdSet x.book.toNat R.2.1
        exact this
      · exact hs.tdSet _ _
  · rename_i ht
    have hk := hx.gath (by simpa using ht)
    exact ⟨h.add (x := x) ⟨hx.book, hx.side, hx.opn, hx.price (.inl hk), hx.id, hx.trader⟩ hx.new (hx.room (.inl hk)), by simp⟩

theorem new_may {s : Ref} {c : Cmd} (hok : newOk c = true) (hf : (findO s.L c.id).isSome = false) (hp : ¬ (s.tr c.book.toNat = false ∧ c.kind ≠ 1)) (hr : ¬ ((c.kind = 1 ∨ c.kind = 5) ∧ 200 ≤ restN s.L c.book 1 + restN s.L c.book 2)) :
    MayCome s { ordOf c with price := if c.kind = 2 then 0 else c.price } c.kind := by
  obtain ⟨h1, h2, h3, h4, h5, h6, h7⟩ := newOk_all hok
  have hf' : findO s.L c.id = none := by simpa using hf
  refine ⟨h3, h4, h7, fun hk => ?_, h1, h2, findO_notmem hf', fun hk => ?_, fun ht => ?_⟩
  · have hk2 : c.kind ≠ 2 := by omega
    show 1 ≤ (if c.kind = 2 then 0 else c.price) ∧ (if c.kind = 2 then 0 else c.price) ≤ 1000000
    rw [if_neg hk2]
    exact h6.resolve_left hk2
  · show restN s.L c.book 1 + restN s.L c.book 2 < 200
    apply Nat.lt_of_not_le
    exact fun q => hr ⟨hk, q⟩
  · by_cases hk : c.kind = 1
    · exact hk
    · exact absurd ⟨ht, hk⟩ hp

theorem good_new {s : Ref} (h : Good s) (c : Cmd) : Good (tNew s c).1 ∧ (tNew s c).2.length ≤ s.L.length + 3 := by
  unfold tNew
  split
  · exact ⟨h, by simp⟩
  · rename_i hok
    split
    · exact ⟨h, by simp⟩
    · rename_i hf
      split
      · exact ⟨h, by simp⟩
      · rename_i hp
        split
        · exact ⟨h, by simp⟩
        · split
          · exact ⟨h, by simp⟩
          · rename_i hr
            exact good_takes h (new_may (by simpa using hok) (by simpa using hf) hp hr)

theorem change_may {s : Ref} (h : Good s) {i : Nat} (hi : i < s.L.length) {p n : Int} (hp : 1 ≤ p ∧ p ≤ 1000000) (hn : 1 ≤ n ∧ n ≤ 1000000) : MayCome { s with L := s.L.eraseIdx i } { s.L[i] with price := p, opn := n } 1 := by
  have ho := h.ord _ (List.getElem_mem hi)
  obtain ⟨o1, o2, o3, o4, o5, o6⟩ := ho
  refine ⟨o1, o2, hn, fun _ => hp, o5, o6, notmem_erase hi h.ids, fun _ => ?_, fun _ => rfl⟩
  show restN (s.L.eraseIdx i) s.L[i].book 1 + restN (s.L.eraseIdx i) s.L[i].book 2 < 200
  have e1 := restN_erase hi s.L[i].book 1
  have e2 := restN_erase hi s.L[i].book 2
  have hc := h.cap s.L[i].book
  rcases o2 with o2 | o2 <;> simp [o2] at e1 e2 <;> omega

theorem good_turn {s : Ref} (h : Good s) (c : Cmd) : Good (tTurn s c).1 ∧ (tTurn s c).2.length ≤ s.L.length + 4 := by
  unfold tTurn
  split
  · exact ⟨h, by simp⟩
  · rename_i hok
    have hok' : turnOk c = true := by simpa using hok
    obtain ⟨_, _, h3⟩ := turnOk_parts hok'
    split
    · exact ⟨h, by simp⟩
    · rename_i i hf
      have hi := findO_some_lt hf
      rw [List.getElem?_eq_getElem hi]
      simp only
      unfold tAt
      split
      · exact ⟨h, by simp⟩
      · split
        · exact ⟨h.sub (List.eraseIdx_sublist _ _), by simp⟩
        · rename_i hw
          have hw3 : c.what = 3 := by simpa using hw
          obtain ⟨h4, h5⟩ := h3 hw3
          have u := inB_true h4
          have z := inB_true h5
          split
          · exact ⟨h.subL (SubL.set h.opns hi z), by simp⟩
          · have hg := good_takes (h.sub (List.eraseIdx_sublist s.L i)) (change_may h hi u z)
            have hl : (s.L.eraseIdx i).length ≤ s.L.length := List.length_eraseIdx_le _ _
            exact ⟨hg.1, Nat.le_trans (Nat.succ_le_succ hg.2) (by show (s.L.eraseIdx i).length + 3 + 1 ≤ s.L.length + 4; omega)⟩

theorem oWhile_left {b p : Int} : ∀ {f : Nat} {L : List Ord} {t v : Int} {E : List Ev}, OInv b L v → SubL L (oWhile b p f L t v E).1 ∧ (oWhile b p f L t v E).2.2.length ≤ E.length + f
  | 0, L, t, v, E, h => ⟨SubL.refl h.opn, Nat.le_refl _⟩
  | f + 1, L, t, v, E, h => by
    by_cases hv : 0 < v
    · obtain ⟨i, j, hi, hj, st⟩ := oinv_step h hv
      rw [oWhile_step hv hi hj st.bi st.bj]
      have ih := oWhile_left (b := b) (p := p) (f := f) (t := t + leastI L[i].opn L[j].opn) (E := E ++ [tradedE L[i].id L[j].id p (leastI L[i].opn L[j].opn)]) st.inv
      exact ⟨st.sub.trans ih.1, by have := ih.2; simp at this; omega⟩
    · rw [oWhile_stop hv]
      exact ⟨SubL.refl h.opn, by simp⟩

theorem good_open {s : Ref} (h : Good s) {nb : Nat} (ho : OInv nb s.L (priceO s.L nb).vol) : Good (tOpenAt s nb).1 ∧ (tOpenAt s nb).2.length ≤ s.L.length + 2 := by
  have hl := oWhile_left (p := (priceO s.L nb).price) (f := s.L.length + 1) (t := s.td nb) (E := []) ho
  refine ⟨((h.subL hl.1).tdSet nb (oRun s nb).2.1).trSet _, ?_⟩
  have h2 : (oRun s nb).2.2.length ≤ 0 + (s.L.length + 1) := hl.2
  unfold tOpenAt
  simp only [List.length_append, List.length_cons, List.length_nil]
  omega

theorem good_do {s : Ref} (h : Good s) (hopen : ∀ nb : Nat, 1 ≤ nb → nb ≤ 8 → OInv nb s.L (priceO s.L nb).vol) (c : Cmd) : Good (tDo s c).1 ∧ (tDo s c).2.length ≤ s.L.length + 4 := by
  unfold tDo
  split
  · exact ⟨(good_new h c).1, by have := (good_new h c).2; omega⟩
  · split
    · exact good_turn h c
    · split
      · split
        · exact ⟨h.sub cTo_sub, by have := cTo_len (L := s.L) (t := c.trader) (k := 8); simp only; omega⟩
        · exact ⟨h, by simp⟩
      · split
        · unfold tOpen
          split
          · exact ⟨h, by simp⟩
          · rename_i hb
            split
            · exact ⟨h, by simp⟩
            · have hb8 := inB_true (by simpa using hb : inB c.book 1 8 = true)
              have := good_open h (hopen c.book.toNat (by omega) (by omega))
              exact ⟨this.1, by have := this.2; omega⟩
        · split
          · unfold tClose
            split
            · exact ⟨h, by simp⟩
            · split
              · exact ⟨h, by simp⟩
              · exact ⟨h.trSet _, by simp⟩
          · exact ⟨h, by simp⟩

/-- How many rest in the first n books. -/
def restAll (L : List Ord) : Nat → Nat
  | 0 => 0
  | n + 1 => restAll L n + (restN L ((n + 1 : Nat) : Int) 1 + restN L ((n + 1 : Nat) : Int) 2)

theorem restAll_cons {x : Ord} {L : List Ord} : ∀ {n : Nat}, restAll (x :: L) n = restAll L n + (if 1 ≤ x.book ∧ x.book ≤ n ∧ (x.side = 1 ∨ x.side = 2) then 1 else 0)
  | 0 => by
    have : ¬ (1 ≤ x.book ∧ x.book ≤ ((0 : Nat) : Int) ∧ (x.side = 1 ∨ x.side = 2)) := by omega
    rw [if_neg this]; rfl
  | n + 1 => by
    have ih := restAll_cons (x := x) (L := L) (n := n)
    simp only [restAll, ih]
    have e : ∀ s : Int, restN (x :: L) ((n + 1 : Nat) : Int) s = restN L ((n + 1 : Nat) : Int) s + if (x.book == ((n + 1 : Nat) : Int) && x.side == s) = true then 1 else 0 := fun s => by
      unfold restN
      simp only [List.filter_cons]
      split <;> simp
    rw [e 1, e 2]
    by_cases hb : x.book = ((n + 1 : Nat) : Int)
    · have n1 : ¬ (1 ≤ x.book ∧ x.book ≤ (n : Int) ∧ (x.side = 1 ∨ x.side = 2)) := by omega
      rw [if_neg n1]
      by_cases h1 : x.side = 1
      · have y : 1 ≤ x.book ∧ x.book ≤ ((n + 1 : Nat) : Int) ∧ (x.side = 1 ∨ x.side = 2) := by omega
        rw [if_pos y, if_pos (by simp [hb, h1]), if_neg (by simp [h1])]; omega
      · by_cases h2 : x.side = 2
        · have y : 1 ≤ x.book ∧ x.book ≤ ((n + 1 : Nat) : Int) ∧ (x.side = 1 ∨ x.side = 2) := by omega
          rw [if_pos y, if_neg (by simp [h2]), if_pos (by simp [hb, h2])]; omega
        · have y : ¬ (1 ≤ x.book ∧ x.book ≤ ((n + 1 : Nat) : Int) ∧ (x.side = 1 ∨ x.side = 2)) := by omega
          rw [if_neg y, if_neg (by simp [h1]), if_neg (by simp [h2])]; omega
    · have b1 : ¬ ((x.book == ((n + 1 : Nat) : Int) && x.side == 1) = true) := by rw [beq_false_of_ne hb]; simp
      have b2 : ¬ ((x.book == ((n + 1 : Nat) : Int) && x.side == 2) = true) := by rw [beq_false_of_ne hb]; simp
      rw [if_neg b1, if_neg b2]
      by_cases y : 1 ≤ x.book ∧ x.book ≤ (n : Int) ∧ (x.side = 1 ∨ x.side = 2)
      · rw [if_pos y, if_pos (by omega)]; omega
      · rw [if_neg y, if_neg (by omega)]; omega

theorem Good.len {s : Ref} (h : Good s) : s.L.length ≤ 1600 := by
  have h1 : ∀ L : List Ord, (∀ o ∈ L, (1 ≤ o.book ∧ o.book ≤ 8) ∧ (o.side = 1 ∨ o.side = 2)) → L.length = restAll L 8 := by
    intro L
    induction L with
    | nil => intro _; rfl
    | cons x l ih =>
      intro hL
      have hx := hL x (by simp)
      rw [restAll_cons, if_pos ⟨hx.1.1, by simpa using hx.1.2, hx.2⟩, List.length_cons, ih (fun o ho => hL o (by simp [ho]))]
  rw [h1 s.L (fun o ho => ⟨(h.ord o ho).1, (h.ord o ho).2.1⟩)]
  have c1 := h.cap 1
  have c2 := h.cap 2
  have c3 := h.cap 3
  have c4 := h.cap 4
  have c5 := h.cap 5
  have c6 := h.cap 6
  have c7 := h.cap 7
  have c8 := h.cap 8
  simp only [restAll]
  simp only [Nat.zero_add, Nat.reduceAdd] at *
  simp only [show ((1 : Nat) : Int) = 1 from rfl, show ((2 : Nat) : Int) = 2 from rfl, show ((3 : Nat) : Int) = 3 from rfl, show ((4 : Nat) : Int) = 4 from rfl, show ((5 : Nat) : Int) = 5 from rfl, show ((6 : Nat) : Int) = 6 from rfl, show ((7 : Nat) : Int) = 7 from rfl, show ((8 : Nat) : Int) = 8 from rfl]
  omega

theorem good_nil : Good (refNil []) := ⟨fun _ => by simp [refNil, wrp, IntKind.wrap_i64], fun _ h => (by cases h), List.nodup_nil, fun _ => by simp [restN, refNil]⟩

end Go.Proofs.YtigpgnjgmaoejaaGreat
