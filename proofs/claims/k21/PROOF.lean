import PyProof.Rows.All
import Wide.All
import OpenK.AllK
import Wide.FinOn
import HandS.ForMost
import HandS.ForExc
import HandS.AnyAll
import HandS.Wide
import KE.GoesEnum
import KE.GoesMore
import HandS.Zip
import HandS.Style
import HandS.TupAny
import HandS.TupMul
import HandS.GenList
import HandS.EndTab
import PyProof.Rows.SeqMore
import HandS.More
import PyProof.ReprRoads
import OpenK.KMore
import HandS.Head0
import HandS.Head1
import HandS.Head2
import HandS.HeadEnd
import HandS.HeadHook1
import HandS.HeadHook2
import HandS.HeadHook3
import HandS.HeadHook4
import HandS.EndBits
import KE.KDictZip
import HandS.Dict
import HandS.SetFor
import HandS.Strs
import HandS.TupLe
import PyProof.Rows.SetFrom
import KE.DataMinMax
import HandS.Deep
import HandS.SortInts
import PyProof.CallFns
import PyProof.TupleOfGen
import HandS.RevRange
import HandS.IsInst
import HandS.Iter
import HandS.DictEq
import KE.KDictKeyed
import PyProof.EnumMake
import PyProof.EnumFor
import KE.KDictItemsList
import KE.KStar
import PyProof.Tail
import PyProof.MaxThree
import HandS.Flt
import PyProof.SumWalkG
import HandS.SortKw
import KE.SortData
import HandS.Rev
import HandS.ExcValue
import KE.KIndexOf
import PySem.Challenge.RW_movedminutes_k21_whole_totals_in_any_ord
section
set_option Elab.async false
set_option linter.all false
set_option maxRecDepth 100000
set_option maxHeartbeats 0
namespace K21
open PySem PySem.Spec L2
/-! ### the text by places -/
def top (i : Nat) : Stmt := PySem.Challenge.pw_movedminutes_k21_whole_totals_in_any_ord.main.body.getD i (.Pass ⟨0, 0, 0, 0⟩)
abbrev s_is_whole : Stmt := top 8
abbrev s_is_short_tuple : Stmt := top 9
abbrev s_is_row : Stmt := top 10
abbrev s_is_hall : Stmt := top 11
abbrev s_check_hall : Stmt := top 12
abbrev s_check_counter : Stmt := top 13
abbrev s_check_neighbours : Stmt := top 15
abbrev s_leads : Stmt := top 16
abbrev s_going_on : Stmt := top 17
abbrev s_going_back : Stmt := top 18
abbrev s_carried : Stmt := top 19
abbrev s_check_totals : Stmt := top 21
abbrev s_totals : Stmt := top 22
abbrev s_exchanged : Stmt := top 23
abbrev s_in_order : Stmt := top 24
abbrev s__law_cell_at : Stmt := top 26
abbrev s__law_bag : Stmt := top 27
abbrev s__law_take : Stmt := top 28
abbrev s__law_alike : Stmt := top 29
abbrev s__law_minutes : Stmt := top 30
abbrev s__law_hall : Stmt := top 31
abbrev s__law_worths : Stmt := top 32
abbrev s_law : Stmt := top 33
/-! ### the head: facts by names, the run -/
def d_is_whole : He.DefD := ⟨("is_whole", none), "is_whole", "is_whole", defArgs s_is_whole, defBody s_is_whole, defScope s_is_whole, [], []⟩
def d_is_short_tuple : He.DefD := ⟨("is_short_tuple", none), "is_short_tuple", "is_short_tuple", defArgs s_is_short_tuple, defBody s_is_short_tuple, defScope s_is_short_tuple, [], []⟩
def d_is_row : He.DefD := ⟨("is_row", none), "is_row", "is_row", defArgs s_is_row, defBody s_is_row, defScope s_is_row, [], []⟩
def d_is_hall : He.DefD := ⟨("is_hall", none), "is_hall", "is_hall", defArgs s_is_hall, defBody s_is_hall, defScope s_is_hall, [], []⟩
def d_check_hall : He.DefD := ⟨("check_hall", none), "check_hall", "check_hall", defArgs s_check_hall, defBody s_check_hall, defScope s_check_hall, [], []⟩
def d_check_counter : He.DefD := ⟨("check_counter", none), "check_counter", "check_counter", defArgs s_check_counter, defBody s_check_counter, defScope s_check_counter, [], []⟩
def d_check_neighbours : He.DefD := ⟨("check_neighbours", none), "check_neighbours", "check_neighbours", defArgs s_check_neighbours, defBody s_check_neighbours, defScope s_check_neighbours, [], []⟩
def d_leads : He.DefD := ⟨("leads", none), "leads", "leads", defArgs s_leads, defBody s_leads, defScope s_leads, [], []⟩
def d_going_on : He.DefD := ⟨("going_on", none), "going_on", "going_on", defArgs s_going_on, defBody s_going_on, defScope s_going_on, [], []⟩
def d_going_back : He.DefD := ⟨("going_back", none), "going_back", "going_back", defArgs s_going_back, defBody s_going_back, defScope s_going_back, [], []⟩
def d_carried : He.DefD := ⟨("carried", none), "carried", "carried", defArgs s_carried, defBody s_carried, defScope s_carried, [], []⟩
def d_check_totals : He.DefD := ⟨("check_totals", none), "check_totals", "check_totals", defArgs s_check_totals, defBody s_check_totals, defScope s_check_totals, [], []⟩
def d_totals : He.DefD := ⟨("totals", none), "totals", "totals", defArgs s_totals, defBody s_totals, defScope s_totals, [], []⟩
def d_exchanged : He.DefD := ⟨("exchanged", none), "exchanged", "exchanged", defArgs s_exchanged, defBody s_exchanged, defScope s_exchanged, [], []⟩
def d_in_order : He.DefD := ⟨("in_order", none), "in_order", "in_order", defArgs s_in_order, defBody s_in_order, defScope s_in_order, [], []⟩
def d__law_cell_at : He.DefD := ⟨("_law_cell_at", none), "_law_cell_at", "_law_cell_at", defArgs s__law_cell_at, defBody s__law_cell_at, defScope s__law_cell_at, [], []⟩
def d__law_bag : He.DefD := ⟨("_law_bag", none), "_law_bag", "_law_bag", defArgs s__law_bag, defBody s__law_bag, defScope s__law_bag, [], []⟩
def d__law_take : He.DefD := ⟨("_law_take", none), "_law_take", "_law_take", defArgs s__law_take, defBody s__law_take, defScope s__law_take, [], []⟩
def d__law_alike : He.DefD := ⟨("_law_alike", none), "_law_alike", "_law_alike", defArgs s__law_alike, defBody s__law_alike, defScope s__law_alike, [], []⟩
def d__law_minutes : He.DefD := ⟨("_law_minutes", none), "_law_minutes", "_law_minutes", defArgs s__law_minutes, defBody s__law_minutes, defScope s__law_minutes, [], []⟩
def d__law_hall : He.DefD := ⟨("_law_hall", none), "_law_hall", "_law_hall", defArgs s__law_hall, defBody s__law_hall, defScope s__law_hall, [], []⟩
def d__law_worths : He.DefD := ⟨("_law_worths", none), "_law_worths", "_law_worths", defArgs s__law_worths, defBody s__law_worths, defScope s__law_worths, [], []⟩
def d_law : He.DefD := ⟨("law", none), "law", "law", defArgs s_law, defBody s_law, defScope s_law, [], []⟩
def fn : List He.DefD := [d_is_whole, d_is_short_tuple, d_is_row, d_is_hall, d_check_hall, d_check_counter, d_check_neighbours, d_leads, d_going_on, d_going_back, d_carried, d_check_totals, d_totals, d_exchanged, d_in_order, d__law_cell_at, d__law_bag, d__law_take, d__law_alike, d__law_minutes, d__law_hall, d__law_worths, d_law]
def fa : List He.Fa := [.glo "is_whole", .glo "is_short_tuple", .glo "is_row", .glo "is_hall", .glo "check_hall", .glo "check_counter", .glo "check_neighbours", .glo "leads", .glo "going_on", .glo "going_back", .glo "carried", .glo "check_totals", .glo "totals", .glo "exchanged", .glo "in_order", .glo "_law_cell_at", .glo "_law_bag", .glo "_law_take", .glo "_law_alike", .glo "_law_minutes", .glo "_law_hall", .glo "_law_worths", .glo "law", .free "all", .free "bool", .free "enumerate", .free "int", .free "isinstance", .free "len", .free "list", .free "max", .free "min", .free "range", .free "reversed", .free "sorted", .free "sum", .free "tuple", .free "type", .free "zip", .int "MOST" 8]
def tf : List He.Defn := [("is_row", none), ("is_hall", none), ("check_totals", none)]
abbrev Row0 : PySem.W.OpenRow := PySem.W.OpenLaw.row PySem.Challenge.rw_movedminutes_k21_whole_totals_in_any_ord
abbrev hk : PySem.W.Hook := He.hookX 4 fa fn [] tf fun _ => true
def ob (s : PySem.W.SharedT) : He.AlX := He.obsX 4 fa fn [] tf (fun _ => true) (HandSHeadRun.getT s)
theorem ob_eq (s : PySem.W.SharedT) : ob s = hk.obs s.abs := He.obsX_eq (HandSHeadRun.getT_eq s)
def loose : List PySem.Str := ("HallError" : PySem.Str) :: ("NoHall" : PySem.Str) :: ("NoCounter" : PySem.Str) :: ("NoTotals" : PySem.Str) :: ("Unlike" : PySem.Str) :: ("MOST" : PySem.Str) :: ("is_whole" : PySem.Str) :: ("is_short_tuple" : PySem.Str) :: ("is_row" : PySem.Str) :: ("is_hall" : PySem.Str) :: ("check_hall" : PySem.Str) :: ("check_counter" : PySem.Str) :: ("check_neighbours" : PySem.Str) :: ("leads" : PySem.Str) :: ("going_on" : PySem.Str) :: ("going_back" : PySem.Str) :: ("carried" : PySem.Str) :: ("check_totals" : PySem.Str) :: ("totals" : PySem.Str) :: ("exchanged" : PySem.Str) :: ("in_order" : PySem.Str) :: ("_law_cell_at" : PySem.Str) :: ("_law_bag" : PySem.Str) :: ("_law_take" : PySem.Str) :: ("_law_alike" : PySem.Str) :: ("_law_minutes" : PySem.Str) :: ("_law_hall" : PySem.Str) :: ("_law_worths" : PySem.Str) :: []
theorem run (w : World) : HandSHeadRun.RunEq Row0 (PySem.W.view Row0.prog [33]) hk ob 20000 loose w := by
  intro os
  kernel_rfl
end K21
end
section
set_option Elab.async false
set_option linter.all false
set_option maxRecDepth 100000
namespace Lf
open PySem PySem.Spec L2
/-- what a thing of one cell is: a dict with whole-number keys whose values are data; an exception -/
inductive Tag where
  | dk (ks : List Int)
  | exc (c : Value)
  | tn
/-- a thing: frozen data, a list of one's own, an opaque value, a thing lent out -/
inductive OT where
  | d (x : PyData)
  | own (xs : List OT)
  /-- a list of one's own that is data for now: it may be one's own again when the def is left -/
  | fr (xs : List OT)
  | opq (v : V)
  /-- a dict of one's own: numbers by numbers (t: by tuples of numbers) -/
  | dic (t : Bool) (kvs : List (List Int × Int))
  /-- a dict of one's own while it is walked -/
  | lkd (t : Bool) (kvs : List (List Int × Int))
  /-- a tuple of things -/
  | tp (os : List OT)
  /-- a thing of one cell that holds data -/
  | leaf (t : Tag) (xs : List PyData)
  | hole
/-- a slot: nothing known, a thing, a thing handed in that goes back -/
inductive Slot where
  | un
  | v (o : OT)
  | p (o : OT)
abbrev En := List Slot
inductive Xc where
  | stuck
  | exn (c : Value) (e : En)
abbrev R (α : Type) := Except Xc α
inductive Fl where
  | nx | bk | ct
  | rt (o : OT)
abbrev DE := En → R (OT × En)
abbrev DT := En → R (Bool × En)
abbrev DA := En → R (List OT × En)
abbrev DS := En → R (Fl × En)
mutual
def frz : OT → Option PyData
  | .d x => some x
  | .own xs => (frzs xs).map PyData.list
  | .fr xs => (frzs xs).map PyData.list
  | .opq _ => none
  | .dic _ _ => none
  | .lkd _ _ => none
  | .tp xs => (frzs xs).map PyData.tuple
  | .leaf _ _ => none
  | .hole => none
def frzs : List OT → Option (List PyData)
  | [] => some []
  | o :: os => match frz o, frzs os with
    | some x, some xs => some (x :: xs)
    | _, _ => none
end
/-! ### data in a heap that grows -/
section
variable {K : PySem.W.Frag} {H H' : Hp}
theorem sqT_same {a : Addr} {xs : List V} (e : Same H H') (h : SqT K H a xs) : SqT K H' a xs := by
  rcases h with (h | ⟨o, h⟩) | h
  · exact .inl (.inl (e _ _ h))
  · exact .inl (.inr ⟨o, e _ _ h⟩)
  · exact .inr h
mutual
theorem dp_same (e : Same H H') : ∀ (x : PyData) (v : V), Dp K H v x → Dp K H' v x
  | .none, _, h => by cases h; exact .non
  | .bool b, _, h => by cases h; exact .bl b
  | .int i, _, h => by cases h; exact .int i
  | .str s, _, h => by cases h; exact .str s
  | .list ds, _, h => by
    cases h with
    | lst hs ha => exact .lst (e.seq hs) (dps_same e ds _ ha)
  | .tuple ds, _, h => by
    cases h with
    | tup hs ha => exact .tup (sqT_same e hs) (dps_same e ds _ ha)
  | .dict _, _, h => by cases h
theorem dps_same (e : Same H H') : ∀ (xs : List PyData) (vs : List V), DpAll K H vs xs → DpAll K H' vs xs
  | [], _, h => by cases h; exact .nil
  | x :: xs, _, h => by
    cases h with
    | cons h1 h2 => exact .cons (dp_same e x _ h1) (dps_same e xs _ h2)
end
theorem DpAll.length {vs : List V} {xs : List PyData} (h : DpAll K H vs xs) : vs.length = xs.length := by
  induction xs generalizing vs with
  | nil => cases h; rfl
  | cons x xs ih =>
    cases h with
    | cons h1 h2 => simp [ih h2]
theorem DpAll.get {vs : List V} {xs : List PyData} (h : DpAll K H vs xs) {i : Nat} {x : PyData} (hx : xs[i]? = some x) : ∃ v, vs[i]? = some v ∧ Dp K H v x := by
  induction xs generalizing vs i with
  | nil => simp at hx
  | cons y xs ih =>
    cases h with
    | cons h1 h2 =>
      cases i with
      | zero => simp at hx; subst hx; exact ⟨_, rfl, h1⟩
      | succ i => simp at hx; obtain ⟨v, e, q⟩ := ih h2 hx; exact ⟨v, by simpa using e, q⟩
theorem DpAll.get' {vs : List V} {xs : List PyData} (h : DpAll K H vs xs) {i : Nat} {v : V} (hx : vs[i]? = some v) : ∃ x, xs[i]? = some x ∧ Dp K H v x := by
  induction xs generalizing vs i with
  | nil => cases h; simp at hx
  | cons y xs ih =>
    cases h with
    | cons h1 h2 =>
      cases i with
      | zero => simp at hx; subst hx; exact ⟨_, rfl, h1⟩
      | succ i => simp at hx; obtain ⟨v, e, q⟩ := ih h2 hx; exact ⟨v, by simpa using e, q⟩
theorem DpAll.app {vs ws : List V} {xs ys : List PyData} (h : DpAll K H vs xs) (k : DpAll K H ws ys) : DpAll K H (vs ++ ws) (xs ++ ys) := by
  induction xs generalizing vs with
  | nil => cases h; simpa using k
  | cons y xs ih =>
    cases h with
    | cons h1 h2 => exact .cons h1 (ih h2)
end
/-! ### the heap in three parts: frozen G, one's own M, others' F (of whose tables more may be known by now) -/
/-- the tables of code objects that may grow -/
class Tabs where
  ts : List Addr
def Up (x y : Option HO) : Prop := y = x ∨ ∃ ps more : Array Value, x = some (.tbl ps) ∧ y = some (.tbl (ps ++ more))
theorem up_refl {x : Option HO} : Up x x := .inl rfl
theorem up_lst {xs : List V} {y : Option HO} (h : Up (some (.lst xs)) y) : y = some (.lst xs) := by
  rcases h with h | ⟨ps, more, h, _⟩
  · exact h
  · cases h
theorem up_none {x : Option HO} (h : Up x none) : x = none := by
  rcases h with h | ⟨ps, more, _, h⟩
  · exact h.symm
  · cases h
theorem up_some {o : HO} {y : Option HO} (n : ∀ ps, o ≠ .tbl ps) (h : Up (some o) y) : y = some o := by
  rcases h with h | ⟨ps, more, h, _⟩
  · exact h
  · exact absurd (Option.some.inj h) (n ps)
theorem up_trans {x y z : Option HO} (h : Up x y) (k : Up y z) : Up x z := by
  rcases h with h | ⟨ps, m1, h1, h2⟩
  · rw [← h]; exact k
  · rcases k with k | ⟨ps2, m2, k1, k2⟩
    · rw [k]; exact .inr ⟨ps, m1, h1, h2⟩
    · rw [h2] at k1
      have e : ps ++ m1 = ps2 := by injection k1 with e; injection e
      refine .inr ⟨ps, m1 ++ m2, h1, ?_⟩
      rw [k2, ← e, Array.append_assoc]
/-- others' heap; b: what is frozen already when the def begins -/
structure FS where
  f : Hp
  b : Hp
/-- the mark at a frozen cell that is one's own -/
abbrev tg : HO := .rng 0 0
def isTg : HO → Bool
  | .rng i j => decide (i = 0) && decide (j = 0)
  | _ => false
theorem isTg_eq {o : HO} (h : isTg o = true) : o = tg := by
  cases o with
  | rng i j =>
    simp only [isTg, Bool.and_eq_true, decide_eq_true_eq] at h
    rw [h.1, h.2]
  | _ => simp [isTg] at h
def dicO (t : Bool) (kvs : List (List Int × Int)) : HO := if t = true then .dT (kvs.map fun p => (p.1.map Sum.inl, .int p.2)) else .dK (kvs.map fun p => (Sum.inl (p.1.headD 0), .int p.2))
theorem dicO_tg {t : Bool} {kvs : List (List Int × Int)} : isTg (dicO t kvs) = false := by cases t <;> rfl
def tagO (t : Tag) (vs : List V) (a : Addr) : HO := match t with
  | .dk ks => .dK ((ks.zip vs).map fun p => (Sum.inl p.1, p.2))
  | .exc c => .ext fun h => ∃ (oe : Obj) (us : Array Value), h.get? a = some oe ∧ Zc c none oe ∧ oe.data = .fields us
  | .tn => .ext fun h => ∃ (its : List Value) (n : Nat), Vals vs its ∧ h.get? a = some { cls := .type "tuple", data := .seq its.toArray n }
theorem tagO_tg {t : Tag} {vs : List V} {a : Addr} : isTg (tagO t vs a) = false := by cases t <;> rfl
structure Sep [Tabs] (H G M : Hp) (F : FS) : Prop where
  at_ : ∀ a, (M a = none ∧ F.f a = none ∧ H a = G a) ∨ (G a = none ∧ F.f a = none ∧ H a = M a ∧ M a ≠ some tg) ∨ (G a = none ∧ M a = none ∧ Up (F.f a) (H a)) ∨ (M a = some tg ∧ F.f a = none ∧ H a = G a ∧ ∃ xs, G a = some (.lst xs))
  nt : ∀ a ps, M a ≠ some (.tbl ps)
  tab : ∀ p ∈ Tabs.ts, (∃ ps, F.f p = some (.tbl ps)) ∧ GxR.TabG H p
  base : Same F.b G
  mb : ∀ a u, M a = some u → F.b a = none
variable [Tabs]
section
variable {H G M : Hp} {F : FS}
theorem Sep.g (S : Sep H G M F) : Same G H := fun a o e => by
  rcases S.at_ a with ⟨_, _, h⟩ | ⟨h, _⟩ | ⟨h, _⟩ | ⟨_, _, h, _⟩
  · rw [h]; exact e
  · rw [h] at e; cases e
  · rw [h] at e; cases e
  · rw [h]; exact e
theorem Sep.m (S : Sep H G M F) : ∀ a xs, M a = some (.lst xs) → H a = some (.lst xs) := fun a o e => by
  rcases S.at_ a with ⟨h, _⟩ | ⟨_, _, h, _⟩ | ⟨_, h, _⟩ | ⟨h, _⟩
  · rw [h] at e; cases e
  · rw [h]; exact e
  · rw [h] at e; cases e
  · rw [h] at e; cases e
theorem Sep.mo (S : Sep H G M F) : ∀ a u, M a = some u → isTg u = false → H a = some u := fun a u e ht => by
  rcases S.at_ a with ⟨h, _⟩ | ⟨_, _, h, _⟩ | ⟨_, h, _⟩ | ⟨h, _⟩
  · rw [h] at e; cases e
  · rw [h]; exact e
  · rw [h] at e; cases e
  · rw [h] at e; cases e; simp [isTg] at ht
theorem Sep.new (S : Sep H G M F) {p : Addr} (h : H p = none) : G p = none ∧ M p = none ∧ F.f p = none := by
  have g0 := S.g.free h
  rcases S.at_ p with ⟨e1, e2, _⟩ | ⟨_, e, e2, _⟩ | ⟨_, e1, e⟩ | ⟨_, _, _, xs, e⟩
  · exact ⟨g0, e1, e2⟩
  · exact ⟨g0, e2.symm.trans h, e⟩
  · rw [h] at e; exact ⟨g0, e1, up_none e⟩
  · rw [g0] at e; cases e
theorem Sep.mg (S : Sep H G M F) {a : Addr} {xs : List V} (h : M a = some (.lst xs)) : G a = none ∧ F.f a = none := by
  rcases S.at_ a with ⟨e, _⟩ | ⟨e1, e2, _⟩ | ⟨_, e, _⟩ | ⟨e, _⟩
  · rw [e] at h; cases h
  · exact ⟨e1, e2⟩
  · rw [e] at h; cases h
  · rw [e] at h; cases h
theorem Sep.mgo (S : Sep H G M F) {a : Addr} {u : HO} (h : M a = some u) (ht : isTg u = false) : G a = none ∧ F.f a = none := by
  rcases S.at_ a with ⟨e, _⟩ | ⟨e1, e2, _⟩ | ⟨_, e, _⟩ | ⟨e, _⟩
  · rw [e] at h; cases h
  · exact ⟨e1, e2⟩
  · rw [e] at h; cases h
  · rw [e] at h; cases h; simp [isTg] at ht
theorem Sep.mf (S : Sep H G M F) {a : Addr} {u : HO} (h : M a = some u) : F.f a = none := by
  rcases S.at_ a with ⟨e, _⟩ | ⟨e1, e2, _⟩ | ⟨_, e, _⟩ | ⟨_, e, _⟩
  · rw [e] at h; cases h
  · exact e2
  · rw [e] at h; cases h
  · exact e
/-- a frozen cell of one's own -/
theorem Sep.mt (S : Sep H G M F) {a : Addr} (h : M a = some tg) : H a = G a ∧ ∃ xs, G a = some (.lst xs) := by
  rcases S.at_ a with ⟨e, _⟩ | ⟨_, _, _, e⟩ | ⟨_, e, _⟩ | ⟨_, _, e⟩
  · rw [e] at h; cases h
  · exact absurd h e
  · rw [e] at h; cases h
  · exact e
/-- no table stands at what is one's own -/
theorem Sep.tm (S : Sep H G M F) {p : Addr} (hp : p ∈ Tabs.ts) : M p = none := by
  obtain ⟨⟨ps, e⟩, _⟩ := S.tab p hp
  cases q : M p with
  | none => rfl
  | some u => rw [S.mf q] at e; cases e
theorem Sep.tn (S : Sep H G M F) {p a : Addr} (hp : p ∈ Tabs.ts) (h : H a = none) : p ≠ a := fun e => by
  obtain ⟨_, ps, q, _⟩ := S.tab p hp
  rw [e, h] at q; cases q
end
theorem tabG_of {H H' : Hp} {p : Addr} (h : GxR.TabG H p) (e : H' p = H p) : GxR.TabG H' p := by
  obtain ⟨ps, q, t⟩ := h
  exact ⟨ps, e.trans q, t⟩
/-- G with the lists of M at A -/
def mov (G M : Hp) (A : List Addr) : Hp := fun a => if a ∈ A then (match M a with | some u => if isTg u = true then G a else some u | _ => G a) else G a
def cut (M : Hp) (A : List Addr) : Hp := fun a => if a ∈ A then none else M a
mutual
inductive RepO (K : PySem.W.Frag) (G M : Hp) : V → OT → List Addr → Prop
  | d {v : V} {x : PyData} : Dp K G v x → RepO K G M v (.d x) []
  | own {a : Addr} {xs : List V} {os : List OT} {A : List Addr} : M a = some (.lst xs) → RepOs K G M xs os A → a ∉ A → RepO K G M (.ref a) (.own os) (a :: A)
  | fr {a : Addr} {xs : List V} {os : List OT} {A : List Addr} : M a = some tg → G a = some (.lst xs) → RepOs K G M xs os A → a ∉ A → RepO K G M (.ref a) (.fr os) (a :: A)
  | opq {v : V} : RepO K G M v (.opq v) []
  | dic {a : Addr} {t : Bool} {kvs : List (List Int × Int)} : M a = some (dicO t kvs) → RepO K G M (.ref a) (.dic t kvs) [a]
  | lkd {a : Addr} {od : Obj} {t : Bool} {kvs : List (List Int × Int)} : G a = some (.frz od (dicO t kvs)) → RepO K G M (.ref a) (.lkd t kvs) []
  | tp {a : Addr} {vs : List V} {os : List OT} {A : List Addr} : G a = some (.tup vs) → RepOs K G M vs os A → RepO K G M (.ref a) (.tp os) A
  | leaf {a : Addr} {t : Tag} {vs : List V} {xs : List PyData} : M a = some (tagO t vs a) → DpAll K G vs xs → RepO K G M (.ref a) (.leaf t xs) [a]
  | hole {v : V} : RepO K G M v .hole []
inductive RepOs (K : PySem.W.Frag) (G M : Hp) : List V → List OT → List Addr → Prop
  | nil : RepOs K G M [] [] []
  | cons {v : V} {vs : List V} {o : OT} {os : List OT} {A B : List Addr} : RepO K G M v o A → RepOs K G M vs os B → (∀ a ∈ A, a ∉ B) → RepOs K G M (v :: vs) (o :: os) (A ++ B)
end
section
variable {K : PySem.W.Frag} {G G' M M' : Hp}
mutual
theorem RepO.at (e : Same G G') : ∀ (o : OT) (v : V) (A : List Addr), RepO K G M v o A → (∀ a ∈ A, M' a = M a) → RepO K G' M' v o A
  | .d x, _, _, h, _ => by cases h with | d h => exact .d (dp_same e x _ h)
  | .own os, _, _, h, k => by
    cases h with
    | own h1 h2 h3 => exact .own (by rw [k _ List.mem_cons_self]; exact h1) (RepOs.at e os _ _ h2 fun a ha => k a (List.mem_cons_of_mem _ ha)) h3
  | .fr os, _, _, h, k => by
    cases h with
    | fr h0 h1 h2 h3 => exact .fr (by rw [k _ List.mem_cons_self]; exact h0) (e _ _ h1) (RepOs.at e os _ _ h2 fun a ha => k a (List.mem_cons_of_mem _ ha)) h3
  | .opq _, _, _, h, _ => by cases h; exact .opq
  | .dic _ _, _, _, h, k => by
    cases h with
    | dic h1 => exact .dic (by rw [k _ List.mem_cons_self]; exact h1)
  | .lkd _ _, _, _, h, k => by
    cases h with
    | lkd h1 => exact .lkd (e _ _ h1)
  | .tp os, _, _, h, k => by
    cases h with
    | tp h1 h2 => exact .tp (e _ _ h1) (RepOs.at e os _ _ h2 k)
  | .leaf _ xs, _, _, h, k => by
    cases h with
    | leaf h1 h2 => exact .leaf (by rw [k _ List.mem_cons_self]; exact h1) (dps_same e xs _ h2)
  | .hole, _, _, h, _ => by cases h; exact .hole
theorem RepOs.at (e : Same G G') : ∀ (os : List OT) (vs : List V) (A : List Addr), RepOs K G M vs os A → (∀ a ∈ A, M' a = M a) → RepOs K G' M' vs os A
  | [], _, _, h, _ => by cases h; exact .nil
  | o :: os, _, _, h, k => by
    cases h with
    | cons h1 h2 h3 => exact .cons (RepO.at e o _ _ h1 fun a ha => k a (List.mem_append_left _ ha)) (RepOs.at e os _ _ h2 fun a ha => k a (List.mem_append_right _ ha)) h3
end
mutual
theorem RepO.dom : ∀ (o : OT) (v : V) (A : List Addr), RepO K G M v o A → ∀ a ∈ A, ∃ u, M a = some u ∧ (isTg u = false ∨ u = tg)
  | .d x, _, _, h, a, ha => by cases h; cases ha
  | .own os, _, _, h, a, ha => by
    cases h with
    | own h1 h2 h3 =>
      rcases List.mem_cons.mp ha with rfl | ha
      · exact ⟨_, h1, .inl rfl⟩
      · exact RepOs.dom os _ _ h2 a ha
  | .fr os, _, _, h, a, ha => by
    cases h with
    | fr h0 h1 h2 h3 =>
      rcases List.mem_cons.mp ha with rfl | ha
      · exact ⟨_, h0, .inr rfl⟩
      · exact RepOs.dom os _ _ h2 a ha
  | .opq _, _, _, h, a, ha => by cases h; cases ha
  | .dic _ _, _, _, h, a, ha => by
    cases h with
    | dic h1 =>
      rcases List.mem_cons.mp ha with rfl | ha
      · exact ⟨_, h1, .inl dicO_tg⟩
      · cases ha
  | .lkd _ _, _, _, h, a, ha => by cases h; cases ha
  | .tp os, _, _, h, a, ha => by
    cases h with
    | tp h1 h2 => exact RepOs.dom os _ _ h2 a ha
  | .leaf _ _, _, _, h, a, ha => by
    cases h with
    | leaf h1 h2 =>
      rcases List.mem_cons.mp ha with rfl | ha
      · exact ⟨_, h1, .inl tagO_tg⟩
      · cases ha
  | .hole, _, _, h, a, ha => by cases h; cases ha
theorem RepOs.dom : ∀ (os : List OT) (vs : List V) (A : List Addr), RepOs K G M vs os A → ∀ a ∈ A, ∃ u, M a = some u ∧ (isTg u = false ∨ u = tg)
  | [], _, _, h, a, ha => by cases h; cases ha
  | o :: os, _, _, h, a, ha => by
    cases h with
    | cons h1 h2 h3 =>
      rcases List.mem_append.mp ha with ha | ha
      · exact RepO.dom o _ _ h1 a ha
      · exact RepOs.dom os _ _ h2 a ha
end
mutual
/-- a thing of one's own read as data, in any heap that holds both parts -/
theorem RepO.dp {H : Hp} (g : Same G H) : ∀ (o : OT) (v : V) (A : List Addr) (x : PyData), RepO K G M v o A → (∀ a ∈ A, ∀ u, M a = some (.lst u) → H a = some (.lst u)) → frz o = some x → Dp K H v x
  | .d x, _, _, y, h, _, e => by
    cases h with
    | d h =>
      simp only [frz, Option.some.injEq] at e
      subst e
      exact dp_same g x _ h
  | .own os, _, _, y, h, k, e => by
    cases h with
    | own h1 h2 h3 =>
      simp only [frz, Option.map_eq_some_iff] at e
      obtain ⟨xs, e1, rfl⟩ := e
      exact .lst (SqL.of (k _ List.mem_cons_self _ h1)) (RepOs.dp g os _ _ xs h2 (fun a ha => k a (List.mem_cons_of_mem _ ha)) e1)
  | .fr os, _, _, y, h, k, e => by
    cases h with
    | fr h0 h1 h2 h3 =>
      simp only [frz, Option.map_eq_some_iff] at e
      obtain ⟨xs, e1, rfl⟩ := e
      exact .lst (SqL.of (g _ _ h1)) (RepOs.dp g os _ _ xs h2 (fun a ha => k a (List.mem_cons_of_mem _ ha)) e1)
  | .opq _, _, _, _, _, _, e => by simp [frz] at e
  | .dic _ _, _, _, _, _, _, e => by simp [frz] at e
  | .lkd _ _, _, _, _, _, _, e => by simp [frz] at e
  | .tp os, _, _, y, h, k, e => by
    cases h with
    | tp h1 h2 =>
      simp only [frz, Option.map_eq_some_iff] at e
      obtain ⟨xs, e1, rfl⟩ := e
      exact .tup (SqT.of (g _ _ h1)) (RepOs.dp g os _ _ xs h2 k e1)
  | .leaf _ _, _, _, _, _, _, e => by simp [frz] at e
  | .hole, _, _, _, _, _, e => by simp [frz] at e
theorem RepOs.dp {H : Hp} (g : Same G H) : ∀ (os : List OT) (vs : List V) (A : List Addr) (xs : List PyData), RepOs K G M vs os A → (∀ a ∈ A, ∀ u, M a = some (.lst u) → H a = some (.lst u)) → frzs os = some xs → DpAll K H vs xs
  | [], _, _, xs, h, _, e => by
    cases h
    simp only [frzs, Option.some.injEq] at e
    subst e
    exact .nil
  | o :: os, _, _, xs, h, k, e => by
    cases h with
    | cons h1 h2 h3 =>
      simp only [frzs] at e
      split at e
      · rename_i y ys e1 e2
        cases e
        exact .cons (RepO.dp g o _ _ y h1 (fun a ha => k a (List.mem_append_left _ ha)) e1) (RepOs.dp g os _ _ ys h2 (fun a ha => k a (List.mem_append_right _ ha)) e2)
      · cases e
end
theorem RepOs.length : ∀ {os : List OT} {vs : List V} {A : List Addr}, RepOs K G M vs os A → vs.length = os.length
  | [], _, _, h => by cases h; rfl
  | o :: os, _, _, h => by
    cases h with
    | cons h1 h2 h3 => simp [RepOs.length h2]
theorem RepOs.app : ∀ {os : List OT} {vs : List V} {A : List Addr} {ps : List OT} {ws : List V} {B : List Addr}, RepOs K G M vs os A → RepOs K G M ws ps B → (∀ a ∈ A, a ∉ B) → RepOs K G M (vs ++ ws) (os ++ ps) (A ++ B)
  | [], _, _, _, _, _, h, k, _ => by cases h; simpa using k
  | o :: os, _, _, _, _, _, h, k, hd => by
    cases h with
    | cons h1 h2 h3 =>
      rw [List.append_assoc]
      refine .cons h1 (RepOs.app h2 k fun a ha => hd a (List.mem_append_right _ ha)) fun a ha hb => ?_
      rcases List.mem_append.mp hb with hb | hb
      · exact h3 a ha hb
      · exact hd a (List.mem_append_left _ ha) hb
/-- split at any place -/
theorem RepOs.split : ∀ {vs : List V} {os : List OT} {ws : List V} {ps : List OT} {A : List Addr}, vs.length = os.length → RepOs K G M (vs ++ ws) (os ++ ps) A → ∃ B C, A = B ++ C ∧ RepOs K G M vs os B ∧ RepOs K G M ws ps C ∧ ∀ a ∈ B, a ∉ C
  | [], [], _, _, _, _, h => ⟨[], _, rfl, .nil, h, fun _ z => nomatch z⟩
  | v :: vs, o :: os, _, _, _, hl, h => by
    cases h with
    | cons h1 h2 h3 =>
      obtain ⟨B, C, rfl, k1, k2, k3⟩ := RepOs.split (by simpa using hl) h2
      refine ⟨_ ++ B, C, by rw [List.append_assoc], .cons h1 k1 (fun a ha hb => h3 a ha (List.mem_append_left _ hb)), k2, fun a ha hc => ?_⟩
      rcases List.mem_append.mp ha with ha | ha
      · exact h3 a ha (List.mem_append_right _ hc)
      · exact k3 a ha hc
  | [], _ :: _, _, _, _, hl, _ => by simp at hl
  | _ :: _, [], _, _, _, hl, _ => by simp at hl
end
/-! ### slots -/
section
variable (K : PySem.W.Frag) (G M : Hp) (τ σ : St)
def SlotOk (i : Nat) : Slot → List Addr → Prop
  | .un, A => A = []
  | .v o, A => ∃ x, σ[i]? = some (some x) ∧ RepO K G M x o A
  | .p o, A => ∃ x, σ[i]? = some (some x) ∧ τ[i]? = some (some x) ∧ RepO K G M x o A
def RE (en : En) (φ : Nat → List Addr) : Prop :=
  σ.length = en.length ∧ (∀ i s, en[i]? = some s → SlotOk K G M τ σ i s (φ i)) ∧ (∀ i, en.length ≤ i → φ i = []) ∧ ∀ i j, i ≠ j → ∀ a ∈ φ i, a ∉ φ j
end
/-- THE STATE: the slots stand for en, and besides the values vs for os -/
def RX (K : PySem.W.Frag) (G : Hp) (F : FS) (τ σ : St) (H : Hp) (en : En) (vs : List V) (os : List OT) : Prop :=
  ∃ (M : Hp) (φ : Nat → List Addr) (B : List Addr), Sep H G M F ∧ RE K G M τ σ en φ ∧ RepOs K G M vs os B ∧ ∀ i, ∀ a ∈ B, a ∉ φ i
section
variable {K : PySem.W.Frag} {G G' H : Hp} {F : FS} {τ σ : St} {en : En} {vs ws : List V} {os ps : List OT}
theorem SlotOk.at {M M' : Hp} {i : Nat} {s : Slot} {A : List Addr} (h : SlotOk K G M τ σ i s A) (e : Same G G') (k : ∀ a ∈ A, M' a = M a) : SlotOk K G' M' τ σ i s A := by
  cases s with
  | un => exact h
  | v o => obtain ⟨x, h1, h2⟩ := h; exact ⟨x, h1, RepO.at e _ _ _ h2 k⟩
  | p o => obtain ⟨x, h1, h0, h2⟩ := h; exact ⟨x, h1, h0, RepO.at e _ _ _ h2 k⟩
theorem SlotOk.dom {M : Hp} {i : Nat} {s : Slot} {A : List Addr} (h : SlotOk K G M τ σ i s A) : ∀ a ∈ A, ∃ u, M a = some u ∧ (isTg u = false ∨ u = tg) := by
  cases s with
  | un => intro a ha; rw [show A = [] from h] at ha; cases ha
  | v o => obtain ⟨x, h1, h2⟩ := h; exact RepO.dom _ _ _ h2
  | p o => obtain ⟨x, h1, h0, h2⟩ := h; exact RepO.dom _ _ _ h2
theorem RE.at {M M' : Hp} {φ : Nat → List Addr} (h : RE K G M τ σ en φ) (e : Same G G') (k : ∀ i, ∀ a ∈ φ i, M' a = M a) : RE K G' M' τ σ en φ :=
  ⟨h.1, fun i s hs => (h.2.1 i s hs).at e (k i), h.2.2⟩
theorem RE.dom {M : Hp} {φ : Nat → List Addr} (h : RE K G M τ σ en φ) {i : Nat} {a : Addr} (ha : a ∈ φ i) : ∃ u, M a = some u ∧ (isTg u = false ∨ u = tg) := by
  by_cases hi : i < en.length
  · exact (h.2.1 i en[i] (by simp [hi])).dom a ha
  · rw [h.2.2.1 i (by omega)] at ha; cases ha
theorem RX.same (h : RX K G F τ σ H en vs os) : Same G H := let ⟨_, _, _, S, _⟩ := h; S.g
theorem RX.len (h : RX K G F τ σ H en vs os) : σ.length = en.length := let ⟨_, _, _, _, h, _⟩ := h; h.1
theorem RX.vlen (h : RX K G F τ σ H en vs os) : vs.length = os.length := let ⟨_, _, _, _, _, h, _⟩ := h; h.length
/-- forget the last ones, the first ones -/
theorem RX.left (hl : vs.length = os.length) (h : RX K G F τ σ H en (vs ++ ws) (os ++ ps)) : RX K G F τ σ H en vs os := by
  obtain ⟨M, φ, B, S, E, r, d⟩ := h
  obtain ⟨B1, B2, rfl, r1, r2, d1⟩ := RepOs.split hl r
  exact ⟨M, φ, B1, S, E, r1, fun i a ha => d i a (List.mem_append_left _ ha)⟩
theorem RX.right (hl : vs.length = os.length) (h : RX K G F τ σ H en (vs ++ ws) (os ++ ps)) : RX K G F τ σ H en ws ps := by
  obtain ⟨M, φ, B, S, E, r, d⟩ := h
  obtain ⟨B1, B2, rfl, r1, r2, d1⟩ := RepOs.split hl r
  exact ⟨M, φ, B2, S, E, r2, fun i a ha => d i a (List.mem_append_right _ ha)⟩
theorem RX.nil (h : RX K G F τ σ H en vs os) : RX K G F τ σ H en [] [] := RX.left (vs := []) (os := []) rfl h
theorem RepOs.at_ {M : Hp} : ∀ {os : List OT} {vs : List V} {A : List Addr} (i : Nat) {v : V} {o : OT}, RepOs K G M vs os A → vs[i]? = some v → os[i]? = some o → ∃ C, RepO K G M v o C ∧ ∀ a ∈ C, a ∈ A
  | [], _, _, i, v, o, h, _, e => by simp at e
  | o' :: os, _, _, 0, v, o, h, e1, e2 => by
    cases h with
    | cons h1 h2 h3 =>
      simp at e1 e2
      subst e1 e2
      exact ⟨_, h1, fun a ha => List.mem_append_left _ ha⟩
  | o' :: os, _, _, i + 1, v, o, h, e1, e2 => by
    cases h with
    | cons h1 h2 h3 =>
      obtain ⟨C, r, sub⟩ := RepOs.at_ i h2 (by simpa using e1) (by simpa using e2)
      exact ⟨C, r, fun a ha => List.mem_append_right _ (sub a ha)⟩
/-- what is held, as others' -/
def FS.hold (F : FS) (G M : Hp) (B : List Addr) : FS := ⟨mov F.f M B, fun a => if a ∈ B then (match M a with | some u => if isTg u = true then G a else F.b a | _ => G a) else F.b a⟩
theorem mov_in {G M : Hp} {A : List Addr} {a : Addr} {xs : List V} (ha : a ∈ A) (h : M a = some (.lst xs)) : mov G M A a = some (.lst xs) := by simp [mov, ha, h, isTg]
theorem mov_ino {G M : Hp} {A : List Addr} {a : Addr} {u : HO} (ha : a ∈ A) (h : M a = some u) (ht : isTg u = false) : mov G M A a = some u := by simp [mov, ha, h, ht]
theorem mov_tg {G M : Hp} {A : List Addr} {a : Addr} (h : M a = some tg) : mov G M A a = G a := by simp [mov, h, isTg]
theorem mov_out {G M : Hp} {A : List Addr} {a : Addr} (ha : a ∉ A) : mov G M A a = G a := by simp [mov, ha]
/-- HOLD: what is besides stands as it is while the rest goes on; the slots' pins may change -/
theorem RX.hold2 (h : RX K G F τ σ H en vs os) : ∃ F' : FS, RX K G F' τ σ H en [] [] ∧
    ∀ (G' H' : Hp) (τ' σ' : St) (en' : En) (ws : List V) (ps : List OT), Same G G' → RX K G' F' τ' σ' H' en' ws ps →
      (∀ a xs, (∃ (i : Nat) (qs : List OT), vs[i]? = some (.ref a) ∧ os[i]? = some (.own qs)) → H a = some (.lst xs) → H' a = some (.lst xs)) ∧ RX K G' F τ' σ' H' en' (vs ++ ws) (os ++ ps) := by
  obtain ⟨M, φ, B, S, E, r, d⟩ := h
  have dm := RepOs.dom _ _ _ r
  have hB : ∀ (a : Addr) (xs : List V), (∃ (i : Nat) (qs : List OT), vs[i]? = some (.ref a) ∧ os[i]? = some (.own qs)) → H a = some (.lst xs) → a ∈ B ∧ M a = some (.lst xs) := fun a xs ⟨i, qs, e1, e2⟩ hx => by
    obtain ⟨A, hA, sub⟩ := RepOs.at_ i r e1 e2
    cases hA with
    | own k1 k2 k3 =>
      have z := S.m _ _ k1
      rw [hx] at z
      cases z
      exact ⟨sub a List.mem_cons_self, k1⟩
  have dt : ∀ p ∈ Tabs.ts, p ∉ B := fun p hp hb => by
    obtain ⟨xs, hx, _⟩ := dm p hb
    rw [S.tm hp] at hx; cases hx
  refine ⟨F.hold G M B, ⟨cut M B, φ, [], ⟨fun a => ?_, fun a ps z => ?_, fun p hp => ⟨?_, (S.tab p hp).2⟩, fun a u z => ?_, fun a u z => ?_⟩, E.at (Same.refl G) (fun i a ha => ?_), .nil, fun _ _ z => nomatch z⟩, fun G' H' τ' σ' en' ws ps sg ⟨M2, φ2, C, S2, E2, r2, d2⟩ => ⟨fun a xs ha hx => ?_, ?_⟩⟩
  · rw [show (F.hold G M B).f a = mov F.f M B a from rfl]
    by_cases ha : a ∈ B
    · obtain ⟨u, hx, hu⟩ := dm a ha
      rcases hu with hu | rfl
      · have := S.mgo hx hu
        have hH := S.mo _ _ hx hu
        exact .inr (.inr (.inl ⟨this.1, by simp [cut, ha], .inl (by rw [mov_ino ha hx hu, hH])⟩))
      · exact .inl ⟨by simp [cut, ha], (mov_tg hx).trans (S.mf hx), (S.mt hx).1⟩
    · rw [mov_out ha]
      have e : cut M B a = M a := by simp [cut, ha]
      rw [e]
      exact S.at_ a
  · by_cases ha : a ∈ B
    · simp [cut, ha] at z
    · simp only [cut, if_neg ha] at z; exact S.nt a ps z
  · obtain ⟨ps, e⟩ := (S.tab p hp).1
    exact ⟨ps, (mov_out (dt p hp)).trans e⟩
  · by_cases ha : a ∈ B
    · obtain ⟨u', hx, hu⟩ := dm a ha
      rcases hu with hu | rfl
      · simp only [FS.hold, if_pos ha, hx, hu, Bool.false_eq_true, if_false] at z; exact S.base a u z
      · simp only [FS.hold, if_pos ha, hx, isTg, decide_true, Bool.and_self, if_true] at z; exact z
    · simp only [FS.hold, if_neg ha] at z; exact S.base a u z
  · by_cases ha : a ∈ B
    · simp [cut, ha] at z
    · simp only [cut, if_neg ha] at z
      simp only [FS.hold, if_neg ha]
      exact S.mb a u z
  · have : a ∉ B := fun hb => d i a hb ha
    simp [cut, this]
  · have hb := hB a xs ha hx
    have hm : (F.hold G M B).f a = some (.lst xs) := mov_in hb.1 hb.2
    rcases S2.at_ a with ⟨_, h2, _⟩ | ⟨_, h2, _⟩ | ⟨_, _, h3⟩ | ⟨_, h2, _⟩
    · rw [hm] at h2; cases h2
    · rw [hm] at h2; cases h2
    · rw [hm] at h3; exact up_lst h3
    · rw [hm] at h2; cases h2
  · -- back
    have noM2 : ∀ a ∈ B, M2 a = none := fun a ha => by
      obtain ⟨u, hx, hu⟩ := dm a ha
      rcases hu with hu | rfl
      · have hm : (F.hold G M B).f a = some u := mov_ino ha hx hu
        cases q : M2 a with
        | none => rfl
        | some w => rw [S2.mf q] at hm; cases hm
      · cases q : M2 a with
        | none => rfl
        | some w =>
          have z := S2.mb a w q
          obtain ⟨_, xs, hg⟩ := S.mt hx
          simp only [FS.hold, if_pos ha, hx, hg, isTg, decide_true, Bool.and_self, if_true] at z
          cases z
    have noφ : ∀ i, ∀ a ∈ φ2 i, a ∉ B := fun i a ha hb => by
      obtain ⟨xs, hx, _⟩ := E2.dom ha
      rw [noM2 a hb] at hx; cases hx
    have noC : ∀ a ∈ C, a ∉ B := fun a ha hb => by
      obtain ⟨xs, hx, _⟩ := RepOs.dom _ _ _ r2 a ha
      rw [noM2 a hb] at hx; cases hx
    refine ⟨fun a => if a ∈ B then M a else M2 a, φ2, B ++ C, ⟨fun a => ?_, fun a ps z => ?_, fun p hp => ⟨(S.tab p hp).1, (S2.tab p hp).2⟩, S.base.trans sg, fun a u z => ?_⟩, E2.at (Same.refl _) (fun i a ha => by simp [noφ i a ha]), ?_, fun i a ha => ?_⟩
    · by_cases ha : a ∈ B
      · obtain ⟨u, hx, hu⟩ := dm a ha
        have f0 := S.mf hx
        have m0 := noM2 a ha
        have q := S2.at_ a
        rcases hu with hu | rfl
        · rw [show (F.hold G M B).f a = some u from mov_ino ha hx hu] at q
          rcases q with ⟨_, h2, _⟩ | ⟨_, h2, _⟩ | ⟨h1, h2, h3⟩ | ⟨_, h2, _⟩
          · cases h2
          · cases h2
          · exact .inr (.inl ⟨h1, f0, by simp [ha, hx, up_some (fun ps e => S.nt a ps (by rw [hx, e])) h3], by simp only [if_pos ha, hx]; intro z; cases z; simp [isTg] at hu⟩)
          · cases h2
        · obtain ⟨_, xs, hg⟩ := S.mt hx
          have hg' := sg _ _ hg
          rcases q with ⟨_, _, h3⟩ | ⟨h1, _⟩ | ⟨h1, _⟩ | ⟨h1, _⟩
          · exact .inr (.inr (.inr ⟨by simp [ha, hx], f0, h3, xs, hg'⟩))
          · rw [hg'] at h1; cases h1
          · rw [hg'] at h1; cases h1
          · rw [m0] at h1; cases h1
      · have q := S2.at_ a
        rw [show (F.hold G M B).f a = F.f a from mov_out ha] at q
        simpa [ha] using q
    · try dsimp only at z
      split at z
      · exact S.nt a ps z
      · exact S2.nt a ps z
    · try dsimp only at z
      split at z
      · exact S.mb a u z
      · rename_i ha
        have q := S2.mb a u z
        simpa [FS.hold, ha] using q
    · exact RepOs.app (RepOs.at sg _ _ _ r fun a ha => by simp [ha]) (RepOs.at (Same.refl _) _ _ _ r2 fun a ha => by simp [noC a ha]) fun a ha hc => noC a hc ha
    · rcases List.mem_append.mp ha with ha | ha
      · exact fun hb => noφ i a hb ha
      · exact d2 i a ha
theorem RX.hold (h : RX K G F τ σ H en vs os) : ∃ F' : FS, RX K G F' τ σ H en [] [] ∧
    ∀ (G' H' : Hp) (σ' : St) (en' : En) (ws : List V) (ps : List OT), Same G G' → RX K G' F' τ σ' H' en' ws ps → RX K G' F τ σ' H' en' (vs ++ ws) (os ++ ps) := by
  obtain ⟨F', h', back⟩ := h.hold2
  exact ⟨F', h', fun G' H' σ' en' ws ps s x => (back G' H' τ σ' en' ws ps s x).2⟩
/-- FREEZE the first one -/
theorem RX.freeze {v : V} {o : OT} {x : PyData} (h : RX K G F τ σ H en (v :: vs) (o :: os)) (e : frz o = some x) : ∃ G', Same G G' ∧ RX K G' F τ σ H en (v :: vs) (.d x :: os) := by
  obtain ⟨M, φ, B, S, E, r, d⟩ := h
  cases r with
  | cons r1 r2 hd =>
    rename_i A B
    have dm := RepO.dom _ _ _ r1
    have sg : Same G (mov G M A) := fun a u hu => by
      by_cases ha : a ∈ A
      · obtain ⟨w, hx, hw⟩ := dm a ha
        rcases hw with hw | rfl
        · rw [(S.mgo hx hw).1] at hu; cases hu
        · rw [mov_tg hx]; exact hu
      · rw [mov_out ha]; exact hu
    refine ⟨mov G M A, sg, cut M A, φ, B, ⟨fun a => ?_, fun a ps z => ?_, S.tab, S.base.trans sg, fun a u z => ?_⟩, E.at sg (fun i a ha => ?_), ?_, fun i a ha => d i a (List.mem_append_right _ ha)⟩
    · by_cases ha : a ∈ A
      · obtain ⟨w, hx, hw⟩ := dm a ha
        rcases hw with hw | rfl
        · exact .inl ⟨by simp [cut, ha], (S.mgo hx hw).2, by rw [mov_ino ha hx hw, S.mo _ _ hx hw]⟩
        · exact .inl ⟨by simp [cut, ha], S.mf hx, by rw [mov_tg hx]; exact (S.mt hx).1⟩
      · have q := S.at_ a
        rw [mov_out ha, show cut M A a = M a by simp [cut, ha]]
        exact q
    · by_cases ha : a ∈ A
      · simp [cut, ha] at z
      · simp only [cut, if_neg ha] at z; exact S.nt a ps z
    · by_cases ha : a ∈ A
      · simp [cut, ha] at z
      · simp only [cut, if_neg ha] at z; exact S.mb a u z
    · have : a ∉ A := fun hb => d i a (List.mem_append_left _ hb) ha
      simp [cut, this]
    · have q : RepOs K (mov G M A) (cut M A) (v :: vs) (.d x :: os) ([] ++ B) := by
        refine .cons (.d (RepO.dp sg o v A x r1 (fun a ha u hu => mov_in ha hu) e)) (RepOs.at sg _ _ _ r2 fun a ha => ?_) fun _ z => nomatch z
        have : a ∉ A := fun hb => hd a hb ha
        simp [cut, this]
      simpa using q
/-- the first one as data, read where it stands -/
theorem RX.data {v : V} {o : OT} {x : PyData} (h : RX K G F τ σ H en (v :: vs) (o :: os)) (e : frz o = some x) : Dp K H v x := by
  obtain ⟨M, φ, B, S, E, r, d⟩ := h
  cases r with
  | cons r1 r2 hd => exact RepO.dp S.g o v _ x r1 (fun a ha u hu => S.m _ _ hu) e
/-- frozen data is of the frozen part -/
theorem RX.dataG {v : V} {x : PyData} (h : RX K G F τ σ H en (v :: vs) (.d x :: os)) : Dp K G v x := by
  obtain ⟨M, φ, B, S, E, r, d⟩ := h
  cases r with
  | cons r1 r2 hd => cases r1 with | d h => exact h
theorem RX.opq {v u : V} (h : RX K G F τ σ H en (v :: vs) (.opq u :: os)) : v = u := by
  obtain ⟨M, φ, B, S, E, r, d⟩ := h
  cases r with
  | cons r1 r2 hd => cases r1; rfl
/-- data of the frozen part, an opaque value, put besides -/
theorem RX.withD {v : V} {x : PyData} (h : RX K G F τ σ H en vs os) (k : Dp K G v x) : RX K G F τ σ H en (v :: vs) (.d x :: os) := by
  obtain ⟨M, φ, B, S, E, r, d⟩ := h
  exact ⟨M, φ, B, S, E, .cons (A := []) (.d k) r (fun _ z => nomatch z), d⟩
theorem RX.withQ {v : V} (h : RX K G F τ σ H en vs os) : RX K G F τ σ H en (v :: vs) (.opq v :: os) := by
  obtain ⟨M, φ, B, S, E, r, d⟩ := h
  exact ⟨M, φ, B, S, E, .cons (A := []) .opq r (fun _ z => nomatch z), d⟩
/-- a new list of what is besides -/
theorem RX.newL {p : Addr} (h : RX K G F τ σ H en (vs ++ ws) (os ++ ps)) (hl : vs.length = os.length) (hp : H p = none) : RX K G F τ σ (upd H p (.lst vs)) en (.ref p :: ws) (.own os :: ps) := by
  obtain ⟨M, φ, B, S, E, r, d⟩ := h
  obtain ⟨g0, m0, f0⟩ := S.new hp
  have nφ : ∀ i, ∀ a ∈ φ i, a ≠ p := fun i a ha e => by
    obtain ⟨xs, hx, _⟩ := E.dom ha
    rw [e, m0] at hx; cases hx
  have nB : ∀ a ∈ B, a ≠ p := fun a ha e => by
    obtain ⟨xs, hx, _⟩ := RepOs.dom _ _ _ r a ha
    rw [e, m0] at hx; cases hx
  obtain ⟨B1, B2, rfl, r1, r2, dd⟩ := RepOs.split hl r
  refine ⟨upd M p (.lst vs), φ, (p :: B1) ++ B2, ⟨fun a => ?_, fun a ps z => ?_, fun t ht => ⟨(S.tab t ht).1, tabG_of (S.tab t ht).2 (upd_ne (S.tn ht hp))⟩, S.base, fun a u z => ?_⟩, E.at (Same.refl _) (fun i a ha => upd_ne (nφ i a ha)), .cons (.own upd_same (RepOs.at (Same.refl _) _ _ _ r1 fun a ha => upd_ne (nB a (List.mem_append_left _ ha))) (fun hb => nB p (List.mem_append_left _ hb) rfl)) (RepOs.at (Same.refl _) _ _ _ r2 fun a ha => upd_ne (nB a (List.mem_append_right _ ha))) (fun a ha => ?_), fun i a ha => ?_⟩
  · by_cases e : a = p
    · subst e; exact .inr (.inl ⟨g0, f0, by rw [upd_same, upd_same], by rw [upd_same]; exact fun z => nomatch z⟩)
    · rw [upd_ne e, upd_ne e]; exact S.at_ a
  · by_cases e : a = p
    · rw [e, upd_same] at z; cases z
    · rw [upd_ne e] at z; exact S.nt a ps z
  · by_cases e : a = p
    · rw [e]; exact S.base.free g0
    · rw [upd_ne e] at z; exact S.mb a u z
  · rcases List.mem_cons.mp ha with rfl | ha
    · exact fun hb => nB _ (List.mem_append_right _ hb) rfl
    · exact dd a ha
  · rcases List.mem_cons.mp ha with rfl | ha
    · exact fun hb => nφ i _ hb rfl
    · exact d i a ha
/-- a new frozen object -/
theorem RX.newG {p : Addr} {u : HO} (h : RX K G F τ σ H en vs os) (hp : H p = none) : Same G (upd G p u) ∧ RX K (upd G p u) F τ σ (upd H p u) en vs os := by
  obtain ⟨M, φ, B, S, E, r, d⟩ := h
  obtain ⟨g0, m0, f0⟩ := S.new hp
  have sg : Same G (upd G p u) := fun a o e => by rw [upd_ne (ne_of_none e g0)]; exact e
  refine ⟨sg, M, φ, B, ⟨fun a => ?_, S.nt, fun t ht => ⟨(S.tab t ht).1, tabG_of (S.tab t ht).2 (upd_ne (S.tn ht hp))⟩, S.base.trans sg, S.mb⟩, E.at sg (fun i a ha => rfl), RepOs.at sg _ _ _ r fun a ha => rfl, d⟩
  by_cases e : a = p
  · subst e; exact .inl ⟨m0, f0, by rw [upd_same, upd_same]⟩
  · rw [upd_ne e, upd_ne e]; exact S.at_ a
/-- a slot is stored into -/
theorem RX.store {i : Nat} {v : V} {o : OT} (h : RX K G F τ σ H en (v :: vs) (o :: os)) (hi : i < en.length) : RX K G F τ (σ.set i (some v)) H (en.set i (.v o)) vs os := by
  obtain ⟨M, φ, B, S, E, r, d⟩ := h
  cases r with
  | cons r1 r2 hd =>
    rename_i A B
    refine ⟨M, fun j => if j = i then A else φ j, B, S, ⟨by simp [E.1], fun j s hs => ?_, fun j hj => ?_, fun j k hjk a ha => ?_⟩, r2, fun j a ha => ?_⟩
    · dsimp only
      by_cases e : j = i
      · subst e
        rw [List.getElem?_set_self hi] at hs
        cases hs
        rw [if_pos rfl]
        exact ⟨v, List.getElem?_set_self (by rw [E.1]; exact hi), r1⟩
      · rw [List.getElem?_set_ne (Ne.symm e)] at hs
        rw [if_neg e]
        have q := E.2.1 j s hs
        have hσ : (σ.set i (some v))[j]? = σ[j]? := List.getElem?_set_ne (Ne.symm e)
        cases s with
        | un => exact q
        | v o => obtain ⟨x, q1, q2⟩ := q; exact ⟨x, by rw [hσ]; exact q1, q2⟩
        | p o => obtain ⟨x, q1, q0, q2⟩ := q; exact ⟨x, by rw [hσ]; exact q1, q0, q2⟩
    · have e : j ≠ i := by simp at hj; omega
      dsimp only
      rw [if_neg e]
      exact E.2.2.1 j (by simpa using hj)
    · dsimp only at ha ⊢
      by_cases e : j = i
      · rw [if_pos e] at ha
        rw [if_neg (fun z => hjk (e.trans z.symm))]
        exact fun hb => d k a (List.mem_append_left _ ha) hb
      · rw [if_neg e] at ha
        by_cases e2 : k = i
        · rw [if_pos e2]
          exact fun hb => d j a (List.mem_append_left _ hb) ha
        · rw [if_neg e2]
          exact E.2.2.2 j k hjk a ha
    · dsimp only
      by_cases e : j = i
      · rw [if_pos e]
        exact fun hb => hd a hb ha
      · rw [if_neg e]
        exact d j a (List.mem_append_right _ ha)
/-- a slot is emptied: its thing stands besides -/
theorem RX.take {i : Nat} {o : OT} (h : RX K G F τ σ H en vs os) (hs : en[i]? = some (.v o)) : ∃ x, σ[i]? = some (some x) ∧ RX K G F τ σ H (en.set i .un) (x :: vs) (o :: os) := by
  obtain ⟨M, φ, B, S, E, r, d⟩ := h
  obtain ⟨x, hx, q⟩ := E.2.1 i _ hs
  refine ⟨x, hx, M, fun j => if j = i then [] else φ j, φ i ++ B, S, ⟨by simp [E.1], fun j s hj => ?_, fun j hj => ?_, fun j k hjk a ha => ?_⟩, .cons q r (fun a ha hb => d i a hb ha), fun j a ha => ?_⟩
  · dsimp only
    by_cases e : j = i
    · subst e
      rw [List.getElem?_set_self (List.getElem?_eq_some_iff.mp hs).1] at hj
      cases hj
      rw [if_pos rfl]
      rfl
    · rw [List.getElem?_set_ne (Ne.symm e)] at hj
      rw [if_neg e]
      exact E.2.1 j s hj
  · dsimp only
    by_cases e : j = i
    · rw [if_pos e]
    · rw [if_neg e]
      exact E.2.2.1 j (by simpa using hj)
  · dsimp only at ha ⊢
    by_cases e : j = i
    · rw [if_pos e] at ha; cases ha
    · rw [if_neg e] at ha
      by_cases e2 : k = i
      · rw [if_pos e2]; simp
      · rw [if_neg e2]; exact E.2.2.2 j k hjk a ha
  · dsimp only
    by_cases e : j = i
    · rw [if_pos e]; simp
    · rw [if_neg e]
      rcases List.mem_append.mp ha with ha | ha
      · exact E.2.2.2 i j (Ne.symm e) a ha
      · exact d j a ha
theorem RX.takeP {i : Nat} {o : OT} (h : RX K G F τ σ H en vs os) (hs : en[i]? = some (.p o)) : ∃ x, σ[i]? = some (some x) ∧ τ[i]? = some (some x) ∧ RX K G F τ σ H (en.set i (.p .hole)) (x :: vs) (o :: os) := by
  obtain ⟨M, φ, B, S, E, r, d⟩ := h
  obtain ⟨x, hx, hτ, q⟩ := E.2.1 i _ hs
  refine ⟨x, hx, hτ, M, fun j => if j = i then [] else φ j, φ i ++ B, S, ⟨by simp [E.1], fun j s hj => ?_, fun j hj => ?_, fun j k hjk a ha => ?_⟩, .cons q r (fun a ha hb => d i a hb ha), fun j a ha => ?_⟩
  · dsimp only
    by_cases e : j = i
    · subst e
      rw [List.getElem?_set_self (List.getElem?_eq_some_iff.mp hs).1] at hj
      cases hj
      rw [if_pos rfl]
      exact ⟨x, hx, hτ, .hole⟩
    · rw [List.getElem?_set_ne (Ne.symm e)] at hj
      rw [if_neg e]
      exact E.2.1 j s hj
  · dsimp only
    by_cases e : j = i
    · rw [if_pos e]
    · rw [if_neg e]
      exact E.2.2.1 j (by simpa using hj)
  · dsimp only at ha ⊢
    by_cases e : j = i
    · rw [if_pos e] at ha; cases ha
    · rw [if_neg e] at ha
      by_cases e2 : k = i
      · rw [if_pos e2]; simp
      · rw [if_neg e2]; exact E.2.2.2 j k hjk a ha
  · dsimp only
    by_cases e : j = i
    · rw [if_pos e]; simp
    · rw [if_neg e]
      rcases List.mem_append.mp ha with ha | ha
      · exact E.2.2.2 i j (Ne.symm e) a ha
      · exact d j a ha
end
end Lf
end
section
set_option Elab.async false
set_option linter.all false
set_option maxRecDepth 100000
namespace Lf
open PySem PySem.Spec L2
variable [Tabs]
def bd {α β : Type} (r : R α) (k : α → R β) : R β := match r with
  | .ok a => k a
  | .error e => .error e
/-- what is wanted of an outcome -/
def Post {α : Type} (K : PySem.W.Frag) (G : Hp) (F : FS) (τ σ : St) (W : WX) (ob : α → List OT) (Q : α → List V → Hp → Prop) : R (α × En) → Prop
  | .ok (a, en) => ∀ G' H' vs, Same G G' → RX K G' F τ σ H' en vs (ob a) → Q a vs H'
  | .error .stuck => False
  | .error (.exn c en) => ∀ G' H', Same G G' → RX K G' F τ σ H' en [] [] → W c none σ H'
def ob1 : OT → List OT := fun o => [o]
def q1 (Q : VK) : OT → List V → Hp → Prop := fun _ vs H => ∀ v, vs = [v] → Q v H
def liftE (K : PySem.W.Frag) (W : WX) (d : DE) : TE := fun σ H Q => ∃ G F τ en, RX K G F τ σ H en [] [] ∧ Post K G F τ σ W ob1 (q1 Q) (d en)
def liftA (K : PySem.W.Frag) (W : WX) (d : DA) : TA := fun σ H Q => ∃ G F τ en, RX K G F τ σ H en [] [] ∧ Post K G F τ σ W (fun os => os) (fun _ vs H' => Q vs H') (d en)
def liftT (K : PySem.W.Frag) (W : WX) (d : DT) : TT := fun σ H Q => ∃ G F τ en, RX K G F τ σ H en [] [] ∧ Post K G F τ σ W (fun _ => []) (fun b _ H' => Q b H') (d en)
abbrev EX (X : Cx) (W : WX) (e : Expr) (d : DE) : Prop := PE X e (liftE X.K W d)
abbrev AX (X : Cx) (W : WX) (es : List Expr) (d : DA) : Prop := PA X es (liftA X.K W d)
abbrev TX (X : Cx) (W : WX) (e : Expr) (d : DT) : Prop := PT X e (liftT X.K W d)
abbrev TW (X : Cx) (W : WX) (e : Expr) (d : DT) : Prop := PW X e (liftT X.K W d)
section
variable {X : Cx} {e : Expr}
theorem PE.imp {t t' : TE} (h : PE X e t) (k : ∀ σ H Q, t' σ H Q → t σ H Q) : PE X e t' := ⟨fun pins s σ H Q I q => h.run pins s σ H Q I (k σ H Q q)⟩
theorem PA.imp {es : List Expr} {t t' : TA} (h : PA X es t) (k : ∀ σ H Q, t' σ H Q → t σ H Q) : PA X es t' := ⟨fun pos pins s σ H Q I q => h.run pos pins s σ H Q I (k σ H Q q)⟩
theorem PT.imp {t t' : TT} (h : PT X e t) (k : ∀ σ H Q, t' σ H Q → t σ H Q) : PT X e t' := ⟨fun pins s σ H Q I q => h.run pins s σ H Q I (k σ H Q q)⟩
theorem PW.imp {t t' : TT} (h : PW X e t) (k : ∀ σ H Q, t' σ H Q → t σ H Q) : PW X e t' := ⟨fun wh pins s σ H Q I q => h.run wh pins s σ H Q I (k σ H Q q)⟩
theorem PS.imp {st : Stmt} {t t' : TS} (h : PS X st t) (k : ∀ D σ H, t' D σ H → t D σ H) : PS X st t' := ⟨fun pins s σ H D I q => h.run pins s σ H D I (k D σ H q)⟩
theorem PSs.imp {st : List Stmt} {t t' : TS} (h : PSs X st t) (k : ∀ D σ H, t' D σ H → t D σ H) : PSs X st t' := ⟨fun pins s σ H D I q => h.run pins s σ H D I (k D σ H q)⟩
theorem PG.imp {t t' : TG} (h : PG X e t) (k : ∀ v σ H Q, t' v σ H Q → t v σ H Q) : PG X e t' := ⟨fun pins s σ H v u Q I r q => h.run pins s σ H v u Q I r (k v σ H Q q)⟩
theorem PGs.imp {es : List Expr} {t t' : TGs} (h : PGs X es t) (k : ∀ v σ H Q, t' v σ H Q → t v σ H Q) : PGs X es t' := ⟨fun pins s σ H v u Q I r q => h.run pins s σ H v u Q I r (k v σ H Q q)⟩
theorem PI.imp {tg : Expr} {t t' : TI} (h : PI X tg e t) (k : ∀ σ H Q, t' σ H Q → t σ H Q) : PI X tg e t' := ⟨fun pins s σ H Q I q => h.run pins s σ H Q I (k σ H Q q)⟩
end
section
variable {K : PySem.W.Frag} {G G' H : Hp} {F : FS} {τ σ : St} {W : WX} {en : En} {vs : List V} {os : List OT} {α β : Type} {ob : α → List OT} {Q : α → List V → Hp → Prop}
theorem Post.mono {r : R (α × En)} (s : Same G G') (h : Post K G F τ σ W ob Q r) : Post K G' F τ σ W ob Q r := by
  match r, h with
  | .ok (a, en), h => exact fun G2 H2 vs s2 x => h G2 H2 vs (s.trans s2) x
  | .error (.exn c en), h => exact fun G2 H2 s2 x => h G2 H2 (s.trans s2) x
/-- an expression in front, what is besides held -/
theorem bindE {da : DE} {kk : OT × En → R (α × En)} {Rk : VK} (h : RX K G F τ σ H en vs os) (hp : Post K G F τ σ W ob Q (bd (da en) kk))
    (hk : ∀ o e1, Post K G F τ σ W ob Q (kk (o, e1)) → ∀ G' H' v, Same G G' → RX K G' F τ σ H' e1 (vs ++ [v]) (os ++ [o]) → Rk v H') : liftE K W da σ H Rk := by
  obtain ⟨F', h', back⟩ := h.hold
  refine ⟨G, F', τ, en, h', ?_⟩
  revert hp
  match da en with
  | .ok (o, e1) => exact fun hp G2 H2 vs2 s2 x v ev => hk o e1 hp G2 H2 v s2 (back _ _ _ _ _ _ s2 (by subst ev; exact x))
  | .error .stuck => exact fun hp => hp
  | .error (.exn c e1) => exact fun hp G2 H2 s2 x => hp G2 H2 s2 (back _ _ _ _ _ _ s2 x).nil
theorem bindA {da : DA} {kk : List OT × En → R (α × En)} {Rk : List V → Hp → Prop} (h : RX K G F τ σ H en vs os) (hp : Post K G F τ σ W ob Q (bd (da en) kk))
    (hk : ∀ o e1, Post K G F τ σ W ob Q (kk (o, e1)) → ∀ G' H' v, Same G G' → RX K G' F τ σ H' e1 (vs ++ v) (os ++ o) → Rk v H') : liftA K W da σ H Rk := by
  obtain ⟨F', h', back⟩ := h.hold
  refine ⟨G, F', τ, en, h', ?_⟩
  revert hp
  match da en with
  | .ok (o, e1) => exact fun hp G2 H2 vs2 s2 x => hk o e1 hp G2 H2 vs2 s2 (back _ _ _ _ _ _ s2 x)
  | .error .stuck => exact fun hp => hp
  | .error (.exn c e1) => exact fun hp G2 H2 s2 x => hp G2 H2 s2 (back _ _ _ _ _ _ s2 x).nil
theorem bindT {da : DT} {kk : Bool × En → R (α × En)} {Rk : Bool → Hp → Prop} (h : RX K G F τ σ H en [] []) (hp : Post K G F τ σ W ob Q (bd (da en) kk))
    (hk : ∀ o e1, Post K G F τ σ W ob Q (kk (o, e1)) → ∀ G' H', Same G G' → RX K G' F τ σ H' e1 [] [] → Rk o H') : liftT K W da σ H Rk := by
  refine ⟨G, F, τ, en, h, ?_⟩
  revert hp
  match da en with
  | .ok (o, e1) => exact fun hp G2 H2 vs2 s2 x => hk o e1 hp G2 H2 s2 x.nil
  | .error .stuck => exact fun hp => hp
  | .error (.exn c e1) => exact fun hp => hp
end
/-! ### names, constants -/
def eD (x : PyData) : DE := fun en => .ok (.d x, en)
/-- a name: what it stands for is data from now on -/
def eVar (i : Nat) : DE := fun en => match en[i]? with
  | some (.v (.d x)) => .ok (.d x, en)
  | some (.v (.opq u)) => .ok (.opq u, en)
  | some (.v (.own os)) => match frz (.own os) with
    | some x => .ok (.d x, en.set i (.v (.d x)))
    | none => .error .stuck
  | some (.p (.d x)) => .ok (.d x, en)
  | some (.p (.opq u)) => .ok (.opq u, en)
  | _ => .error .stuck
/-- a name: what it stands for is handed on, the name is forgotten -/
def eMov (i : Nat) : DE := fun en => match en[i]? with
  | some (.v o) => .ok (o, en.set i .un)
  | _ => .error .stuck
/-- a name of one's own list, read as data where it stands, nothing is handed on -/
def sVar (i : Nat) : En → Option PyData := fun en => match en[i]? with
  | some (.v o) => frz o
  | some (.p o) => frz o
  | _ => none
section
variable {X : Cx} {W : WX} {K : PySem.W.Frag} {G H : Hp} {F : FS} {τ σ : St} {en : En} {vs : List V} {os : List OT}
theorem RX.putBack {i : Nat} {x : V} {o : OT} (h : RX K G F τ σ H (en.set i .un) (x :: vs) (o :: os)) (hi : i < en.length) (hx : σ[i]? = some (some x)) : RX K G F τ σ H (en.set i (.v o)) vs os := by
  have q := h.store (i := i) (by simpa using hi)
  rw [List.set_set] at q
  have : σ.set i (some x) = σ := by
    apply List.ext_getElem?
    intro j
    by_cases e : j = i
    · subst e
      rw [List.getElem?_set_self (List.getElem?_eq_some_iff.mp hx).1, hx]
    · rw [List.getElem?_set_ne (Ne.symm e)]
  rwa [this] at q
theorem RX.slotD {i : Nat} {x : PyData} (h : RX K G F τ σ H en vs os) (hs : en[i]? = some (.v (.d x)) ∨ en[i]? = some (.p (.d x))) : ∃ v, σ[i]? = some (some v) ∧ Dp K G v x := by
  obtain ⟨M, φ, B, S, E, r, d⟩ := h
  rcases hs with hs | hs
  · obtain ⟨v, hv, q⟩ := E.2.1 i _ hs
    generalize φ i = A at q
    cases q with | d q => exact ⟨v, hv, q⟩
  · obtain ⟨v, hv, _, q⟩ := E.2.1 i _ hs
    generalize φ i = A at q
    cases q with | d q => exact ⟨v, hv, q⟩
theorem RX.slotQ {i : Nat} {u : V} (h : RX K G F τ σ H en vs os) (hs : en[i]? = some (.v (.opq u)) ∨ en[i]? = some (.p (.opq u))) : σ[i]? = some (some u) := by
  obtain ⟨M, φ, B, S, E, r, d⟩ := h
  rcases hs with hs | hs
  · obtain ⟨v, hv, q⟩ := E.2.1 i _ hs
    generalize φ i = A at q
    cases q; exact hv
  · obtain ⟨v, hv, _, q⟩ := E.2.1 i _ hs
    generalize φ i = A at q
    cases q; exact hv
/-- peek -/
theorem RX.peek {i : Nat} {o : OT} {x : PyData} (h : RX K G F τ σ H en vs os) (hs : en[i]? = some (.v o) ∨ en[i]? = some (.p o)) (e : frz o = some x) : ∃ v, σ[i]? = some (some v) ∧ Dp K H v x := by
  obtain ⟨M, φ, B, S, E, r, d⟩ := h
  rcases hs with hs | hs
  · obtain ⟨v, hv, q⟩ := E.2.1 i _ hs
    exact ⟨v, hv, RepO.dp S.g o v _ x q (fun a ha u hu => S.m _ _ hu) e⟩
  · obtain ⟨v, hv, _, q⟩ := E.2.1 i _ hs
    exact ⟨v, hv, RepO.dp S.g o v _ x q (fun a ha u hu => S.m _ _ hu) e⟩
theorem EX_D {x : PyData} {v : V} (h : PE X e (tC v)) (hv : ∀ G, Dp X.K G v x) : EX X W e (eD x) := PE.imp h fun σ H Q q => by
  obtain ⟨G, F, τ, en, h, hp⟩ := q
  exact hp G H [v] (Same.refl G) (h.withD (hv G)) v rfl
theorem EX_int {i : Int} {j pos} : EX X W (.Constant (.int i) j pos) (eD (.int i)) := EX_D pe_int fun _ => .int i
theorem EX_bl {i : Bool} {j pos} : EX X W (.Constant (.bool i) j pos) (eD (.bool i)) := EX_D pe_bl fun _ => .bl i
theorem EX_var {i : Nat} {e : Expr} (h : PE X e (tVar i)) : EX X W e (eVar i) := PE.imp h fun σ H Q q => by
  obtain ⟨G, F, τ, en, h, hp⟩ := q
  unfold eVar at hp
  split at hp
  · rename_i x hs
    obtain ⟨v, hv, q⟩ := h.slotD (.inl hs)
    exact ⟨v, hv, hp G H [v] (Same.refl G) (h.withD q) v rfl⟩
  · rename_i u hs
    exact ⟨u, h.slotQ (.inl hs), hp G H [u] (Same.refl G) h.withQ u rfl⟩
  · rename_i os hs
    split at hp
    · rename_i x hx
      obtain ⟨v, hv, q⟩ := h.take hs
      obtain ⟨G', sg, q2⟩ := q.freeze hx
      have q3 := q2.dataG
      exact ⟨v, hv, hp G' H [v] sg ((q2.putBack (List.getElem?_eq_some_iff.mp hs).1 hv).withD q3) v rfl⟩
    · exact hp.elim
  · rename_i x hs
    obtain ⟨v, hv, q⟩ := h.slotD (.inr hs)
    exact ⟨v, hv, hp G H [v] (Same.refl G) (h.withD q) v rfl⟩
  · rename_i u hs
    exact ⟨u, h.slotQ (.inr hs), hp G H [u] (Same.refl G) h.withQ u rfl⟩
  · exact hp.elim
theorem EX_mov {i : Nat} {e : Expr} (h : PE X e (tVar i)) : EX X W e (eMov i) := PE.imp h fun σ H Q q => by
  obtain ⟨G, F, τ, en, h, hp⟩ := q
  unfold eMov at hp
  split at hp
  · rename_i o hs
    obtain ⟨v, hv, q⟩ := h.take hs
    exact ⟨v, hv, hp G H [v] (Same.refl G) q v rfl⟩
  · exact hp.elim
end
/-! ### operators whose answer is a number, a truth, a text -/
def Flat2 (K : PySem.W.Frag) (r : R2) (f : PyData → PyData → Option PyData) : Prop :=
  ∀ (H : Hp) (x y : V) (dx dy z : PyData) (Q : VK), Dp K H x dx → Dp K H y dy → f dx dy = some z → (∀ v, (∀ G, Dp K G v z) → Q v H) → r x y H Q
def eOp2 (f : PyData → PyData → Option PyData) (da db : DE) : DE := fun en => bd (da en) fun p => bd (db p.2) fun q => match frz p.1, frz q.1 with
  | some x, some y => (match f x y with
    | some z => .ok (.d z, q.2)
    | none => .error .stuck)
  | _, _ => .error .stuck
section
variable {X : Cx} {W : WX} {K : PySem.W.Frag} {G H : Hp} {F : FS} {τ σ : St} {en : En} {vs : List V} {os : List OT}
theorem lift2 {f : PyData → PyData → Option PyData} {r : R2} {da db : DE} {Q : VK} (hf : Flat2 K r f) (q : liftE K W (eOp2 f da db) σ H Q) : tOp r (liftE K W da) (liftE K W db) σ H Q := by
  obtain ⟨G, F, τ, en, h, hp⟩ := q
  refine bindE h hp fun o e1 hp1 G1 H1 v s1 h1 => ?_
  refine bindE (vs := [v]) (os := [o]) h1 (hp1.mono s1) fun p e2 hp2 G2 H2 w s2 h2 => ?_
  dsimp only at hp2
  split at hp2
  · rename_i x y ex ey
    split at hp2
    · rename_i z ez
      have dx := RX.data (vs := [w]) (os := [p]) h2 ex
      have dy := RX.data (vs := []) (os := []) (RX.right (vs := [v]) (os := [o]) rfl h2) ey
      exact hf _ _ _ _ _ _ _ dx dy ez fun u hu => hp2 G2 H2 [u] s2 (RX.withD h2.nil (hu G2)) u rfl
    · exact hp2.elim
  · exact hp2.elim
theorem EX_op {a b : Expr} {op : Operator} {pos : Pos} {f : PyData → PyData → Option PyData} {r : R2} {da db : DE} (ho : OpR X (binaryOp op) r) (hf : Flat2 X.K r f) (ha : EX X W a da) (hb : EX X W b db) : EX X W (.BinOp a op b pos) (eOp2 f da db) :=
  PE.imp (pe_op ho ha hb) fun _ _ _ q => lift2 hf q
theorem EX_cmp {a b : Expr} {op : CmpOp} {pos : Pos} {f : PyData → PyData → Option PyData} {r : R2} {da db : DE} (ho : OpR X (compareOp op) r) (hm : behindInMarks op b = false) (hf : Flat2 X.K r f) (ha : EX X W a da) (hb : EX X W b db) : EX X W (.Compare a [op] [b] pos) (eOp2 f da db) :=
  PE.imp (pe_cmpR ho ha hb hm) fun _ _ _ q => lift2 hf q
end
/-- on ints -/
def fI (g : Int → Int → Option PyData) : PyData → PyData → Option PyData
  | .int i, .int j => g i j
  | _, _ => none
end Lf
end
section
set_option Elab.async false
set_option linter.all false
set_option maxRecDepth 100000
namespace Lf
open PySem PySem.Spec L2
variable [Tabs]
/-! ### more of the state -/
def er (H : Hp) (a : Addr) : Hp := fun b => if b = a then none else H b
theorem upd_er {H : Hp} {a : Addr} {o : HO} : upd (er H a) a o = upd H a o := by
  funext b; unfold upd er; split <;> rfl
theorem er_same {H : Hp} {a : Addr} : er H a a = none := by simp [er]
section
variable {K : PySem.W.Frag} {G G' H : Hp} {F : FS} {τ σ : St} {en : En} {vs ws : List V} {os ps : List OT}
theorem RX.newL0 {p : Addr} (h : RX K G F τ σ H en vs os) (hp : H p = none) : RX K G F τ σ (upd H p (.lst vs)) en [.ref p] [.own os] := by
  have q : RX K G F τ σ H en (vs ++ []) (os ++ []) := by simpa using h
  exact q.newL h.vlen hp
/-- several are frozen at once -/
theorem RX.freezeL {xs : List PyData} (h : RX K G F τ σ H en (vs ++ ws) (os ++ ps)) (hl : vs.length = os.length) (e : frzs os = some xs) : ∃ G', Same G G' ∧ DpAll K G' vs xs ∧ RX K G' F τ σ H en ws ps := by
  obtain ⟨M, φ, B, S, E, r, d⟩ := h
  obtain ⟨A, B, rfl, r1, r2, hd⟩ := RepOs.split hl r
  have dm := RepOs.dom _ _ _ r1
  have sg : Same G (mov G M A) := fun a u hu => by
    by_cases ha : a ∈ A
    · obtain ⟨w, hx, hw⟩ := dm a ha
      rcases hw with hw | rfl
      · rw [(S.mgo hx hw).1] at hu; cases hu
      · rw [mov_tg hx]; exact hu
    · rw [mov_out ha]; exact hu
  refine ⟨mov G M A, sg, RepOs.dp sg os vs A xs r1 (fun a ha u hu => mov_in ha hu) e, cut M A, φ, B, ⟨fun a => ?_, fun a ps z => ?_, S.tab, S.base.trans sg, fun a u z => ?_⟩, E.at sg (fun i a ha => ?_), ?_, fun i a ha => d i a (List.mem_append_right _ ha)⟩
  · by_cases ha : a ∈ A
    · obtain ⟨w, hx, hw⟩ := dm a ha
      rcases hw with hw | rfl
      · exact .inl ⟨by simp [cut, ha], (S.mgo hx hw).2, by rw [mov_ino ha hx hw, S.mo _ _ hx hw]⟩
      · exact .inl ⟨by simp [cut, ha], S.mf hx, by rw [mov_tg hx]; exact (S.mt hx).1⟩
    · have q := S.at_ a
      rw [mov_out ha, show cut M A a = M a by simp [cut, ha]]
      exact q
  · by_cases ha : a ∈ A
    · simp [cut, ha] at z
    · simp only [cut, if_neg ha] at z; exact S.nt a ps z
  · by_cases ha : a ∈ A
    · simp [cut, ha] at z
    · simp only [cut, if_neg ha] at z; exact S.mb a u z
  · have : a ∉ A := fun hb => d i a (List.mem_append_left _ hb) ha
    simp [cut, this]
  · refine RepOs.at sg _ _ _ r2 fun a ha => ?_
    have : a ∉ A := fun hb => hd a hb ha
    simp [cut, this]
theorem RX.freezeA {xs : List PyData} (h : RX K G F τ σ H en vs os) (e : frzs os = some xs) : ∃ G', Same G G' ∧ DpAll K G' vs xs ∧ RX K G' F τ σ H en [] [] := by
  have q : RX K G F τ σ H en (vs ++ []) (os ++ []) := by simpa using h
  exact q.freezeL h.vlen e
/-- one's own list opened: its items stand besides, its cell is gone -/
theorem RX.openL {v : V} (h : RX K G F τ σ H en (v :: vs) (.own os :: ps)) : ∃ a xs, v = .ref a ∧ H a = some (.lst xs) ∧ xs.length = os.length ∧ RX K G F τ σ (er H a) en (xs ++ vs) (os ++ ps) := by
  obtain ⟨M, φ, B, S, E, r, d⟩ := h
  cases r with
  | cons r1 r2 hd =>
    rename_i B
    cases r1 with
    | own h1 h2 h3 =>
      rename_i a xs A
      refine ⟨a, xs, rfl, S.m _ _ h1, h2.length, er M a, φ, A ++ B, ⟨fun b => ?_, fun b ps z => ?_, fun t ht => ⟨(S.tab t ht).1, tabG_of (S.tab t ht).2 (if_neg fun e => by have q := S.tm ht; rw [e, h1] at q; cases q)⟩, S.base, fun b u z => ?_⟩, E.at (Same.refl _) (fun i b hb => ?_), RepOs.app (RepOs.at (Same.refl _) _ _ _ h2 fun b hb => ?_) (RepOs.at (Same.refl _) _ _ _ r2 fun b hb => ?_) (fun b hb hc => hd b (List.mem_cons_of_mem _ hb) hc), fun i b hb => ?_⟩
      · by_cases e : b = a
        · subst e
          exact .inl ⟨er_same, (S.mg h1).2, by rw [er_same, (S.mg h1).1]⟩
        · have q := S.at_ b
          simpa [er, e] using q
      · by_cases e : b = a
        · rw [e, er_same] at z; cases z
        · simp only [er, if_neg e] at z; exact S.nt b ps z
      · by_cases e : b = a
        · rw [e, er_same] at z; cases z
        · simp only [er, if_neg e] at z; exact S.mb b u z
      · have : b ≠ a := fun e => d i b (by rw [e]; exact List.mem_append_left _ List.mem_cons_self) hb
        simp [er, this]
      · have : b ≠ a := fun e => h3 (e ▸ hb)
        simp [er, this]
      · have : b ≠ a := fun e => hd a List.mem_cons_self (e ▸ hb)
        simp [er, this]
      · rcases List.mem_append.mp hb with hb | hb
        · exact d i b (List.mem_append_left _ (List.mem_cons_of_mem _ hb))
        · exact d i b (List.mem_append_right _ hb)
/-- one item of one's own list, the rest is let go -/
theorem RX.pick {v : V} (h : RX K G F τ σ H en (v :: vs) (.own os :: ps)) : ∃ a xs, v = .ref a ∧ H a = some (.lst xs) ∧ xs.length = os.length ∧ ∀ (j : Nat) (o : OT), os[j]? = some o → ∃ u, xs[j]? = some u ∧ RX K G F τ σ H en [u] [o] := by
  obtain ⟨M, φ, B, S, E, r, d⟩ := h
  cases r with
  | cons r1 r2 hd =>
    rename_i B
    cases r1 with
    | own h1 h2 h3 =>
      rename_i a xs A
      refine ⟨a, xs, rfl, S.m _ _ h1, h2.length, fun j o ho => ?_⟩
      have : ∀ (os : List OT) (xs : List V) (A : List Addr) (j : Nat) (o : OT), RepOs K G M xs os A → os[j]? = some o → ∃ u C, xs[j]? = some u ∧ RepO K G M u o C ∧ ∀ b ∈ C, b ∈ A := by
        intro os
        induction os with
        | nil => intro xs A j o _ e; simp at e
        | cons p os ih =>
          intro xs A j o h e
          cases h with
          | cons k1 k2 k3 =>
            cases j with
            | zero =>
              simp at e; subst e
              exact ⟨_, _, rfl, k1, fun b hb => List.mem_append_left _ hb⟩
            | succ j =>
              simp at e
              obtain ⟨u, C, e1, e2, e3⟩ := ih _ _ j o k2 e
              exact ⟨u, C, by simpa using e1, e2, fun b hb => List.mem_append_right _ (e3 b hb)⟩
      obtain ⟨u, C, e1, e2, e3⟩ := this os xs A j o h2 ho
      refine ⟨u, e1, M, φ, C ++ [], S, E, .cons e2 .nil (fun _ _ z => nomatch z), fun i b hb => ?_⟩
      simp at hb
      exact d i b (List.mem_append_left _ (List.mem_cons_of_mem _ (e3 b hb)))
theorem RX.swap {v w : V} {o p : OT} (h : RX K G F τ σ H en (v :: w :: vs) (o :: p :: os)) : RX K G F τ σ H en (w :: v :: vs) (p :: o :: os) := by
  obtain ⟨M, φ, B, S, E, r, d⟩ := h
  cases r with
  | cons r1 r2 h1 =>
    cases r2 with
    | cons r2 r3 h2 =>
      rename_i A C B
      refine ⟨M, φ, _, S, E, .cons r2 (.cons r1 r3 fun a ha hb => h1 a ha (List.mem_append_right _ hb)) (fun a ha hb => ?_), fun i a ha => ?_⟩
      · rcases List.mem_append.mp hb with hb | hb
        · exact h1 a hb (List.mem_append_left _ ha)
        · exact h2 a ha hb
      · refine d i a ?_
        simp only [List.mem_append] at ha ⊢
        rcases ha with h | h | h
        · exact .inr (.inl h)
        · exact .inl h
        · exact .inr (.inr h)
theorem RX.comm (h : RX K G F τ σ H en (vs ++ ws) (os ++ ps)) (hl : vs.length = os.length) : RX K G F τ σ H en (ws ++ vs) (ps ++ os) := by
  obtain ⟨M, φ, B, S, E, r, d⟩ := h
  obtain ⟨A, B, rfl, r1, r2, hd⟩ := RepOs.split hl r
  exact ⟨M, φ, B ++ A, S, E, RepOs.app r2 r1 (fun a ha hb => hd a hb ha), fun i a ha => d i a (by simp only [List.mem_append] at ha ⊢; exact ha.symm)⟩
mutual
/-- no frozen list of one's own in it -/
def noFr : OT → Bool
  | .fr _ => false
  | .own xs => noFrs xs
  | .tp xs => noFrs xs
  | _ => true
def noFrs : List OT → Bool
  | [] => true
  | o :: os => noFr o && noFrs os
end
mutual
theorem RepO.noTg {M : Hp} : ∀ (o : OT) (v : V) (A : List Addr), RepO K G M v o A → noFr o = true → ∀ a ∈ A, ∃ u, M a = some u ∧ isTg u = false
  | .d x, _, _, h, _, a, ha => by cases h; cases ha
  | .own os, _, _, h, e, a, ha => by
    cases h with
    | own h1 h2 h3 =>
      rcases List.mem_cons.mp ha with rfl | ha
      · exact ⟨_, h1, rfl⟩
      · exact RepOs.noTg os _ _ h2 (by simpa [noFr] using e) a ha
  | .fr os, _, _, h, e, a, ha => by simp [noFr] at e
  | .opq _, _, _, h, _, a, ha => by cases h; cases ha
  | .dic _ _, _, _, h, _, a, ha => by
    cases h with
    | dic h1 =>
      rcases List.mem_cons.mp ha with rfl | ha
      · exact ⟨_, h1, dicO_tg⟩
      · cases ha
  | .lkd _ _, _, _, h, _, a, ha => by cases h; cases ha
  | .tp os, _, _, h, e, a, ha => by
    cases h with
    | tp h1 h2 => exact RepOs.noTg os _ _ h2 (by simpa [noFr] using e) a ha
  | .leaf _ _, _, _, h, _, a, ha => by
    cases h with
    | leaf h1 h2 =>
      rcases List.mem_cons.mp ha with rfl | ha
      · exact ⟨_, h1, tagO_tg⟩
      · cases ha
  | .hole, _, _, h, _, a, ha => by cases h; cases ha
theorem RepOs.noTg {M : Hp} : ∀ (os : List OT) (vs : List V) (A : List Addr), RepOs K G M vs os A → noFrs os = true → ∀ a ∈ A, ∃ u, M a = some u ∧ isTg u = false
  | [], _, _, h, _, a, ha => by cases h; cases ha
  | o :: os, _, _, h, e, a, ha => by
    simp only [noFrs, Bool.and_eq_true] at e
    cases h with
    | cons h1 h2 h3 =>
      rcases List.mem_append.mp ha with ha | ha
      · exact RepO.noTg o _ _ h1 e.1 a ha
      · exact RepOs.noTg os _ _ h2 e.2 a ha
end
def realO (x : Option HO) (y : Option HO) : Option HO := match x with
  | some o => if isTg o = true then y else some o
  | none => y
/-- into a callee: the slots' things are others', what is frozen stays so -/
theorem RX.enter (h : RX K G F τ σ H en vs os) (hno : noFrs os = true) : ∃ F' : FS, F'.b = G ∧ RX K G F' [] [] H [] vs os ∧
    ∀ (G' H' : Hp) (ws : List V) (ps : List OT), Same G G' → RX K G' F' [] [] H' [] ws ps → RX K G' F τ σ H' en ws ps := by
  obtain ⟨M, φ, B, S, E, r, d⟩ := h
  have dm := RepOs.noTg _ _ _ r hno
  refine ⟨⟨fun a => if a ∈ B then F.f a else realO (M a) (F.f a), G⟩, rfl, ⟨fun a => if a ∈ B then M a else none, fun _ => [], B, ⟨fun a => ?_, fun a ps z => ?_, fun p hp => ⟨?_, (S.tab p hp).2⟩, Same.refl G, fun a u z => ?_⟩, ⟨rfl, fun i s hs => by simp at hs, fun _ _ => rfl, fun _ _ _ a ha => nomatch ha⟩, RepOs.at (Same.refl _) _ _ _ r (fun a ha => by simp [ha]), fun _ _ _ z => nomatch z⟩, fun G' H' ws ps sg ⟨M2, φ2, C, S2, E2, r2, d2⟩ => ?_⟩
  · by_cases ha : a ∈ B
    · have q := S.at_ a
      simpa [ha] using q
    · cases hm : M a with
      | none =>
        rcases S.at_ a with ⟨h1, h2, h3⟩ | ⟨h1, h2, h3, _⟩ | ⟨h1, h2, h3⟩ | ⟨h1, _⟩
        · exact .inl ⟨by simp [ha], by simp [ha, hm, realO, h2], h3⟩
        · exact .inl ⟨by simp [ha], by simp [ha, hm, realO, h2], by rw [h3, hm, h1]⟩
        · exact .inr (.inr (.inl ⟨h1, by simp [ha], by simpa [ha, hm, realO] using h3⟩))
        · rw [hm] at h1; cases h1
      | some o =>
        cases ht : isTg o with
        | true =>
          have e := isTg_eq ht
          subst e
          exact .inl ⟨by simp [ha], by simp [ha, hm, realO, ht, S.mf hm], (S.mt hm).1⟩
        | false =>
          rcases S.at_ a with ⟨h1, _⟩ | ⟨h1, h2, h3, _⟩ | ⟨_, h1, _⟩ | ⟨h1, _⟩
          · rw [hm] at h1; cases h1
          · exact .inr (.inr (.inl ⟨h1, by simp [ha], .inl (by simp [ha, hm, realO, ht, h3])⟩))
          · rw [hm] at h1; cases h1
          · rw [hm] at h1; cases h1; simp [isTg] at ht
  · try dsimp only at z
    split at z
    · exact S.nt a ps z
    · cases z
  · obtain ⟨ps, e⟩ := (S.tab p hp).1
    have q := S.tm hp
    by_cases hb : p ∈ B
    · exact ⟨ps, by simp [hb, e]⟩
    · exact ⟨ps, by simp [hb, e, q, realO]⟩
  · try dsimp only at z
    split at z
    · rename_i ha
      obtain ⟨w, hx, hw⟩ := dm a ha
      exact (S.mgo hx hw).1
    · cases z
  · have key : ∀ a o, a ∉ B → M a = some o → isTg o = false → M2 a = none ∧ G' a = none ∧ H' a = some o := fun a o ha hm ht => by
      have q := S2.at_ a
      simp only [if_neg ha, hm, realO, ht] at q
      rcases q with ⟨_, z, _⟩ | ⟨_, z, _⟩ | ⟨z1, z2, z3⟩ | ⟨_, z, _⟩
      · simp at z
      · simp at z
      · exact ⟨z2, z1, up_some (fun ps e => S.nt a ps (by rw [hm, e])) (by simpa using z3)⟩
      · simp at z
    have keyT : ∀ a, M a = some tg → M2 a = none ∧ F.f a = none ∧ H' a = G' a ∧ ∃ xs, G' a = some (.lst xs) := fun a hm => by
      obtain ⟨_, xs, hg⟩ := S.mt hm
      have f0 := S.mf hm
      have hg' := sg _ _ hg
      have m0 : M2 a = none := by
        cases q : M2 a with
        | none => rfl
        | some u =>
          have z := S2.mb a u q
          rw [show G a = none from z] at hg
          cases hg
      have q := S2.at_ a
      rcases q with ⟨_, _, z⟩ | ⟨z, _⟩ | ⟨z, _⟩ | ⟨z, _⟩
      · exact ⟨m0, f0, z, xs, hg'⟩
      · rw [hg'] at z; cases z
      · rw [hg'] at z; cases z
      · rw [m0] at z; cases z
    have none2 : ∀ a u, a ∉ B → M a = some u → M2 a = none := fun a u ha hm => by
      cases ht : isTg u with
      | true =>
        have e := isTg_eq ht
        subst e
        exact (keyT a hm).1
      | false => exact (key a u ha hm ht).1
    have nφ : ∀ i, ∀ a ∈ φ i, a ∉ B := fun i a ha hb => d i a hb ha
    have inφ : ∀ i, ∀ a ∈ φ i, M2 a = none := fun i a ha => by
      obtain ⟨xs, hx, _⟩ := E.dom ha
      exact none2 a _ (nφ i a ha) hx
    refine ⟨fun a => match M2 a with | some o => some o | none => if a ∈ B then none else M a, φ, C, ⟨fun a => ?_, fun a ps z => ?_, fun p hp => ⟨(S.tab p hp).1, (S2.tab p hp).2⟩, S.base.trans sg, fun a u z => ?_⟩, E.at sg (fun i a ha => by simp [inφ i a ha, nφ i a ha]), RepOs.at (Same.refl _) _ _ _ r2 (fun a ha => ?_), fun i a ha hb => ?_⟩
    · have q := S2.at_ a
      try dsimp only at q ⊢
      by_cases ha : a ∈ B
      · simp only [if_pos ha] at q ⊢
        cases hm : M2 a with
        | none => rw [hm] at q; exact q
        | some o => rw [hm] at q; exact q
      · cases hm : M a with
        | some o =>
          cases ht : isTg o with
          | true =>
            have e := isTg_eq ht
            subst e
            obtain ⟨k1, k2, k3⟩ := keyT a hm
            exact .inr (.inr (.inr ⟨by simp [k1, ha], k2, k3⟩))
          | false =>
            obtain ⟨k1, k2, k3⟩ := key a o ha hm ht
            exact .inr (.inl ⟨k2, S.mf hm, by simp [k1, ha, k3], by simp only [k1, if_neg ha]; intro z; cases z; simp [isTg] at ht⟩)
        | none =>
          simp only [if_neg ha, hm, realO] at q ⊢
          cases hm2 : M2 a with
          | none => rw [hm2] at q; exact q
          | some o => rw [hm2] at q; exact q
    · try dsimp only at z
      split at z
      · rename_i o ho
        cases z
        exact S2.nt a ps ho
      · split at z
        · cases z
        · exact S.nt a ps z
    · try dsimp only at z
      split at z
      · rename_i o ho
        exact S.base.free (S2.mb a o ho)
      · split at z
        · cases z
        · exact S.mb a u z
    · obtain ⟨xs, hx, _⟩ := RepOs.dom _ _ _ r2 a ha
      simp [hx]
    · obtain ⟨xs, hx, _⟩ := RepOs.dom _ _ _ r2 a ha
      rw [inφ i a hb] at hx; cases hx
end
/-! ### arguments, displays -/
def aNil : DA := fun en => .ok ([], en)
def aCons (da : DE) (dr : DA) : DA := fun en => bd (da en) fun p => bd (dr p.2) fun q => .ok (p.1 :: q.1, q.2)
def few (n : Nat) : Bool := decide (n ≤ 100000)
def eLst (da : DA) : DE := fun en => bd (da en) fun p => if few p.1.length then .ok (.own p.1, p.2) else .error .stuck
def eTup (da : DA) : DE := fun en => bd (da en) fun p => match frzs p.1 with
  | some xs => if few p.1.length then .ok (.d (.tuple xs), p.2) else .error .stuck
  | none => .error .stuck
theorem few_le {n : Nat} (h : few n = true) : n ≤ sizeLine := by
  rw [sizeLine_eq]; have := of_decide_eq_true h; omega
theorem few_lt {n : Nat} (h : few n = true) : n < sizeLine := by
  rw [sizeLine_eq]; have := of_decide_eq_true h; omega
theorem frzs_length : ∀ {os : List OT} {xs : List PyData}, frzs os = some xs → xs.length = os.length
  | [], xs, h => by simp [frzs] at h; subst h; rfl
  | o :: os, xs, h => by
    simp only [frzs] at h
    split at h
    · rename_i y ys e1 e2
      cases h
      simp [frzs_length e2]
    · cases h
section
variable {X : Cx} {W : WX} {e : Expr} {es : List Expr} {da : DE} {dr : DA} {pos : Pos}
theorem AX_nil : AX X W [] aNil := PA.imp pa_nil fun σ H Q q => by
  obtain ⟨G, F, τ, en, h, hp⟩ := q
  exact hp G H [] (Same.refl G) h
theorem AX_cons (ha : EX X W e da) (hr : AX X W es dr) (hs : starEach (e :: es) X.env = (false, eval e X.env) :: starEach es X.env := by rfl) : AX X W (e :: es) (aCons da dr) := PA.imp (pa_cons ha hr hs) fun σ H Q q => by
  obtain ⟨G, F, τ, en, h, hp⟩ := q
  refine bindE h hp fun o e1 hp1 G1 H1 v s1 h1 => ?_
  refine bindA (vs := [v]) (os := [o]) h1 (hp1.mono s1) fun os e2 hp2 G2 H2 vs s2 h2 => ?_
  exact hp2 G2 H2 (v :: vs) s2 h2
theorem EX_lst (ha : AX X W es dr) : EX X W (.List es pos) (eLst dr) := PE.imp (pe_lst ha) fun σ H Q q => by
  obtain ⟨G, F, τ, en, h, hp⟩ := q
  refine bindA (vs := []) (os := []) h hp fun os e1 hp1 G1 H1 vs s1 h1 => ?_
  dsimp only at hp1
  split at hp1
  · rename_i hf
    have hl := RX.vlen (vs := vs) (os := os) h1
    refine ⟨by rw [hl]; exact few_le hf, fun p np => ?_⟩
    exact hp1 G1 _ [.ref p] s1 (RX.newL0 (vs := vs) (os := os) h1 np) (.ref p) rfl
  · exact hp1.elim
theorem EX_tup {c} (ha : AX X W es dr) : EX X W (.Tuple es c pos) (eTup dr) := PE.imp (pe_tup ha) fun σ H Q q => by
  obtain ⟨G, F, τ, en, h, hp⟩ := q
  refine bindA (vs := []) (os := []) h hp fun os e1 hp1 G1 H1 vs s1 h1 => ?_
  dsimp only at hp1
  split at hp1
  · rename_i xs ex
    split at hp1
    · rename_i hf
      have hl := RX.vlen (vs := vs) (os := os) h1
      refine ⟨by rw [hl]; exact few_le hf, fun p np => ?_⟩
      obtain ⟨G2, s2, dv, h2⟩ := RX.freezeA (vs := vs) (os := os) h1 ex
      obtain ⟨s3, h3⟩ := h2.newG (u := .tup vs) np
      exact hp1 _ _ [.ref p] (s1.trans (s2.trans s3)) (h3.withD (.tup (SqT.of upd_same) (dps_same s3 _ _ dv))) (.ref p) rfl
    · exact hp1.elim
  · exact hp1.elim
end
/-! ### items, lengths -/
theorem atI_dp {K : PySem.W.Frag} {H : Hp} {vs : List V} {xs : List PyData} (h : DpAll K H vs xs) {i : Int} {x : PyData} (e : atI xs i = some x) : ∃ v, atI vs i = some v ∧ Dp K H v x := by
  unfold atI at e ⊢
  rw [DpAll.length h]
  cases q : ixN xs.length i with
  | none => rw [q] at e; cases e
  | some j =>
    rw [q] at e
    exact DpAll.get h e
def eIx (da db : DE) : DE := fun en => bd (da en) fun p => bd (db p.2) fun q => match p.1, q.1 with
  | .d (.list xs), .d (.int i) => (match atI xs i with | some x => .ok (.d x, q.2) | none => .error .stuck)
  | .d (.tuple xs), .d (.int i) => (match atI xs i with | some x => .ok (.d x, q.2) | none => .error .stuck)
  | .own os, .d (.int i) => (match atI os i with | some o => .ok (o, q.2) | none => .error .stuck)
  | _, _ => .error .stuck
section
variable {X : Cx} {W : WX} {a b : Expr} {da db : DE} {pos : Pos}
theorem EX_ix (ha : EX X W a da) (hb : EX X W b db) (hs : PlainIx b := by exact fun _ _ => rfl) : EX X W (.Subscript a b pos) (eIx da db) := PE.imp (pe_ix ix_seq ha hb hs) fun σ H Q q => by
  obtain ⟨G, F, τ, en, h, hp⟩ := q
  refine bindE h hp fun o e1 hp1 G1 H1 v s1 h1 => ?_
  refine bindE (vs := [v]) (os := [o]) h1 (hp1.mono s1) fun p e2 hp2 G2 H2 w s2 h2 => ?_
  dsimp only at hp2
  split at hp2
  · rename_i xs i
    split at hp2
    · rename_i x ex
      have dw := RX.data (vs := []) (os := []) (RX.right (vs := [v]) (os := [OT.d (.list xs)]) rfl h2) rfl
      cases dw
      have dv := RX.dataG (vs := [.int i]) (os := [OT.d (.int i)]) h2
      cases dv with
      | lst hs ha =>
        obtain ⟨u, eu, du⟩ := atI_dp ha ex
        exact .inl ⟨_, _, i, u, rfl, rfl, h2.same.seq hs, eu, hp2 G2 H2 [u] s2 (RX.withD h2.nil du) u rfl⟩
    · exact hp2.elim
  · rename_i xs i
    split at hp2
    · rename_i x ex
      have dw := RX.data (vs := []) (os := []) (RX.right (vs := [v]) (os := [OT.d (.tuple xs)]) rfl h2) rfl
      cases dw
      have dv := RX.dataG (vs := [.int i]) (os := [OT.d (.int i)]) h2
      cases dv with
      | tup hs ha =>
        obtain ⟨u, eu, du⟩ := atI_dp ha ex
        exact .inr (.inl ⟨_, _, i, u, rfl, rfl, sqT_same h2.same hs, eu, hp2 G2 H2 [u] s2 (RX.withD h2.nil du) u rfl⟩)
    · exact hp2.elim
  · rename_i os i
    split at hp2
    · rename_i x ex
      have dw := RX.data (vs := []) (os := []) (RX.right (vs := [v]) (os := [OT.own os]) rfl h2) rfl
      cases dw
      obtain ⟨a, xs, rfl, hH, hl, pk⟩ := RX.pick (vs := [.int i]) (ps := [OT.d (.int i)]) h2
      unfold atI at ex
      cases q : ixN os.length i with
      | none => rw [q] at ex; cases ex
      | some j =>
        rw [q] at ex
        obtain ⟨u, eu, hu⟩ := pk j x ex
        refine .inl ⟨a, xs, i, u, rfl, rfl, SqL.of hH, ?_, hp2 G2 H2 [u] s2 hu u rfl⟩
        unfold atI
        rw [hl, q]
        exact eu
    · exact hp2.elim
  · exact hp2.elim
end
def dlen : OT → Option Nat
  | .d (.list xs) => some xs.length
  | .d (.tuple xs) => some xs.length
  | .own os => some os.length
  | _ => none
def eLen (da : DE) : DE := fun en => bd (da en) fun p => match dlen p.1 with
  | some n => .ok (.d (.int n), p.2)
  | none => .error .stuck
section
variable {X : Cx} {W : WX} {a b : Expr} {da db : DE} {p pos : Pos}
theorem EX_len (hg : Gl X "len") (hm : X.mg "len" = none) (ha : EX X W a da) (he : starEach (a :: []) X.env = (false, eval a X.env) :: starEach [] X.env := by rfl) (hpl : (backTo pos (starEach [] X.env)).any (·.1) = false := by rfl) : EX X W (.Call (.Name "len" p) [a] [] pos) (eLen da) :=
  PE.imp (pe_callB call_len_seq hg hm PySem.boot_len (pa_cons ha pa_nil he) (he := he) (hpl := hpl)) fun σ H Q q => by
  obtain ⟨G, F, τ, en, h, hp⟩ := q
  refine bindE h hp fun o e1 hp1 G1 H1 v s1 h1 => ?_
  have h1 : RX X.K G1 F τ σ H1 e1 [v] [o] := h1
  have fin : ∀ n : Nat, dlen o = some n → Q (.int n) H1 := fun n en => by
    dsimp only at hp1
    rw [en] at hp1
    exact hp1 G1 H1 [.int n] s1 (h1.nil.withD (.int _)) _ rfl
  cases o with
  | d x =>
    cases x with
    | list xs =>
      cases h1.data rfl with
      | lst hs ha => exact ⟨_, _, rfl, .inl hs, by rw [DpAll.length ha]; exact fin _ rfl⟩
    | tuple xs =>
      cases h1.data rfl with
      | tup hs ha => exact ⟨_, _, rfl, .inr hs, by rw [DpAll.length ha]; exact fin _ rfl⟩
    | _ => exact hp1.elim
  | own os =>
    obtain ⟨a, xs, rfl, hH, hl, _⟩ := RX.pick (vs := []) (ps := []) h1
    exact ⟨_, _, rfl, .inl (SqL.of hH), by rw [hl]; exact fin _ rfl⟩
  | _ => exact hp1.elim
end
end Lf
end
section
set_option Elab.async false
set_option linter.all false
set_option maxRecDepth 100000
namespace Lf
open PySem PySem.Spec L2
variable [Tabs]
/-! ### tests -/
def tV (da : DE) : DT := fun en => bd (da en) fun p => match p.1 with
  | .d (.bool b) => .ok (b, p.2)
  | _ => .error .stuck
def tNt (d : DT) : DT := fun en => bd (d en) fun p => .ok (!p.1, p.2)
def tAn (d e : DT) : DT := fun en => bd (d en) fun p => if p.1 = true then e p.2 else .ok (false, p.2)
def tOr' (d e : DT) : DT := fun en => bd (d en) fun p => if p.1 = true then .ok (true, p.2) else e p.2
def eAn (d e : DE) : DE := fun en => bd (d en) fun p => match p.1 with
  | .d (.bool true) => e p.2
  | .d (.bool false) => .ok (.d (.bool false), p.2)
  | _ => .error .stuck
def eIf (c : DT) (d e : DE) : DE := fun en => bd (c en) fun p => if p.1 = true then d p.2 else e p.2
section
variable {X : Cx} {W : WX} {a b e c : Expr} {da db : DE} {dt du : DT} {pos : Pos} {rest : List Expr}
theorem liftT_b {σ : St} {H : Hp} {Q : Bool → Hp → Prop} {K : PySem.W.Frag} (q : liftT K W (tV da) σ H Q) : tB (liftE K W da) σ H Q := by
  obtain ⟨G, F, τ, en, h, hp⟩ := q
  refine bindE h hp fun o e1 hp1 G1 H1 v s1 h1 => ?_
  dsimp only at hp1
  split at hp1
  · rename_i bb
    cases RX.data (vs := []) (os := []) h1 rfl
    exact ⟨bb, rfl, hp1 G1 H1 [] s1 (RX.nil (vs := [.bl bb]) (os := [OT.d (.bool bb)]) h1)⟩
  · exact hp1.elim
theorem TX_val (ha : EX X W a da) (he : ∀ whole, isTrue a X.env whole = (do let v ← whole; standAt a.pos; holding [v] (truthy v)) := by intro _; rfl) : TX X W a (tV da) :=
  PT.imp (pt_val ha he) fun σ H Q q => liftT_b q
theorem TX_cmp {op : CmpOp} {f : PyData → PyData → Option PyData} {r : R2} (ho : OpR X (compareOp op) r) (hm : behindInMarks op b = false) (hf : Flat2 X.K r f) (ha : EX X W a da) (hb : EX X W b db) : TX X W (.Compare a [op] [b] pos) (tV (eOp2 f da db)) :=
  PT.imp (pt_cmpR ho ha hb hm) fun σ H Q q => by
    obtain ⟨G, F, τ, en, h, hp⟩ := q
    refine lift2 (f := f) hf (Q := fun x H1 => ∃ c, x = .bl c ∧ Q c H1) ?_
    refine ⟨G, F, τ, en, h, ?_⟩
    unfold tV at hp
    revert hp
    match eOp2 f da db en with
    | .ok (o, e1) =>
      intro hp G' H' vs s x v ev
      subst ev
      simp only [bd] at hp
      split at hp
      · rename_i bb
        cases RX.data (vs := []) (os := []) x rfl
        exact ⟨bb, rfl, hp G' H' [] s (RX.nil (vs := [.bl bb]) (os := [OT.d (.bool bb)]) x)⟩
      · exact hp.elim
    | .error .stuck => exact fun hp => hp
    | .error (.exn c e1) => exact fun hp => hp
theorem TX_not (ha : TX X W a dt) : TX X W (.UnaryOp .Not a pos) (tNt dt) := PT.imp (pt_not ha) fun σ H Q q => by
  obtain ⟨G, F, τ, en, h, hp⟩ := q
  refine bindT h hp fun o e1 hp1 G1 H1 s1 h1 => ?_
  exact hp1 G1 H1 [] s1 h1
theorem TW_and1 (ha : TX X W a dt) : TW X W (.BoolOp .And [a] pos) dt := pw_and1 ha
theorem TW_or1 (ha : TX X W a dt) : TW X W (.BoolOp .Or [a] pos) dt := pw_or1 ha
theorem TW_and (ha : TX X W a dt) (hb : TW X W (.BoolOp .And (b :: rest) pos) du) : TW X W (.BoolOp .And (a :: b :: rest) pos) (tAn dt du) := PW.imp (pw_and ha hb) fun σ H Q q => by
  obtain ⟨G, F, τ, en, h, hp⟩ := q
  refine bindT h hp fun o e1 hp1 G1 H1 s1 h1 => ?_
  dsimp only at hp1
  cases o with
  | true => rw [if_pos rfl] at hp1 ⊢; exact ⟨G1, F, τ, e1, h1, hp1.mono s1⟩
  | false => rw [if_neg Bool.false_ne_true] at hp1 ⊢; exact hp1 G1 H1 [] s1 h1
theorem TW_or (ha : TX X W a dt) (hb : TW X W (.BoolOp .Or (b :: rest) pos) du) : TW X W (.BoolOp .Or (a :: b :: rest) pos) (tOr' dt du) := PW.imp (pw_or ha hb) fun σ H Q q => by
  obtain ⟨G, F, τ, en, h, hp⟩ := q
  refine bindT h hp fun o e1 hp1 G1 H1 s1 h1 => ?_
  dsimp only at hp1
  cases o with
  | false => rw [if_neg Bool.false_ne_true] at hp1 ⊢; exact ⟨G1, F, τ, e1, h1, hp1.mono s1⟩
  | true => rw [if_pos rfl] at hp1 ⊢; exact hp1 G1 H1 [] s1 h1
theorem TX_w (h : TW X W a dt) : TX X W a dt := h.pt
theorem EX_one {op} (ha : EX X W a da) : EX X W (.BoolOp op [a] pos) da := pe_one ha
theorem EX_and (ha : EX X W a da) (hb : EX X W (.BoolOp .And (b :: rest) pos) db) : EX X W (.BoolOp .And (a :: b :: rest) pos) (eAn da db) := PE.imp (pe_and ha hb) fun σ H Q q => by
  obtain ⟨G, F, τ, en, h, hp⟩ := q
  refine bindE h hp fun o e1 hp1 G1 H1 v s1 h1 => ?_
  dsimp only at hp1
  split at hp1
  · cases RX.data (vs := []) (os := []) h1 rfl
    exact ⟨true, rfl, by rw [if_pos rfl]; exact ⟨G1, F, τ, e1, RX.nil (vs := [.bl true]) (os := [OT.d (.bool true)]) h1, hp1.mono s1⟩⟩
  · cases RX.data (vs := []) (os := []) h1 rfl
    exact ⟨false, rfl, by rw [if_neg Bool.false_ne_true]; exact hp1 G1 H1 _ s1 h1 _ rfl⟩
  · exact hp1.elim
end
/-! ### statements -/
def PostS (K : PySem.W.Frag) (G : Hp) (F : FS) (τ : St) (W : WX) (D : Ends) : R (Fl × En) → Prop
  | .ok (.nx, en) => ∀ G' σ' H', Same G G' → RX K G' F τ σ' H' en [] [] → D.nx σ' H'
  | .ok (.bk, en) => ∀ G' σ' H', Same G G' → RX K G' F τ σ' H' en [] [] → D.bk σ' H'
  | .ok (.ct, en) => ∀ G' σ' H', Same G G' → RX K G' F τ σ' H' en [] [] → D.ct σ' H'
  | .ok (.rt o, en) => ∀ G' σ' H' v, Same G G' → RX K G' F τ σ' H' en [v] [o] → D.rt v H'
  | .error .stuck => False
  | .error (.exn c en) => ∀ G' σ' H', Same G G' → RX K G' F τ σ' H' en [] [] → W c none σ' H'
def liftS (K : PySem.W.Frag) (W : WX) (d : DS) : TS := fun D σ H => ∃ G F τ en, RX K G F τ σ H en [] [] ∧ PostS K G F τ W D (d en)
abbrev SX (X : Cx) (W : WX) (st : Stmt) (d : DS) : Prop := PS X st (liftS X.K W d)
abbrev SXs (X : Cx) (W : WX) (st : List Stmt) (d : DS) : Prop := PSs X st (liftS X.K W d)
section
variable {K : PySem.W.Frag} {G G' H : Hp} {F : FS} {τ σ : St} {W : WX} {en : En} {D : Ends}
theorem PostS.mono {r : R (Fl × En)} (s : Same G G') (h : PostS K G F τ W D r) : PostS K G' F τ W D r := by
  match r, h with
  | .ok (.nx, en), h => exact fun G2 σ2 H2 s2 x => h G2 σ2 H2 (s.trans s2) x
  | .ok (.bk, en), h => exact fun G2 σ2 H2 s2 x => h G2 σ2 H2 (s.trans s2) x
  | .ok (.ct, en), h => exact fun G2 σ2 H2 s2 x => h G2 σ2 H2 (s.trans s2) x
  | .ok (.rt o, en), h => exact fun G2 σ2 H2 v s2 x => h G2 σ2 H2 v (s.trans s2) x
  | .error (.exn c en), h => exact fun G2 σ2 H2 s2 x => h G2 σ2 H2 (s.trans s2) x
/-- an expression in front of the rest of a statement -/
theorem bindES {da : DE} {kk : OT × En → R (Fl × En)} {Rk : VK} (h : RX K G F τ σ H en [] []) (hp : PostS K G F τ W D (bd (da en) kk))
    (hk : ∀ o e1, PostS K G F τ W D (kk (o, e1)) → ∀ G' H' v, Same G G' → RX K G' F τ σ H' e1 [v] [o] → Rk v H') : liftE K W da σ H Rk := by
  refine ⟨G, F, τ, en, h, ?_⟩
  revert hp
  match da en with
  | .ok (o, e1) => exact fun hp G2 H2 vs2 s2 x v ev => hk o e1 hp G2 H2 v s2 (by subst ev; exact x)
  | .error .stuck => exact fun hp => hp
  | .error (.exn c e1) => exact fun hp G2 H2 s2 x => hp G2 σ H2 s2 x
theorem bindTS {da : DT} {kk : Bool × En → R (Fl × En)} {Rk : Bool → Hp → Prop} (h : RX K G F τ σ H en [] []) (hp : PostS K G F τ W D (bd (da en) kk))
    (hk : ∀ o e1, PostS K G F τ W D (kk (o, e1)) → ∀ G' H', Same G G' → RX K G' F τ σ H' e1 [] [] → Rk o H') : liftT K W da σ H Rk := by
  refine ⟨G, F, τ, en, h, ?_⟩
  revert hp
  match da en with
  | .ok (o, e1) => exact fun hp G2 H2 vs2 s2 x => hk o e1 hp G2 H2 s2 x.nil
  | .error .stuck => exact fun hp => hp
  | .error (.exn c e1) => exact fun hp G2 H2 s2 x => hp G2 σ H2 s2 x
end
def dNx : DS := fun en => .ok (.nx, en)
def dSq (d e : DS) : DS := fun en => bd (d en) fun p => match p.1 with
  | .nx => e p.2
  | f => .ok (f, p.2)
def stor (i : Nat) (o : OT) (en : En) : Option En := match en[i]? with
  | some (.p _) => none
  | some _ => some (en.set i (.v o))
  | none => none
def dSet (i : Nat) (da : DE) : DS := fun en => bd (da en) fun p => match stor i p.1 p.2 with
  | some e1 => .ok (.nx, e1)
  | none => .error .stuck
def dRt (da : DE) : DS := fun en => bd (da en) fun p => .ok (.rt p.1, p.2)
def dEx (da : DE) : DS := fun en => bd (da en) fun p => .ok (.nx, p.2)
def dIf (c : DT) (d e : DS) : DS := fun en => bd (c en) fun p => if p.1 = true then d p.2 else e p.2
theorem RX.stor {K : PySem.W.Frag} {G H : Hp} {F : FS} {τ σ : St} {en e1 : En} {v : V} {vs : List V} {o : OT} {os : List OT} {i : Nat} (h : RX K G F τ σ H en (v :: vs) (o :: os)) (e : Lf.stor i o en = some e1) : RX K G F τ (σ.set i (some v)) H e1 vs os := by
  unfold Lf.stor at e
  split at e
  · cases e
  · rename_i s _ hs
    cases e
    exact h.store (List.getElem?_eq_some_iff.mp hs).1
  · cases e
section
variable {X : Cx} {W : WX} {e c : Expr} {da : DE} {dt : DT} {d d' : DS} {pos : Pos} {st : Stmt} {a b rest : List Stmt}
theorem SXs_nil : SXs X W [] dNx := PSs.imp pss_nil fun D σ H q => by
  obtain ⟨G, F, τ, en, h, hp⟩ := q
  exact hp G σ H (Same.refl G) h
theorem SXs_cons (h1 : SX X W st d) (h2 : SXs X W rest d') : SXs X W (st :: rest) (dSq d d') := PSs.imp (pss_cons h1 h2) fun D σ H q => by
  obtain ⟨G, F, τ, en, h, hp⟩ := q
  refine ⟨G, F, τ, en, h, ?_⟩
  unfold dSq at hp
  revert hp
  match d en with
  | .ok (.nx, e1) => exact fun hp G2 σ2 H2 s2 x => ⟨G2, F, τ, e1, x, hp.mono s2⟩
  | .ok (.bk, e1) => exact fun hp => hp
  | .ok (.ct, e1) => exact fun hp => hp
  | .ok (.rt o, e1) => exact fun hp => hp
  | .error .stuck => exact fun hp => hp
  | .error (.exn c e1) => exact fun hp => hp
theorem SXs_one (h1 : SX X W st d) : SXs X W [st] d := pss_one h1
theorem SX_set {i : Nat} {x : Str} {pos' : Pos} (hN : X.N.Nodup) (hi : X.N[i]? = some x) (hx : Loc X.env.scope x) (he : EX X W e da) (hs : swapsWith e (some (.Name x pos')) pos.line X.env = pure false := by rfl) (hf : X.fn x = true ∨ X.env.scope.names.lookup x = some .local := by first | exact .inl rfl | exact .inr rfl | assumption) :
    SX X W (.Assign [.Name x pos'] e pos) (dSet i da) := PS.imp (ps_set hN hi hx he hs hf) fun D σ H q => by
  obtain ⟨G, F, τ, en, h, hp⟩ := q
  refine bindES h hp fun o e1 hp1 G1 H1 v s1 h1 => ?_
  dsimp only at hp1
  split at hp1
  · rename_i e2 he2
    exact hp1 G1 _ H1 s1 (h1.stor he2)
  · exact hp1.elim
theorem SX_ret (he : EX X W e da) : SX X W (.Return (some e) pos) (dRt da) := PS.imp (ps_ret he) fun D σ H q => by
  obtain ⟨G, F, τ, en, h, hp⟩ := q
  refine bindES h hp fun o e1 hp1 G1 H1 v s1 h1 => ?_
  exact hp1 G1 σ H1 v s1 h1
theorem SX_expr (he : EX X W e da) (hs : swapsWith e none pos.line X.env = pure false := by rfl) : SX X W (.Expr e pos) (dEx da) := PS.imp (ps_expr he hs) fun D σ H q => by
  obtain ⟨G, F, τ, en, h, hp⟩ := q
  refine bindES h hp fun o e1 hp1 G1 H1 v s1 h1 => ?_
  exact hp1 G1 σ H1 s1 h1.nil
theorem SX_if (hc : TX X W c dt) (ha : SXs X W a d) (hb : SXs X W b d') : SX X W (.If c a b pos) (dIf dt d d') := PS.imp (ps_if hc ha hb) fun D σ H q => by
  obtain ⟨G, F, τ, en, h, hp⟩ := q
  refine bindTS h hp fun o e1 hp1 G1 H1 s1 h1 => ?_
  dsimp only at hp1
  cases o with
  | true => rw [if_pos rfl] at hp1 ⊢; exact ⟨G1, F, τ, e1, h1, hp1.mono s1⟩
  | false => rw [if_neg Bool.false_ne_true] at hp1 ⊢; exact ⟨G1, F, τ, e1, h1, hp1.mono s1⟩
end
/-! ### targets -/
abbrev DG := PyData → En → Option En
def gNm (i : Nat) : DG := fun x en => stor i (.d x) en
def gNms : List Nat → List PyData → En → Option En
  | [], [], en => some en
  | i :: is, x :: xs, en => (stor i (.d x) en).bind fun e1 => gNms is xs e1
  | _, _, _ => none
def gTp (is : List Nat) : DG := fun x en => match x with
  | .tuple xs => gNms is xs en
  | _ => none
/-- σ' is σ but at the slots is -/
def Off (is : List Nat) (σ σ' : St) : Prop := σ'.length = σ.length ∧ ∀ j, j ∉ is → σ'[j]? = σ[j]?
def liftG (K : PySem.W.Frag) (is : List Nat) (g : DG) : TG := fun v σ H Q => ∃ G F τ en x, RX K G F τ σ H en [v] [.d x] ∧ match g x en with
  | some e1 => ∀ σ', Off is σ σ' → RX K G F τ σ' H e1 [] [] → Q σ' H
  | none => False
abbrev GX (X : Cx) (tg : Expr) (is : List Nat) (g : DG) : Prop := PG X tg (liftG X.K is g)
def liftGs (K : PySem.W.Frag) (js is : List Nat) : TGs := fun vs σ H Q => ∃ G F τ en xs, RX K G F τ σ H en [] [] ∧ DpAll K G vs xs ∧ match gNms is xs en with
  | some e1 => ∀ σ', Off js σ σ' → RX K G F τ σ' H e1 [] [] → Q σ' H
  | none => False
theorem Off.set {is : List Nat} {σ : St} {i : Nat} {v : Option V} (h : i ∈ is) : Off is σ (σ.set i v) :=
  ⟨by simp, fun j hj => List.getElem?_set_ne (fun e => hj (by rw [← e]; exact h))⟩
theorem Off.trans {is : List Nat} {a b c : St} (h : Off is a b) (k : Off is b c) : Off is a c := ⟨k.1.trans h.1, fun j hj => (k.2 j hj).trans (h.2 j hj)⟩
section
variable {X : Cx} {pos : Pos}
theorem GX_name {i : Nat} {x : Str} (hN : X.N.Nodup) (hi : X.N[i]? = some x) (hx : Loc X.env.scope x) (hf : X.fn x = true ∨ X.env.scope.names.lookup x = some .local := by first | exact .inl rfl | exact .inr rfl | assumption) : GX X (.Name x pos) [i] (gNm i) :=
  PG.imp (pg_name hN hi hx hf) fun v σ H Q q => by
    obtain ⟨G, F, τ, en, x, h, hp⟩ := q
    unfold gNm at hp
    split at hp
    · rename_i e1 he
      exact hp _ (Off.set (by simp)) (h.stor he)
    · exact hp.elim
theorem GXs_nil {js : List Nat} : PGs X [] (liftGs X.K js []) := PGs.imp pgs_nil fun vs σ H Q q => by
  obtain ⟨G, F, τ, en, xs, h, dv, hp⟩ := q
  cases xs with
  | nil => cases dv; exact ⟨rfl, hp σ ⟨rfl, fun _ _ => rfl⟩ h⟩
  | cons x xs => exact hp.elim
theorem GXs_cons {e : Expr} {es : List Expr} {i : Nat} {js is : List Nat} (h1 : PG X e (gName i)) (h2 : PGs X es (liftGs X.K js is)) (hj : i ∈ js) (hs : (assignEach (e :: es) X.env).map (·.2) = assign e X.env :: (assignEach es X.env).map (·.2) := by rfl) : PGs X (e :: es) (liftGs X.K js (i :: is)) :=
  PGs.imp (pgs_cons h1 h2 hs) fun vs σ H Q q => by
    obtain ⟨G, F, τ, en, xs, h, dv, hp⟩ := q
    cases xs with
    | nil => exact hp.elim
    | cons x xs =>
      cases dv with
      | cons d1 d2 =>
        rename_i v vs
        refine ⟨v, vs, rfl, ?_⟩
        simp only [gNms] at hp
        cases e : stor i (.d x) en with
        | none => rw [e] at hp; exact hp.elim
        | some e1 =>
          rw [e] at hp
          have h1 := (RX.withD h d1).stor e
          refine ⟨G, F, τ, e1, xs, h1, d2, ?_⟩
          revert hp
          simp only [Option.bind_some]
          split
          · exact fun hp σ' o x => hp σ' ((Off.set hj).trans o) x
          · exact fun hp => hp
theorem GX_tup {es : List Expr} {k : Nat} {is : List Nat} (hc : X.calm = true) (h : PGs X es (liftGs X.K is is)) (hl : is.length = es.length := by rfl) (hn : (assignEach es X.env).length = es.length := by rfl) (hst : (assignEach es X.env).findIdx? (·.1) = none := by rfl) : GX X (.Tuple es k pos) is (gTp is) :=
  PG.imp (pg_tup hc h hn hst) fun v σ H Q q => by
    obtain ⟨G, F, τ, en, x, h, hp⟩ := q
    unfold gTp at hp
    split at hp
    · rename_i e1 he
      split at he
      · rename_i xs
        cases h.dataG with
        | tup hs ha =>
          have len : xs.length = is.length := by
            have : ∀ (is : List Nat) (xs : List PyData) (en : En), gNms is xs en = some e1 → xs.length = is.length := by
              intro is
              induction is with
              | nil => intro xs en e; cases xs with | nil => rfl | cons _ _ => simp [gNms] at e
              | cons i is ih =>
                intro xs en e
                cases xs with
                | nil => simp [gNms] at e
                | cons x xs =>
                  simp only [gNms, Option.bind_eq_some_iff] at e
                  obtain ⟨e2, _, e⟩ := e
                  simp [ih xs e2 e]
            exact this is xs en he
          exact ⟨_, _, rfl, sqT_same h.same hs, by rw [DpAll.length ha, len, hl], G, F, τ, en, xs, h.nil, ha, by rw [he]; exact hp⟩
      · cases he
    · exact hp.elim
end
/-! ### what is walked -/
/-- J goes through the data xs, as long as what is frozen in G stands -/
structure ItS (K : PySem.W.Frag) (G : Hp) (J : It) (xs : List PyData) : Prop where
  go : ∀ i H, Same G H → i < xs.length → J.go i H
  stop : ∀ H, Same G H → J.stop xs.length H
  yld : ∀ i H x H' G1 F τ σ en vs os, i < xs.length → Same G G1 → RX K G1 F τ σ H en vs os → J.yld i H x H' → ∃ d G2, xs[i]? = some d ∧ Same G1 G2 ∧ RX K G2 F τ σ H' en (x :: vs) (.d d :: os)
abbrev DI := En → R (List PyData × En)
def liftI (K : PySem.W.Frag) (W : WX) (di : DI) : TI := fun σ H Rr => ∃ G F τ en, RX K G F τ σ H en [] [] ∧ match di en with
  | .ok (xs, e1) => ∀ G' H' J, Same G G' → RX K G' F τ σ H' e1 [] [] → ItS K G' J xs → Rr J H'
  | .error .stuck => False
  | .error (.exn c e1) => ∀ G' H', Same G G' → RX K G' F τ σ H' e1 [] [] → W c none σ H'
abbrev IX (X : Cx) (W : WX) (tg iter : Expr) (di : DI) : Prop := PI X tg iter (liftI X.K W di)
/-- the items of a list or a tuple -/
def dItems : PyData → Option (List PyData)
  | .list xs => some xs
  | .tuple xs => some xs
  | _ => none
def iSq (da : DE) : DI := fun en => bd (da en) fun p => match (frz p.1).bind dItems with
  | some xs => .ok (xs, p.2)
  | none => .error .stuck
theorem its_list {K : PySem.W.Frag} {G : Hp} {a : Addr} {vs : List V} {xs : List PyData} (hs : SqL K G a vs) (ha : DpAll K G vs xs) : ItS K G (Itl K a) xs where
  go := fun i H s hi => by
    obtain ⟨v, hv, _⟩ := DpAll.get ha (List.getElem?_eq_getElem hi)
    exact ⟨vs, v, s.seq hs, hv⟩
  stop := fun H s => ⟨vs, s.seq hs, by rw [DpAll.length ha]; exact Nat.le_refl _⟩
  yld := fun i H x H' G1 F τ σ en ws os hi s h y => by
    obtain ⟨rfl, y⟩ := y
    obtain ⟨d, hd, dv⟩ := DpAll.get' ha (y vs ((s.trans h.same).seq hs))
    exact ⟨d, G1, hd, Same.refl _, h.withD (dp_same s _ _ dv)⟩
theorem its_tup {K : PySem.W.Frag} {G : Hp} {a : Addr} {vs : List V} {xs : List PyData} (hs : SqT K G a vs) (ha : DpAll K G vs xs) : ItS K G (Itt K a) xs where
  go := fun i H s hi => by
    obtain ⟨v, hv, _⟩ := DpAll.get ha (List.getElem?_eq_getElem hi)
    exact ⟨vs, v, sqT_same s hs, hv⟩
  stop := fun H s => ⟨vs, sqT_same s hs, by rw [DpAll.length ha]; exact Nat.le_refl _⟩
  yld := fun i H x H' G1 F τ σ en ws os hi s h y => by
    obtain ⟨rfl, y⟩ := y
    obtain ⟨d, hd, dv⟩ := DpAll.get' ha (y vs (sqT_same (s.trans h.same) hs))
    exact ⟨d, G1, hd, Same.refl _, h.withD (dp_same s _ _ dv)⟩
def iLT (K : PySem.W.Frag) (tl : TE) : TI := fun σ H R => tl σ H fun x H1 => ∃ a, x = .ref a ∧ (((∃ xs, SqL K H1 a xs) ∧ R (Itl K a) H1) ∨ ((∃ xs, SqT K H1 a xs) ∧ R (Itt K a) H1))
section
variable {X : Cx} {W : WX} {tg l : Expr} {da : DE}
theorem pi_lt {tl : TE} (hl : PE X l tl) : PI X tg l (iLT X.K tl) := by
  refine ⟨fun pins s σ H R I h => ?_⟩
  refine thn (hl.run pins s σ H _ I h) fun v s1 ⟨x, H1, I1, r1, q1⟩ => ?_
  obtain ⟨a, e, q⟩ := q1
  subst e
  cases r1
  rcases q with ⟨⟨xs, hq⟩, q⟩ | ⟨⟨xs, hq⟩, q⟩
  · obtain ⟨its, rv, p, hz⟩ := I1.list hq
    refine wpAny_pyIter_list p.isList ?_
    refine ⟨s1.heap.objs.size, [s1.heap.objs.size], _, _, H1, rfl, I1.kept (t' := s1.toks) fun b o e => Heap.get?_push_of_some _ e, turn_list a _, ⟨_, Heap.get?_push_size _ rfl, rfl, rfl⟩, fun b hb => ?_, q⟩
    have e : b = s1.heap.objs.size := by simpa using hb
    subst e
    exact I1.fpOk (Nat.le_refl _) (I1.hok.fresh (Nat.le_refl _))
  · obtain ⟨its, rv, p, hz⟩ := I1.tuple hq
    refine wpAny_pyIter_tuple (show s1.heap.IsTuple a its.toArray from p) ?_
    refine ⟨s1.heap.objs.size, [s1.heap.objs.size], _, _, H1, rfl, I1.kept (t' := s1.toks) fun b o e => Heap.get?_push_of_some _ e, turn_tuple a _, ⟨_, Heap.get?_push_size _ rfl, rfl, rfl⟩, fun b hb => ?_, q⟩
    have e : b = s1.heap.objs.size := by simpa using hb
    subst e
    exact I1.fpOk (Nat.le_refl _) (I1.hok.fresh (Nat.le_refl _))
/-- an expression in front of what is walked -/
theorem bindEI {K : PySem.W.Frag} {G H : Hp} {F : FS} {τ σ : St} {en : En} {kk : OT × En → R (List PyData × En)} {Rr : It → Hp → Prop} {Rk : VK} (h : RX K G F τ σ H en [] [])
    (hp : match bd (da en) kk with
      | .ok (xs, e1) => ∀ G' H' J, Same G G' → RX K G' F τ σ H' e1 [] [] → ItS K G' J xs → Rr J H'
      | .error .stuck => False
      | .error (.exn c e1) => ∀ G' H', Same G G' → RX K G' F τ σ H' e1 [] [] → W c none σ H')
    (hk : ∀ o e1, (match kk (o, e1) with
      | .ok (xs, e1) => ∀ G' H' J, Same G G' → RX K G' F τ σ H' e1 [] [] → ItS K G' J xs → Rr J H'
      | .error .stuck => False
      | .error (.exn c e1) => ∀ G' H', Same G G' → RX K G' F τ σ H' e1 [] [] → W c none σ H') → ∀ G' H' v, Same G G' → RX K G' F τ σ H' e1 [v] [o] → Rk v H') : liftE K W da σ H Rk := by
  refine ⟨G, F, τ, en, h, ?_⟩
  revert hp
  match da en with
  | .ok (o, e1) => exact fun hp G2 H2 vs2 s2 x v ev => hk o e1 hp G2 H2 v s2 (by subst ev; exact x)
  | .error .stuck => exact fun hp => hp
  | .error (.exn c e1) => exact fun hp => hp
theorem IX_sq (hl : EX X W l da) : IX X W tg l (iSq da) := PI.imp (pi_lt hl) fun σ H Rr q => by
  obtain ⟨G, F, τ, en, h, hp⟩ := q
  refine bindEI h hp fun o e1 hp1 G1 H1 v s1 h1 => ?_
  dsimp only at hp1
  cases ex : (frz o).bind dItems with
  | none => rw [ex] at hp1; exact hp1.elim
  | some xs =>
    rw [ex] at hp1
    obtain ⟨x, e1, e2⟩ := Option.bind_eq_some_iff.mp ex
    obtain ⟨G2, s2, h2⟩ := RX.freeze (vs := []) (os := []) h1 e1
    have dv := h2.dataG
    cases x with
    | list ys =>
      cases e2
      cases dv with
      | lst hs ha => exact ⟨_, rfl, .inl ⟨⟨_, h2.same.seq hs⟩, hp1 G2 H1 _ (s1.trans s2) h2.nil (its_list hs ha)⟩⟩
    | tuple ys =>
      cases e2
      cases dv with
      | tup hs ha => exact ⟨_, rfl, .inr ⟨⟨_, sqT_same h2.same hs⟩, hp1 G2 H1 _ (s1.trans s2) h2.nil (its_tup hs ha)⟩⟩
    | _ => cases e2
end
def rng (lo : Int) (n : Nat) : List PyData := (List.range n).map fun (i : Nat) => .int (lo + i)
theorem its_rng {K : PySem.W.Frag} {G : Hp} {lo : Int} {n : Nat} : ItS K G (Itr lo n) (rng lo n) where
  go := fun i H s hi => by
    have : i < n := by simpa [rng] using hi
    exact this
  stop := fun H s => by
    have : n ≤ (rng lo n).length := by simp [rng]
    exact this
  yld := fun i H x H' G1 F τ σ en ws os hi s h y => by
    obtain ⟨rfl, y⟩ := y
    subst y
    have : i < n := by simpa [rng] using hi
    exact ⟨.int (lo + i), G1, by simp [rng, this], Same.refl _, h.withD (.int _)⟩
theorem bindAI {X : Cx} {W : WX} {da : DA} {K : PySem.W.Frag} {G H : Hp} {F : FS} {τ σ : St} {en : En} {kk : List OT × En → R (List PyData × En)} {Rr : It → Hp → Prop} {Rk : List V → Hp → Prop} (h : RX K G F τ σ H en [] [])
    (hp : match bd (da en) kk with
      | .ok (xs, e1) => ∀ G' H' J, Same G G' → RX K G' F τ σ H' e1 [] [] → ItS K G' J xs → Rr J H'
      | .error .stuck => False
      | .error (.exn c e1) => ∀ G' H', Same G G' → RX K G' F τ σ H' e1 [] [] → W c none σ H')
    (hk : ∀ o e1, (match kk (o, e1) with
      | .ok (xs, e1) => ∀ G' H' J, Same G G' → RX K G' F τ σ H' e1 [] [] → ItS K G' J xs → Rr J H'
      | .error .stuck => False
      | .error (.exn c e1) => ∀ G' H', Same G G' → RX K G' F τ σ H' e1 [] [] → W c none σ H') → ∀ G' H' v, Same G G' → RX K G' F τ σ H' e1 v o → Rk v H') : liftA K W da σ H Rk := by
  refine ⟨G, F, τ, en, h, ?_⟩
  revert hp
  match da en with
  | .ok (o, e1) => exact fun hp G2 H2 vs2 s2 x => hk o e1 hp G2 H2 vs2 s2 x
  | .error .stuck => exact fun hp => hp
  | .error (.exn c e1) => exact fun hp => hp
/-- a number within the line -/
def inR (i : Int) : Bool := decide (-(2 ^ 62) ≤ i ∧ i < 2 ^ 62)
def iR1 (da : DA) : DI := fun en => bd (da en) fun p => match p.1 with
  | [.d (.int j)] => if inR j then .ok (rng 0 j.toNat, p.2) else .error .stuck
  | _ => .error .stuck
def iR2 (da : DA) : DI := fun en => bd (da en) fun p => match p.1 with
  | [.d (.int i), .d (.int j)] => if inR i && inR j then .ok (rng i (j - i).toNat, p.2) else .error .stuck
  | _ => .error .stuck
section
variable {X : Cx} {W : WX} {tg a b : Expr} {da : DA} {p pos : Pos}
theorem IX_r1 (hg : Gl X "range") (hm : X.mg "range" = none) (ha : AX X W [a] da) (hs : starEach [a] X.env = [(false, eval a X.env)] := by rfl) : IX X W tg (.Call (.Name "range" p) [a] [] pos) (iR1 da) := PI.imp (pi_range1 hg hm ha hs) fun σ H Rr q => by
  obtain ⟨G, F, τ, en, h, hp⟩ := q
  refine bindAI (X := X) h hp fun o e1 hp1 G1 H1 v s1 h1 => ?_
  dsimp only at hp1
  split at hp1
  · rename_i xs e2 hx
    split at hx
    · rename_i j
      split at hx
      · rename_i hr
        cases hx
        have hr := of_decide_eq_true hr
        obtain ⟨w, rfl⟩ : ∃ w, v = [w] := by
          have := h1.vlen
          match v, this with
          | [w], _ => exact ⟨w, rfl⟩
        cases h1.data rfl
        exact ⟨j, rfl, hr.1, hr.2, hp1 G1 H1 _ s1 h1.nil its_rng⟩
      · cases hx
    · cases hx
  · exact hp1.elim
  · rename_i c e2 hx
    split at hx
    · split at hx <;> cases hx
    · cases hx
theorem IX_r2 (hg : Gl X "range") (hm : X.mg "range" = none) (ha : AX X W [a, b] da) (hs : starEach [a, b] X.env = [(false, eval a X.env), (false, eval b X.env)] := by rfl) (hs2 : starEach [b] X.env = [(false, eval b X.env)] := by rfl) : IX X W tg (.Call (.Name "range" p) [a, b] [] pos) (iR2 da) := PI.imp (pi_range2 hg hm ha hs hs2) fun σ H Rr q => by
  obtain ⟨G, F, τ, en, h, hp⟩ := q
  refine bindAI (X := X) h hp fun o e1 hp1 G1 H1 v s1 h1 => ?_
  dsimp only at hp1
  split at hp1
  · rename_i xs e2 hx
    split at hx
    · rename_i i j
      split at hx
      · rename_i hr
        cases hx
        rw [Bool.and_eq_true] at hr
        have hr1 := of_decide_eq_true hr.1
        have hr2 := of_decide_eq_true hr.2
        obtain ⟨w, u, rfl⟩ : ∃ w u, v = [w, u] := by
          have := h1.vlen
          match v, this with
          | [w, u], _ => exact ⟨w, u, rfl⟩
        cases h1.data rfl
        cases RX.data (RX.right (vs := [.int i]) (os := [.d (.int i)]) (ws := [u]) (ps := [.d (.int j)]) rfl h1) rfl
        exact ⟨i, j, rfl, ⟨hr1.1, hr1.2, hr2.1, hr2.2⟩, hp1 G1 H1 _ s1 h1.nil its_rng⟩
      · cases hx
    · cases hx
  · exact hp1.elim
  · rename_i c e2 hx
    split at hx
    · split at hx <;> cases hx
    · cases hx
end
/-! ### for, while -/
def forD (g : DG) (body : DS) : List PyData → En → R (Fl × En)
  | [], en => .ok (.nx, en)
  | x :: xs, en => match g x en with
    | none => .error .stuck
    | some e1 => bd (body e1) fun p => match p.1 with
      | .nx => forD g body xs p.2
      | .ct => forD g body xs p.2
      | .bk => .ok (.nx, p.2)
      | .rt o => .ok (.rt o, p.2)
def dFor (di : DI) (g : DG) (body : DS) : DS := fun en => bd (di en) fun p => forD g body p.1 p.2
section
variable {X : Cx} {W : WX} {tg iter c : Expr} {di : DI} {g : DG} {gs : List Nat} {d : DS} {dt : DT} {body : List Stmt} {pos : Pos}
theorem SX_for (hp : PassesOwn (model X.prog X.w) X.A X.env X.xe) (hc : X.calm = true) (hi : IX X W tg iter di) (hg : GX X tg gs g) (hb : SXs X W body d) (hs : ∀ x, foldedSetIterable iter X.env x = pure x := by intro _; rfl) : SX X W (.For tg iter body [] pos) (dFor di g d) :=
  PS.imp (ps_for hp hc hi hg hb hs) fun D σ H q => by
    obtain ⟨G, F, τ, en, h, hp⟩ := q
    refine ⟨G, F, τ, en, h, ?_⟩
    unfold dFor at hp
    revert hp
    match di en with
    | .error .stuck => exact fun hp => hp
    | .error (.exn c e1) => exact fun hp G' H' s x => hp G' σ H' s x
    | .ok (xs, e1) =>
      intro hp G1 H1 J s1 h1 hJ
      -- the invariant: i items gone, the rest as the fold goes on
      refine ⟨fun i m σ' H' => ∃ G2 e2, Same G1 G2 ∧ RX X.K G2 F τ σ' H' e2 [] [] ∧ i ≤ xs.length ∧ m = xs.length - i ∧ PostS X.K G2 F τ W D (forD g d (xs.drop i) e2), ⟨_, G1, e1, Same.refl _, h1, Nat.zero_le _, rfl, by rw [List.drop_zero]; exact PostS.mono s1 hp⟩, ?_⟩
      rintro i m σ2 H2 ⟨G2, e2, s2, h2, hi, rfl, hp2⟩
      by_cases hlt : i < xs.length
      · refine .inr ⟨hJ.go i H2 (s2.trans h2.same) hlt, _, fun σ' H' z => ⟨xs.length - (i + 1), by omega, z⟩, fun x H' y => ?_⟩
        obtain ⟨dd, G3, hd, s3, h3⟩ := hJ.yld i H2 x H' G2 F τ σ2 e2 [] [] hlt s2 h2 y
        have hdrop : xs.drop i = dd :: xs.drop (i + 1) := by
          obtain ⟨_, e⟩ := List.getElem?_eq_some_iff.mp hd
          rw [← e, List.drop_eq_getElem_cons hlt]
        rw [hdrop] at hp2
        simp only [forD] at hp2
        refine ⟨G3, F, τ, e2, dd, h3, ?_⟩
        cases eg : g dd e2 with
        | none => rw [eg] at hp2; exact hp2.elim
        | some e3 =>
          rw [eg] at hp2
          dsimp only at hp2 ⊢
          intro σ3 _ h4
          refine ⟨G3, F, τ, e3, h4, ?_⟩
          revert hp2
          match d e3 with
          | .ok (.nx, e4) => exact fun hp2 G5 σ5 H5 s5 x5 => ⟨G5, e4, s2.trans (s3.trans s5), x5, by omega, rfl, PostS.mono (s3.trans s5) hp2⟩
          | .ok (.ct, e4) => exact fun hp2 G5 σ5 H5 s5 x5 => ⟨G5, e4, s2.trans (s3.trans s5), x5, by omega, rfl, PostS.mono (s3.trans s5) hp2⟩
          | .ok (.bk, e4) => exact fun hp2 G5 σ5 H5 s5 x5 => hp2 G5 σ5 H5 (s3.trans s5) x5
          | .ok (.rt o, e4) => exact fun hp2 G5 σ5 H5 v5 s5 x5 => hp2 G5 σ5 H5 v5 (s3.trans s5) x5
          | .error .stuck => exact fun hp2 => hp2
          | .error (.exn c e4) => exact fun hp2 G5 σ5 H5 s5 x5 => hp2 G5 σ5 H5 (s3.trans s5) x5
      · have e : i = xs.length := by omega
        subst e
        refine .inl ⟨hJ.stop H2 (s2.trans h2.same), ?_⟩
        rw [List.drop_length] at hp2
        exact hp2 G2 σ2 H2 (Same.refl _) h2
end
end Lf
end
section
set_option Elab.async false
set_option linter.all false
set_option maxRecDepth 100000
namespace Lf
open PySem PySem.Spec L2
variable [Tabs]
/-! ### defs -/
abbrev DF := List OT → R (OT × List OT)
/-- what a def promises, by its function on things -/
def spL (K : PySem.W.Frag) (n : Nat) (f : DF) : Sp := fun vs H Q E => vs.length = n ∧ ∃ (G : Hp) (F : FS) (os : List OT), F.b = G ∧ RX K G F [] [] H [] vs os ∧ match f os with
  | .ok (o, os') => ∀ G' H' v, Same G G' → RX K G' F [] [] H' [] (v :: vs) (o :: os') → Q v H'
  | .error .stuck => False
  | .error (.exn c _) => ∀ G' H', Same G G' → RX K G' F [] [] H' [] [] [] → E c none H'
def mkEn : List Bool → List OT → En
  | b :: bs, o :: os => (if b then .p o else .v o) :: mkEn bs os
  | _, _ => []
def outs : List Bool → En → List OT
  | true :: bs, .p o :: en => o :: outs bs en
  | _ :: bs, _ :: en => .hole :: outs bs en
  | bs, _ => bs.map fun _ => .hole
mutual
def noL : PyData → Bool
  | .list _ => false
  | .dict _ => false
  | .tuple xs => noLs xs
  | _ => true
def noLs : List PyData → Bool
  | [] => true
  | x :: xs => noL x && noLs xs
end
mutual
/-- what was frozen is one's own again -/
def thaw : OT → OT
  | .own xs => .own (thaws xs)
  | .fr xs => .own (thaws xs)
  | .d x => .d x
  | .opq v => .opq v
  | .dic t kvs => .dic t kvs
  | .lkd t kvs => .lkd t kvs
  | .tp xs => .tp (thaws xs)
  | .leaf t xs => .leaf t xs
  | .hole => .hole
def thaws : List OT → List OT
  | [] => []
  | o :: os => thaw o :: thaws os
end
mutual
/-- no data of lists in it that isn't one's own -/
def okT : OT → Bool
  | .own xs => okTs xs
  | .fr xs => okTs xs
  | .d x => noL x
  | .opq _ => true
  | .dic _ _ => true
  | .lkd _ _ => true
  | .tp xs => okTs xs
  | .leaf _ xs => noLs xs
  | .hole => true
def okTs : List OT → Bool
  | [] => true
  | o :: os => okT o && okTs os
end
def fin (o : OT) (os : List OT) : R (OT × List OT) := if noFrs (o :: os) = true then .ok (o, os) else if okTs (o :: os) = true then .ok (thaw o, thaws os) else .error .stuck
/-- a def's function: which parameters go back, how many further slots, the body -/
def dFn (fl : List Bool) (n : Nat) (body : DS) : DF := fun os => if os.length = fl.length then
    match body (mkEn fl os ++ List.replicate n .un) with
    | .ok (.rt o, en) => fin o (outs fl en)
    | .ok (.nx, en) => fin (.d .none) (outs fl en)
    | .ok _ => .error .stuck
    | .error .stuck => .error .stuck
    | .error (.exn c _) => .error (.exn c [])
  else .error .stuck
section
variable {K : PySem.W.Frag} {G G' H : Hp} {F : FS} {τ σ : St} {en : En} {vs ws : List V} {os ps : List OT}
theorem mkEn_length : ∀ {fl : List Bool} {os : List OT}, os.length = fl.length → (mkEn fl os).length = os.length
  | [], [], _ => rfl
  | b :: bs, o :: os, h => by simp [mkEn, mkEn_length (fl := bs) (os := os) (by simpa using h)]
  | [], _ :: _, h => by simp at h
  | _ :: _, [], h => by simp at h
theorem mkEn_get : ∀ {fl : List Bool} {os : List OT} {i : Nat} {s : Slot}, (mkEn fl os)[i]? = some s → ∃ o, os[i]? = some o ∧ (s = .v o ∨ s = .p o)
  | [], _, i, s, h => by simp [mkEn] at h
  | _ :: _, [], i, s, h => by simp [mkEn] at h
  | b :: bs, o :: os, 0, s, h => by
    simp [mkEn] at h
    refine ⟨o, rfl, ?_⟩
    cases b
    · exact .inl (by simpa using h.symm)
    · exact .inr (by simpa using h.symm)
  | b :: bs, o :: os, i + 1, s, h => by
    simp [mkEn] at h
    obtain ⟨o', e, q⟩ := mkEn_get h
    exact ⟨o', by simpa using e, q⟩
/-- footprints by place -/
theorem RepOs.parts {M : Hp} : ∀ {os : List OT} {vs : List V} {A : List Addr}, RepOs K G M vs os A → ∃ φ : Nat → List Addr, (∀ i o, os[i]? = some o → ∃ v, vs[i]? = some v ∧ RepO K G M v o (φ i)) ∧ (∀ i, os.length ≤ i → φ i = []) ∧ (∀ i j, i ≠ j → ∀ a ∈ φ i, a ∉ φ j) ∧ ∀ i, ∀ a ∈ φ i, a ∈ A
  | [], _, _, h => by cases h; exact ⟨fun _ => [], fun i o e => by simp at e, fun _ _ => rfl, fun _ _ _ a ha => by simp at ha, fun _ a ha => by simp at ha⟩
  | o :: os, _, _, h => by
    cases h with
    | cons h1 h2 h3 =>
      rename_i v vs A B
      obtain ⟨φ, p1, p2, p3, p4⟩ := RepOs.parts h2
      refine ⟨fun i => match i with | 0 => A | i + 1 => φ i, fun i o' e => ?_, fun i hi => ?_, fun i j hij a ha => ?_, fun i a ha => ?_⟩
      · cases i with
        | zero => simp at e; subst e; exact ⟨v, rfl, h1⟩
        | succ i => simp at e; obtain ⟨u, e1, e2⟩ := p1 i o' e; exact ⟨u, by simpa using e1, e2⟩
      · cases i with
        | zero => simp at hi
        | succ i => exact p2 i (by simpa using hi)
      · cases i with
        | zero =>
          cases j with
          | zero => exact absurd rfl hij
          | succ j => exact fun hb => h3 a ha (p4 j a hb)
        | succ i =>
          cases j with
          | zero => exact fun hb => h3 a hb (p4 i a ha)
          | succ j => exact p3 i j (fun e => hij (by rw [e])) a ha
      · cases i with
        | zero => exact List.mem_append_left _ ha
        | succ i => exact List.mem_append_right _ (p4 i a ha)
/-- back: what stands by place -/
theorem RepOs.ofParts {M : Hp} : ∀ {os : List OT} {vs : List V} (φ : Nat → List Addr), vs.length = os.length → (∀ i o v, os[i]? = some o → vs[i]? = some v → RepO K G M v o (φ i)) → (∀ i j, i ≠ j → ∀ a ∈ φ i, a ∉ φ j) → ∃ A, RepOs K G M vs os A ∧ ∀ a ∈ A, ∃ i, i < os.length ∧ a ∈ φ i
  | [], [], φ, _, _, _ => ⟨[], .nil, fun _ z => nomatch z⟩
  | o :: os, v :: vs, φ, hl, h, hd => by
    obtain ⟨A, r, m⟩ := RepOs.ofParts (os := os) (vs := vs) (fun i => φ (i + 1)) (by simpa using hl) (fun i o v e1 e2 => h (i + 1) o v (by simpa using e1) (by simpa using e2)) (fun i j hij => hd (i + 1) (j + 1) (by omega))
    refine ⟨φ 0 ++ A, .cons (h 0 o v rfl rfl) r (fun a ha hb => ?_), fun a ha => ?_⟩
    · obtain ⟨i, _, hi⟩ := m a hb
      exact hd 0 (i + 1) (by omega) a ha hi
    · rcases List.mem_append.mp ha with ha | ha
      · exact ⟨0, by simp, ha⟩
      · obtain ⟨i, hi, q⟩ := m a ha
        exact ⟨i + 1, by simpa using hi, q⟩
  | [], _ :: _, _, hl, _, _ => by simp at hl
  | _ :: _, [], _, hl, _, _ => by simp at hl
theorem start_get {N : List Str} {vs : List V} {i : Nat} (h : i < vs.length) : (L2.start N vs)[i]? = (vs[i]?).map some := by
  unfold L2.start
  rw [List.getElem?_append_left (by simpa using h), List.getElem?_map]
/-- a def is entered -/
theorem RX.start {N : List Str} {fl : List Bool} {n : Nat} (h : RX K G F [] [] H [] vs os) (hf : os.length = fl.length) (hN : N.length = fl.length + n) :
    RX K G F (L2.start N vs) (L2.start N vs) H (mkEn fl os ++ List.replicate n .un) [] [] := by
  obtain ⟨M, φ0, B, S, E, r, d⟩ := h
  have hl := r.length
  obtain ⟨φ, p1, p2, p3, p4⟩ := RepOs.parts r
  have len0 : (mkEn fl os).length = os.length := mkEn_length hf
  refine ⟨M, φ, [], S, ⟨?_, fun i s hs => ?_, fun i hi => p2 i ?_, p3⟩, .nil, fun _ _ z => nomatch z⟩
  · simp [L2.start, len0, hl, hf, hN]
  · by_cases hi : i < os.length
    · rw [List.getElem?_append_left (by omega)] at hs
      obtain ⟨o, eo, q⟩ := mkEn_get hs
      obtain ⟨v, ev, rv⟩ := p1 i o eo
      have sv : (L2.start N vs)[i]? = some (some v) := by rw [start_get (by omega), ev]; rfl
      rcases q with rfl | rfl
      · exact ⟨v, sv, rv⟩
      · exact ⟨v, sv, sv, rv⟩
    · rw [List.getElem?_append_right (by omega)] at hs
      obtain ⟨_, e⟩ := List.getElem?_eq_some_iff.mp hs
      simp at e
      subst e
      exact p2 i (by omega)
  · simp [len0] at hi; omega
theorem outs_length : ∀ {fl : List Bool} {en : En}, (outs fl en).length = fl.length
  | [], en => by cases en <;> rfl
  | true :: bs, [] => by simp [outs]
  | false :: bs, [] => by simp [outs]
  | true :: bs, .p o :: en => by simp [outs, outs_length (fl := bs) (en := en)]
  | true :: bs, .v o :: en => by simp [outs, outs_length (fl := bs) (en := en)]
  | true :: bs, .un :: en => by simp [outs, outs_length (fl := bs) (en := en)]
  | false :: bs, _ :: en => by simp [outs, outs_length (fl := bs) (en := en)]
theorem outs_get : ∀ {fl : List Bool} {en : En} {i : Nat} {o : OT}, (outs fl en)[i]? = some o → o = .hole ∨ en[i]? = some (.p o)
  | [], en, i, o, h => by cases en <;> simp [outs] at h
  | b :: bs, [], i, o, h => by
    left
    have key : ∀ (l : List Bool) (i : Nat) (o : OT), (l.map fun _ => OT.hole)[i]? = some o → o = OT.hole := fun l i o e => by
      simp at e; exact e.2.symm
    cases b with
    | true => exact key (true :: bs) i o h
    | false => exact key (false :: bs) i o h
  | b :: bs, s :: en, 0, o, h => by
    cases b with
    | false => simp [outs] at h; exact .inl h.symm
    | true =>
      cases s with
      | p u => simp [outs] at h; exact .inr (by simp [h])
      | v u => simp [outs] at h; exact .inl h.symm
      | un => simp [outs] at h; exact .inl h.symm
  | b :: bs, s :: en, i + 1, o, h => by
    have : (outs bs en)[i]? = some o := by
      cases b with
      | false => simpa [outs] using h
      | true => cases s <;> simpa [outs] using h
    rcases outs_get this with q | q
    · exact .inl q
    · exact .inr (by simpa using q)
def ft (o : Option OT) (A : List Addr) : List Addr := match o with
  | some OT.hole => []
  | some _ => A
  | none => []
/-- a def is left -/
theorem RX.leave {N : List Str} {fl : List Bool} {v : V} {o : OT} (h : RX K G F (L2.start N vs) σ H en [v] [o]) (hv : vs.length = fl.length) :
    RX K G F [] [] H [] (v :: vs) (o :: outs fl en) := by
  obtain ⟨M, φ, B, S, E, r, d⟩ := h
  cases r with
  | cons r1 r2 hd =>
    rename_i A B
    cases r2
    have hA : ∀ i u w, (outs fl en)[i]? = some u → vs[i]? = some w → RepO K G M w u (ft (outs fl en)[i]? (φ i)) := by
      intro i u w e1 e2
      rw [e1]
      rcases outs_get e1 with rfl | q
      · exact .hole
      · obtain ⟨x, h1, h2, h3⟩ := E.2.1 i _ q
        have lt : i < vs.length := (List.getElem?_eq_some_iff.mp e2).1
        rw [start_get lt, e2] at h2
        cases h2
        cases u with
        | hole => exact .hole
        | _ => exact h3
    have hB : ∀ i j, i ≠ j → ∀ a ∈ ft (outs fl en)[i]? (φ i), a ∉ ft (outs fl en)[j]? (φ j) := by
      intro i j hij a ha
      unfold ft at ha ⊢
      split at ha
      · cases ha
      · split
        · simp
        · exact E.2.2.2 i j hij a ha
        · simp
      · cases ha
    obtain ⟨C, rc, mc⟩ := RepOs.ofParts (K := K) (G := G) (M := M) (os := outs fl en) (vs := vs) (fun i => ft (outs fl en)[i]? (φ i)) (by rw [outs_length]; exact hv) hA hB
    refine ⟨M, fun _ => [], A ++ C, S, ⟨rfl, fun i s hs => by simp at hs, fun _ _ => rfl, fun _ _ _ a ha => by simp at ha⟩, ?_, fun _ _ _ z => nomatch z⟩
    refine .cons (by simpa using r1) rc (fun a ha hc => ?_)
    obtain ⟨i, _, hi⟩ := mc a hc
    unfold ft at hi
    split at hi
    · cases hi
    · exact d i a (by simpa using ha) hi
    · cases hi
end
section
variable {K : PySem.W.Frag} {G G2 M M2 H : Hp} {F : FS} {vs : List V} {os : List OT} {B : List Addr}
mutual
theorem dp_noL (h1 : ∀ a o, G a = some o → (∀ xs, o ≠ .lst xs) → G2 a = some o) : ∀ (x : PyData) (v : V), Dp K G v x → noL x = true → Dp K G2 v x
  | .none, _, h, _ => by cases h; exact .non
  | .bool b, _, h, _ => by cases h; exact .bl b
  | .int i, _, h, _ => by cases h; exact .int i
  | .str s, _, h, _ => by cases h; exact .str s
  | .list ds, _, h, e => by simp [noL] at e
  | .tuple ds, _, h, e => by
    cases h with
    | tup hs ha =>
      refine .tup ?_ (dps_noL h1 ds _ ha (by simpa [noL] using e))
      rcases hs with (hs | ⟨o, hs⟩) | hs
      · exact .inl (.inl (h1 _ _ hs fun xs z => nomatch z))
      · exact .inl (.inr ⟨o, h1 _ _ hs fun xs z => nomatch z⟩)
      · exact .inr hs
  | .dict _, _, h, e => by simp [noL] at e
theorem dps_noL (h1 : ∀ a o, G a = some o → (∀ xs, o ≠ .lst xs) → G2 a = some o) : ∀ (xs : List PyData) (vs : List V), DpAll K G vs xs → noLs xs = true → DpAll K G2 vs xs
  | [], _, h, _ => by cases h; exact .nil
  | x :: xs, _, h, e => by
    simp only [noLs, Bool.and_eq_true] at e
    cases h with
    | cons k1 k2 => exact .cons (dp_noL h1 x _ k1 e.1) (dps_noL h1 xs _ k2 e.2)
end
mutual
theorem RepO.thaw (h1 : ∀ a o, G a = some o → (∀ xs, o ≠ .lst xs) → G2 a = some o) (h2 : ∀ a u, M a = some u → isTg u = false → M2 a = some u) (h3 : ∀ a ∈ B, M a = some tg → M2 a = G a) :
    ∀ (o : OT) (v : V) (A : List Addr), RepO K G M v o A → okT o = true → (∀ a ∈ A, a ∈ B) → RepO K G2 M2 v (thaw o) A
  | .d x, _, _, h, e, _ => by
    cases h with
    | d h => exact .d (dp_noL h1 x _ h (by simpa [okT] using e))
  | .own os, _, _, h, e, b => by
    cases h with
    | own k1 k2 k3 => exact .own (h2 _ _ k1 rfl) (RepOs.thaw h1 h2 h3 os _ _ k2 (by simpa [okT] using e) fun a ha => b a (List.mem_cons_of_mem _ ha)) k3
  | .fr os, _, _, h, e, b => by
    cases h with
    | fr k0 k1 k2 k3 => exact .own (by rw [h3 _ (b _ List.mem_cons_self) k0]; exact k1) (RepOs.thaw h1 h2 h3 os _ _ k2 (by simpa [okT] using e) fun a ha => b a (List.mem_cons_of_mem _ ha)) k3
  | .opq _, _, _, h, _, _ => by cases h; exact .opq
  | .dic _ _, _, _, h, _, _ => by
    cases h with
    | dic h1 => exact .dic (h2 _ _ h1 dicO_tg)
  | .lkd _ _, _, _, h, _, _ => by
    cases h with
    | lkd h5 => exact .lkd (h1 _ _ h5 fun xs z => nomatch z)
  | .tp os, _, _, h, e, b => by
    cases h with
    | tp k1 k2 => exact .tp (h1 _ _ k1 fun xs z => nomatch z) (RepOs.thaw h1 h2 h3 os _ _ k2 (by simpa [okT] using e) b)
  | .leaf _ xs, _, _, h, e, _ => by
    cases h with
    | leaf k1 k2 => exact .leaf (h2 _ _ k1 tagO_tg) (dps_noL h1 xs _ k2 (by simpa [okT] using e))
  | .hole, _, _, h, _, _ => by cases h; exact .hole
theorem RepOs.thaw (h1 : ∀ a o, G a = some o → (∀ xs, o ≠ .lst xs) → G2 a = some o) (h2 : ∀ a u, M a = some u → isTg u = false → M2 a = some u) (h3 : ∀ a ∈ B, M a = some tg → M2 a = G a) :
    ∀ (os : List OT) (vs : List V) (A : List Addr), RepOs K G M vs os A → okTs os = true → (∀ a ∈ A, a ∈ B) → RepOs K G2 M2 vs (thaws os) A
  | [], _, _, h, _, _ => by cases h; exact .nil
  | o :: os, _, _, h, e, b => by
    simp only [okTs, Bool.and_eq_true] at e
    cases h with
    | cons k1 k2 k3 => exact .cons (RepO.thaw h1 h2 h3 o _ _ k1 e.1 fun a ha => b a (List.mem_append_left _ ha)) (RepOs.thaw h1 h2 h3 os _ _ k2 e.2 fun a ha => b a (List.mem_append_right _ ha)) k3
end
def tgB (M : Hp) (B : List Addr) (a : Addr) : Bool := decide (a ∈ B) && (match M a with | some o => isTg o | none => false)
theorem tgB_iff {a : Addr} : tgB M B a = true ↔ a ∈ B ∧ M a = some tg := by
  unfold tgB
  cases e : M a with
  | none => simp
  | some o =>
    simp only [Bool.and_eq_true, decide_eq_true_eq]
    refine and_congr_right fun _ => ⟨fun h => by rw [isTg_eq h], fun h => by cases h; rfl⟩
/-- THAW: all that one holds, when nothing else of one's own is left -/
theorem RX.thaw (h : RX K G F [] [] H [] vs os) (hok : okTs os = true) : ∃ G2, Same F.b G2 ∧ RX K G2 F [] [] H [] vs (thaws os) := by
  obtain ⟨M, φ, B, S, E, r, d⟩ := h
  have hn : ∀ a, tgB M B a = false → (if tgB M B a = true then none else G a) = G a ∧ (if tgB M B a = true then G a else M a) = M a := fun a e => by simp [e]
  refine ⟨fun a => if tgB M B a = true then none else G a, fun a u hu => ?_, fun a => if tgB M B a = true then G a else M a, φ, B, ⟨fun a => ?_, fun a ps z => ?_, S.tab, fun a u hu => ?_, fun a u z => ?_⟩, ⟨rfl, fun i s hs => by simp at hs, E.2.2.1, E.2.2.2⟩, RepOs.thaw (fun a o e ne => ?_) (fun a xs e => ?_) (fun a hb e => ?_) os vs B r hok fun _ h => h, d⟩
  · cases e : tgB M B a with
    | false => first | exact (if_neg Bool.false_ne_true).trans (S.base a u hu) | exact (if_neg (by rw [e]; exact Bool.false_ne_true)).trans (S.base a u hu)
    | true =>
      have q := S.mb a _ (tgB_iff.mp e).2
      rw [hu] at q; cases q
  · cases e : tgB M B a with
    | false => simp only [Bool.false_eq_true, if_false]; exact S.at_ a
    | true =>
      obtain ⟨k1, xs, k2⟩ := S.mt (tgB_iff.mp e).2
      simp only [if_true]
      exact .inr (.inl ⟨trivial, S.mf (tgB_iff.mp e).2, k1, by rw [k2]; exact fun z => nomatch z⟩)
  · cases e : tgB M B a with
    | false => rw [e] at z; exact S.nt a ps (by simpa using z)
    | true =>
      obtain ⟨k1, xs, k2⟩ := S.mt (tgB_iff.mp e).2
      rw [e] at z
      simp [k2] at z
  · cases e : tgB M B a with
    | false => first | exact (if_neg Bool.false_ne_true).trans (S.base a u hu) | exact (if_neg (by rw [e]; exact Bool.false_ne_true)).trans (S.base a u hu)
    | true =>
      have q := S.mb a _ (tgB_iff.mp e).2
      rw [hu] at q; cases q
  · cases e : tgB M B a with
    | false => rw [e] at z; exact S.mb a u (by simpa using z)
    | true => exact S.mb a _ (tgB_iff.mp e).2
  · cases q : tgB M B a with
    | false => simp only [Bool.false_eq_true, if_false]; exact e
    | true =>
      obtain ⟨k1, xs, k2⟩ := S.mt (tgB_iff.mp q).2
      rw [e] at k2
      cases k2
      exact absurd rfl (ne xs)
  · cases q : tgB M B a with
    | false => intro _; simp only [Bool.false_eq_true, if_false]; exact e
    | true => intro ht; rw [(tgB_iff.mp q).2] at e; cases e; simp [isTg] at ht
  · rw [if_pos (tgB_iff.mpr ⟨hb, e⟩)]
/-- what a def hands back -/
theorem RX.fin {v : V} {o o' : OT} {os' : List OT} (h : RX K G F [] [] H [] (v :: vs) (o :: os)) (hf : fin o os = .ok (o', os')) : ∃ G2, (Same G G2 ∨ Same F.b G2) ∧ RX K G2 F [] [] H [] (v :: vs) (o' :: os') := by
  unfold Lf.fin at hf
  split at hf
  · cases hf; exact ⟨G, .inl (Same.refl _), h⟩
  · split at hf
    · rename_i hok
      cases hf
      obtain ⟨G2, s, h2⟩ := h.thaw hok
      exact ⟨G2, .inr s, h2⟩
    · cases hf
end
section
variable {P : Program} {w : World} {K : PySem.W.Frag} {mg : Str → Option Value} {base : Heap}
abbrev WD (E : XK) : WX := fun c d _ H => E c d H
/-- a def keeps its function, where there is room and no text is being made of a container -/
structure DefOk (P : Program) (w : World) (K : PySem.W.Frag) (mg : Str → Option Value) (base : Heap) (k : Nat) (f : Addr) (fd : FuncData) (ps : List Str) (g : DF) : Prop where
  run : ∀ (A : Around) (out : List Env) (s : Shared) (H : Hp) (args : Args) (us : List Value) (vs : List V) (Q : VK) (E : XK), Room k A → A.guards = some [] → Env0 P w K mg base A out s H →
    BindsTo s fd args (ps.zip us) → Vals vs us → spL K ps.length g vs H Q E → codeAny (model P w) A (.call (.ref f) args) (CR (L2.CX P w) out P w H s Q E) s
/-- room for calls in a body, no text being made -/
structure Rm (k : Nat) (A : Around) : Prop where
  hr : Room k A
  gd : A.guards = some []
theorem Rm.mono {j k : Nat} {A : Around} (r : Rm k A) (h : j ≤ k) : Rm j A := ⟨r.hr.mono h, r.gd⟩
theorem guards_deeper {A : Around} {env : Env} : (A.deeper env).guards = A.guards := by first | rfl | (cases A; rfl)
/-- another function that tells as much, or less -/
theorem DefOk.ref {k : Nat} {f : Addr} {fd : FuncData} {ps : List Str} {g g' : DF} (F : DefOk P w K mg base k f fd ps g) (h : ∀ os, g' os = .error .stuck ∨ g os = g' os) : DefOk P w K mg base k f fd ps g' :=
  ⟨fun A out s H args us vs Q E hr hgd e0 bt rv hsp => F.run A out s H args us vs Q E hr hgd e0 bt rv (by
    obtain ⟨hn, G, F', os, hFb, hx, hp⟩ := hsp
    refine ⟨hn, G, F', os, hFb, hx, ?_⟩
    rcases h os with e | e
    · rw [e] at hp; exact hp.elim
    · rw [e]; exact hp)⟩
theorem DefOk.mono {j k : Nat} {f : Addr} {fd : FuncData} {ps : List Str} {g : DF} (F : DefOk P w K mg base j f fd ps g) (h : j ≤ k) : DefOk P w K mg base k f fd ps g :=
  ⟨fun A out s H args us vs Q E hr => F.run A out s H args us vs Q E (hr.mono h)⟩
end
section
variable {X : Cx} {W : WX} {k n : Nat} {f : Addr} {fd : FuncData} {ps : List Str} {g : DF}
/-- the callee runs -/
theorem runD {pins : List (Addr × Obj)} {σ : St} {H : Hp} {s : Shared} {Q : VK} {us : List Value} {kws : List (Str × Value)} {ws : List Value} {vs : List V} (F : DefOk X.prog X.w X.K X.mg X.base k f fd ps g) (hr : Rm k X.A) (tk : Takes X W)
    (bt : BindsTo s fd ⟨us, kws⟩ (ps.zip ws)) (I : Inv X pins σ H s) (rv : Vals vs ws) (h : spL X.K ps.length g vs H Q (fun c d H' => W c d σ H')) : wpAny (model X.prog X.w) X.A (call (.ref f) us kws) (EP X pins σ Q) X.xe s := by
  refine wpAny_call (codeAny_mono (F.run X.A X.stack s H _ ws vs Q _ hr.hr hr.gd I.env0 bt rv h) fun r s' hq => ?_)
  match r, hq with
  | .error e, hq => exact passAt tk σ pins H s e s' I hq
  | .ok (.ret u), hq => exact I.after hq
  | .ok .next, hq => exact False.elim hq
  | .ok .brk, hq => exact False.elim hq
  | .ok .cont, hq => exact False.elim hq
end
/-! ### calls -/
def ar (n : Nat) (f : DF) : DF := fun os => if os.length = n ∧ noFrs os = true then f os else .error .stuck
def eCl (n : Nat) (f : DF) (da : DA) : DE := fun en => bd (da en) fun p => match ar n f p.1 with
  | .ok (o, _) => .ok (o, p.2)
  | .error .stuck => .error .stuck
  | .error (.exn c _) => .error (.exn c p.2)
/-- the first argument is a name whose list is lent -/
def eClB (n : Nat) (f : DF) (i : Nat) (da : DA) : DE := fun en => match en[i]? with
  | some .un => .error .stuck
  | none => .error .stuck
  | some _ => bd (da en) fun p => match p.2[i]? with
    | some (.v o) => (match ar n f (o :: p.1) with
      | .ok (r, o' :: _) => .ok (r, p.2.set i (.v o'))
      | .ok (r, []) => .error .stuck
      | .error .stuck => .error .stuck
      | .error (.exn c _) => .error (.exn c (p.2.set i .un)))
    | some (.p o) => (match ar n f (o :: p.1) with
      | .ok (r, o' :: _) => .ok (r, p.2.set i (.p o'))
      | .ok (r, []) => .error .stuck
      | .error .stuck => .error .stuck
      | .error (.exn c _) => .error .stuck)
    | _ => .error .stuck
def tCalD (K : PySem.W.Frag) (W : WX) (n : Nat) (g : DF) (t : TA) : TE := fun σ H Q => t σ H fun vs H1 => spL K n g vs H1 Q (fun c d H' => W c d σ H')
section
variable {X : Cx} {W : WX} {k : Nat} {f : Addr} {fd : FuncData} {ps : List Str} {g : DF} {x : Str} {p pos : Pos} {e : Expr} {es : List Expr} {da : DA} {t : TA}
theorem pe_calD (F : DefOk X.prog X.w X.K X.mg X.base k f fd ps g) (hr : Rm k X.A) (hg : Gl X x) (hm : X.mg x = some (.ref f)) (hk : PySem.W.keepIn X.K (.ref f) = true) (hb : Binds X.K fd ps []) (tk : Takes X W)
    (ha : PA X (e :: es) t) (hdb : (x == ("__debug__" : Str)) = false := by decide) (he : starEach (e :: es) X.env = (false, eval e X.env) :: starEach es X.env := by rfl) (hpl : (backTo pos (starEach es X.env)).any (·.1) = false := by rfl) :
    PE X (.Call (.Name x p) (e :: es) [] pos) (tCalD X.K W ps.length g t) := by
  refine ⟨fun pins s σ H Q I h => wpAny_Call_Name_kw (ld_glob I hg hm (PySem.W.callWith_K (h₀ := X.base) I.ok.mod.kin hk (thn (ha.run pos pins s σ H _ I h) ?_) he hpl) hdb)⟩
  rintro us s1 ⟨vs, H1, I1, r, q⟩
  refine ⟨I1.kIn, runD F hr tk ?_ I1 r q⟩
  have b := hb s1 us I1.kIn (by rw [List.append_nil, ← r.length]; exact q.1)
  rwa [List.append_nil] at b
theorem liftCl {σ : St} {H : Hp} {Q : VK} {n : Nat} (q : liftE X.K W (eCl n g da) σ H Q) : tCalD X.K W n g (liftA X.K W da) σ H Q := by
  obtain ⟨G, F, τ, en, h, hp⟩ := q
  refine bindA (vs := []) (os := []) h hp fun os e1 hp1 G1 H1 vs s1 h1 => ?_
  have h1 : RX X.K G1 F τ σ H1 e1 vs os := h1
  dsimp only [ar] at hp1
  by_cases hl : os.length = n ∧ noFrs os = true
  · rw [if_pos hl] at hp1
    obtain ⟨F', hFb, h2, back⟩ := h1.enter hl.2
    refine ⟨by rw [h1.vlen, hl.1], G1, F', os, hFb, h2, ?_⟩
    generalize g os = r at hp1 ⊢
    match r, hp1 with
    | .ok (o, os'), hp1 => exact fun G' H' v s x => hp1 G' H' [v] (s1.trans s) ((RX.left (vs := [v]) (os := [o]) rfl (back G' H' (v :: vs) (o :: os') s x))) v rfl
    | .error (.exn c _), hp1 => exact fun G' H' s x => hp1 G' H' (s1.trans s) (back G' H' [] [] s x)
  · rw [if_neg hl] at hp1
    exact hp1.elim
theorem EX_call (F : DefOk X.prog X.w X.K X.mg X.base k f fd ps g) (hr : Rm k X.A) (hg : Gl X x) (hm : X.mg x = some (.ref f)) (hk : PySem.W.keepIn X.K (.ref f) = true) (hb : Binds X.K fd ps []) (tk : Takes X W)
    (ha : AX X W (e :: es) da) (hdb : (x == ("__debug__" : Str)) = false := by decide) (he : starEach (e :: es) X.env = (false, eval e X.env) :: starEach es X.env := by rfl) (hpl : (backTo pos (starEach es X.env)).any (·.1) = false := by rfl) :
    EX X W (.Call (.Name x p) (e :: es) [] pos) (eCl ps.length g da) :=
  PE.imp (pe_calD F hr hg hm hk hb tk ha hdb he hpl) fun σ H Q q => liftCl q
end
end Lf
end
section
set_option Elab.async false
set_option linter.all false
set_option maxRecDepth 100000
namespace Lf
open PySem PySem.Spec L2
variable [Tabs]
section
variable {K : PySem.W.Frag} {G G' H : Hp} {F : FS} {τ σ : St} {en : En} {vs ws : List V} {os ps : List OT}
theorem RX.slotV {i : Nat} {s : Slot} (h : RX K G F τ σ H en vs os) (hs : en[i]? = some s) (hu : s ≠ .un) : ∃ v, σ[i]? = some (some v) := by
  obtain ⟨M, φ, B, S, E, r, d⟩ := h
  have q := E.2.1 i s hs
  cases s with
  | un => exact absurd rfl hu
  | v o => obtain ⟨x, q, _⟩ := q; exact ⟨x, q⟩
  | p o => obtain ⟨x, q, _⟩ := q; exact ⟨x, q⟩
theorem RX.putBackP {i : Nat} {x : V} {o : OT} (h : RX K G F τ σ H (en.set i (.p .hole)) (x :: vs) (o :: os)) (hi : i < en.length) (hx : σ[i]? = some (some x)) (hτ : τ[i]? = some (some x)) : RX K G F τ σ H (en.set i (.p o)) vs os := by
  obtain ⟨M, φ, B, S, E, r, d⟩ := h
  cases r with
  | cons r1 r2 hd =>
    rename_i A B
    have e0 : ∀ j, j ≠ i → (en.set i (.p .hole))[j]? = (en.set i (.p o))[j]? := fun j hj => by
      rw [List.getElem?_set_ne (Ne.symm hj), List.getElem?_set_ne (Ne.symm hj)]
    refine ⟨M, fun j => if j = i then A else φ j, B, S, ⟨by simpa using E.1, fun j s hs => ?_, fun j hj => ?_, fun j k hjk a ha => ?_⟩, r2, fun j a ha => ?_⟩
    · dsimp only
      by_cases e : j = i
      · subst e
        rw [List.getElem?_set_self hi] at hs
        cases hs
        rw [if_pos rfl]
        exact ⟨x, hx, hτ, r1⟩
      · rw [← e0 j e] at hs
        rw [if_neg e]
        exact E.2.1 j s hs
    · have e : j ≠ i := by simp at hj; omega
      dsimp only
      rw [if_neg e]
      exact E.2.2.1 j (by simpa using hj)
    · dsimp only at ha ⊢
      by_cases e : j = i
      · rw [if_pos e] at ha
        rw [if_neg (fun z => hjk (e.trans z.symm))]
        exact fun hb => d k a (List.mem_append_left _ ha) hb
      · rw [if_neg e] at ha
        by_cases e2 : k = i
        · rw [if_pos e2]
          exact fun hb => d j a (List.mem_append_left _ hb) ha
        · rw [if_neg e2]
          exact E.2.2.2 j k hjk a ha
    · dsimp only
      by_cases e : j = i
      · rw [if_pos e]
        exact fun hb => hd a hb ha
      · rw [if_neg e]
        exact d j a (List.mem_append_right _ ha)
end
section
variable {X : Cx} {W : WX} {k : Nat} {f : Addr} {fd : FuncData} {ps : List Str} {g : DF} {x : Str} {p pos : Pos} {e : Expr} {es : List Expr} {da : DA}
theorem liftClB {i n : Nat} {σ : St} {H : Hp} {Q : VK} (q : liftE X.K W (eClB n g i da) σ H Q) : tCalD X.K W n g (tCons (tVar i) (liftA X.K W da)) σ H Q := by
  obtain ⟨G, F, τ, en, h, hp⟩ := q
  unfold eClB at hp
  split at hp
  · exact hp.elim
  · exact hp.elim
  · rename_i s hu hs
    obtain ⟨v, hv⟩ := h.slotV hs hu
    refine ⟨v, hv, ?_⟩
    refine bindA (vs := []) (os := []) h hp fun os e1 hp1 G1 H1 vs s1 h1 => ?_
    have h1 : RX X.K G1 F τ σ H1 e1 vs os := h1
    dsimp only [ar] at hp1
    split at hp1
    · rename_i o ho
      obtain ⟨y, hy, h2⟩ := h1.take ho
      rw [hv] at hy; cases hy
      by_cases hl : (o :: os).length = n ∧ noFrs (o :: os) = true
      · rw [if_pos hl] at hp1
        obtain ⟨F', hFb, h3, back⟩ := h2.enter hl.2
        refine ⟨by rw [h3.vlen, hl.1], G1, F', o :: os, hFb, h3, ?_⟩
        generalize g (o :: os) = r at hp1 ⊢
        match r, hp1 with
        | .ok (r, o' :: os'), hp1 =>
          intro G' H' u s x
          have b := back G' H' (u :: v :: vs) (r :: o' :: os') s x
          have b2 : RX X.K G' F τ σ H' (e1.set i .un) ([u, v] ++ vs) ([r, o'] ++ os') := b
          have b3 := (RX.left rfl b2).swap
          exact hp1 G' H' [u] (s1.trans s) (b3.putBack (List.getElem?_eq_some_iff.mp ho).1 hv) u rfl
        | .error (.exn c _), hp1 => exact fun G' H' s x => hp1 G' H' (s1.trans s) (back G' H' [] [] s x)
      · rw [if_neg hl] at hp1
        exact hp1.elim
    · rename_i o ho
      obtain ⟨y, hy, hτ, h2⟩ := h1.takeP ho
      rw [hv] at hy; cases hy
      by_cases hl : (o :: os).length = n ∧ noFrs (o :: os) = true
      · rw [if_pos hl] at hp1
        obtain ⟨F', hFb, h3, back⟩ := h2.enter hl.2
        refine ⟨by rw [h3.vlen, hl.1], G1, F', o :: os, hFb, h3, ?_⟩
        generalize g (o :: os) = r at hp1 ⊢
        match r, hp1 with
        | .ok (r, o' :: os'), hp1 =>
          intro G' H' u s x
          have b := back G' H' (u :: v :: vs) (r :: o' :: os') s x
          have b2 : RX X.K G' F τ σ H' (e1.set i (.p .hole)) ([u, v] ++ vs) ([r, o'] ++ os') := b
          have b3 := (RX.left rfl b2).swap
          exact hp1 G' H' [u] (s1.trans s) (b3.putBackP (List.getElem?_eq_some_iff.mp ho).1 hv hτ) u rfl
      · rw [if_neg hl] at hp1
        exact hp1.elim
    · exact hp1.elim
theorem EX_callB {i : Nat} (F : DefOk X.prog X.w X.K X.mg X.base k f fd ps g) (hr : Rm k X.A) (hg : Gl X x) (hm : X.mg x = some (.ref f)) (hk : PySem.W.keepIn X.K (.ref f) = true) (hb : Binds X.K fd ps []) (tk : Takes X W)
    (h1 : PE X e (tVar i)) (ha : AX X W es da) (hdb : (x == ("__debug__" : Str)) = false := by decide) (he : starEach (e :: es) X.env = (false, eval e X.env) :: starEach es X.env := by rfl) (hpl : (backTo pos (starEach es X.env)).any (·.1) = false := by rfl) :
    EX X W (.Call (.Name x p) (e :: es) [] pos) (eClB ps.length g i da) :=
  PE.imp (pe_calD F hr hg hm hk hb tk (pa_cons h1 ha he) hdb he hpl) fun σ H Q q => liftClB q
end
/-! ### built-ins whose answer is flat -/
def FlatC (K : PySem.W.Frag) (r : List V → Hp → VK → Prop) (f : List PyData → Option PyData) : Prop :=
  ∀ (H : Hp) (vs : List V) (xs : List PyData) (z : PyData) (Q : VK), DpAll K H vs xs → f xs = some z → (∀ v, (∀ G, Dp K G v z) → Q v H) → r vs H Q
def eCb (f : List PyData → Option PyData) (da : DA) : DE := fun en => bd (da en) fun p => match (frzs p.1).bind f with
  | some z => .ok (.d z, p.2)
  | none => .error .stuck
section
variable {X : Cx} {W : WX} {id T : String} {r : List V → Hp → VK → Prop} {f : List PyData → Option PyData} {x : Str} {p pos : Pos} {e : Expr} {es : List Expr} {da : DA}
theorem RX.datas {K : PySem.W.Frag} {G H : Hp} {F : FS} {τ σ : St} {en : En} {vs : List V} {os : List OT} {xs : List PyData} (h : RX K G F τ σ H en vs os) (e : frzs os = some xs) : DpAll K H vs xs := by
  obtain ⟨M, φ, B, S, E, r, d⟩ := h
  exact RepOs.dp S.g os vs _ xs r (fun a ha u hu => S.m _ _ hu) e
theorem liftCb (hf : FlatC X.K r f) {σ : St} {H : Hp} {Q : VK} (q : liftE X.K W (eCb f da) σ H Q) : tCB r (liftA X.K W da) σ H Q := by
  obtain ⟨G, F, τ, en, h, hp⟩ := q
  refine bindA (vs := []) (os := []) h hp fun os e1 hp1 G1 H1 vs s1 h1 => ?_
  have h1 : RX X.K G1 F τ σ H1 e1 vs os := h1
  dsimp only at hp1
  cases ex : (frzs os).bind f with
  | none => rw [ex] at hp1; exact hp1.elim
  | some z =>
    rw [ex] at hp1
    obtain ⟨xs, e1, e2⟩ := Option.bind_eq_some_iff.mp ex
    exact hf H1 vs xs z Q (h1.datas e1) e2 fun v hv => hp1 G1 H1 [v] s1 (h1.nil.withD (hv G1)) v rfl
theorem EX_cb (hc : CallR X (.builtin id) r) (hf : FlatC X.K r f) (hg : Gl X x) (hm : X.mg x = none) (hv : bootBuiltins x = some (.builtin id)) (ha : AX X W (e :: es) da) (hn : x ≠ "__name__" := by decide) (hdb : (x == ("__debug__" : Str)) = false := by decide)
    (he : starEach (e :: es) X.env = (false, eval e X.env) :: starEach es X.env := by rfl) (hpl : (backTo pos (starEach es X.env)).any (·.1) = false := by rfl) : EX X W (.Call (.Name x p) (e :: es) [] pos) (eCb f da) :=
  PE.imp (pe_callB hc hg hm hv ha hn hdb he hpl) fun σ H Q q => liftCb hf q
end
def fMax2 : List PyData → Option PyData
  | [.int i, .int j] => some (.int (if j > i then j else i))
  | _ => none
def fMin2 : List PyData → Option PyData
  | [.int i, .int j] => some (.int (if j < i then j else i))
  | _ => none
/-- a list's ints -/
def ints? : List PyData → Option (List Int)
  | [] => some []
  | .int i :: xs => (ints? xs).map (i :: ·)
  | _ :: _ => none
def bools? : List PyData → Option (List Bool)
  | [] => some []
  | .bool i :: xs => (bools? xs).map (i :: ·)
  | _ :: _ => none
theorem ints_vs {K : PySem.W.Frag} {H : Hp} : ∀ {xs : List PyData} {ns : List Int} {vs : List V}, ints? xs = some ns → DpAll K H vs xs → vs = ns.map V.int
  | [], ns, vs, e, h => by simp [ints?] at e; subst e; cases h; rfl
  | .int i :: xs, ns, vs, e, h => by
    simp only [ints?, Option.map_eq_some_iff] at e
    obtain ⟨ms, e, rfl⟩ := e
    cases h with
    | cons h1 h2 => cases h1; rw [List.map_cons, ints_vs e h2]
  | .none :: _, _, _, e, _ => by simp [ints?] at e
  | .bool _ :: _, _, _, e, _ => by simp [ints?] at e
  | .str _ :: _, _, _, e, _ => by simp [ints?] at e
  | .list _ :: _, _, _, e, _ => by simp [ints?] at e
  | .tuple _ :: _, _, _, e, _ => by simp [ints?] at e
  | .dict _ :: _, _, _, e, _ => by simp [ints?] at e
theorem bools_vs {K : PySem.W.Frag} {H : Hp} : ∀ {xs : List PyData} {ns : List Bool} {vs : List V}, bools? xs = some ns → DpAll K H vs xs → vs = ns.map V.bl
  | [], ns, vs, e, h => by simp [bools?] at e; subst e; cases h; rfl
  | .bool i :: xs, ns, vs, e, h => by
    simp only [bools?, Option.map_eq_some_iff] at e
    obtain ⟨ms, e, rfl⟩ := e
    cases h with
    | cons h1 h2 => cases h1; rw [List.map_cons, bools_vs e h2]
  | .none :: _, _, _, e, _ => by simp [bools?] at e
  | .int _ :: _, _, _, e, _ => by simp [bools?] at e
  | .str _ :: _, _, _, e, _ => by simp [bools?] at e
  | .list _ :: _, _, _, e, _ => by simp [bools?] at e
  | .tuple _ :: _, _, _, e, _ => by simp [bools?] at e
  | .dict _ :: _, _, _, e, _ => by simp [bools?] at e
def foldMax : List Int → Option Int
  | [] => none
  | i :: r => some (r.foldl max i)
def fAll : List PyData → Option PyData
  | [.list xs] => (bools? xs).map fun bs => .bool (bs.all id)
  | _ => none
theorem foldMax_spec : ∀ (r : List Int) (i : Int), (r.foldl max i ∈ i :: r) ∧ ∀ y ∈ i :: r, y ≤ r.foldl max i
  | [], i => ⟨by simp, by simp⟩
  | j :: r, i => by
    obtain ⟨h1, h2⟩ := foldMax_spec r (max i j)
    rw [List.foldl_cons]
    refine ⟨?_, fun y hy => ?_⟩
    · rcases List.mem_cons.mp h1 with e | e
      · rw [e]
        by_cases c : i ≤ j
        · rw [Int.max_eq_right c]; simp
        · rw [Int.max_eq_left (by omega)]; simp
      · exact List.mem_cons_of_mem _ (List.mem_cons_of_mem _ e)
    · have hm := h2 (max i j) List.mem_cons_self
      rcases List.mem_cons.mp hy with rfl | hy
      · have := Int.le_max_left y j; omega
      · rcases List.mem_cons.mp hy with rfl | hy
        · have := Int.le_max_right i y; omega
        · exact h2 y (List.mem_cons_of_mem _ hy)
section
variable {K : PySem.W.Frag}
theorem flat_max2 : FlatC K (fun xs H Q => ∃ i j, xs = [.int i, .int j] ∧ Q (.int (if j > i then j else i)) H) fMax2 := by
  intro H vs xs z Q h e q
  unfold fMax2 at e
  split at e
  · cases e
    cases h with | cons h1 h2 => cases h2 with | cons h2 h3 => cases h3; cases h1; cases h2; exact ⟨_, _, rfl, q _ fun _ => .int _⟩
  · cases e
theorem flat_min2 : FlatC K (fun xs H Q => ∃ i j, xs = [.int i, .int j] ∧ Q (.int (if j < i then j else i)) H) fMin2 := by
  intro H vs xs z Q h e q
  unfold fMin2 at e
  split at e
  · cases e
    cases h with | cons h1 h2 => cases h2 with | cons h2 h3 => cases h3; cases h1; cases h2; exact ⟨_, _, rfl, q _ fun _ => .int _⟩
  · cases e
theorem flat_all : FlatC K (rAll K) fAll := by
  intro H vs xs z Q h e q
  unfold fAll at e
  split at e
  · simp only [Option.map_eq_some_iff] at e
    obtain ⟨ns, e, rfl⟩ := e
    cases h with
    | cons h1 h2 =>
      cases h2
      cases h1 with
      | lst hs ha =>
        have := bools_vs e ha
        subst this
        exact ⟨_, ns, rfl, hs, q _ fun _ => .bl _⟩
  · cases e
end
/-! ### operators on ints and data -/
def fAdd := fI fun i j => some (.int (i + j))
def fSub := fI fun i j => some (.int (i - j))
def fMul := fI fun i j => if i.natAbs.log2 + j.natAbs.log2 < 1000000 then some (.int (i * j)) else none
def fDiv := fI fun i j => if 0 < j ∧ j.natAbs.log2 < 9000 then some (.int (i / j)) else none
def fMod := fI fun i j => if 0 < j then some (.int (i % j)) else none
def fPow := fI fun i j => if 0 ≤ j ∧ (Builtin.Int.intBits i : Int) * j ≤ 2 ^ 27 then some (.int (i ^ j.toNat)) else none
def fLt := fI fun i j => some (.bool (decide (i < j)))
def fLe := fI fun i j => some (.bool (decide (i ≤ j)))
def fGt := fI fun i j => some (.bool (decide (j < i)))
def fGe := fI fun i j => some (.bool (decide (j ≤ i)))
def fEq (x y : PyData) : Option PyData := if SeqAt.shaped x = true ∧ SeqAt.shaped y = true then some (.bool (PyData.eqv x y)) else none
def fNe (x y : PyData) : Option PyData := if SeqAt.shaped x = true ∧ SeqAt.shaped y = true then some (.bool (!PyData.eqv x y)) else none
theorem op_powW {X : Cx} : OpR X (binaryOp .Pow) (rI (fun i j => 0 ≤ j ∧ (Builtin.Int.intBits i : Int) * j ≤ 2 ^ 27) fun i j => .int (i ^ j.toNat)) := opI fun _ _ _ _ _ _ _ hc q => PyProof.Rows.pow_int hc.1 hc.2 q
section
variable {K : PySem.W.Frag}
theorem flatI {f : Int → Int → V} {g : Int → Int → Option PyData} {C : Int → Int → Prop} (hg : ∀ i j z, g i j = some z → C i j ∧ ∀ G, Dp K G (f i j) z) : Flat2 K (rI C f) (fI g) := by
  intro H x y dx dy z Q hx hy e q
  unfold fI at e
  split at e
  · rename_i i j
    cases hx; cases hy
    obtain ⟨c, k⟩ := hg i j z e
    exact ⟨i, j, rfl, rfl, c, q _ k⟩
  · cases e
theorem flatI0 {f : Int → Int → V} {g : Int → Int → Option PyData} (hg : ∀ i j z, g i j = some z → ∀ G, Dp K G (f i j) z) : Flat2 K (rI0 f) (fI g) := by
  intro H x y dx dy z Q hx hy e q
  unfold fI at e
  split at e
  · rename_i i j
    cases hx; cases hy
    exact ⟨i, j, rfl, rfl, q _ (hg i j z e)⟩
  · cases e
theorem flat_add : Flat2 K (rI0 fun i j => .int (i + j)) fAdd := flatI0 fun i j z e G => by cases e; exact .int _
theorem flat_sub : Flat2 K (rI0 fun i j => .int (i - j)) fSub := flatI0 fun i j z e G => by cases e; exact .int _
theorem flat_mul : Flat2 K (rI L2.CMulW fun i j => .int (i * j)) fMul := flatI fun i j z e => by
  split at e
  · rename_i h; cases e; exact ⟨h, fun G => .int _⟩
  · cases e
theorem flat_div : Flat2 K (rI L2.CDivW fun i j => .int (i / j)) fDiv := flatI fun i j z e => by
  split at e
  · rename_i h; cases e; exact ⟨h, fun G => .int _⟩
  · cases e
theorem flat_mod : Flat2 K (rI (fun _ j => 0 < j) fun i j => .int (i % j)) fMod := flatI fun i j z e => by
  split at e
  · rename_i h; cases e; exact ⟨h, fun G => .int _⟩
  · cases e
theorem flat_pow : Flat2 K (rI (fun i j => 0 ≤ j ∧ (Builtin.Int.intBits i : Int) * j ≤ 2 ^ 27) fun i j => .int (i ^ j.toNat)) fPow := flatI fun i j z e => by
  split at e
  · rename_i h; cases e; exact ⟨h, fun G => .int _⟩
  · cases e
theorem flat_lt : Flat2 K (rI0 fun i j => .bl (decide (i < j))) fLt := flatI0 fun i j z e G => by cases e; exact .bl _
theorem flat_le : Flat2 K (rI0 fun i j => .bl (decide (i ≤ j))) fLe := flatI0 fun i j z e G => by cases e; exact .bl _
theorem flat_gt : Flat2 K (rI0 fun i j => .bl (decide (j < i))) fGt := flatI0 fun i j z e G => by cases e; exact .bl _
theorem flat_ge : Flat2 K (rI0 fun i j => .bl (decide (j ≤ i))) fGe := flatI0 fun i j z e G => by cases e; exact .bl _
theorem flat_eq : Flat2 K (rEqD K) fEq := by
  intro H x y dx dy z Q hx hy e q
  unfold fEq at e
  split at e
  · rename_i h
    cases e
    exact ⟨dx, dy, hx, hy, h.1, h.2, q _ fun _ => .bl _⟩
  · cases e
theorem flat_ne : Flat2 K (rNeD K) fNe := by
  intro H x y dx dy z Q hx hy e q
  unfold fNe at e
  split at e
  · rename_i h
    cases e
    exact ⟨dx, dy, hx, hy, h.1, h.2, q _ fun _ => .bl _⟩
  · cases e
end
end Lf
end
section
set_option Elab.async false
set_option linter.all false
set_option maxRecDepth 100000
namespace Lf
open PySem PySem.Spec L2
variable [Tabs]
/-! ### zip of lists and tuples, two or three, in any mix -/
def SqB (K : PySem.W.Frag) (b : Bool) (H : Hp) (a : Addr) (xs : List V) : Prop := if b = true then SqT K H a xs else SqL K H a xs
def IsB (b : Bool) (h : Heap) (a : Addr) (items : Array Value) : Prop := if b = true then h.IsTuple a items else h.IsList a items
def ItB (b : Bool) (h : Heap) (it a : Addr) (i : Nat) : Prop := if b = true then h.IsTupleIter it a i else h.IsListIter it a i
def iterO (b : Bool) (a : Addr) : Obj := { cls := .type (if b = true then "tuple_iterator" else "list_iterator"), data := .fields #[.ref a, .int 0 0] }
theorem drawsB {prog : Program} {w : World} {A : Around} (hh : A.handled = none) (b : Bool) (it a : Addr) (hne : a ≠ it) (items : Array Value) :
    Draws prog w A it [it, a] items.size (fun i v => items[i]? = some v) (fun i h => ItB b h it a i ∧ IsB b h a items) := by
  cases b
  · exact Draws.list hh it a hne items
  · exact Draws.tuple hh it a hne items
theorem beginsB (b : Bool) (a : Addr) (items : Array Value) : Begins (.ref a) (iterO b a) (fun h => IsB b h a items) := by
  cases b
  · exact begins_list a items
  · exact begins_tuple a items
theorem itB_begun {b : Bool} {h : Heap} {it a : Addr} (e : h.get? it = some (iterO b a)) : ItB b h it a 0 := by
  cases b
  · exact ⟨_, e, rfl, rfl⟩
  · exact ⟨_, e, rfl, rfl⟩
theorem itB_at {b : Bool} {h h' : Heap} {it a : Addr} {i : Nat} (x : ItB b h it a i) (k : ∀ o, h.get? it = some o → h'.get? it = some o) : ItB b h' it a i := by
  cases b
  · exact Heap.IsListIter.at x k
  · exact Heap.IsTupleIter.at x k
theorem itB_obj {b : Bool} {h : Heap} {it a : Addr} {i : Nat} (x : ItB b h it a i) : ∃ o, h.get? it = some o ∧ ∀ v, o.data ≠ .cell v := by
  cases b
  · obtain ⟨o, e, _, d⟩ := x; exact ⟨o, e, fun v q => by rw [d] at q; cases q⟩
  · obtain ⟨o, e, _, d⟩ := x; exact ⟨o, e, fun v q => by rw [d] at q; cases q⟩
section
variable {X : Cx} {pins : List (Addr × Obj)} {σ : St} {H : Hp} {s : Shared}
theorem srcB (I : Inv X pins σ H s) {b : Bool} {a : Addr} {xs : List V} (h : SqB X.K b H a xs) : ∃ its : List Value, Vals xs its ∧ IsB b s.heap a its.toArray ∧ a < s.heap.objs.size := by
  cases b
  · obtain ⟨its, rv, p, _⟩ := I.list h
    exact ⟨its, rv, p.isList, p.lt⟩
  · obtain ⟨its, rv, p, _⟩ := I.tuple h
    exact ⟨its, rv, p, by obtain ⟨o, ho, _⟩ := id p; exact Heap.lt_size ho⟩
theorem srcB_inj (I : Inv X pins σ H s) {b : Bool} {a : Addr} {xs ys : List V} (h : SqB X.K b H a xs) (h' : SqB X.K b H a ys) : xs = ys := by
  cases b
  · exact I.list_inj h h'
  · exact I.tuple_inj h h'
end
def Zt2 (K : PySem.W.Frag) (b1 b2 : Bool) (a1 a2 : Addr) : It :=
  ⟨fun i H => ∃ (xs1 xs2 : List V), SqB K b1 H a1 xs1 ∧ SqB K b2 H a2 xs2 ∧ i < min xs1.length xs2.length,
    fun i H v H' => ∃ T x1 x2, v = .ref T ∧ H T = none ∧ H' = upd H T (.tup [x1, x2]) ∧ (∀ xs, SqB K b1 H a1 xs → xs[i]? = some x1) ∧ (∀ xs, SqB K b2 H a2 xs → xs[i]? = some x2),
    fun i H => ∃ (xs1 xs2 : List V), SqB K b1 H a1 xs1 ∧ SqB K b2 H a2 xs2 ∧ i = min xs1.length xs2.length⟩
theorem turn_z2 {P : Program} {w : World} {K : PySem.W.Frag} {elts : List Expr} {kk : Nat} {tpos : Pos} {b1 b2 : Bool} {a1 a2 z TI TO i1 i2 : Addr} (D : ZipSep2 z TI TO i1 i2 [i1, a1] [i2, a2]) (n1 : a1 ≠ i1) (n2 : a2 ≠ i2) :
    Turn P w K (.Tuple elts kk tpos) (Zt2 K b1 b2 a1 a2) [z, TI, TO, i1, i2] z (fun i h => IsZip h z TI TO .none ∧ IsTupOf2 h TI (.ref i1) (.ref i2) ∧ (∃ x1 x2, IsTupOf2 h TO x1 x2) ∧ ItB b1 h i1 a1 i ∧ ItB b2 h i2 a2 i) where
  mem := by simp
  obj := fun i h st d hd => by
    obtain ⟨hz, hTI, ⟨x1, x2, hTO⟩, h1, h2⟩ := st
    have e' : d = z ∨ d = TI ∨ d = TO ∨ d = i1 ∨ d = i2 := by simpa using hd
    rcases e' with q | q | q | q | q
    · rw [q]; exact ⟨_, hz, fun v q => nomatch q⟩
    · rw [q]; exact ⟨_, hTI, fun v q => nomatch q⟩
    · rw [q]; exact ⟨_, hTO, fun v q => nomatch q⟩
    · rw [q]; exact itB_obj h1
    · rw [q]; exact itB_obj h2
  keep := fun i h h' st k => by
    obtain ⟨hz, hTI, ⟨x1, x2, hTO⟩, h1, h2⟩ := st
    exact ⟨k z (by simp) _ hz, k TI (by simp) _ hTI, ⟨x1, x2, k TO (by simp) _ hTO⟩, itB_at h1 fun o q => k i1 (by simp) o q, itB_at h2 fun o q => k i2 (by simp) o q⟩
  item := by
    intro X hP hw hK hc i pins s σ H E I hf st hg
    subst hP hw hK
    obtain ⟨hz, hTI, hTO, h1, h2⟩ := st
    obtain ⟨xs1, xs2, hq1, hq2, hlt⟩ := hg
    obtain ⟨its1, rv1, p1, l1⟩ := srcB I hq1
    have e1 := rv1.length
    obtain ⟨u1, hu1, ru1⟩ := rv1.get (List.getElem?_eq_getElem (show i < xs1.length by omega))
    obtain ⟨its2, rv2, p2, l2⟩ := srcB I hq2
    have e2 := rv2.length
    obtain ⟨u2, hu2, ru2⟩ := rv2.get (List.getElem?_eq_getElem (show i < xs2.length by omega))
    have W := WalksT.zipD2 (prog := X.prog) (w := X.w) (A := X.A) D (drawsB (A := X.A.in1) (I.ok.hd hc) b1 i1 a1 n1 its1.toArray) (drawsB (A := X.A.in1) (I.ok.hd hc) b2 i2 a2 n2 its2.toArray)
    refine W.item i s _ _ (by simp only [List.size_toArray]; omega) ⟨hz, hTI, hTO, ⟨h1, p1⟩, ⟨h2, p2⟩⟩ fun T vals h' tk pt hT hIsT mid hk => ?_
    refine ⟨_, rfl, W.go elts kk tpos i T _ _ _ mid fun h'' st'' hk2 => ?_⟩
    obtain ⟨y1, y2, hy1, hy2, rfl⟩ := pt
    have ey1 : y1 = u1 := by
      have q : its1[i]? = some y1 := by simpa using hy1
      exact Option.some.inj (q.symm.trans hu1)
    subst ey1
    have ey2 : y2 = u2 := by
      have q : its2[i]? = some y2 := by simpa using hy2
      exact Option.some.inj (q.symm.trans hu2)
    subst ey2
    have kept : ∀ b o, b ∉ ([z, TO, i1, i2] : List Addr) → s.heap.get? b = some o → h''.get? b = some o := fun b o hb q => hk2 b o hb (hk b o hb q)
    have hT2 : h''.IsTuple T #[y1, y2] := hIsT.at fun o q => hk2 T o (W.apart i T h' mid) q
    have hsub : ∀ b ∈ ([z, TO, i1, i2] : List Addr), b ∈ ([z, TI, TO, i1, i2] : List Addr) := by
      intro b hb
      simp only [List.mem_cons, List.not_mem_nil, or_false] at hb ⊢
      rcases hb with q | q | q | q
      · exact .inl q
      · exact .inr (.inr (.inl q))
      · exact .inr (.inr (.inr (.inl q)))
      · exact .inr (.inr (.inr (.inr (q))))
    have new : ObjOk X.prog X.w (upd H T (.tup [xs1[i], xs2[i]])) h'' T (.tup [xs1[i], xs2[i]]) :=
      ⟨by show 2 ≤ sizeLine; decide, [y1, y2], .cons ru1 (.cons ru2 (.nil)), hT2⟩
    have I1 : Inv X pins σ (upd H T (.tup [xs1[i], xs2[i]])) { s with heap := h'', toks := tk } :=
      I.turnedNew (t' := tk) (ch := [z, TO, i1, i2]) kept (fun b hb => hf b (hsub b hb)) hT new
    obtain ⟨c1, c2, c3, ⟨d1, _⟩, ⟨d2, _⟩⟩ := st''
    refine ⟨.ref T, _, I1, rfl, ⟨T, _, _, rfl, I.hok.fresh hT, rfl, fun l hl => by rw [srcB_inj I hl hq1]; exact List.getElem?_eq_getElem _, fun l hl => by rw [srcB_inj I hl hq2]; exact List.getElem?_eq_getElem _⟩, ⟨c1, c2, c3, d1, d2⟩, fun b hb => ?_⟩
    have hlt : b < s.heap.objs.size := by
      have e' : b = z ∨ b = TI ∨ b = TO ∨ b = i1 ∨ b = i2 := by simpa using hb
      rcases e' with q | q | q | q | q
      · rw [q]; exact Heap.lt_size hz
      · rw [q]; exact Heap.lt_size hTI
      · rw [q]; obtain ⟨_, _, q2⟩ := hTO; exact Heap.lt_size q2
      · rw [q]; obtain ⟨o, q2, _⟩ := itB_obj h1; exact Heap.lt_size q2
      · rw [q]; obtain ⟨o, q2, _⟩ := itB_obj h2; exact Heap.lt_size q2
    rw [upd_ne (Nat.ne_of_lt (Nat.lt_of_lt_of_le hlt hT))]
    exact (hf b hb).1
  done := by
    intro X hP hw hK hc i pins s σ H E I hf st hg
    subst hP hw hK
    obtain ⟨hz, hTI, hTO, h1, h2⟩ := st
    obtain ⟨xs1, xs2, hq1, hq2, hend⟩ := hg
    obtain ⟨its1, rv1, p1, l1⟩ := srcB I hq1
    have e1 := rv1.length
    obtain ⟨its2, rv2, p2, l2⟩ := srcB I hq2
    have e2 := rv2.length
    have W := WalksT.zipD2 (prog := X.prog) (w := X.w) (A := X.A) D (drawsB (A := X.A.in1) (I.ok.hd hc) b1 i1 a1 n1 its1.toArray) (drawsB (A := X.A.in1) (I.ok.hd hc) b2 i2 a2 n2 its2.toArray)
    have ei : i = min its1.toArray.size its2.toArray.size := by simp only [List.size_toArray]; omega
    refine W.done s _ _ (by rw [← ei]; exact ⟨hz, hTI, hTO, ⟨h1, p1⟩, ⟨h2, p2⟩⟩) fun h' tk hk => ⟨rfl, ?_⟩
    refine I.turnedL (t' := tk) (ch := [z, TI, TO, i1, i2]) (fun b o hb q => hk b o (fun hm => hb ?_) q) hf
    simp only [List.mem_cons, List.not_mem_nil, or_false] at hm ⊢
    rcases hm with q | q | q | q
    · exact .inl q
    · exact .inr (.inr (.inl q))
    · exact .inr (.inr (.inr (.inl q)))
    · exact .inr (.inr (.inr (.inr (q))))
  self := fun A i s Q E st h => wpAny_pyIter_zip st.1 h
/-- zip of any 2 -/
def iZp2 (K : PySem.W.Frag) (ta : TA) : TI := fun σ H R => ta σ H fun vs H1 => ∃ b1 b2 a1 a2 xs1 xs2, vs = [.ref a1, .ref a2] ∧ SqB K b1 H1 a1 xs1 ∧ SqB K b2 H1 a2 xs2 ∧ R (Zt2 K b1 b2 a1 a2) H1
theorem pi_zp2 {X : Cx} {e1 e2 : Expr} {ta : TA} {p pos tpos : Pos} {elts : List Expr} {kk : Nat} (hg : Gl X "zip") (hm : X.mg "zip" = none) (ha : PA X [e1, e2] ta)
    (hs : starEach [e1, e2] X.env = (false, eval e1 X.env) :: starEach [e2] X.env := by rfl) (hpl : (backTo pos (starEach [e2] X.env)).any (·.1) = false := by rfl) :
    PI X (.Tuple elts kk tpos) (.Call (.Name "zip" p) [e1, e2] [] pos) (iZp2 X.K ta) := by
  refine ⟨fun pins s σ H R I h => ?_⟩
  refine PyProof.Rows.Call_ (ld_blt I hg hm PyProof.Rows.boot_zip (PyProof.Rows.callWith_type1 (thn (ha.run pos pins s σ H _ I h) fun us s1 ⟨vs, H1, I1, r1, q1⟩ => ?_) hs hpl))
  obtain ⟨b1, b2, a1, a2, xs1, xs2, ex, hq1, hq2, q⟩ := q1
  subst ex
  obtain ⟨w1, w2, rfl, r1, r2⟩ := r1.two
  cases r1; cases r2
  have fresh5 : ∀ c, c ∈ [s1.heap.objs.size + 4, s1.heap.objs.size + 2, s1.heap.objs.size + 3, s1.heap.objs.size, s1.heap.objs.size + 1] → FpOk X pins H1 c := fun c hcm => by
    have hle : s1.heap.objs.size ≤ c := by
      simp only [List.mem_cons, List.not_mem_nil, or_false] at hcm
      rcases hcm with z | z | z | z | z <;> (rw [z]; first | exact Nat.le_refl _ | exact Nat.le_add_right _ _)
    exact I1.fpOk hle (I1.hok.fresh hle)
  obtain ⟨its1, rv1, p1, l1⟩ := srcB I1 hq1
  obtain ⟨its2, rv2, p2, l2⟩ := srcB I1 hq2
  refine zip_begins2 (beginsB b1 a1 its1.toArray) (beginsB b2 a2 its2.toArray) p1 p2 fun h' hz hTI hTO h1 h2 hsz hk => wpAny_pyIter_zip hz ?_
  have I2 : Inv X pins σ H1 { s1 with heap := h' } := I1.kept (t' := s1.toks) hk
  exact ⟨s1.heap.objs.size + 4, [s1.heap.objs.size + 4, s1.heap.objs.size + 2, s1.heap.objs.size + 3, s1.heap.objs.size, s1.heap.objs.size + 1], _, _, H1, rfl, I2, turn_z2 (zip_sep2 (N := s1.heap.objs.size) (fp1 := [a1])  (fp2 := [a2]) (fun b hb => by simp at hb; rw [hb]; exact l1) (fun b hb => by simp at hb; rw [hb]; exact l2)) (Nat.ne_of_lt l1) (Nat.ne_of_lt (Nat.lt_add_right _ l2)), ⟨hz, hTI, ⟨_, _, hTO⟩, itB_begun h1, itB_begun h2⟩, fresh5, q⟩
/-! ### .. of data -/
def zip2 (xs ys : List PyData) : List PyData := List.zipWith (fun x y => .tuple [x, y]) xs ys
theorem sqB_same {K : PySem.W.Frag} {H H' : Hp} {b : Bool} {a : Addr} {xs : List V} (e : Same H H') (h : SqB K b H a xs) : SqB K b H' a xs := by
  cases b
  · exact Same.seq e h
  · exact sqT_same e h
/-- data that is walked: where it lies -/
theorem dp_items {K : PySem.W.Frag} {G : Hp} {v : V} {x : PyData} {xs : List PyData} (h : Dp K G v x) (e : dItems x = some xs) : ∃ b a vs, v = .ref a ∧ SqB K b G a vs ∧ DpAll K G vs xs := by
  cases x with
  | list ys =>
    cases e
    cases h with | lst hs ha => exact ⟨false, _, _, rfl, hs, ha⟩
  | tuple ys =>
    cases e
    cases h with | tup hs ha => exact ⟨true, _, _, rfl, hs, ha⟩
  | _ => cases e
theorem its_z2 {K : PySem.W.Frag} {G : Hp} {b c : Bool} {a1 a2 : Addr} {vs ws : List V} {xs ys : List PyData} (h1 : SqB K b G a1 vs) (h2 : SqB K c G a2 ws) (d1 : DpAll K G vs xs) (d2 : DpAll K G ws ys) : ItS K G (Zt2 K b c a1 a2) (zip2 xs ys) where
  go := fun i H s hi => ⟨vs, ws, sqB_same s h1, sqB_same s h2, by rw [DpAll.length d1, DpAll.length d2]; simpa [zip2] using hi⟩
  stop := fun H s => ⟨vs, ws, sqB_same s h1, sqB_same s h2, by rw [DpAll.length d1, DpAll.length d2]; simp [zip2]⟩
  yld := fun i H x H' G1 F τ σ en us os hi s h y => by
    obtain ⟨T, x1, x2, rfl, hT, rfl, f1, f2⟩ := y
    obtain ⟨y1, g1, k1⟩ := DpAll.get' d1 (f1 vs (sqB_same (s.trans h.same) h1))
    obtain ⟨y2, g2, k2⟩ := DpAll.get' d2 (f2 ws (sqB_same (s.trans h.same) h2))
    obtain ⟨s3, h3⟩ := h.newG (u := .tup [x1, x2]) hT
    exact ⟨.tuple [y1, y2], _, by unfold zip2; rw [List.getElem?_zipWith, g1, g2], s3, h3.withD (.tup (SqT.of upd_same) (.cons (dp_same (s.trans s3) _ _ k1) (.cons (dp_same (s.trans s3) _ _ k2) .nil)))⟩
def iZ2 (da : DA) : DI := fun en => bd (da en) fun p => match frzs p.1 with
  | some [x, y] => (match dItems x, dItems y with
    | some xs, some ys => .ok (zip2 xs ys, p.2)
    | _, _ => .error .stuck)
  | _ => .error .stuck
section
variable {X : Cx} {W : WX} {e1 e2 e3 : Expr} {elts : List Expr} {kk : Nat} {tpos p pos : Pos} {da : DA}
theorem IX_z2 (hg : Gl X "zip") (hm : X.mg "zip" = none) (ha : AX X W [e1, e2] da) (hs : starEach [e1, e2] X.env = (false, eval e1 X.env) :: starEach [e2] X.env := by rfl) (hpl : (backTo pos (starEach [e2] X.env)).any (·.1) = false := by rfl) :
    IX X W (.Tuple elts kk tpos) (.Call (.Name "zip" p) [e1, e2] [] pos) (iZ2 da) := PI.imp (pi_zp2 hg hm ha hs hpl) fun σ H Rr q => by
  obtain ⟨G, F, τ, en, h, hp⟩ := q
  refine bindAI (X := X) h hp fun o e1 hp1 G1 H1 v s1 h1 => ?_
  dsimp only at hp1
  split at hp1
  · rename_i xs e2 hx
    split at hx
    · rename_i x y ex
      split at hx
      · rename_i ys zs ey ez
        cases hx
        obtain ⟨G2, s2, dv, h2⟩ := h1.freezeA ex
        cases dv with
        | cons d1 d2 =>
          cases d2 with
          | cons d2 d3 =>
            cases d3
            obtain ⟨b, a1, vs1, rfl, k1, l1⟩ := dp_items d1 ey
            obtain ⟨c, a2, vs2, rfl, k2, l2⟩ := dp_items d2 ez
            exact ⟨b, c, a1, a2, vs1, vs2, rfl, sqB_same h2.same k1, sqB_same h2.same k2, hp1 G2 H1 _ (s1.trans s2) h2 (its_z2 k1 k2 l1 l2)⟩
      · cases hx
    · cases hx
  · exact hp1.elim
  · rename_i c e2 hx
    split at hx
    · split at hx <;> cases hx
    · cases hx
end
end Lf
end
section
set_option Elab.async false
set_option linter.all false
set_option maxRecDepth 100000
namespace Lf
open PySem PySem.Spec L2
variable [Tabs]
/-! ### list comprehensions -/
def wipeE : List Nat → En → Option En
  | [], en => some en
  | v :: vs, en => (wipeE vs en).bind fun e1 => match e1[v]? with
    | some (.p _) => none
    | some _ => some (e1.set v .un)
    | none => none
def nx {α : Type} (r : R α) : R α := match r with
  | .ok a => .ok a
  | .error _ => .error .stuck
def lcD (vs : List Nat) (g : DG) (tt : DT) (te : DE) : List PyData → En → List OT → R (OT × En)
  | [], en, os => .ok (.own os, en)
  | x :: xs, en, os => match g x en with
    | none => .error .stuck
    | some e2 => bd (nx (tt e2)) fun p => if p.1 = true then bd (nx (te p.2)) fun q => match wipeE vs q.2 with
        | some e5 => if few os.length then lcD vs g tt te xs e5 (os ++ [q.1]) else .error .stuck
        | none => .error .stuck
      else match wipeE vs p.2 with
        | some e5 => lcD vs g tt te xs e5 os
        | none => .error .stuck
def eLc (vs : List Nat) (di : DI) (g : DG) (tt : DT) (te : DE) : DE := fun en => bd (di en) fun p => match wipeE vs p.2 with
  | some e2 => lcD vs g tt te p.1 e2 []
  | none => .error .stuck
def tYs : DT := fun en => .ok (true, en)
abbrev W0 : WX := fun _ _ _ _ => False
section
variable {K : PySem.W.Frag} {G H : Hp} {F : FS} {τ σ σ' : St} {en e1 : En} {vs : List V} {os : List OT}
theorem wipe_get : ∀ {ns : List Nat} {σ : St} {j : Nat}, j ∉ ns → (wipe σ ns)[j]? = σ[j]?
  | [], _, _, _ => rfl
  | n :: ns, σ, j, h => by
    show ((wipe σ ns).set n none)[j]? = _
    rw [List.getElem?_set_ne (fun e => h (by rw [e]; exact List.mem_cons_self)), wipe_get fun hm => h (List.mem_cons_of_mem _ hm)]
theorem wipe_in : ∀ {ns : List Nat} {σ : St} {j : Nat}, j ∈ ns → j < σ.length → (wipe σ ns)[j]? = some none
  | n :: ns, σ, j, h, hl => by
    show ((wipe σ ns).set n none)[j]? = _
    by_cases e : j = n
    · subst e; rw [List.getElem?_set_self (by rw [wipe_length]; exact hl)]
    · rw [List.getElem?_set_ne (Ne.symm e)]
      rcases List.mem_cons.mp h with q | q
      · exact absurd q e
      · exact wipe_in q hl
theorem wipe_off {ns is : List Nat} (h : Off is σ σ') (hs : ∀ i ∈ is, i ∈ ns) : wipe σ' ns = wipe σ ns := by
  apply List.ext_getElem?
  intro j
  by_cases hj : j ∈ ns
  · by_cases hl : j < σ.length
    · rw [wipe_in hj hl, wipe_in hj (by rw [h.1]; exact hl)]
    · rw [List.getElem?_eq_none (by rw [wipe_length, h.1]; omega), List.getElem?_eq_none (by rw [wipe_length]; omega)]
  · rw [wipe_get hj, wipe_get hj, h.2 j fun hm => hj (hs j hm)]
theorem wipe_wipe {ns : List Nat} : wipe (wipe σ ns) ns = wipe σ ns := by
  apply List.ext_getElem?
  intro j
  by_cases hj : j ∈ ns
  · by_cases hl : j < σ.length
    · rw [wipe_in hj (by rw [wipe_length]; exact hl), wipe_in hj hl]
    · rw [List.getElem?_eq_none (by rw [wipe_length, wipe_length]; omega), List.getElem?_eq_none (by rw [wipe_length]; omega)]
  · rw [wipe_get hj]
/-- slots of which nothing is known may hold anything -/
theorem RX.weakS (h : RX K G F τ σ H en vs os) (hl : σ'.length = σ.length) (hk : ∀ (i : Nat) (s : Slot), en[i]? = some s → s ≠ Slot.un → σ'[i]? = σ[i]?) : RX K G F τ σ' H en vs os := by
  obtain ⟨M, φ, B, S, E, r, d⟩ := h
  refine ⟨M, φ, B, S, ⟨hl.trans E.1, fun i s hs => ?_, E.2.2⟩, r, d⟩
  have q := E.2.1 i s hs
  cases s with
  | un => exact q
  | v o => obtain ⟨x, q1, q2⟩ := q; exact ⟨x, by rw [hk i _ hs (by intro z; cases z)]; exact q1, q2⟩
  | p o => obtain ⟨x, q1, q0, q2⟩ := q; exact ⟨x, by rw [hk i _ hs (by intro z; cases z)]; exact q1, q0, q2⟩
theorem RX.drop {i : Nat} {s : Slot} (h : RX K G F τ σ H en vs os) (hs : en[i]? = some s) (hp : ∀ o, s ≠ .p o) : RX K G F τ σ H (en.set i .un) vs os := by
  cases s with
  | un =>
    have : en.set i .un = en := by
      apply List.ext_getElem?
      intro j
      by_cases e : j = i
      · subst e; rw [List.getElem?_set_self (List.getElem?_eq_some_iff.mp hs).1, hs]
      · rw [List.getElem?_set_ne (Ne.symm e)]
    rw [this]; exact h
  | v o =>
    obtain ⟨x, _, q⟩ := h.take hs
    exact RX.right (vs := [x]) (os := [o]) rfl q
  | p o => exact absurd rfl (hp o)
theorem RX.wiped : ∀ {ns : List Nat} {e1 : En}, RX K G F τ σ H en vs os → wipeE ns en = some e1 → RX K G F τ σ H e1 vs os ∧ e1.length = en.length ∧ ∀ j ∈ ns, e1[j]? = some .un
  | [], e1, h, e => by cases e; exact ⟨h, rfl, fun _ z => nomatch z⟩
  | n :: ns, e1, h, e => by
    simp only [wipeE, Option.bind_eq_some_iff] at e
    obtain ⟨e2, e, q⟩ := e
    obtain ⟨h2, l2, u2⟩ := RX.wiped h e
    split at q
    · cases q
    · rename_i s hp hs
      cases q
      have hlt := (List.getElem?_eq_some_iff.mp hs).1
      refine ⟨h2.drop hs hp, by simpa using l2, fun j hj => ?_⟩
      by_cases ej : j = n
      · subst ej; rw [List.getElem?_set_self hlt]
      · rw [List.getElem?_set_ne (Ne.symm ej)]
        rcases List.mem_cons.mp hj with z | z
        · exact absurd z ej
        · exact u2 j z
    · cases q
/-- between a block's slots and the def's -/
theorem RX.acrossW {ns : List Nat} (h : RX K G F τ σ H en vs os) (hu : ∀ j ∈ ns, en[j]? = some .un) (hw : wipe σ' ns = wipe σ ns) : RX K G F τ σ' H en vs os := by
  have hl : σ'.length = σ.length := by rw [← wipe_length σ' ns, hw, wipe_length]
  refine h.weakS hl fun i s hs hn => ?_
  have : i ∉ ns := fun hm => by rw [hu i hm] at hs; cases hs; exact hn rfl
  rw [← wipe_get (σ := σ') this, hw, wipe_get this]
end
section
variable {X : Cx} {W : WX} {elt tg iter : Expr} {ifs : List Expr} {scope : Scope} {own : List (Str × Nat)} {pos : Pos} {di : DI} {g : DG} {is : List Nat} {tt : DT} {te : DE}
theorem lc_lift {σ : St} {H : Hp} {Q : VK} (hs : ∀ i ∈ is, i ∈ own.map (·.2)) (q : liftE X.K W (eLc (own.map (·.2)) di g tt te) σ H Q) :
    tLc (liftI X.K W di) (liftG X.K is g) (liftT X.K W0 tt) (liftE X.K W0 te) (own.map (·.2)) σ H Q := by
  obtain ⟨G, F, τ, en, h, hp⟩ := q
  refine ⟨G, F, τ, en, h, ?_⟩
  unfold eLc at hp
  revert hp
  match di en with
  | .error .stuck => exact fun hp => hp
  | .error (.exn c e1) => exact fun hp => hp
  | .ok (xs, e1) =>
    intro hp G1 H1 J s1 h1 hJ D nD
    simp only [bd] at hp
    cases ew : wipeE (own.map (·.2)) e1 with
    | none => rw [ew] at hp; exact hp.elim
    | some e2 =>
      rw [ew] at hp
      dsimp only at hp
      obtain ⟨h2, _, u2⟩ := h1.wiped ew
      generalize own.map (·.2) = ns at *
      have h3 : RX X.K G1 F τ σ (upd H1 D (.lst [])) e2 [.ref D] [.own []] := RX.newL0 (vs := []) (os := []) h2 nD
      refine ⟨fun i m H' => ∃ G2 e3 os, Same G1 G2 ∧ RX X.K G2 F τ σ H' e3 [.ref D] [.own os] ∧ (∀ j ∈ ns, e3[j]? = some .un) ∧ i ≤ xs.length ∧ m = xs.length - i ∧ Post X.K G2 F τ σ W ob1 (q1 Q) (lcD ns g tt te (xs.drop i) e3 os),
        ⟨_, G1, e2, [], Same.refl _, h3, u2, Nat.zero_le _, rfl, by rw [List.drop_zero]; exact hp.mono s1⟩, ?_⟩
      rintro i m H2 ⟨G2, e3, os, s2, h4, u3, hi, rfl, hp2⟩
      by_cases hlt : i < xs.length
      · refine .inr ⟨hJ.go i H2 (s2.trans h4.same) hlt, _, fun H' z => ⟨xs.length - (i + 1), by omega, z⟩, fun x H' y => ?_⟩
        obtain ⟨F', h5, back⟩ := h4.hold
        obtain ⟨dd, G3, hd, s3, h6⟩ := hJ.yld i H2 x H' G2 F' τ σ e3 [] [] hlt s2 h5 y
        have hdrop : xs.drop i = dd :: xs.drop (i + 1) := by
          obtain ⟨_, e⟩ := List.getElem?_eq_some_iff.mp hd
          rw [← e, List.drop_eq_getElem_cons hlt]
        rw [hdrop] at hp2
        simp only [lcD] at hp2
        have h7 : RX X.K G3 F' τ (wipe σ ns) H' e3 [x] [.d dd] := h6.acrossW u3 wipe_wipe
        refine ⟨G3, F', τ, e3, dd, h7, ?_⟩
        cases eg : g dd e3 with
        | none => rw [eg] at hp2; exact hp2.elim
        | some e4 =>
          rw [eg] at hp2
          dsimp only at hp2 ⊢
          intro σ2 off h8
          have w2 : wipe σ2 ns = wipe σ ns := by rw [wipe_off off hs, wipe_wipe]
          refine ⟨w2, G3, F', τ, e4, h8, ?_⟩
          revert hp2
          match tt e4 with
          | .error _ => exact fun hp2 => hp2.elim
          | .ok (b, e5) =>
            intro hp2 G4 H4 _ s4 h9
            simp only [nx, bd] at hp2
            cases b with
            | false =>
              rw [if_neg Bool.false_ne_true] at hp2 ⊢
              cases ew2 : wipeE ns e5 with
              | none => rw [ew2] at hp2; exact hp2.elim
              | some e6 =>
                rw [ew2] at hp2
                obtain ⟨h10, _, u6⟩ := h9.nil.wiped ew2
                have h11 := back G4 H4 σ2 e6 [] [] (s3.trans s4) h10
                exact ⟨G4, e6, os, s2.trans (s3.trans s4), (RX.acrossW (vs := [.ref D]) (os := [OT.own os]) h11 u6 w2.symm), u6, by omega, rfl, hp2.mono (s3.trans s4)⟩
            | true =>
              rw [if_pos rfl] at hp2 ⊢
              refine ⟨G4, F', τ, e5, h9.nil, ?_⟩
              revert hp2
              match te e5 with
              | .error _ => exact fun hp2 => hp2.elim
              | .ok (o, e6) =>
                intro hp2 G5 H5 vs5 s5 h10 v ev
                subst ev
                dsimp only at hp2
                cases ew2 : wipeE ns e6 with
                | none => rw [ew2] at hp2; exact hp2.elim
                | some e7 =>
                  rw [ew2] at hp2
                  dsimp only at hp2
                  split at hp2
                  · rename_i hf
                    obtain ⟨h11, _, u7⟩ := RX.wiped (vs := [v]) (os := [o]) h10 ew2
                    have h12 := back G5 H5 σ2 e7 [v] [o] (s3.trans (s4.trans s5)) h11
                    have h13 : RX X.K G5 F τ σ H5 e7 [.ref D, v] [.own os, o] := RX.acrossW (vs := [.ref D, v]) (os := [OT.own os, o]) h12 u7 w2.symm
                    obtain ⟨a, acc, ea, hD, hl, h14⟩ := h13.openL
                    cases ea
                    refine ⟨acc, hD, by rw [hl]; exact few_lt hf, G5, e7, os ++ [o], s2.trans (s3.trans (s4.trans s5)), ?_, u7, by omega, rfl, hp2.mono (s3.trans (s4.trans s5))⟩
                    have h15 := h14.newL0 er_same
                    rw [upd_er] at h15
                    exact h15
                  · exact hp2.elim
      · have e : i = xs.length := by omega
        subst e
        refine .inl ⟨hJ.stop H2 (s2.trans h4.same), ?_⟩
        rw [List.drop_length] at hp2
        exact hp2 G2 H2 [.ref D] (Same.refl _) h4 (.ref D) rfl
theorem EX_lc (hc : X.calm = true) (hN : X.N.Nodup) (hi : IX X W tg iter di) (ok : BlkOk X.N X.env.scope scope own) (hs : ∀ i ∈ is, i ∈ own.map (·.2))
    (hg : ∀ (s : Shared) (H : Hp) (C : Addr) (cl : List (Str × Addr)) (fp : List Addr), GX (X.blk s H scope (PySem.compEnvC scope cl C X.env) fp) tg is g) (ht : ∀ (s : Shared) (H : Hp) (C : Addr) (cl : List (Str × Addr)) (fp : List Addr), PTs (X.blk s H scope (PySem.compEnvC scope cl C X.env) fp) ifs (liftT X.K W0 tt))
    (he : ∀ (s : Shared) (H : Hp) (C : Addr) (cl : List (Str × Addr)) (fp : List Addr), EX (X.blk s H scope (PySem.compEnvC scope cl C X.env) fp) W0 elt te) (hz : ∀ x, foldedSetIterable iter X.env x = pure x := by intro _; rfl) :
    EX X W (.ListComp elt [⟨tg, iter, ifs, 0⟩] scope pos) (eLc (own.map (·.2)) di g tt te) :=
  PE.imp (pe_lc hc hN hi ok hg ht he hz) fun σ H Q q => lc_lift hs q
theorem SX_setLc {i : Nat} {y : Str} {py spos : Pos} (hc : X.calm = true) (hN : X.N.Nodup) (hy : X.N[i]? = some y) (hyl : X.env.scope.names.lookup y = some .local)
    (hsw : swapsWith (.ListComp elt [⟨tg, iter, ifs, 0⟩] scope pos) (some (.Name y py)) spos.line X.env = pure true) (hi : IX X W tg iter di) (ok : BlkOk X.N X.env.scope scope own) (hs : ∀ i ∈ is, i ∈ own.map (·.2))
    (hg : ∀ (s : Shared) (H : Hp) (C : Addr) (cl : List (Str × Addr)) (fp : List Addr), GX (X.blk s H scope (PySem.compEnvC scope cl C X.env) fp) tg is g) (ht : ∀ (s : Shared) (H : Hp) (C : Addr) (cl : List (Str × Addr)) (fp : List Addr), PTs (X.blk s H scope (PySem.compEnvC scope cl C X.env) fp) ifs (liftT X.K W0 tt))
    (he : ∀ (s : Shared) (H : Hp) (C : Addr) (cl : List (Str × Addr)) (fp : List Addr), EX (X.blk s H scope (PySem.compEnvC scope cl C X.env) fp) W0 elt te) (hz : ∀ x, foldedSetIterable iter X.env x = pure x := by intro _; rfl) :
    SX X W (.Assign [.Name y py] (.ListComp elt [⟨tg, iter, ifs, 0⟩] scope pos) spos) (dSet i (eLc (own.map (·.2)) di g tt te)) :=
  PS.imp (ps_setLc hc hN hy hyl hsw hi ok hg ht he hz) fun D σ H q => by
    refine lc_lift (W := W) (di := di) (g := g) (tt := tt) (te := te) hs ?_
    obtain ⟨G, F, τ, en, h, hp⟩ := q
    refine bindES h hp fun o e1 hp1 G1 H1 v s1 h1 => ?_
    dsimp only at hp1
    split at hp1
    · rename_i e2 he2
      exact hp1 G1 _ H1 s1 (h1.stor he2)
    · exact hp1.elim
theorem TS_nil {K : PySem.W.Frag} : PTs X [] (liftT K W tYs) := ⟨fun pins s σ H Q I q => pts_nil.run pins s σ H Q I (by
  obtain ⟨G, F, τ, en, h, hp⟩ := q
  exact hp G H [] (Same.refl _) h)⟩
end
end Lf
end
section
set_option Elab.async false
set_option linter.all false
set_option maxRecDepth 100000
set_option maxHeartbeats 2000000
namespace Lf
open PySem PySem.Spec L2
variable [Tabs]
/-! ### generator expressions -/
/-- the frame of a generator expression, woken under B -/
abbrev gxC (X : Cx) (B : Around) (s : Shared) (H : Hp) (cenv : Env) (fp : List Addr) : Cx := { X with s_0 := s, H_0 := H, A := B.deeper cenv, env := cenv, outer := X.stack, stack := cenv :: X.stack, ex := fp, fn := fun _ => false, pn := [], xe := fun _ _ => False }
abbrev gxE (X : Cx) (scope : Scope) (cl : List (Str × Addr)) (C : Addr) (code : Value) : Env := PySem.genEnv scope cl C code builtinsNs X.env
theorem over_gen {A : Around} {elt : Expr} {gs : List Comprehension} {scope : Scope} {pos : Pos} {it acc : Value} {env : Env} : A.over (.compLoop (.GeneratorExp elt gs scope pos) 0 it acc env) [] = A.deeper env := by
  first
    | rfl
    | (obtain ⟨hd, d, fr, gd, u⟩ := A; simp [Around.over, Around.deeper, marksOver, frameCount, unitsOf, envsOf, guardsOf, pushEnvs, pushGuards, Code.envs, Code.env?, Code.isFrame, Code.guards, Code.isGuard, Code.weight, Code.frames, Code.isCreation, Code.isCaller, Code.cUnits])
/-- the table at P has grown -/
structure TabX (P : Addr) (H H' : Hp) : Prop where
  at_ : ∃ ps more : Array Value, H P = some (.tbl ps) ∧ H' P = some (.tbl (ps ++ more)) ∧ TriplesOk (ps ++ more).toList
  ne : ∀ b, b ≠ P → H' b = H b
/-- a generator expression's scope -/
structure GOk (scope : Scope) : Prop where
  co : scope.isCoroutine = false
  cell : ∀ y ∈ scope.names, y.2 ≠ .cell
  dot : scope.names.lookup (".0" : Str) = some NameKind.local
section
variable {X : Cx} {pins : List (Addr × Obj)} {σ : St} {H : Hp} {s : Shared}
theorem gx_start {B : Around} {scope : Scope} {own : List (Str × Nat)} {fp : List Addr} {code : Value} {m0 : Str → Option Value} {s' : Shared} {a : Addr} {go : Obj} (I : Inv X pins σ H s) (ok : BlkOk X.N X.env.scope scope own) (gk : GOk scope) (hN : X.N.Nodup)
    (hfp : ∀ b ∈ fp, FpOk X pins H b ∧ b < s.heap.objs.size) (hB : B.handled = none) (hfr : B.frames = some X.stack)
    (hns : s'.heap.Ns s.heap.objs.size m0) (kp : ∀ b o, s.heap.get? b = some o → s'.heap.get? b = some o) (hg : PyProof.Rows.AllBare s'.gens) (hos : s'.os = s.os)
    (ha : s.heap.objs.size < a) (hgo : s'.heap.get? a = some go) (hgc : ∀ v, go.data ≠ .cell v) :
    Inv (gxC X B s H (gxE X scope (cloFrom X.env.cells scope.names []) s.heap.objs.size code) fp) [(a, go)] (wipe σ (own.map (·.2))) H s' := by
  have hfree : ∀ y ∈ scope.names, y.2 = .free → ∃ c, X.env.cells.lookup y.1 = some c := fun y hy e => by
    rcases ok.free y hy e with k | k
    · exact I.ok.has _ (.inl k)
    · exact I.ok.has _ (.inr k)
  have cm : ∀ {y c}, (y, c) ∈ cloFrom X.env.cells scope.names [] → X.env.cells.lookup y = some c ∧ c < s.heap.objs.size := fun {y c} hm => by
    rcases cloFrom_mem hm with hm | ⟨h1, rfl⟩
    · cases hm
    · obtain ⟨c, hc⟩ := hfree _ h1 rfl
      rw [hc]
      obtain ⟨w, z⟩ := I.cell _ _ hc
      exact ⟨rfl, z.lt⟩
  have mem : ∀ {y c}, (cloFrom X.env.cells scope.names []).lookup y = some c → X.env.cells.lookup y = some c ∧ c < s.heap.objs.size := fun {y c} e => cm (PySem.mem_of_lookup e)
  have look : ∀ {y}, scope.names.lookup y = some .free → ∃ c, (cloFrom X.env.cells scope.names []).lookup y = some c ∧ X.env.cells.lookup y = some c := fun {y} hl => by
    have hy : (y, NameKind.free) ∈ scope.names := PySem.mem_of_lookup hl
    obtain ⟨c', e'⟩ := mem_lookup (cloFrom_has (cells := X.env.cells) (acc := []) hy)
    exact ⟨c', e', (mem e').1⟩
  have okB : (gxC X B s H (gxE X scope (cloFrom X.env.cells scope.names []) s.heap.objs.size code) fp).Ok := by
    refine ⟨I.ok.mod, ok.kind, I.ok.glob, rfl, Nat.le_refl _, fun y z c e1 e2 => I.ok.inj y z c (mem e1).1 (mem e2).1, fun y hy => ?_, fun y c z e => (nomatch z), fun _ => hB, Around.frames_deeper hfr, .inr ⟨rfl, rfl⟩, fun b hb => ⟨Nat.ne_of_lt (hfp b hb).2, fun y c e z => (hfp b hb).1.2.2.2.2.1 y c (mem e).1 z⟩,
      I.bs, Nat.le_trans I.ok.bsz I.sz, fun b o e hb => ?_, fun b hb z => ?_, I.stack, I.stkFree⟩
    · have hy : scope.names.lookup y = some .cell ∨ scope.names.lookup y = some .free := hy
      rcases hy with hy | hy
      · exact absurd rfl (gk.cell _ (PySem.mem_of_lookup hy))
      · obtain ⟨c, e, _⟩ := look hy
        exact ⟨c, e⟩
    · rcases (hfp b hb).1.2.2.2.1 with z | z
      · exact I.ok.noex b o e z
      · exact absurd (Nat.lt_of_lt_of_le (Heap.lt_size e) (Nat.le_trans I.ok.bsz z)) (Nat.lt_irrefl _)
    · rcases List.mem_cons.mp (I.stkSub b z) with z | z
      · exact (hfp b hb).1.2.1 z
      · exact (hfp b hb).1.2.2.1 z
  refine ⟨okB, hos, hg, Un.kept kp, ⟨m0, hns, fun i y av e1 e2 e3 => ?_⟩, fun y c e => ?_, I.hok.fresh (Nat.le_refl _), fun y c e => I.freeC y c (mem e).1, fun p hp => ?_, I.hok.kept kp, by rw [wipe_length]; exact I.len⟩
  · obtain ⟨e2, hne⟩ := wipe_some e2
    have e3 : scope.names.lookup y = some .local ∨ scope.names.lookup y = some .cell ∨ scope.names.lookup y = some .free := e3
    have no : ∀ k, scope.names.lookup y = some k → ¬ (k = .local ∨ k = .cell) := fun k hk hh => by
      rcases ok.own _ (PySem.mem_of_lookup hk) hh with e' | e'
      · obtain ⟨p, hp, hpy⟩ := List.mem_map.mp e'
        have e4 := ok.ix p hp
        have : p.1 = y := hpy
        rw [this] at e4
        exact hne (List.mem_map.mpr ⟨p, hp, nodup_ix hN e4 e1⟩)
      · exact e' (List.mem_of_getElem? e1)
    have hl : scope.names.lookup y = some .free := by
      rcases e3 with e3 | e3 | e3
      · exact absurd (.inl rfl) (no _ e3)
      · exact absurd (.inr rfl) (no _ e3)
      · exact e3
    obtain ⟨m, hn, hll⟩ := I.loc
    have hvis : Vis X.env.scope y := (ok.free _ (PySem.mem_of_lookup hl) rfl).elim (fun k => .inr (.inl k)) (fun k => .inr (.inr k))
    obtain ⟨w, r, q⟩ := hll i y av e1 e2 hvis
    refine ⟨w, r, .inr ⟨.inr hl, ?_⟩⟩
    obtain ⟨c, h1, h2⟩ := look hl
    rcases q with ⟨k, _⟩ | ⟨_, c', e', z⟩
    · have k : X.env.scope.names.lookup y = some .local := k
      rcases ok.free _ (PySem.mem_of_lookup hl) rfl with k' | k' <;> rw [show X.env.scope.names.lookup y = _ from k'] at k <;> cases k
    · rw [h2] at e'; cases e'
      exact ⟨c, h1, z.keeps kp⟩
  · obtain ⟨w, z⟩ := I.cell y c (mem e).1
    exact ⟨w, z.keeps kp⟩
  · have hp : p ∈ ([] : List (Addr × Obj)) ++ [(a, go)] := hp
    obtain rfl : p = (a, go) := by simpa using hp
    exact ⟨hgo, I.hok.fresh (Nat.le_of_lt ha), Nat.ne_of_gt ha, fun z => by
      rcases List.mem_cons.mp (I.stkSub a z) with q | q
      · exact absurd I.lt (by rw [← q]; exact Nat.not_lt.mpr (Nat.le_of_lt ha))
      · exact I.nofs (Nat.le_of_lt ha) q, hgc⟩
end
/-- a generator expression's turn i, as it stands -/
def GAt (Y : Cx) (a : Addr) (go : Obj) (fp : List Addr) (tn : Nat → Heap → Prop) (σ0 : St) (i : Nat) (H : Hp) (s : Shared) : Prop := Inv Y [(a, go)] σ0 H s ∧ tn i s.heap ∧ ∀ b ∈ fp, H b = none
/-- ys: what it handed out; out: what is wanted when y is handed out too; fin: when no more comes -/
abbrev GOut := List V → V → Hp → (List V → Hp → Prop) → Prop
def GPr (Y : Cx) (a : Addr) (go : Obj) (fp : List Addr) (tn : Nat → Heap → Prop) (σ0 : St) (out : GOut) : Protocol := fun n s₀ v s kap =>
  ∃ i ys y H Nx, RelV y v ∧ GAt Y a go fp tn σ0 (i + 1) H s ∧ out ys y H Nx ∧ ∀ ys' H' s'', Nx ys' H' → GAt Y a go fp tn σ0 (i + 1) H' s'' → kap (.send .none) s''
def GFin (Y : Cx) (a : Addr) (go : Obj) (σ0 : St) (fin : List V → Hp → Prop) : Nat → Shared → Shared → Prop := fun n s₀ s1 => ∃ ys H, Inv Y [(a, go)] σ0 H s1 ∧ fin ys H
abbrev GRs (Y : Cx) (a : Addr) (go : Obj) (σ0 : St) (fin : List V → Hp → Prop) : GenEnd := fun n s₀ r s1 => r = .ok .next ∧ GFin Y a go σ0 fin n s₀ s1
/-- the turns -/
def GTurn (J : It) (g : TG) (tt : TT) (te : TE) (σ0 : St) (vs : List Nat) (out : GOut) (fin : List V → Hp → Prop) (W : Nat → List V → Nat → Hp → Prop) : Prop := ∀ i ys m H, W i ys m H →
  (J.stop i H ∧ fin ys H) ∨ (J.go i H ∧ ∃ Nx : List V → Hp → Prop, (∀ ys' H', Nx ys' H' → ∃ m', m' < m ∧ W (i + 1) ys' m' H') ∧ ∀ x H', J.yld i H x H' → g x σ0 H' fun σ2 H2 => wipe σ2 vs = σ0 ∧ tt σ2 H2 fun b H3 =>
    if b = true then te σ2 H3 fun y H4 => out ys y H4 Nx else Nx ys H3)
section
variable {X : Cx}
theorem pass0 {M : Model} {A : Around} {α : Type} {t : Sem α} {Q Q' : α → Shared → Prop} {E : Value → Shared → Prop} {s : Shared} (h : wpAny M A t Q (fun _ _ => False) s) (hQ : ∀ a s, Q a s → Q' a s) : wpAny M A t Q' E s := wpAny_mono h hQ fun _ _ z => False.elim z
theorem seg_gx {B : Around} {elt tg iter : Expr} {ifs : List Expr} {scope : Scope} {pos : Pos} {J : It} {fp : List Addr} {it a : Addr} {go : Obj} {tn : Nat → Heap → Prop} {s4 : Shared} {H4 : Hp} {cenv : Env} {g : TG} {tt : TT} {te : TE} {σ : St} {vs : List Nat} {out : GOut} {fin : List V → Hp → Prop} {W : Nat → List V → Nat → Hp → Prop}
    (hc : X.calm = true) (hco : cenv.scope.isCoroutine = false) (hafp : a ∉ fp) (T : Turn X.prog X.w X.K tg J fp it tn)
    (pg : PG (gxC X B s4 H4 cenv fp) tg g) (pt : PTs (gxC X B s4 H4 cenv fp) ifs tt) (pe : PE (gxC X B s4 H4 cenv fp) elt te)
    (turn : GTurn J g tt te (wipe σ vs) vs out fin W) :
    ∀ (m n i : Nat) (ys : List V) (s₀ s : Shared) (H : Hp), m < n → W i ys m H → GAt (gxC X B s4 H4 cenv fp) a go fp tn (wipe σ vs) i H s →
      Seg (model X.prog X.w) B (GRs (gxC X B s4 H4 cenv fp) a go (wipe σ vs) fin) (GPr (gxC X B s4 H4 cenv fp) a go fp tn (wipe σ vs) out) n s₀
        (.compLoop (.GeneratorExp elt [⟨tg, iter, ifs, 0⟩] scope pos) 0 (.ref it) .none cenv)
        ((model X.prog X.w).den (.compLoop (.GeneratorExp elt [⟨tg, iter, ifs, 0⟩] scope pos) 0 (.ref it) .none cenv)) [] s := by
  have stat : ∀ {σ' : St} {H' : Hp} {s' : Shared}, Inv (gxC X B s4 H4 cenv fp) [(a, go)] σ' H' s' → (∀ b ∈ fp, H' b = none) → ∀ b ∈ fp, FpOk (gxC X B s4 H4 cenv fp) [(a, go)] H' b := fun {σ' H' s'} I' hn b hb =>
    ⟨hn b hb, (I'.ok.exf b hb).1, I'.ok.exfs b hb, .inl hb, fun x c e => (I'.ok.exf b hb).2 x c e, fun p hp => by
      obtain rfl : p = (a, go) := by simpa using (show p ∈ ([] : List (Addr × Obj)) ++ [(a, go)] from hp)
      exact fun z => hafp (by rw [show a = b from z]; exact hb)⟩
  intro m
  induction m using Nat.strongRecOn with
  | ind m ih =>
    intro n i ys s₀ s H hmn w ⟨I, st, nf⟩
    show Seg _ B _ _ _ s₀ _ ((compTurn (.GeneratorExp elt [⟨tg, iter, ifs, 0⟩] scope pos) 0 (.ref it) .none cenv).onRaise (leaving cenv)) [] s
    rw [compTurn_gen, Sem.onRaise_eq_wrap]
    refine seg_bind_wrap (wpAny_standAt ?_)
    rcases turn i ys m H w with ⟨stop, qq⟩ | ⟨hgo, Nx, hNx, step⟩
    · refine seg_bind_wrap ?_
      rw [over_gen]
      refine pass0 (T.done (gxC X B s4 H4 cenv fp) rfl rfl rfl hc i [(a, go)] s _ H (fun _ _ => False) I (stat I nf) st stop) fun r s6 ⟨hr, I6⟩ => ?_
      subst hr
      exact seg_end (.ok .next) ⟨rfl, ys, H, I6, qq⟩
    · refine seg_bind_wrap ?_
      rw [over_gen]
      refine pass0 (T.item (gxC X B s4 H4 cenv fp) rfl rfl rfl hc i [(a, go)] s _ H (fun _ _ => False) I (stat I nf) st hgo) fun r s6 ⟨u, hr, h6⟩ => ?_
      subst hr
      refine seg_bind_wrap ?_
      rw [over_gen]
      refine pass0 h6 fun _ s7 ⟨x, H7, I7, r7, y7, st7, n7⟩ => ?_
      have I7' := I7.pinned (stat I7 n7) (T.obj _ _ st7)
      refine seg_bind_wrap ?_
      rw [over_gen]
      refine pass0 (pg.run _ s7 _ H7 x u _ I7' r7 (step x H7 y7)) fun _ s8 ⟨σ8, H8, I8, hw8, q8⟩ => ?_
      refine seg_bind_wrap ?_
      rw [over_gen]
      refine pass0 (pt.run _ s8 σ8 H8 _ I8 q8) fun b s9 ⟨H9, I9, q9⟩ => ?_
      -- the turn's end
      have back : ∀ {s' : Shared} {H' : Hp}, Inv (gxC X B s4 H4 cenv fp) ([(a, go)] ++ pinsAt fp s7.heap) σ8 H' s' → GAt (gxC X B s4 H4 cenv fp) a go fp tn (wipe σ vs) (i + 1) H' s' := fun {s' H'} I' => by
        have pin' : ∀ b ∈ fp, ∀ o, s7.heap.get? b = some o → s'.heap.get? b = some o ∧ H' b = none := fun b hb o e =>
          let z := I'.pin (b, o) (List.mem_append_right _ (List.mem_append_right _ (mem_pinsAt hb e)))
          ⟨z.1, z.2.1⟩
        have hl : (wipe σ vs).length = σ8.length := by rw [← hw8, wipe_length]
        refine ⟨(I'.unpinned (pins := [(a, go)])).weak hl (fun j v e => ?_), T.keep _ _ _ st7 fun b hb o e => (pin' b hb o e).1, fun b hb => ?_⟩
        · rw [← hw8] at e
          exact (wipe_some e).1
        · obtain ⟨o, e, _⟩ := T.obj _ _ st7 b hb
          exact (pin' b hb o e).2
      cases b with
      | false =>
        simp only [Bool.false_eq_true, if_false] at q9 ⊢
        obtain ⟨m', hm, w'⟩ := hNx ys H9 q9
        exact seg_again rfl (ih m' hm n (i + 1) ys s₀ s9 H9 (by omega) w' (back I9))
      | true =>
        simp only [if_true] at q9 ⊢
        have hy : ∀ v, yieldOut cenv v = yieldValue v := fun v => by simp only [yieldOut, hco, Bool.false_eq_true, if_false]
        simp only [hy]
        rw [Sem.bind_eq_wrap', Sem.bind_eq_wrap', Sem.wrap_wrap, Sem.wrap_wrap]
        refine seg_wrap ?_
        rw [over_gen]
        refine pass0 (pe.run _ s9 σ8 H9 _ I9 q9) fun z s10 ⟨yv, H10, I10, r10, hout⟩ => ?_
        cases n with
        | zero => exact absurd hmn (Nat.not_lt_zero _)
        | succ n =>
          refine seg_at (seg_yield rfl rfl rfl ⟨i, ys, yv, H10, Nx, r10, back I10, hout, fun ys' H' s'' nx hG => ?_⟩)
          obtain ⟨m', hm, w'⟩ := hNx ys' H' nx
          exact seg_again rfl (ih m' hm n (i + 1) ys' s'' s'' H' (by omega) w' hG)
end
end Lf
end
section
set_option Elab.async false
set_option linter.all false
set_option maxRecDepth 100000
set_option maxHeartbeats 2000000
namespace Lf
open PySem PySem.Spec L2
variable [Tabs]
section
variable {X : Cx}
theorem seg_gx0 {B : Around} {elt tg iter : Expr} {ifs : List Expr} {scope : Scope} {pos : Pos} {J : It} {fp : List Addr} {it a : Addr} {go : Obj} {tn : Nat → Heap → Prop} {s4 : Shared} {H4 : Hp} {cenv : Env} {g : TG} {tt : TT} {te : TE} {σ : St} {vs : List Nat} {out : GOut} {fin : List V → Hp → Prop} {W : Nat → List V → Nat → Hp → Prop}
    (hc : X.calm = true) (hco : cenv.scope.isCoroutine = false) (hafp : a ∉ fp) (T : Turn X.prog X.w X.K tg J fp it tn)
    (pg : PG (gxC X B s4 H4 cenv fp) tg g) (pt : PTs (gxC X B s4 H4 cenv fp) ifs tt) (pe : PE (gxC X B s4 H4 cenv fp) elt te)
    (turn : GTurn J g tt te (wipe σ vs) vs out fin W) {m n : Nat} {s₀ s : Shared} {H : Hp} (hm : m < n) (w : W 0 [] m H) (hG : GAt (gxC X B s4 H4 cenv fp) a go fp tn (wipe σ vs) 0 H s) :
      Seg (model X.prog X.w) B (GRs (gxC X B s4 H4 cenv fp) a go (wipe σ vs) fin) (GPr (gxC X B s4 H4 cenv fp) a go fp tn (wipe σ vs) out) n s₀
        (.compStart (.GeneratorExp elt [⟨tg, iter, ifs, 0⟩] scope pos) 0 (.ref it) .none cenv)
        ((model X.prog X.w).den (.compStart (.GeneratorExp elt [⟨tg, iter, ifs, 0⟩] scope pos) 0 (.ref it) .none cenv)) [] s := by
  have loop := seg_gx (iter := iter) (scope := scope) (pos := pos) hc hco hafp T pg pt pe turn m n 0 [] s₀ s H hm w hG
  show Seg _ B _ _ _ s₀ _ ((compStart (.GeneratorExp elt [⟨tg, iter, ifs, 0⟩] scope pos) 0 (.ref it) .none cenv).onRaise (leaving cenv)) [] s
  unfold compStart
  rw [Sem.onRaise_eq_wrap]
  show Seg _ B _ _ _ s₀ _ ((ask >>= _).wrap _ _ _ _) [] s
  refine seg_bind_wrap (wpAny_askSetting ?_)
  split
  · exact seg_again rfl loop
  · first
      | exact seg_bind_wrap (wpAny_rule (seg_bind_wrap (wpAny_standAt (seg_bind_wrap (T.self _ 0 s _ _ hG.2.1 (seg_again rfl loop))))))
      | (refine seg_bind_wrap (wpAny_rule ?_); show Seg _ B _ _ _ s₀ _ ((standAt iter.pos >>= _).wrap _ _ _ _) [] s; exact seg_bind_wrap (wpAny_standAt (seg_bind_wrap (T.self _ 0 s _ _ hG.2.1 (seg_again rfl loop)))))
/-- a generator expression's object has been made -/
structure GMk (X : Cx) (elt tg iter : Expr) (ifs : List Expr) (scope : Scope) (pos : Pos) (s4 : Shared) (it : Addr) (code : Value) (a : Addr) (go : Obj) (g : Nat) (s5 : Shared) : Prop where
  ns : ∃ m0, s5.heap.Ns s4.heap.objs.size m0
  kp : ∀ b o, s4.heap.get? b = some o → s5.heap.get? b = some o
  bare : PyProof.Rows.AllBare s5.gens
  os : s5.os = s4.os
  lt : s4.heap.objs.size < a
  obj : s5.heap.get? a = some go
  gen : ∃ nm qn, go.cls = .type "generator" ∧ go.data = .fields #[.int g 0, nm, qn] ∧ go.slots = #[]
  st : s5.gens[g]? = some (.fresh (.compStart (.GeneratorExp elt [⟨tg, iter, ifs, 0⟩] scope pos) 0 (.ref it) .none (gxE X scope (cloFrom X.env.cells scope.names []) s4.heap.objs.size code)))
theorem gx_make {pins : List (Addr × Obj)} {σ : St} {H : Hp} {s : Shared} {c P : Addr} {elt tg iter : Expr} {ifs : List Expr} {gpos : Pos} {scope : Scope} {own : List (Str × Nat)} {wi : TI} {Q' : Value → Shared → Prop} {Rr : It → Hp → Prop} {k : Nat}
    (hr : Room k X.A) (TB : GxR.TabB X.base X.mg c P) (hcode : X.env.code = .ref c) (ok : BlkOk X.N X.env.scope scope own) (gk : GOk scope) (hi : PI X tg iter wi) (hs : ∀ v, genFold iter X.env v = pure v)
    (I : Inv X pins σ H s) (h : wi σ H fun J H1 => GxR.TabG H1 P ∧ Rr J H1)
    (hQ : ∀ J H1 H4 it fp tn s4 code a go g s5, Rr J H1 → TabX P H1 H4 → Turn X.prog X.w X.K tg J fp it tn → Inv X pins σ H4 s4 → (∀ b ∈ fp, FpOk X pins H4 b ∧ b < s4.heap.objs.size) → tn 0 s4.heap →
      GMk X elt tg iter ifs scope gpos s4 it code a go g s5 → Q' (.ref a) s5) :
    wpAny (model X.prog X.w) X.A (eval (.GeneratorExp elt [⟨tg, iter, ifs, 0⟩] scope gpos) X.env) Q' X.xe s := by
  have hfree : ∀ y ∈ scope.names, y.2 = .free → ∃ c, X.env.cells.lookup y.1 = some c := fun y hy e => by
    rcases ok.free y hy e with k | k
    · exact I.ok.has _ (.inl k)
    · exact I.ok.has _ (.inr k)
  refine wpAny_GeneratorExp_make gk.co (closure_ok hfree) gk.cell gk.dot ok.kind (by have := hr.dp; omega) ?_ hs
  refine thn (hi.run pins s σ H _ I h) fun xv s1 hx => thn hx fun itv s2 h2 => ?_
  obtain ⟨it, fp, tn, J, H2, e, I2, T, st2, f2, ⟨ps, hP, ht⟩, q⟩ := h2
  subst e
  have hPs : s2.heap.get? P = some { cls := .none, data := .fields ps } := I2.hok P _ hP
  have cd : PySem.W.CodeHd s2.heap c P := TB.code.keeps I2.bk
  have nP : ∀ b ∈ fp, b ≠ P := fun b hb e => by
    have z := (f2 b hb).1
    rw [e, hP] at z; cases z
  have sz : ∀ b ∈ fp, b < s2.heap.objs.size := fun b hb => by
    obtain ⟨o, e, _⟩ := T.obj _ _ st2 b hb
    exact Heap.lt_size e
  have cont : ∀ (code : Value) (h3 : Heap) (tk : Nat) (ps' : Array Value), Heap.ExtBut P s2.heap h3 → s2.heap.objs.size ≤ h3.objs.size → h3.get? P = some { cls := .none, data := .fields ps' } → (∃ more, ps' = ps ++ more) → TriplesOk ps'.toList →
      wpAny (model X.prog X.w) X.A (builtinsFor X.env.globals X.env.builtins) (fun bi s₄ =>
        ∀ h', h'.Ns s₄.heap.objs.size (fun y => if y = ".0" then some (.ref it) else none) → Heap.SameBut s₄.heap.objs.size (s₄.heap.push { cls := .type "frame", data := .dict #[] }) h' →
          Q' (.ref h'.objs.size) { s₄ with
            gens := s₄.gens.push (.fresh (.compStart (.GeneratorExp elt [⟨tg, iter, ifs, 0⟩] scope gpos) 0 (.ref it) .none (genEnv scope (cloFrom X.env.cells scope.names []) s₄.heap.objs.size code bi X.env))),
            toks := s₄.toks + 1 + 1 + 1,
            heap := h'.push { cls := .type "generator", data := .fields #[.int s₄.gens.size 0, .str "<genexpr>" (s₄.toks + 1), .str (X.env.qual ++ "<genexpr>") (s₄.toks + 1 + 1)] } }) X.xe { s2 with heap := h3, toks := tk } := by
    intro code h3 tk ps' hx hsz hP3 hmore ht3
    obtain ⟨bm, ob, e1, e2, e3, e4, e5, e6, e7, e8⟩ := TB.bm
    obtain ⟨more, em⟩ := hmore
    refine wpAny_builtinsFor (m := X.mg) (by rw [I2.ok.glob]; exact (I2.mod.glob.keeps I2.bk).extBut hx TB.gP) e1 e2 (hx _ _ e4 (I2.bk _ _ e5)) e6 e7 e8 ?_
    intro h' hn' hs'
    have I4 := GxR.inv_tab (more := more) (h' := h3) (g' := s2.gens) (d' := s2.drawn) (t' := tk) I2 hP (fun b u hb e => hx b u hb e) (by rw [← em]; exact hP3) I2.bare
    have hsz' : h'.objs.size = h3.objs.size + 1 := by rw [hs'.1, Heap.size_push]
    have keep' : ∀ b o, h3.get? b = some o → h'.get? b = some o := fun b o e => hs'.extBut b o (Nat.ne_of_lt (Heap.lt_size e)) (Heap.get?_push_of_some _ e)
    refine hQ J H2 (upd H2 P (.tbl (ps ++ more))) it fp tn { s2 with heap := h3, toks := tk } code h'.objs.size _ s2.gens.size _ q ⟨⟨ps, more, hP, upd_same, by rw [← em]; exact ht3⟩, fun b hb => upd_ne hb⟩ T I4 (fun b hb => ⟨⟨?_, (f2 b hb).2⟩, Nat.lt_of_lt_of_le (sz b hb) hsz⟩)
      (T.keep _ _ _ st2 fun b hb o e => hx b o (nP b hb) e) ⟨⟨_, hn'.push _⟩, fun b o e => Heap.get?_push_of_some _ (keep' b o e), I2.bare.push rfl, rfl, ?_, Heap.get?_push_size _ rfl, ⟨_, _, rfl, rfl, rfl⟩, Array.getElem?_push_size ..⟩
    · rw [upd_ne (nP b hb)]
      exact (f2 b hb).1
    · show h3.objs.size < h'.objs.size
      omega
  refine ⟨I2.nolimit, ?_⟩
  cases hf : codeAmong gpos ps.toList with
  | none =>
    refine wpAny_genexprCodeX hcode (cd.code hPs ht) (cd.tab hPs) hf fun c' h' tk hx hge hlt hco' _ htab' _ => ?_
    obtain ⟨o1, vs, f1, tf, fl, tg', inF, tx, tt, op, _, _, _, _, _, _, _, _, _, htr, _⟩ := hco'
    exact cont _ h' tk _ hx (Nat.le_trans hge (Nat.le_of_lt hlt)) htab'.2 ⟨_, rfl⟩ htr
  | some cv =>
    refine wpAny_genexprCode_hit hcode (cd.code hPs ht) hf ?_
    exact cont cv s2.heap s2.toks ps (Heap.ExtBut.refl _ _) (Nat.le_refl _) hPs ⟨#[], by simp⟩ ht
end
end Lf
end
section
set_option Elab.async false
set_option linter.all false
set_option maxRecDepth 100000
set_option maxHeartbeats 2000000
namespace Lf
open PySem PySem.Spec L2
variable [Tabs]
section
variable {X : Cx}
theorem inv_gens {pins : List (Addr × Obj)} {σ : St} {H : Hp} {s s' : Shared} (I : Inv X pins σ H s) (hh : s'.heap = s.heap) (ho : s'.os = s.os) (hb : PyProof.Rows.AllBare s'.gens) : Inv X pins σ H s' := by
  obtain ⟨h, g, d, t, o⟩ := s'
  have hh : h = s.heap := hh
  have ho : o = s.os := ho
  subst hh ho
  exact ⟨I.ok, I.os, hb, I.base, I.loc, I.cell, I.free, I.freeC, I.pin, I.hok, I.len⟩
/-- one turn, seen by who consumes -/
theorem gx_next {A : Around} {a g n : Nat} {go : Obj} {fp : List Addr} {tn : Nat → Heap → Prop} {σ0 σ1 : St} {Y : Cx} {out : GOut} {fin : List V → Hp → Prop} {s : Shared} {H : Hp} {Q : Option Value → Shared → Prop} {E : Value → Shared → Prop}
    (hh : A.handled = none) (hroom : A.depth < recursionLimit) (hg : ∃ nm qn, go.cls = .type "generator" ∧ go.data = .fields #[.int g 0, nm, qn] ∧ go.slots = #[])
    (I : Inv Y [(a, go)] σ0 H s) (hgs : ∃ gs, s.gens[g]? = some gs ∧ gs.Goes (model Y.prog Y.w) A.in1 (GRs Y a go σ1 fin) (GPr Y a go fp tn σ1 out) n (.send .none) (s.setGen g .running))
    (hY : ∀ v s1 i ys y H1 Nx, RelV y v → GAt Y a go fp tn σ1 (i + 1) H1 s1 → out ys y H1 Nx  →
      (∀ ys' H', Nx ys' H' → H' = H1 → ∃ m, n = m + 1 ∧ ∃ gs, s1.gens[g]? = some gs ∧ gs.Goes (model Y.prog Y.w) A.in1 (GRs Y a go σ1 fin) (GPr Y a go fp tn σ1 out) m (.send .none) (s1.setGen g .running)) → Q (some v) s1)
    (hF : ∀ s1 ys H1, Inv Y [(a, go)] σ1 H1 s1 → fin ys H1 → Q none s1) : wpAny (model Y.prog Y.w) A (pyNext (.ref a)) Q E s := by
  have isg : ∀ {σ' : St} {H' : Hp} {s' : Shared}, Inv Y [(a, go)] σ' H' s' → s'.heap.IsGen a g := fun {σ' H' s'} I' => by
    obtain ⟨nm, qn, h1, h2, h3⟩ := hg
    exact ⟨go, nm, qn, (I'.pin (a, go) (List.mem_append_right _ List.mem_cons_self)).1, h1, h2, h3⟩
  obtain ⟨gs, hgs, hgo⟩ := hgs
  have hgl : g < s.gens.size := (Array.getElem?_eq_some_iff.mp hgs).1
  refine GenW.wpAny_gsz (n := g + 1) hgl (wpAny_pyNext_genexpQ (P := GFin Y a go σ1 fin) hh I.nolimit hroom (isg I) hgs hgo (fun v s₁ gs' hb hv hsz => ?_) fun s₁ hp h' hk _ => ?_)
  · obtain ⟨i, ys, y, H1, Nx, rv, ⟨I1, st1, nf1⟩, ho, hk⟩ := hv
    have hsz1 : g < s₁.gens.size := by
      have q : (s₁.setGen g gs').gens.size = s₁.gens.size := GenW.setGen_size _ _ _
      have hsz' : g + 1 ≤ (s₁.setGen g gs').gens.size := hsz
      omega
    have bare1 : PyProof.Rows.AllBare (s₁.setGen g gs').gens := allBare_setGen I1.bare hb
    refine hY v _ i ys y H1 Nx rv ⟨inv_gens I1 rfl rfl bare1, st1, nf1⟩ ho fun ys' H' nx e => ?_
    · subst e
      have G2 : GAt Y a go fp tn σ1 (i + 1) H' ((s₁.setGen g gs').setGen g .running) := ⟨inv_gens I1 rfl rfl (allBare_setGen bare1 rfl), st1, nf1⟩
      have z := hk ys' H' ((s₁.setGen g gs').setGen g .running) nx G2
      cases n with
      | zero => exact z.elim
      | succ m => exact ⟨m, rfl, gs', setGen_at hsz1, z⟩
  · obtain ⟨ys, H1, I1, hf⟩ := hp
    refine hF _ ys H1 ?_ hf
    exact inv_gens (I1.kept (t' := s₁.toks) hk) rfl rfl (allBare_setGen I1.bare rfl)
/-- all(test for .. in ..): b, what it comes to -/
def oAll (Q : VK) : GOut := fun ys y H Nx => ∃ b, y = .bl b ∧ if b = true then Nx (ys ++ [y]) H else Q (.bl false) H
theorem all_gx {A : Around} {a g : Nat} {go : Obj} {fp : List Addr} {tn : Nat → Heap → Prop} {σ1 : St} {Y : Cx} {Q : VK} {R : Result → Shared → Prop}
    (hh : A.handled = none) (hroom : A.depth < recursionLimit) (hg : ∃ nm qn, go.cls = .type "generator" ∧ go.data = .fields #[.int g 0, nm, qn] ∧ go.slots = #[])
    (hend : ∀ b s' H', Inv Y [(a, go)] σ1 H' s' → Q (.bl b) H' → R (.ok (.ret (.bool b))) s') :
    ∀ (n : Nat) (s : Shared) (σ0 : St) (H : Hp), Inv Y [(a, go)] σ0 H s → (∃ gs, s.gens[g]? = some gs ∧ gs.Goes (model Y.prog Y.w) A.in1.in1 (GRs Y a go σ1 fun _ H => Q (.bl true) H) (GPr Y a go fp tn σ1 (oAll Q)) n (.send .none) (s.setGen g .running)) →
      codeAny (model Y.prog Y.w) A (.builtin "all.loop" ⟨[.ref a], []⟩) R s := by
  intro n
  induction n using Nat.strongRecOn with
  | ind n ih =>
    intro s σ0 H I hgs
    refine codeAny_builtin F.entry_all_loop ?_
    rw [Around.under_plainId F.plain_all_loop _]
    show wpAny _ A.in1 (pyNext (.ref a) >>= _) _ _ s
    refine wpAny_bind (gx_next (A := A.in1) hh hroom hg I hgs (fun v s1 i ys y H1 Nx rv hG ho hk => ?_) fun s1 ys H1 I1 hf => ?_)
    · obtain ⟨b, rfl, ho⟩ := ho
      obtain rfl : v = Value.bool b := rv
      refine wpAny_bind (wpAny_holding (wpAny_truthy_bool ?_))
      refine wpAny_bind (wpAny_letGo ?_)
      cases b with
      | true =>
        simp only [if_true] at ho ⊢
        obtain ⟨m, rfl, hk2⟩ := hk _ H1 ho rfl
        exact wpAny_pure ⟨plainId_quiet F.plain_all_loop _, ih m (Nat.lt_succ_self m) s1 σ1 H1 hG.1 hk2⟩
      | false =>
        simp only [Bool.false_eq_true, if_false] at ho ⊢
        exact wpAny_bind (wpAny_rule (wpAny_pure (hend false s1 H1 hG.1 ho)))
    · exact wpAny_bind (wpAny_rule (wpAny_pure (hend true s1 H1 I1 hf)))
def tAllG (wi : TI) (g : TG) (tt : TT) (te : TE) (vs : List Nat) (P : Addr) : TE := fun σ H Q => wi σ H fun J H1 => GxR.TabG H1 P ∧ ∀ H2, TabX P H1 H2 →
  ∃ W, (∃ m, W 0 [] m H2) ∧ GTurn J g tt te (wipe σ vs) vs (oAll Q) (fun _ H => Q (.bl true) H) W
/-- all(test for .. in ..) -/
theorem pe_allG {c P : Addr} {elt tg iter : Expr} {ifs : List Expr} {gpos p pos : Pos} {scope : Scope} {own : List (Str × Nat)} {wi : TI} {g : TG} {tt : TT} {te : TE} {k : Nat}
    (hr : Rm (k + 3) X.A) (hgl : Gl X "all") (hm : X.mg "all" = none) (hb : bootBuiltins "all" = some (.builtin "all")) (TB : GxR.TabB X.base X.mg c P) (hcode : X.env.code = .ref c) (hc : X.calm = true) (hN : X.N.Nodup) (ok : BlkOk X.N X.env.scope scope own) (gk : GOk scope) (hi : PI X tg iter wi)
    (hg : ∀ (B : Around) (s : Shared) (H : Hp) (C : Addr) (cl : List (Str × Addr)) (cd : Value) (fp : List Addr), Rm k (B.deeper (gxE X scope cl C cd)) → PG (gxC X B s H (gxE X scope cl C cd) fp) tg g)
    (ht : ∀ (B : Around) (s : Shared) (H : Hp) (C : Addr) (cl : List (Str × Addr)) (cd : Value) (fp : List Addr), Rm k (B.deeper (gxE X scope cl C cd)) → PTs (gxC X B s H (gxE X scope cl C cd) fp) ifs tt)
    (he : ∀ (B : Around) (s : Shared) (H : Hp) (C : Addr) (cl : List (Str × Addr)) (cd : Value) (fp : List Addr), Rm k (B.deeper (gxE X scope cl C cd)) → PE (gxC X B s H (gxE X scope cl C cd) fp) elt te)
    (hs : ∀ v, genFold iter X.env v = pure v := by intro _; rfl)
    (hst : starEach [.GeneratorExp elt [⟨tg, iter, ifs, 0⟩] scope gpos] X.env = (false, eval (.GeneratorExp elt [⟨tg, iter, ifs, 0⟩] scope gpos) X.env) :: starEach [] X.env := by rfl) :
    PE X (.Call (.Name "all" p) [.GeneratorExp elt [⟨tg, iter, ifs, 0⟩] scope gpos] [] pos) (tAllG wi g tt te (own.map (·.2)) P) := by
  refine ⟨fun pins s σ H Q I h => ?_⟩
  refine wpAny_Call_Name_kw (ld_blt I hgl hm hb ?_)
  refine PyProof.Rows.callWith_builtin1 ?_ hst (by rfl)
  rw [hst]
  show wpAny _ _ (spliced ((false, eval (.GeneratorExp elt [⟨tg, iter, ifs, 0⟩] scope gpos) X.env) :: backTo pos (starEach [] X.env))) _ _ s
  refine Calls.spliced_cons (gx_make (own := own) (Rr := fun J H1 => ∀ H2, TabX P H1 H2 → ∃ W : Nat → List V → Nat → Hp → Prop, (∃ m, W 0 [] m H2) ∧ GTurn J g tt te (wipe σ (own.map fun x : Str × Nat => x.2)) (own.map fun x : Str × Nat => x.2) (oAll Q) (fun _ H => Q (.bl true) H) W) hr.hr TB hcode ok gk hi hs I h
    fun J H1 H4 it fp tn s4 code a go gn s5 hR hT T I4 hfp st4 M => ?_)
  refine Calls.spliced_nil ?_
  obtain ⟨W, ⟨m, w0⟩, turn⟩ := hR H4 hT
  obtain ⟨m0, hns⟩ := M.ns
  have hB : X.A.in1.in1.handled = none := hr.hr.hd
  have hgc : ∀ v, go.data ≠ .cell v := fun v q => by
    obtain ⟨nm, qn, _, h2, _⟩ := M.gen
    rw [h2] at q; cases q
  have I5 := gx_start (B := X.A.in1.in1) (own := own) (code := code) I4 ok gk hN hfp hB I4.ok.frames hns M.kp M.bare M.os M.lt M.obj hgc
  have rmB : Rm k (X.A.in1.in1.deeper (gxE X scope (cloFrom X.env.cells scope.names []) s4.heap.objs.size code)) := ⟨((hr.hr.in1).in1).deeper _, hr.gd⟩
  have hafp : a ∉ fp := fun z => Nat.lt_irrefl _ (Nat.lt_trans (hfp a z).2 M.lt)
  have st5 : tn 0 s5.heap := T.keep _ _ _ st4 fun b _ o e => M.kp b o e
  refine PySem.call_function_tree F.kind_all F.plain_all F.entry_all (F.args_all1 _) ?_
  unfold Builtin.«all»
  refine wpAny_bind (m := oneArg "all" _) (wpAny_pure ?_)
  obtain ⟨nm, qn, gg1, gg2, gg3⟩ := id M.gen
  refine wpAny_bind (wpAny_pyIter_gen (a := a) (g := gn) ⟨go, nm, qn, M.obj, gg1, gg2, gg3⟩ ?_)
  refine wpAny_pure ⟨plainId_quiet F.plain_all_loop _, ?_⟩
  refine all_gx (Y := gxC X X.A.in1.in1 s4 H4 (gxE X scope (cloFrom X.env.cells scope.names []) s4.heap.objs.size code) fp) (fp := fp) (tn := tn) (σ1 := wipe σ (own.map (·.2))) (Q := Q) (A := X.A) hr.hr.hd (by have := hr.hr.dp; omega) M.gen (fun b s' H' I' hq => ?_) (m + 1) s5 _ H4 I5 ⟨_, M.st, rfl, ?_⟩
  · exact ⟨.bl b, H', I4.call' (ch := fp) I'.os I'.base I'.hok I'.bare fun b hb => ⟨(hfp b hb).1.2.2.2.1, (hfp b hb).1.2.1, (hfp b hb).1.2.2.2.2.1, (hfp b hb).1.2.2.2.2.2⟩, rfl, hq⟩
  · refine seg_gx0 (X := X) (iter := iter) (scope := scope) (pos := gpos) hc gk.co hafp T (hg _ _ _ _ _ _ _ rmB) (ht _ _ _ _ _ _ _ rmB) (he _ _ _ _ _ _ _ rmB) turn (Nat.lt_succ_self m) w0 ⟨inv_gens I5 rfl rfl (allBare_setGen M.bare rfl), st5, fun b hb => (hfp b hb).1.1⟩
end
end Lf
end
section
set_option Elab.async false
set_option linter.all false
set_option maxRecDepth 100000
set_option maxHeartbeats 2000000
namespace Lf
open PySem PySem.Spec L2
variable [Tabs]
section
variable {K : PySem.W.Frag} {G H H' : Hp} {F : FS} {τ σ σ' : St} {en e1 : En} {vs : List V} {os : List OT}
theorem RX.tabG {P : Addr} (h : RX K G F τ σ H en vs os) (hP : P ∈ Tabs.ts) : GxR.TabG H P := let ⟨_, _, _, S, _⟩ := h; (S.tab P hP).2
theorem RX.tabX {P : Addr} (h : RX K G F τ σ H en vs os) (hP : P ∈ Tabs.ts) (t : TabX P H H') : RX K G F τ σ H' en vs os := by
  obtain ⟨M, φ, B, S, E, r, d⟩ := h
  obtain ⟨⟨ps, more, t1, t2, t3⟩, t4⟩ := t
  refine ⟨M, φ, B, ⟨fun a => ?_, S.nt, fun p hp => ⟨(S.tab p hp).1, ?_⟩, S.base, S.mb⟩, E, r, d⟩
  · by_cases e : a = P
    · obtain ⟨⟨qs, f1⟩, _⟩ := S.tab P hP
      rcases S.at_ a with ⟨_, h2, _⟩ | ⟨_, h2, _⟩ | ⟨h1, h2, h3⟩ | ⟨_, h2, _⟩
      · rw [e, f1] at h2; cases h2
      · rw [e, f1] at h2; cases h2
      · refine .inr (.inr (.inl ⟨h1, h2, up_trans h3 ?_⟩))
        rw [e, t1, t2]
        exact .inr ⟨ps, more, rfl, rfl⟩
      · rw [e, f1] at h2; cases h2
    · rw [t4 a e]; exact S.at_ a
  · by_cases e : p = P
    · rw [e]; exact ⟨_, t2, t3⟩
    · exact tabG_of (S.tab p hp).2 (t4 p e)
end
def allD (vs : List Nat) (g : DG) (tt : DT) (te : DE) : List PyData → En → R (Bool × En)
  | [], en => .ok (true, en)
  | x :: xs, en => match g x en with
    | none => .error .stuck
    | some e2 => bd (nx (tt e2)) fun p => if p.1 = true then bd (nx (te p.2)) fun q => match q.1, wipeE vs q.2 with
        | .d (.bool b), some e5 => if b = true then allD vs g tt te xs e5 else .ok (false, e5)
        | _, _ => .error .stuck
      else match wipeE vs p.2 with
        | some e5 => allD vs g tt te xs e5
        | none => .error .stuck
def okB (r : R (Bool × En)) : R (OT × En) := bd r fun r => .ok (.d (.bool r.1), r.2)
def eAll (vs : List Nat) (di : DI) (g : DG) (tt : DT) (te : DE) : DE := fun en => bd (di en) fun p => match wipeE vs p.2 with
  | some e2 => okB (allD vs g tt te p.1 e2)
  | none => .error .stuck
section
variable {X : Cx} {W : WX} {elt tg iter : Expr} {ifs : List Expr} {scope : Scope} {own : List (Str × Nat)} {pos : Pos} {di : DI} {g : DG} {is : List Nat} {tt : DT} {te : DE} {P : Addr}
theorem all_lift {ns : List Nat} {σ : St} {H : Hp} {Q : VK} (hP : P ∈ Tabs.ts) (hs : ∀ i ∈ is, i ∈ ns) (q : liftE X.K W (eAll ns di g tt te) σ H Q) :
    tAllG (liftI X.K W di) (liftG X.K is g) (liftT X.K W0 tt) (liftE X.K W0 te) ns P σ H Q := by
  obtain ⟨G, F, τ, en, h, hp⟩ := q
  refine ⟨G, F, τ, en, h, ?_⟩
  unfold eAll at hp
  revert hp
  match di en with
  | .error .stuck => exact fun hp => hp
  | .error (.exn c e1) => exact fun hp => hp
  | .ok (xs, e1) =>
    intro hp G1 H1 J s1 h1 hJ
    refine ⟨h1.tabG hP, fun H2 tx => ?_⟩
    replace h1 := h1.tabX hP tx
    simp only [bd] at hp
    cases ew : wipeE ns e1 with
    | none => rw [ew] at hp; exact hp.elim
    | some e2 =>
      rw [ew] at hp
      dsimp only at hp
      obtain ⟨h2, _, u2⟩ := h1.wiped ew
      refine ⟨fun i ys m H' => ∃ G2 e3, Same G1 G2 ∧ RX X.K G2 F τ σ H' e3 [] [] ∧ (∀ j ∈ ns, e3[j]? = some .un) ∧ i ≤ xs.length ∧ m = xs.length - i ∧ Post X.K G2 F τ σ W ob1 (q1 Q) (okB (allD ns g tt te (xs.drop i) e3)),
        ⟨_, G1, e2, Same.refl _, h2, u2, Nat.zero_le _, rfl, by rw [List.drop_zero]; exact hp.mono s1⟩, ?_⟩
      rintro i ys m H3 ⟨G2, e3, s2, h4, u3, hi, rfl, hp2⟩
      by_cases hlt : i < xs.length
      · refine .inr ⟨hJ.go i H3 (s2.trans h4.same) hlt, fun _ H' => ∃ G2 e3, Same G1 G2 ∧ RX X.K G2 F τ σ H' e3 [] [] ∧ (∀ j ∈ ns, e3[j]? = some .un) ∧ i + 1 ≤ xs.length ∧ Post X.K G2 F τ σ W ob1 (q1 Q) (okB (allD ns g tt te (xs.drop (i + 1)) e3)), fun _ H' ⟨G2, e3, z1, z2, z3, z4, z5⟩ => ⟨xs.length - (i + 1), by omega, G2, e3, z1, z2, z3, z4, rfl, z5⟩, fun x H' y => ?_⟩
        obtain ⟨dd, G3, hd, s3, h6⟩ := hJ.yld i H3 x H' G2 F τ σ e3 [] [] hlt s2 h4 y
        have hdrop : xs.drop i = dd :: xs.drop (i + 1) := by
          obtain ⟨_, e⟩ := List.getElem?_eq_some_iff.mp hd
          rw [← e, List.drop_eq_getElem_cons hlt]
        rw [hdrop] at hp2
        simp only [allD] at hp2
        have h7 : RX X.K G3 F τ (wipe σ ns) H' e3 [x] [.d dd] := h6.acrossW u3 wipe_wipe
        refine ⟨G3, F, τ, e3, dd, h7, ?_⟩
        cases eg : g dd e3 with
        | none => rw [eg] at hp2; exact hp2.elim
        | some e4 =>
          rw [eg] at hp2
          dsimp only at hp2 ⊢
          intro σ2 off h8
          have w2 : wipe σ2 ns = wipe σ ns := by rw [wipe_off off hs, wipe_wipe]
          refine ⟨w2, G3, F, τ, e4, h8, ?_⟩
          revert hp2
          match tt e4 with
          | .error _ => exact fun hp2 => hp2.elim
          | .ok (b, e5) =>
            intro hp2 G4 H4 _ s4 h9
            simp only [nx, bd] at hp2
            cases b with
            | false =>
              rw [if_neg Bool.false_ne_true] at hp2 ⊢
              cases ew2 : wipeE ns e5 with
              | none => rw [ew2] at hp2; exact hp2.elim
              | some e6 =>
                rw [ew2] at hp2
                obtain ⟨h10, _, u6⟩ := h9.nil.wiped ew2
                exact ⟨G4, e6, s2.trans (s3.trans s4), (RX.acrossW (vs := []) (os := []) h10 u6 w2.symm), u6, by omega, hp2.mono (s3.trans s4)⟩
            | true =>
              rw [if_pos rfl] at hp2 ⊢
              refine ⟨G4, F, τ, e5, h9.nil, ?_⟩
              revert hp2
              match te e5 with
              | .error _ => exact fun hp2 => hp2.elim
              | .ok (o, e6) =>
                intro hp2 G5 H5 vs5 s5 h10 v ev
                subst ev
                dsimp only at hp2
                split at hp2
                · rename_i b e7 ew2
                  obtain ⟨h11, _, u7⟩ := RX.wiped (vs := [v]) (os := [.d (.bool b)]) h10 ew2
                  have dv := RX.dataG (vs := []) (os := []) h11
                  cases dv
                  have h12 : RX X.K G5 F τ σ H5 e7 [] [] := RX.acrossW (vs := []) (os := []) h11.nil u7 w2.symm
                  refine ⟨b, rfl, ?_⟩
                  cases b with
                  | true =>
                    rw [if_pos rfl] at hp2 ⊢
                    exact ⟨G5, e7, s2.trans (s3.trans (s4.trans s5)), h12, u7, by omega, hp2.mono (s3.trans (s4.trans s5))⟩
                  | false =>
                    rw [if_neg Bool.false_ne_true] at hp2 ⊢
                    exact hp2 G5 H5 [.bl false] (s3.trans (s4.trans s5)) (h12.withD (.bl false)) _ rfl
                · exact hp2.elim
      · have e : i = xs.length := by omega
        subst e
        refine .inl ⟨hJ.stop H3 (s2.trans h4.same), ?_⟩
        rw [List.drop_length] at hp2
        exact hp2 G2 H3 [.bl true] (Same.refl _) (h4.withD (.bl true)) _ rfl
theorem EX_all {c : Addr} {gpos p : Pos} {k : Nat}
    (hP : P ∈ Tabs.ts) (hr : Rm (k + 3) X.A) (hgl : Gl X "all") (hm : X.mg "all" = none) (hb : bootBuiltins "all" = some (.builtin "all")) (TB : GxR.TabB X.base X.mg c P) (hcode : X.env.code = .ref c) (hc : X.calm = true) (hN : X.N.Nodup) (ok : BlkOk X.N X.env.scope scope own) (gk : GOk scope) (hi : IX X W tg iter di)
    (his : ∀ i ∈ is, i ∈ own.map (·.2))
    (hg : ∀ (B : Around) (s : Shared) (H : Hp) (C : Addr) (cl : List (Str × Addr)) (cd : Value) (fp : List Addr), Rm k (B.deeper (gxE X scope cl C cd)) → GX (gxC X B s H (gxE X scope cl C cd) fp) tg is g)
    (ht : ∀ (B : Around) (s : Shared) (H : Hp) (C : Addr) (cl : List (Str × Addr)) (cd : Value) (fp : List Addr), Rm k (B.deeper (gxE X scope cl C cd)) → PTs (gxC X B s H (gxE X scope cl C cd) fp) ifs (liftT X.K W0 tt))
    (he : ∀ (B : Around) (s : Shared) (H : Hp) (C : Addr) (cl : List (Str × Addr)) (cd : Value) (fp : List Addr), Rm k (B.deeper (gxE X scope cl C cd)) → EX (gxC X B s H (gxE X scope cl C cd) fp) W0 elt te)
    (hs : ∀ v, genFold iter X.env v = pure v := by intro _; rfl)
    (hst : starEach [.GeneratorExp elt [⟨tg, iter, ifs, 0⟩] scope gpos] X.env = (false, eval (.GeneratorExp elt [⟨tg, iter, ifs, 0⟩] scope gpos) X.env) :: starEach [] X.env := by rfl) :
    EX X W (.Call (.Name "all" p) [.GeneratorExp elt [⟨tg, iter, ifs, 0⟩] scope gpos] [] pos) (eAll (own.map (·.2)) di g tt te) :=
  PE.imp (pe_allG hr hgl hm hb TB hcode hc hN ok gk hi hg ht he hs hst) fun σ H Q q => all_lift hP his q
end
end Lf
end
section
set_option Elab.async false
set_option linter.all false
set_option maxRecDepth 100000
set_option maxHeartbeats 2000000
namespace Lf
open PySem PySem.Spec L2
variable [Tabs]
/-! ### a name's own list is written where it stands -/
def ownS : Slot → Option (Bool × List OT)
  | .v (.own os) => some (false, os)
  | .p (.own os) => some (true, os)
  | _ => none
def ownAt (en : En) (i : Nat) : Option (Bool × List OT) := en[i]?.bind ownS
def mkS (b : Bool) (o : OT) : Slot := if b then .p o else .v o
def gapS (b : Bool) : Slot := if b then .p .hole else .un
section
variable {K : PySem.W.Frag} {G G' H : Hp} {F : FS} {τ σ : St} {en : En} {vs ws xs : List V} {os ps qs : List OT}
theorem RepOs.rev {M : Hp} : ∀ {os : List OT} {vs : List V} {A : List Addr}, RepOs K G M vs os A → ∃ B, RepOs K G M vs.reverse os.reverse B ∧ ∀ a, a ∈ B ↔ a ∈ A
  | [], _, _, h => by cases h; exact ⟨[], .nil, fun _ => Iff.rfl⟩
  | o :: os, _, _, h => by
    cases h with
    | cons h1 h2 h3 =>
      rename_i v vs A B
      obtain ⟨C, r, m⟩ := RepOs.rev h2
      rw [List.reverse_cons, List.reverse_cons]
      refine ⟨C ++ (A ++ []), RepOs.app r (.cons h1 .nil fun _ _ z => nomatch z) fun a ha hb => ?_, fun a => ?_⟩
      · exact h3 a (by simpa using hb) ((m a).mp ha)
      · simp only [List.append_nil, List.mem_append, m a]
        exact Or.comm
theorem RX.rev (h : RX K G F τ σ H en (xs ++ vs) (qs ++ os)) (hl : xs.length = qs.length) : RX K G F τ σ H en (xs.reverse ++ vs) (qs.reverse ++ os) := by
  obtain ⟨M, φ, B, S, E, r, d⟩ := h
  obtain ⟨A, B, rfl, r1, r2, hd⟩ := RepOs.split hl r
  obtain ⟨C, r3, m⟩ := RepOs.rev r1
  exact ⟨M, φ, C ++ B, S, E, RepOs.app r3 r2 (fun a ha => hd a ((m a).mp ha)), fun i a ha => d i a (by
    simp only [List.mem_append] at ha ⊢
    exact ha.imp (m a).mp id)⟩
theorem RepOs.setAt {M : Hp} : ∀ {os : List OT} {vs : List V} {A : List Addr} (k : Nat) {v : V} {o : OT} {C : List Addr}, RepOs K G M vs os A → RepO K G M v o C → (∀ a ∈ C, a ∉ A) → k < os.length → ∃ B, RepOs K G M (vs.set k v) (os.set k o) B ∧ ∀ a ∈ B, a ∈ C ∨ a ∈ A
  | [], _, _, k, _, _, _, h, _, _, hk => by simp at hk
  | o' :: os, _, _, 0, v, o, C, h, hv, hd, _ => by
    cases h with
    | cons h1 h2 h3 =>
      rename_i v' vs A B
      refine ⟨C ++ B, .cons hv h2 (fun a ha hb => hd a ha (List.mem_append_right _ hb)), fun a ha => ?_⟩
      rcases List.mem_append.mp ha with ha | ha
      · exact .inl ha
      · exact .inr (List.mem_append_right _ ha)
  | o' :: os, _, _, k + 1, v, o, C, h, hv, hd, hk => by
    cases h with
    | cons h1 h2 h3 =>
      rename_i v' vs A B
      obtain ⟨D, r, m⟩ := RepOs.setAt k h2 hv (fun a ha hb => hd a ha (List.mem_append_right _ hb)) (by simpa using hk)
      refine ⟨A ++ D, .cons h1 r (fun a ha hb => ?_), fun a ha => ?_⟩
      · rcases m a hb with z | z
        · exact hd a z (List.mem_append_left _ ha)
        · exact h3 a ha z
      · rcases List.mem_append.mp ha with ha | ha
        · exact .inr (List.mem_append_left _ ha)
        · exact (m a ha).imp id (List.mem_append_right _)
theorem RX.setAt {k : Nat} {v : V} {o : OT} (h : RX K G F τ σ H en (xs ++ v :: vs) (qs ++ o :: os)) (hl : xs.length = qs.length) (hk : k < qs.length) : RX K G F τ σ H en (xs.set k v ++ vs) (qs.set k o ++ os) := by
  obtain ⟨M, φ, B, S, E, r, d⟩ := h
  obtain ⟨A, B, rfl, r1, r2, hd⟩ := RepOs.split hl r
  cases r2 with
  | cons r2 r3 hd2 =>
    rename_i C B
    obtain ⟨D, r4, m⟩ := RepOs.setAt k r1 r2 (fun a ha hb => hd a hb (List.mem_append_left _ ha)) hk
    refine ⟨M, φ, D ++ B, S, E, RepOs.app r4 r3 (fun a ha hb => ?_), fun i a ha => ?_⟩
    · rcases m a ha with z | z
      · exact hd2 a z hb
      · exact hd a z (List.mem_append_right _ hb)
    · refine d i a ?_
      simp only [List.mem_append]
      rcases List.mem_append.mp ha with ha | ha
      · rcases m a ha with z | z
        · exact .inr (.inl z)
        · exact .inl z
      · exact .inr (.inr ha)
/-- OPEN a name's own list -/
theorem RX.openS {i : Nat} {b : Bool} (h : RX K G F τ σ H en vs os) (hs : ownAt en i = some (b, qs)) : ∃ a xs, σ[i]? = some (some (.ref a)) ∧ H a = some (.lst xs) ∧ xs.length = qs.length ∧
    RX K G F τ σ (er H a) (en.set i (gapS b)) (xs ++ vs) (qs ++ os) ∧
    ∀ (G2 H2 : Hp) (zs ws : List V) (ps rs : List OT), H2 a = none → zs.length = ps.length → RX K G2 F τ σ H2 (en.set i (gapS b)) (zs ++ ws) (ps ++ rs) → RX K G2 F τ σ (upd H2 a (.lst zs)) (en.set i (mkS b (.own ps))) ws rs := by
  unfold ownAt at hs
  obtain ⟨s, hs, q⟩ := Option.bind_eq_some_iff.mp hs
  have hi := (List.getElem?_eq_some_iff.mp hs).1
  unfold ownS at q
  split at q
  · rename_i os'
    cases q
    obtain ⟨x, hx, h2⟩ := h.take hs
    obtain ⟨a, xs, rfl, hH, hl, h3⟩ := h2.openL
    exact ⟨a, xs, hx, hH, hl, h3, fun G2 H2 zs ws ps rs h0 hz hr => (hr.newL hz h0).putBack hi hx⟩
  · rename_i os'
    cases q
    obtain ⟨x, hx, hτ, h2⟩ := h.takeP hs
    obtain ⟨a, xs, rfl, hH, hl, h3⟩ := h2.openL
    exact ⟨a, xs, hx, hH, hl, h3, fun G2 H2 zs ws ps rs h0 hz hr => (hr.newL hz h0).putBackP hi hx hτ⟩
  · cases q
/-- the same list written -/
theorem RX.writeS {i : Nat} {b : Bool} {a : Addr} {zs : List V} (hc : ∀ (G2 H2 : Hp) (zs ws : List V) (ps rs : List OT), H2 a = none → zs.length = ps.length → RX K G2 F τ σ H2 (en.set i (gapS b)) (zs ++ ws) (ps ++ rs) → RX K G2 F τ σ (upd H2 a (.lst zs)) (en.set i (mkS b (.own ps))) ws rs)
    (hz : zs.length = ps.length) (h : RX K G F τ σ (er H a) (en.set i (gapS b)) (zs ++ ws) (ps ++ os)) : RX K G F τ σ (upd H a (.lst zs)) (en.set i (mkS b (.own ps))) ws os := by
  have q := hc G (er H a) zs ws ps os er_same hz h
  rwa [upd_er] at q
end
/-! ### append, reverse, pop, x[k] = .. -/
def eApp (i : Nat) (da : DE) : DE := fun en => match ownAt en i with
  | none => .error .stuck
  | some _ => bd (da en) fun p => match ownAt p.2 i with
    | some (b, os) => if few os.length then .ok (.d .none, p.2.set i (mkS b (.own (os ++ [p.1])))) else .error .stuck
    | none => .error .stuck
def eRev (i : Nat) : DE := fun en => match ownAt en i with
  | some (b, os) => .ok (.d .none, en.set i (mkS b (.own os.reverse)))
  | none => .error .stuck
section
variable {X : Cx} {W : WX} {i : Nat} {o e : Expr} {da : DE} {apos cpos : Pos}
theorem EX_app (ho : PE X o (tVar i)) (ha : EX X W e da)
    (hbase : attributeBase o "append" X.env (eval o X.env) = eval o X.env := by rfl)
    (hfew : ((backTo cpos (starEach [e] X.env)).all (fun x => !x.1) && (backToKw cpos (keywordEach [] X.env)).all (fun x => x.1.isSome)
      && decide ([e].length + ([] : List Keyword).length + (if ([] : List Keyword).isEmpty then 0 else 1) < 30)) = true := by rfl)
    (hline : (apos.endLine == cpos.line) = true := by rfl) (hs : starEach [e] X.env = (false, eval e X.env) :: starEach [] X.env := by rfl) (hplain : (backTo cpos (starEach [] X.env)).any (·.1) = false := by rfl) :
    EX X W (.Call (.Attribute o "append" apos) [e] [] cpos) (eApp i da) :=
  PE.imp (pe_bm PySem.F.plainAttrs_list PySem.F.slot_list_append PySem.F.type_list_append mt_append ho (pa_cons ha pa_nil hs) hbase hfew hline hs hplain) fun σ H Q q => by
  obtain ⟨G, F, τ, en, h, hp⟩ := q
  unfold eApp at hp
  split at hp
  · exact hp.elim
  · rename_i bo h0
    obtain ⟨a, xs, hx, hH, _, _⟩ := h.openS h0
    refine ⟨.ref a, hx, .inl ⟨rfl, xs, SqL.of hH⟩, ?_⟩
    refine bindE (vs := []) (os := []) h hp fun p e1 hp1 G1 H1 v s1 h1 => ?_
    have h1 : RX X.K G1 F τ σ H1 e1 [v] [p] := h1
    dsimp only at hp1
    split at hp1
    · rename_i b os h2
      split at hp1
      · rename_i hf
        obtain ⟨a', ys, hx', hH', hl', h3, hc⟩ := h1.openS h2
        rw [hx] at hx'
        cases hx'
        refine ⟨a, ys, v, rfl, rfl, hH', by rw [hl']; exact few_lt hf, ?_⟩
        have h4 : RX X.K G1 F τ σ (er H1 a) (e1.set i (gapS b)) ((ys ++ [v]) ++ []) ((os ++ [p]) ++ []) := by simpa using h3
        have h5 := RX.writeS hc (by simp [hl']) h4
        exact hp1 G1 _ [.non] s1 (h5.withD .non) .non rfl
      · exact hp1.elim
    · exact hp1.elim
end
end Lf
end
section
set_option Elab.async false
set_option linter.all false
set_option maxRecDepth 100000
set_option maxHeartbeats 2000000
namespace Lf
open PySem PySem.Spec L2
variable [Tabs]
section
variable {K : PySem.W.Frag} {G G' H : Hp} {F : FS} {τ σ : St} {en : En} {vs ws xs : List V} {os ps qs : List OT}
/-- one of those in front is frozen where it stands -/
theorem RX.frzAt {j : Nat} {o : OT} {x : PyData} (h : RX K G F τ σ H en (xs ++ vs) (qs ++ os)) (hl : xs.length = qs.length) (hj : qs[j]? = some o) (e : frz o = some x) :
    ∃ G' u, Same G G' ∧ xs[j]? = some u ∧ Dp K G' u x ∧ RX K G' F τ σ H en (xs ++ vs) (qs.set j (.d x) ++ os) := by
  have hjq := (List.getElem?_eq_some_iff.mp hj)
  obtain ⟨hlt, ho⟩ := hjq
  have hltx : j < xs.length := by omega
  have ex : xs = xs.take j ++ (xs[j] :: xs.drop (j + 1)) := by rw [← List.drop_eq_getElem_cons hltx, List.take_append_drop]
  have eq : qs = qs.take j ++ (qs[j] :: qs.drop (j + 1)) := by rw [← List.drop_eq_getElem_cons hlt, List.take_append_drop]
  have es : qs.set j (.d x) = qs.take j ++ (.d x :: qs.drop (j + 1)) := by
    rw [List.set_eq_take_append_cons_drop, if_pos hlt]
  have h1 : RX K G F τ σ H en (xs.take j ++ (xs[j] :: (xs.drop (j + 1) ++ vs))) (qs.take j ++ (qs[j] :: (qs.drop (j + 1) ++ os))) := by
    have e1 : xs.take j ++ (xs[j] :: (xs.drop (j + 1) ++ vs)) = xs ++ vs := by rw [← List.cons_append, ← List.append_assoc, ← ex]
    have e2 : qs.take j ++ (qs[j] :: (qs.drop (j + 1) ++ os)) = qs ++ os := by rw [← List.cons_append, ← List.append_assoc, ← eq]
    rw [e1, e2]
    exact h
  have lt : (xs.take j).length = (qs.take j).length := by simp; omega
  have h2 := RX.comm h1 lt
  obtain ⟨G', sg, h3⟩ := RX.freeze (vs := (xs.drop (j + 1) ++ vs) ++ xs.take j) (os := (qs.drop (j + 1) ++ os) ++ qs.take j) (by simpa using h2) (by rw [ho]; exact e)
  have dv := h3.dataG
  refine ⟨G', xs[j], sg, List.getElem?_eq_getElem hltx, dv, ?_⟩
  have lt2 : (xs[j] :: (xs.drop (j + 1) ++ vs)).length = (OT.d x :: (qs.drop (j + 1) ++ os)).length := by
    have := h1.vlen
    simp at this ⊢
    omega
  have h4 : RX K G' F τ σ H en (xs.take j ++ (xs[j] :: (xs.drop (j + 1) ++ vs))) (qs.take j ++ (.d x :: (qs.drop (j + 1) ++ os))) := RX.comm (vs := xs[j] :: (xs.drop (j + 1) ++ vs)) (os := .d x :: (qs.drop (j + 1) ++ os)) (by simpa using h3) lt2
  rw [es]
  have e2 : xs ++ vs = xs.take j ++ (xs[j] :: (xs.drop (j + 1) ++ vs)) := by rw [← List.cons_append, ← List.append_assoc, ← ex]
  rw [e2, List.append_assoc, List.cons_append]
  exact h4
/-- data put in front -/
theorem RX.withDs : ∀ {xs : List PyData} {us : List V}, RX K G F τ σ H en vs os → DpAll K G us xs → RX K G F τ σ H en (us ++ vs) (xs.map OT.d ++ os)
  | [], _, h, k => by cases k; exact h
  | x :: xs, _, h, k => by
    cases k with
    | cons k1 k2 => exact (RX.withDs h k2).withD k1
/-- a name's own list, all its items frozen -/
theorem RX.frzS {i : Nat} {b : Bool} {ds : List PyData} (h : RX K G F τ σ H en vs os) (hs : ownAt en i = some (b, qs)) (e : frzs qs = some ds) : ∃ G' a xs, Same G G' ∧ σ[i]? = some (some (.ref a)) ∧ H a = some (.lst xs) ∧ DpAll K G' xs ds ∧
    RX K G' F τ σ H (en.set i (mkS b (.own (ds.map .d)))) vs os := by
  obtain ⟨a, xs, hx, hH, hl, h3, hc⟩ := h.openS hs
  obtain ⟨G', sg, dv, h4⟩ := RX.freezeL h3 hl e
  have h5 := h4.withDs dv
  have h6 := RX.writeS hc (by rw [List.length_map, frzs_length e]; exact hl) h5
  have eH : upd H a (.lst xs) = H := by
    funext b
    unfold upd
    split
    · rename_i z; rw [z, hH]
    · rfl
  rw [eH] at h6
  exact ⟨G', a, xs, sg, hx, hH, dv, h6⟩
theorem upd_self {H : Hp} {a : Addr} {o : HO} (e : H a = some o) : upd H a o = H := by
  funext b
  unfold upd
  split
  · rename_i z; rw [z, e]
  · rfl
end
/-! ### x[k] of a name's own list: the item is data from now on -/
def eIxS (i : Nat) (db : DE) : DE := fun en => match ownAt en i with
  | none => .error .stuck
  | some _ => bd (db en) fun q => match q.1, ownAt q.2 i with
    | .d (.int k), some (b, os) => (match ixN os.length k with
      | some j => (match os[j]?.bind frz with
        | some x => .ok (.d x, q.2.set i (mkS b (.own (os.set j (.d x)))))
        | none => .error .stuck)
      | none => .error .stuck)
    | _, _ => .error .stuck
section
variable {X : Cx} {W : WX} {i : Nat} {o b : Expr} {db : DE} {pos : Pos}
theorem EX_ixS (ho : PE X o (tVar i)) (hb : EX X W b db) (hs : PlainIx b := by exact fun _ _ => rfl) : EX X W (.Subscript o b pos) (eIxS i db) := PE.imp (pe_ix ix_seq ho hb hs) fun σ H Q q => by
  obtain ⟨G, F, τ, en, h, hp⟩ := q
  unfold eIxS at hp
  split at hp
  · exact hp.elim
  · rename_i bo h0
    obtain ⟨a, xs, hx, hH, _, _⟩ := h.openS h0
    refine ⟨.ref a, hx, ?_⟩
    refine bindE (vs := []) (os := []) h hp fun p e1 hp1 G1 H1 v s1 h1 => ?_
    have h1 : RX X.K G1 F τ σ H1 e1 [v] [p] := h1
    dsimp only at hp1
    split at hp1
    · rename_i k bb os eo _
      split at hp1
      · rename_i j ej
        split at hp1
        · rename_i x ex
          obtain ⟨oj, hj, ef⟩ := Option.bind_eq_some_iff.mp ex
          have dv := RX.data (vs := []) (os := []) h1 (x := .int k) rfl
          cases dv
          obtain ⟨a', ys, hx', hH', hl', h3, hc⟩ := h1.nil.openS eo
          rw [hx] at hx'
          cases hx'
          obtain ⟨G2, u, s2, hu, du, h4⟩ := RX.frzAt h3 hl' hj ef
          have h5 := RX.writeS hc (by simp [hl']) h4
          rw [upd_self hH'] at h5
          refine .inl ⟨a, ys, k, u, rfl, rfl, SqL.of hH', ?_, hp1 G2 H1 [u] (s1.trans s2) (h5.withD du) u rfl⟩
          unfold atI
          rw [hl', ej]
          exact hu
        · exact hp1.elim
      · exact hp1.elim
    · exact hp1.elim
end
/-! ### x[k] = e -/
def dStI (i : Nat) (da db : DE) : DS := fun en => bd (da en) fun p => match ownAt p.2 i with
  | none => .error .stuck
  | some _ => bd (db p.2) fun q => match q.1, ownAt q.2 i with
    | .d (.int k), some (b, os) => (match ixN os.length k with
      | some j => .ok (.nx, q.2.set i (mkS b (.own (os.set j p.1))))
      | none => .error .stuck)
    | _, _ => .error .stuck
section
variable {X : Cx} {W : WX} {i : Nat} {o b e : Expr} {da db : DE} {pos p2 : Pos}
theorem SX_stI (ho : PE X o (tVar i)) (hb : EX X W b db) (he : EX X W e da)
    (hs : swapsWithSole [.Subscript o b p2] e pos.line X.env = pure false := by rfl) (hw : swappedStores [.Subscript o b p2] e X.env = pure none := by rfl) (h1 : (assignEach [.Subscript o b p2] X.env).map (·.2) = [assign (.Subscript o b p2) X.env] := by rfl)
    (ha : ∀ v, assign (.Subscript o b p2) X.env v = (do
      let ov ← holding [v] (eval o X.env)
      let iv ← holding [v, ov] (eval b X.env)
      standAt p2
      holding [v, ov, iv] (setItem ov iv v)
      release [v, ov, iv] []) := by intro _; rfl) : SX X W (.Assign [.Subscript o b p2] e pos) (dStI i da db) :=
  PS.imp (ps_asg he (pg_sub ho hb set_list ha) hs hw h1) fun D σ H q => by
  obtain ⟨G, F, τ, en, h, hp⟩ := q
  refine bindES h hp fun p e1 hp1 G1 H1 v s1 h1 => ?_
  have h1 : RX X.K G1 F τ σ H1 e1 [v] [p] := h1
  dsimp only at hp1
  split at hp1
  · exact hp1.elim
  · rename_i bo h0
    obtain ⟨a, xs, hx, hH, _, _⟩ := h1.openS h0
    refine ⟨.ref a, hx, ?_⟩
    obtain ⟨F', h2, back⟩ := h1.hold
    refine ⟨G1, F', τ, e1, h2, ?_⟩
    revert hp1
    match db e1 with
    | .error .stuck => exact fun hp1 => hp1.elim
    | .error (.exn c e2) => exact fun hp1 G2 H2 s2 x => (hp1 G2 σ H2 (s1.trans s2) (back _ _ _ _ _ _ s2 x).nil)
    | .ok (r, e2) =>
      intro hp1 G2 H2 us s2 x w ew
      subst ew
      have h3 := back _ _ _ _ _ _ s2 x
      have h3 : RX X.K G2 F τ σ H2 e2 [v, w] [p, r] := h3
      simp only [bd] at hp1
      split at hp1
      · rename_i k bb os eo _
        split at hp1
        · rename_i j ej
          have dw := RX.data (vs := []) (os := []) (RX.right (vs := [v]) (os := [p]) rfl h3) (x := .int k) rfl
          cases dw
          have h4 : RX X.K G2 F τ σ H2 e2 [v] [p] := RX.left (vs := [v]) (os := [p]) (ws := [.int k]) rfl h3
          obtain ⟨a', ys, hx', hH', hl', h5, hc⟩ := h4.openS eo
          rw [hx] at hx'
          cases hx'
          have hlt : j < os.length := by
            have := ixN_seq ej
            exact this.2.1
          have h6 := RX.setAt (vs := []) (os := []) h5 hl' hlt
          have h7 := RX.writeS hc (by simp [hl']) h6
          exact ⟨a, ys, k, j, rfl, rfl, hH', by rw [hl']; exact ej, hp1 G2 σ _ (s1.trans s2) h7⟩
        · exact hp1.elim
      · exact hp1.elim
end
end Lf
end
section
set_option Elab.async false
set_option linter.all false
set_option maxRecDepth 100000
set_option maxHeartbeats 2000000
namespace Lf
open PySem PySem.Spec L2
variable [Tabs]
/-! ### slices -/
abbrev DP := En → R (Option Int × En)
def liftP (K : PySem.W.Frag) (W : WX) (d : DP) : TO := fun σ H Q => ∃ G F τ en, RX K G F τ σ H en [] [] ∧ Post K G F τ σ W (fun _ => []) (fun o _ H' => Q o H') (d en)
abbrev PX (X : Cx) (W : WX) (e : Option Expr) (d : DP) : Prop := PO X e (liftP X.K W d)
def pNo : DP := fun en => .ok (none, en)
def pSm (da : DE) : DP := fun en => bd (da en) fun p => match p.1 with
  | .d (.int i) => .ok (some i, p.2)
  | _ => .error .stuck
def cutA {α : Type} (xs : List α) (lo hi : Option Int) : List α := (xs.drop (HT.sIx xs.length 0 lo)).take (HT.sIx xs.length xs.length hi - HT.sIx xs.length 0 lo)
theorem _root_.L2.DpAll.length {K : PySem.W.Frag} {H : Hp} {vs : List V} {xs : List PyData} (h : DpAll K H vs xs) : vs.length = xs.length := Lf.DpAll.length h
theorem _root_.L2.DpAll.app {K : PySem.W.Frag} {H : Hp} {vs ws : List V} {xs ys : List PyData} (h : DpAll K H vs xs) (k : DpAll K H ws ys) : DpAll K H (vs ++ ws) (xs ++ ys) := Lf.DpAll.app h k
theorem dpdrop {K : PySem.W.Frag} {H : Hp} : ∀ {vs : List V} {xs : List PyData} (n : Nat), DpAll K H vs xs → DpAll K H (vs.drop n) (xs.drop n)
  | _, _, 0, h => h
  | [], [], n + 1, h => by simpa using h
  | v :: vs, x :: xs, n + 1, h => by
    cases h with
    | cons h1 h2 => exact dpdrop n h2
  | [], _ :: _, _, h => by cases h
  | _ :: _, [], _, h => by cases h
theorem dptake {K : PySem.W.Frag} {H : Hp} : ∀ {vs : List V} {xs : List PyData} (n : Nat), DpAll K H vs xs → DpAll K H (vs.take n) (xs.take n)
  | _, _, 0, _ => by simpa using DpAll.nil
  | [], [], n + 1, h => by simpa using h
  | v :: vs, x :: xs, n + 1, h => by
    cases h with
    | cons h1 h2 => exact .cons h1 (dptake n h2)
  | [], _ :: _, _, h => by cases h
  | _ :: _, [], _, h => by cases h
theorem _root_.L2.DpAll.cut {K : PySem.W.Frag} {H : Hp} {vs : List V} {xs : List PyData} (lo hi : Option Int) (h : DpAll K H vs xs) : DpAll K H (cutV vs lo hi) (cutA xs lo hi) := by
  unfold cutV cutA
  rw [h.length]
  exact dptake _ (dpdrop _ h)
theorem dprev {K : PySem.W.Frag} {H : Hp} : ∀ {vs : List V} {xs : List PyData}, DpAll K H vs xs → DpAll K H vs.reverse xs.reverse
  | [], [], h => by simpa using h
  | v :: vs, x :: xs, h => by
    cases h with
    | cons h1 h2 =>
      rw [List.reverse_cons, List.reverse_cons]
      exact DpAll.app (dprev h2) (.cons h1 .nil)
  | [], _ :: _, h => by cases h
  | _ :: _, [], h => by cases h
def eSl (da : DE) (dl dh : DP) : DE := fun en => bd (da en) fun p => bd (dl p.2) fun l => bd (dh l.2) fun u => match frz p.1 with
  | some (.list xs) => .ok (.own ((cutA xs l.1 u.1).map .d), u.2)
  | some (.tuple xs) => .ok (.d (.tuple (cutA xs l.1 u.1)), u.2)
  | _ => .error .stuck
section
variable {K : PySem.W.Frag} {G G' H : Hp} {F : FS} {τ σ : St} {W : WX} {en : En} {vs ws xs : List V} {os ps qs : List OT}
/-- a slice's part in front -/
theorem bindP {α : Type} {ob : α → List OT} {Q : α → List V → Hp → Prop} {dp : DP} {kk : Option Int × En → R (α × En)} {Rk : Option Int → Hp → Prop} (h : RX K G F τ σ H en vs os) (hp : Post K G F τ σ W ob Q (bd (dp en) kk))
    (hk : ∀ o e1, Post K G F τ σ W ob Q (kk (o, e1)) → ∀ G' H', Same G G' → RX K G' F τ σ H' e1 vs os → Rk o H') : liftP K W dp σ H Rk := by
  obtain ⟨F', h', back⟩ := h.hold
  refine ⟨G, F', τ, en, h', ?_⟩
  revert hp
  match dp en with
  | .ok (o, e1) =>
    exact fun hp G2 H2 vs2 s2 x => hk o e1 hp G2 H2 s2 (by
      have q := back _ _ _ _ _ _ s2 x.nil
      simpa using q)
  | .error .stuck => exact fun hp => hp
  | .error (.exn c e1) => exact fun hp G2 H2 s2 x => hp G2 H2 s2 (back _ _ _ _ _ _ s2 x).nil
theorem _root_.L2.DpAll.same {H H' : Hp} {xs : List PyData} {us : List V} (e : Same H H') (h : DpAll K H us xs) : DpAll K H' us xs := dps_same e _ _ h
/-- frozen data at the front, its list -/
theorem RX.newD {p : Addr} {us : List V} {xs : List PyData} (h : RX K G F τ σ H en [] []) (k : DpAll K G us xs) (hp : H p = none) : RX K G F τ σ (upd H p (.lst us)) en [.ref p] [.own (xs.map .d)] := by
  have q := h.withDs k
  rw [List.append_nil, List.append_nil] at q
  exact q.newL0 hp
theorem RX.newT {p : Addr} {us : List V} {xs : List PyData} (h : RX K G F τ σ H en [] []) (k : DpAll K G us xs) (hp : H p = none) : ∃ G', Same G G' ∧ RX K G' F τ σ (upd H p (.tup us)) en [.ref p] [.d (.tuple xs)] := by
  obtain ⟨s3, h3⟩ := h.newG (u := .tup us) hp
  exact ⟨_, s3, h3.withD (.tup (SqT.of upd_same) (dps_same s3 _ _ k))⟩
end
section
variable {X : Cx} {W : WX} {a b e : Expr} {da db : DE} {lo hi : Option Expr} {dl dh : DP} {pos p2 : Pos}
theorem PX_no : PX X W none pNo := ⟨fun pins s σ H Q I q => po_none.run pins s σ H Q I (by
  obtain ⟨G, F, τ, en, h, hp⟩ := q
  exact hp G H [] (Same.refl _) h)⟩
theorem PX_sm (ha : EX X W e da) : PX X W (some e) (pSm da) := ⟨fun pins s σ H Q I q => (po_some ha).run pins s σ H Q I (by
  obtain ⟨G, F, τ, en, h, hp⟩ := q
  refine bindE (vs := []) (os := []) h hp fun o e1 hp1 G1 H1 v s1 h1 => ?_
  have h1 : RX X.K G1 F τ σ H1 e1 [v] [o] := h1
  dsimp only at hp1
  split at hp1
  · rename_i i _
    have dv := RX.data (vs := []) (os := []) h1 (x := .int i) rfl
    cases dv
    exact ⟨i, rfl, hp1 G1 H1 [] s1 h1.nil⟩
  · exact hp1.elim)⟩
theorem EX_sl (ha : EX X W a da) (hl : PX X W lo dl) (hh : PX X W hi dh) : EX X W (.Subscript a (.Slice lo hi none p2) pos) (eSl da dl dh) :=
  PE.imp (pe_slice (sl_list.or sl_tupA) ha hl hh) fun σ H Q q => by
  obtain ⟨G, F, τ, en, h, hp⟩ := q
  refine bindE h hp fun o e1 hp1 G1 H1 v s1 h1 => ?_
  have h1 : RX X.K G1 F τ σ H1 e1 [v] [o] := h1
  refine bindP h1 (hp1.mono s1) fun l e2 hp2 G2 H2 s2 h2 => ?_
  refine bindP h2 (hp2.mono s2) fun u e3 hp3 G3 H3 s3 h3 => ?_
  dsimp only at hp3
  split at hp3
  · rename_i xs ex
    obtain ⟨G4, s4, h4⟩ := RX.freeze (vs := []) (os := []) h3 ex
    have dv := h4.dataG
    cases dv with
    | lst hs hd => exact .inl ⟨_, _, rfl, h4.same.seq hs, fun p np => hp3 G4 _ [.ref p] (s3.trans s4) (RX.newD h4.nil (hd.cut l u) np) _ rfl⟩
  · rename_i xs ex
    obtain ⟨G4, s4, h4⟩ := RX.freeze (vs := []) (os := []) h3 ex
    have dv := h4.dataG
    cases dv with
    | tup hs hd =>
      refine .inr ⟨_, _, rfl, sqT_same h4.same hs, fun hw => ?_, fun _ p np => ?_⟩
      · have ec : cutA xs l u = xs := by
          unfold cutA
          rw [← hd.length, hw.1, hw.2]
          simp [hd.length]
        rw [ec] at hp3
        exact hp3 G4 H3 [.ref _] (s3.trans s4) (h4.nil.withD (.tup hs hd)) _ rfl
      · obtain ⟨G5, s5, h5⟩ := RX.newT h4.nil (hd.cut l u) np
        exact hp3 G5 _ [.ref p] (s3.trans (s4.trans s5)) h5 _ rfl
  · exact hp3.elim
/-! ### xs[::-1] of a list -/
end
/-! ### list + list, tuple + tuple -/
def rCatL (K : PySem.W.Frag) : R2 := fun x y H Q => ∃ l b xs zs, x = .ref l ∧ y = .ref b ∧ SqL K H l xs ∧ SqL K H b zs ∧ xs.length + zs.length ≤ sizeLine ∧ ∀ p, H p = none → Q (.ref p) (upd H p (.lst (xs ++ zs)))
theorem op_catL {X : Cx} : OpR X (binaryOp .Add) (rCatL X.K) := by
  intro pins s σ H x y v u Q I rx ry h
  obtain ⟨l, b, xs, zs, rfl, rfl, hA, hB, hz, q⟩ := h
  cases rx
  cases ry
  obtain ⟨its, r, pl, hz1⟩ := I.list hA
  obtain ⟨its2, r2, pl2, hz2⟩ := I.list hB
  have e1 := r.length
  have e2 := r2.length
  obtain ⟨⟨cls, dd, data, sl⟩, n, ho, hc, hd1, hd⟩ := pl
  obtain ⟨⟨cls2, dd2, data2, sl2⟩, n2, ho2, hc2, hd3, hd2⟩ := pl2
  simp only at hc hd hc2 hd2
  subst hc hd hc2 hd2
  have e : its.toArray ++ its2.toArray = (its ++ its2).toArray := by simp
  refine PySem.concat_meets ⟨_, ho, rfl⟩ ⟨_, ho2, rfl⟩ PySem.noFill_list_add PySem.seq_list_add PySem.F.slot_list_add PySem.F.entry_list_add (PySem.F.args_list_add_2 _ _) (PyProof.Rows.list_addW l b its.toArray its2.toArray n n2 dd dd2 sl sl2 (by rw [List.size_toArray, List.size_toArray]; omega)) ⟨ho, ho2, ?_⟩
  rw [e]
  exact ⟨.ref _, _, I.lnew (t' := s.toks) (r.append r2) (by rw [List.length_append]; omega), rfl, q _ I.fresh⟩
def eCat (da db : DE) : DE := fun en => bd (da en) fun p => bd (db p.2) fun q => match frz p.1, frz q.1 with
  | some (.list xs), some (.list ys) => if few (xs ++ ys).length then .ok (.own ((xs ++ ys).map .d), q.2) else .error .stuck
  | some (.tuple xs), some (.tuple ys) => if few (xs ++ ys).length then .ok (.d (.tuple (xs ++ ys)), q.2) else .error .stuck
  | _, _ => .error .stuck
section
variable {X : Cx} {W : WX} {a b e : Expr} {da db : DE} {pos : Pos}
theorem op_catLA : OpR X (binaryOp .Add) (fun x y H Q => rCatL X.K x y H Q ∨ rCatA X.K x y H Q) := fun pins s σ H x y v u Q I rx ry h => by
  rcases h with h | h
  · exact op_catL pins s σ H x y v u Q I rx ry h
  · exact op_catA pins s σ H x y v u Q I rx ry h
theorem EX_cat (ha : EX X W a da) (hb : EX X W b db) : EX X W (.BinOp a .Add b pos) (eCat da db) := PE.imp (pe_op op_catLA ha hb) fun σ H Q q => by
  obtain ⟨G, F, τ, en, h, hp⟩ := q
  refine bindE h hp fun o e1 hp1 G1 H1 v s1 h1 => ?_
  refine bindE (vs := [v]) (os := [o]) h1 (hp1.mono s1) fun p e2 hp2 G2 H2 w s2 h2 => ?_
  have h2 : RX X.K G2 F τ σ H2 e2 [v, w] [o, p] := h2
  dsimp only at hp2
  split at hp2
  · rename_i xs ys ex ey
    split at hp2
    · rename_i hf
      obtain ⟨G4, s4, h4⟩ := RX.freeze (vs := [w]) (os := [p]) h2 ex
      have dv := h4.dataG
      obtain ⟨G5, s5, h5⟩ := RX.freeze (vs := []) (os := []) (RX.right (vs := [v]) (os := [OT.d (.list xs)]) rfl h4) ey
      have dw := h5.dataG
      cases dv with
      | lst hs hd =>
        cases dw with
        | lst hs2 hd2 =>
          have hd' := hd.same s5
          refine .inl ⟨_, _, _, _, rfl, rfl, h5.same.seq (s5.seq hs), h5.same.seq hs2, ?_, fun p np => hp2 G5 _ [.ref p] (s2.trans (s4.trans s5)) (RX.newD h5.nil (hd'.app hd2) np) _ rfl⟩
          have := few_le hf
          rw [List.length_append, ← hd.length, ← hd2.length] at this
          exact this
    · exact hp2.elim
  · rename_i xs ys ex ey
    split at hp2
    · rename_i hf
      obtain ⟨G4, s4, h4⟩ := RX.freeze (vs := [w]) (os := [p]) h2 ex
      have dv := h4.dataG
      obtain ⟨G5, s5, h5⟩ := RX.freeze (vs := []) (os := []) (RX.right (vs := [v]) (os := [OT.d (.tuple xs)]) rfl h4) ey
      have dw := h5.dataG
      cases dv with
      | tup hs hd =>
        cases dw with
        | tup hs2 hd2 =>
          have hd' := hd.same s5
          rename_i va vb
          refine .inr ⟨_, _, _, _, rfl, rfl, sqT_same h5.same (sqT_same s5 hs), sqT_same h5.same hs2, ?_, fun e0 => ?_, fun _ e0 => ?_, fun _ _ p np => ?_⟩
          · have := few_le hf
            rw [List.length_append, ← hd.length, ← hd2.length] at this
            exact this
          · have : xs = [] := by
              have := hd.length
              rw [e0] at this
              exact List.length_eq_zero_iff.mp this.symm
            subst this
            exact hp2 G5 H2 [.ref _] (s2.trans (s4.trans s5)) (h5.nil.withD (.tup hs2 hd2)) _ rfl
          · have : ys = [] := by
              have := hd2.length
              rw [e0] at this
              exact List.length_eq_zero_iff.mp this.symm
            subst this
            rw [List.append_nil] at hp2
            exact hp2 G5 H2 [.ref _] (s2.trans (s4.trans s5)) (h5.nil.withD (.tup (sqT_same s5 hs) hd')) _ rfl
          · obtain ⟨G6, s6, h6⟩ := RX.newT h5.nil (hd'.app hd2) np
            exact hp2 G6 _ [.ref p] (s2.trans (s4.trans (s5.trans s6))) h6 _ rfl
    · exact hp2.elim
  · exact hp2.elim
/-! ### list(..), tuple(..), -x -/
def eLs (da : DE) : DE := fun en => bd (da en) fun p => match (frz p.1).bind dItems with
  | some xs => .ok (.own (xs.map .d), p.2)
  | none => .error .stuck
def eTp (da : DE) : DE := fun en => bd (da en) fun p => match (frz p.1).bind dItems with
  | some xs => .ok (.d (.tuple xs), p.2)
  | none => .error .stuck
theorem EX_tp {p : Pos} (hg : Gl X "tuple") (hm : X.mg "tuple" = none) (hbt : bootBuiltins "tuple" = some (.type "tuple")) (ha : EX X W a da) (he : starEach (a :: []) X.env = (false, eval a X.env) :: starEach [] X.env := by rfl) (hpl : (backTo pos (starEach [] X.env)).any (·.1) = false := by rfl) : EX X W (.Call (.Name "tuple" p) [a] [] pos) (eTp da) :=
  PE.imp (pe_callTy call_tuple_of hg hm hbt (pa_cons ha pa_nil he) (he := he) (hpl := hpl)) fun σ H Q q => by
  obtain ⟨G, F, τ, en, h, hp⟩ := q
  refine bindE h hp fun o e1 hp1 G1 H1 v s1 h1 => ?_
  have h1 : RX X.K G1 F τ σ H1 e1 [v] [o] := h1
  dsimp only at hp1
  cases ex : (frz o).bind dItems with
  | none => rw [ex] at hp1; exact hp1.elim
  | some xs =>
    rw [ex] at hp1
    obtain ⟨x, e1, e2⟩ := Option.bind_eq_some_iff.mp ex
    obtain ⟨G2, s2, h2⟩ := RX.freeze (vs := []) (os := []) h1 e1
    have dv := h2.dataG
    cases x with
    | list ys =>
      cases e2
      cases dv with
      | lst hs hd => exact ⟨_, _, rfl, .inl ⟨h2.same.seq hs, fun p np => let ⟨G3, s3, h3⟩ := RX.newT h2.nil hd np; hp1 G3 _ [.ref p] (s1.trans (s2.trans s3)) h3 _ rfl⟩⟩
    | tuple ys =>
      cases e2
      cases dv with
      | tup hs hd => exact ⟨_, _, rfl, .inr ⟨sqT_same h2.same hs, hp1 G2 H1 [.ref _] (s1.trans s2) (h2.nil.withD (.tup hs hd)) _ rfl⟩⟩
    | _ => cases e2
def eNeg (da : DE) : DE := fun en => bd (da en) fun p => match p.1 with
  | .d (.int i) => .ok (.d (.int (-i)), p.2)
  | _ => .error .stuck
theorem EX_neg (ha : EX X W a da) : EX X W (.UnaryOp .USub a pos) (eNeg da) := PE.imp (pe_un un_neg ha) fun σ H Q q => by
  obtain ⟨G, F, τ, en, h, hp⟩ := q
  refine bindE h hp fun o e1 hp1 G1 H1 v s1 h1 => ?_
  have h1 : RX X.K G1 F τ σ H1 e1 [v] [o] := h1
  dsimp only at hp1
  split at hp1
  · rename_i i _
    have dv := RX.data (vs := []) (os := []) h1 (x := .int i) rfl
    cases dv
    exact ⟨i, rfl, hp1 G1 H1 [.int (-i)] s1 (h1.nil.withD (.int _)) _ rfl⟩
  · exact hp1.elim
end
end Lf
end
section
set_option Elab.async false
set_option linter.all false
set_option maxRecDepth 100000
set_option maxHeartbeats 2000000
namespace Lf
open PySem PySem.Spec L2
/-! ### for x in a name's own list, its items lent -/
end Lf
end
section
set_option Elab.async false
set_option linter.all false
set_option maxRecDepth 100000
set_option maxHeartbeats 2000000
namespace Lf
open PySem PySem.Spec L2
end Lf
end
section
set_option Elab.async false
set_option linter.all false
set_option maxRecDepth 100000
set_option maxHeartbeats 2000000
namespace Lf
open PySem PySem.Spec L2
variable [Tabs]
/-! ### a name's thing read where it stands, the answer flat -/
section
variable {X : Cx} {W : WX} {i : Nat} {a b : Expr} {da db : DE} {pos p : Pos}
theorem tV_lift {K : PySem.W.Frag} {σ : St} {H : Hp} {Q : Bool → Hp → Prop} (q : liftT K W (tV da) σ H Q) : liftE K W da σ H fun x H1 => ∃ c, x = .bl c ∧ Q c H1 := by
  obtain ⟨G, F, τ, en, h, hp⟩ := q
  refine ⟨G, F, τ, en, h, ?_⟩
  unfold tV at hp
  revert hp
  match da en with
  | .ok (o, e1) =>
    intro hp G' H' vs s x v ev
    subst ev
    simp only [bd] at hp
    split at hp
    · rename_i bb
      cases RX.data (vs := []) (os := []) x rfl
      exact ⟨bb, rfl, hp G' H' [] s (RX.nil (vs := [.bl bb]) (os := [OT.d (.bool bb)]) x)⟩
    · exact hp.elim
  | .error .stuck => exact fun hp => hp
  | .error (.exn c e1) => exact fun hp => hp
/-- as a value, as a test -/
theorem both_cmp {op : CmpOp} {r : R2} {ta tb : TE} (ho : OpR X (compareOp op) r) (ha : PE X a ta) (hb : PE X b tb) (hm : behindInMarks op b = false) (k : ∀ σ H Q, liftE X.K W da σ H Q → tOp r ta tb σ H Q) :
    EX X W (.Compare a [op] [b] pos) da ∧ TX X W (.Compare a [op] [b] pos) (tV da) :=
  ⟨PE.imp (pe_cmpR ho ha hb hm) k, PT.imp (pt_cmpR ho ha hb hm) fun σ H Q q => k σ H _ (tV_lift q)⟩
theorem both_chn {c : Expr} {tc : TE} {op op' : CmpOp} {r r' : R2} {ta tb : TE} (ho : OpR X (compareOp op) r) (ho' : OpR X (compareOp op') r') (ha : PE X a ta) (hb : PE X b tb) (hc : PE X c tc) (hm : lastMarks [op, op'] [b, c] = false) (k : ∀ σ H Q, liftE X.K W da σ H Q → tChain r r' ta tb tc σ H Q) :
    EX X W (.Compare a [op, op'] [b, c] pos) da ∧ TX X W (.Compare a [op, op'] [b, c] pos) (tV da) :=
  ⟨PE.imp (pe_chain ho ho' ha hb hc hm) k, PT.imp (pt_chain ho ho' ha hb hc hm) fun σ H Q q => k σ H _ (tV_lift q)⟩
/-! ### repr -/
def showOk (x : PyData) : Bool := match x with
  | .list xs => PyData.showable (.list xs) && !PyData.hasDict (.list xs) && decide ((PyData.shown (.list xs)).length ≤ 100000) && decide (PyData.depth (.list xs) ≤ 30)
  | .tuple xs => PyData.showable (.tuple xs) && !PyData.hasDict (.tuple xs) && decide ((PyData.shown (.tuple xs)).length ≤ 100000) && decide (PyData.depth (.tuple xs) ≤ 30)
  | _ => false
def eRep (da : DE) : DE := fun en => bd (da en) fun p => match frz p.1 with
  | some x => if showOk x = true then .ok (.d (.str (PyData.shown x)), p.2) else .error .stuck
  | none => .error .stuck
/-! ### type(x) is T -/
def tyOf : PyData → Option String
  | .none => some "NoneType"
  | .bool _ => some "bool"
  | .int _ => some "int"
  | .str _ => some "str"
  | .list _ => some "list"
  | .tuple _ => some "tuple"
  | .dict _ => none
theorem tyB_of {K : PySem.W.Frag} {H : Hp} {v : V} {x : PyData} {T : String} (h : Dp K H v x) (e : tyOf x = some T) : TyB K H v T := by
  cases x with
  | none => cases h; cases e; exact .non
  | bool b => cases h; cases e; exact .bl b
  | int i => cases h; cases e; exact .int i
  | str s => cases h; cases e; exact .str s
  | list xs => cases e; cases h with | lst hs _ => exact .lst hs
  | tuple xs => cases e; cases h with | tup hs _ => exact .tup hs
  | dict _ => cases e
def eTyIs (T : String) (da : DE) : DE := fun en => bd (da en) fun p => match (frz p.1).bind tyOf with
  | some t => .ok (.d (.bool (decide (t = T))), p.2)
  | none => .error .stuck
def eTyNot (T : String) (da : DE) : DE := fun en => bd (da en) fun p => match (frz p.1).bind tyOf with
  | some t => .ok (.d (.bool (!decide (t = T))), p.2)
  | none => .error .stuck
theorem BX_tyIs {T : Str} {t : String} {p1 p2 p3 p4 : Pos} (hg : Gl X "type") (hm : X.mg "type" = none) (ha : EX X W a da) (hgT : Gl X T) (hmT : X.mg T = none) (hv : bootBuiltins T = some (.type t)) (hn : T ≠ "__name__" := by decide) (hd : (T == ("__debug__" : Str)) = false := by decide)
    (he : starEach (a :: []) X.env = (false, eval a X.env) :: starEach [] X.env := by rfl) (hpl : (backTo p2 (starEach [] X.env)).any (·.1) = false := by rfl) (hmk : behindInMarks .Is (.Name T p3) = false := by rfl) : EX X W (.Compare (.Call (.Name "type" p1) [a] [] p2) [.Is] [.Name T p3] p4) (eTyIs t da) ∧ TX X W (.Compare (.Call (.Name "type" p1) [a] [] p2) [.Is] [.Name T p3] p4) (tV (eTyIs t da)) :=
  both_cmp op_isTyB (pe_callTy call_type1 hg hm (by decide +kernel) (pa_cons ha pa_nil he) (he := he) (hpl := hpl)) (pe_bltn hgT hmT hv (v := .ty t) rfl hn hd) hmk fun σ H Q q => by
  obtain ⟨G, F, τ, en, h, hp⟩ := q
  refine bindE h hp fun o e1 hp1 G1 H1 v s1 h1 => ?_
  have h1 : RX X.K G1 F τ σ H1 e1 [v] [o] := h1
  dsimp only at hp1
  split at hp1
  · rename_i t' ex
    obtain ⟨x, e2, e3⟩ := Option.bind_eq_some_iff.mp ex
    exact ⟨v, t', rfl, tyB_of (RX.data (vs := []) (os := []) h1 e2) e3, t', t, rfl, rfl, hp1 G1 H1 [.bl _] s1 (h1.nil.withD (.bl _)) _ rfl⟩
  · exact hp1.elim
theorem BX_tyNot {T : Str} {t : String} {p1 p2 p3 p4 : Pos} (hg : Gl X "type") (hm : X.mg "type" = none) (ha : EX X W a da) (hgT : Gl X T) (hmT : X.mg T = none) (hv : bootBuiltins T = some (.type t)) (hn : T ≠ "__name__" := by decide) (hd : (T == ("__debug__" : Str)) = false := by decide)
    (he : starEach (a :: []) X.env = (false, eval a X.env) :: starEach [] X.env := by rfl) (hpl : (backTo p2 (starEach [] X.env)).any (·.1) = false := by rfl) (hmk : behindInMarks .IsNot (.Name T p3) = false := by rfl) : EX X W (.Compare (.Call (.Name "type" p1) [a] [] p2) [.IsNot] [.Name T p3] p4) (eTyNot t da) ∧ TX X W (.Compare (.Call (.Name "type" p1) [a] [] p2) [.IsNot] [.Name T p3] p4) (tV (eTyNot t da)) :=
  both_cmp op_notTyB (pe_callTy call_type1 hg hm (by decide +kernel) (pa_cons ha pa_nil he) (he := he) (hpl := hpl)) (pe_bltn hgT hmT hv (v := .ty t) rfl hn hd) hmk fun σ H Q q => by
  obtain ⟨G, F, τ, en, h, hp⟩ := q
  refine bindE h hp fun o e1 hp1 G1 H1 v s1 h1 => ?_
  have h1 : RX X.K G1 F τ σ H1 e1 [v] [o] := h1
  dsimp only at hp1
  split at hp1
  · rename_i t' ex
    obtain ⟨x, e2, e3⟩ := Option.bind_eq_some_iff.mp ex
    exact ⟨v, t', rfl, tyB_of (RX.data (vs := []) (os := []) h1 e2) e3, t', t, rfl, rfl, hp1 G1 H1 [.bl _] s1 (h1.nil.withD (.bl _)) _ rfl⟩
  · exact hp1.elim
/-! ### a <= b <= c -/
def eChn (f g : PyData → PyData → Option PyData) (da db dc : DE) : DE := fun en => bd (da en) fun p => bd (db p.2) fun q => match frz p.1, frz q.1 with
  | some x, some y => (match f x y with
    | some (.bool true) => bd (dc q.2) fun r => (match frz r.1 with
      | some z => (match g y z with
        | some w => .ok (.d w, r.2)
        | none => .error .stuck)
      | none => .error .stuck)
    | some (.bool false) => .ok (.d (.bool false), q.2)
    | _ => .error .stuck)
  | _, _ => .error .stuck
theorem BX_chn {c : Expr} {dc : DE} {op op' : CmpOp} {f g : PyData → PyData → Option PyData} {r r' : R2} (ho : OpR X (compareOp op) r) (ho' : OpR X (compareOp op') r') (hf : Flat2 X.K r f) (hf' : Flat2 X.K r' g) (ha : EX X W a da) (hb : EX X W b db) (hc : EX X W c dc)
    (hm : lastMarks [op, op'] [b, c] = false := by with_unfolding_all rfl) : EX X W (.Compare a [op, op'] [b, c] pos) (eChn f g da db dc) ∧ TX X W (.Compare a [op, op'] [b, c] pos) (tV (eChn f g da db dc)) :=
  both_chn ho ho' ha hb hc hm fun σ H Q q => by
  obtain ⟨G, F, τ, en, h, hp⟩ := q
  refine bindE h hp fun o e1 hp1 G1 H1 v s1 h1 => ?_
  refine bindE (vs := [v]) (os := [o]) h1 (hp1.mono s1) fun p e2 hp2 G2 H2 w s2 h2 => ?_
  have h2 : RX X.K G2 F τ σ H2 e2 [v, w] [o, p] := h2
  dsimp only at hp2
  split at hp2
  · rename_i x y ex ey
    have dx := RX.data (vs := [w]) (os := [p]) h2 ex
    split at hp2
    · rename_i ez
      obtain ⟨G3, s3, h3⟩ := RX.freeze (vs := []) (os := []) (RX.right (vs := [v]) (os := [o]) rfl h2) ey
      have dy := h3.dataG
      refine hf _ _ _ _ _ _ _ dx (dp_same h3.same _ _ dy) ez fun u hu => ?_
      obtain rfl : u = .bl true := by cases hu G; rfl
      refine ⟨true, rfl, ?_⟩
      rw [if_pos rfl]
      refine bindE (vs := [w]) (os := [.d y]) h3 (hp2.mono (s2.trans s3)) fun r e3 hp3 G4 H4 t s4 h4 => ?_
      have h4 : RX X.K G4 F τ σ H4 e3 [w, t] [.d y, r] := h4
      dsimp only at hp3
      split at hp3
      · rename_i z ez2
        split at hp3
        · rename_i u2 eu2
          have dy4 := RX.data (vs := [t]) (os := [r]) h4 (x := y) rfl
          have dz := RX.data (vs := []) (os := []) (RX.right (vs := [w]) (os := [OT.d y]) rfl h4) ez2
          exact hf' _ _ _ _ _ _ _ dy4 dz eu2 fun u3 hu3 => hp3 G4 H4 [u3] s4 (RX.withD h4.nil (hu3 G4)) u3 rfl
        · exact hp3.elim
      · exact hp3.elim
    · rename_i ez
      have dy := RX.data (vs := []) (os := []) (RX.right (vs := [v]) (os := [o]) rfl h2) ey
      refine hf _ _ _ _ _ _ _ dx dy ez fun u hu => ?_
      obtain rfl : u = .bl false := by cases hu G; rfl
      refine ⟨false, rfl, ?_⟩
      rw [if_neg Bool.false_ne_true]
      exact hp2 G2 H2 [.bl false] s2 (h2.nil.withD (.bl _)) _ rfl
    · exact hp2.elim
  · exact hp2.elim
end
end Lf
end
section
set_option Elab.async false
set_option linter.all false
set_option maxRecDepth 100000
set_option maxHeartbeats 2000000
namespace Lf
open PySem PySem.Spec L2
variable [Tabs]
/-! ### calls by keywords alone -/
def permL {α : Type} (perm : List Nat) (xs : List α) : List α := perm.filterMap (xs[·]?)
theorem permL_range {α : Type} (xs : List α) : permL (List.range xs.length) xs = xs := by
  unfold permL
  induction xs with
  | nil => rfl
  | cons x xs ih =>
    rw [List.length_cons, List.range_succ_eq_map, List.filterMap_cons]
    simp only [List.getElem?_cons_zero, List.filterMap_map]
    congr 1
theorem permL_perm {α : Type} {perm : List Nat} {xs : List α} (h : perm.Perm (List.range xs.length)) : (permL perm xs).Perm xs := by
  have := h.filterMap (xs[·]?)
  rw [show (List.range xs.length).filterMap (xs[·]?) = xs from permL_range xs] at this
  exact this
theorem permL_map {α β : Type} (f : α → β) (perm : List Nat) (xs : List α) : (permL perm xs).map f = permL perm (xs.map f) := by
  unfold permL
  rw [List.map_filterMap]
  congr 1
  funext i
  simp
section
variable {K : PySem.W.Frag} {G H : Hp} {F : FS} {τ σ : St} {en : En} {vs : List V} {os : List OT}
theorem RepOs.perm {M : Hp} {ps qs : List (V × OT)} (p : ps.Perm qs) : ∀ {A : List Addr}, RepOs K G M (ps.map (·.1)) (ps.map (·.2)) A → ∃ B, RepOs K G M (qs.map (·.1)) (qs.map (·.2)) B ∧ ∀ a, a ∈ B ↔ a ∈ A := by
  induction p with
  | nil => exact fun h => ⟨_, h, fun _ => Iff.rfl⟩
  | cons x _ ih =>
    intro A h
    cases h with
    | cons h1 h2 h3 =>
      obtain ⟨B, r, m⟩ := ih h2
      exact ⟨_, .cons h1 r (fun a ha hb => h3 a ha ((m a).mp hb)), fun a => by simp only [List.mem_append, m a]⟩
  | swap x y l =>
    intro A h
    cases h with
    | cons h1 h2 h3 =>
      cases h2 with
      | cons h2 h4 h5 =>
        refine ⟨_, .cons h2 (.cons h1 h4 fun a ha hb => h3 a ha (List.mem_append_right _ hb)) (fun a ha hb => ?_), fun a => ?_⟩
        · rcases List.mem_append.mp hb with hb | hb
          · exact h3 a hb (List.mem_append_left _ ha)
          · exact h5 a ha hb
        · simp only [List.mem_append]
          exact ⟨fun h => by rcases h with h | h | h <;> simp [h], fun h => by rcases h with h | h | h <;> simp [h]⟩
  | trans _ _ ih1 ih2 =>
    intro A h
    obtain ⟨B, r, m⟩ := ih1 h
    obtain ⟨C, r2, m2⟩ := ih2 r
    exact ⟨C, r2, fun a => (m2 a).trans (m a)⟩
theorem zip_fst : ∀ {vs : List V} {os : List OT}, vs.length = os.length → (vs.zip os).map (·.1) = vs
  | [], [], _ => rfl
  | v :: vs, o :: os, h => by simp [zip_fst (vs := vs) (os := os) (by simpa using h)]
theorem zip_snd : ∀ {vs : List V} {os : List OT}, vs.length = os.length → (vs.zip os).map (·.2) = os
  | [], [], _ => rfl
  | v :: vs, o :: os, h => by simp [zip_snd (vs := vs) (os := os) (by simpa using h)]
theorem RX.perm {perm : List Nat} (h : RX K G F τ σ H en vs os) (hp : perm.Perm (List.range os.length)) : RX K G F τ σ H en (permL perm vs) (permL perm os) := by
  have hl := h.vlen
  obtain ⟨M, φ, B, S, E, r, d⟩ := h
  have hz : (vs.zip os).length = os.length := by simp [hl]
  have p : (vs.zip os).Perm (permL perm (vs.zip os)) := (permL_perm (by rw [hz]; exact hp)).symm
  obtain ⟨C, r2, m⟩ := RepOs.perm (K := K) (G := G) (M := M) p (A := B) (by rw [zip_fst hl, zip_snd hl]; exact r)
  rw [permL_map, permL_map, zip_fst hl, zip_snd hl] at r2
  exact ⟨M, φ, C, S, E, r2, fun i a ha => d i a ((m a).mp ha)⟩
end
abbrev KX (X : Cx) (W : WX) (kws : List Keyword) (d : DA) : Prop := PK X kws (liftA X.K W d)
section
variable {X : Cx} {W : WX} {k : Nat} {f : Addr} {fd : FuncData} {ps ks : List Str} {perm : List Nat} {g : DF} {x : Str} {p pos kpos : Pos} {e : Expr} {kws : List Keyword} {nm : Option Str} {da : DE} {dr : DA}
/-- a statement that isn't reached -/
theorem SX_no {st : Stmt} : SX X W st (fun _ => .error .stuck) := ⟨fun pins s σ H D I q => by
  obtain ⟨_, _, _, _, _, q⟩ := q
  exact q.elim⟩
end
end Lf
end
section
set_option Elab.async false
set_option linter.all false
set_option maxRecDepth 100000
set_option maxHeartbeats 2000000
namespace Lf
open PySem PySem.Spec L2
open PyProof.Rows (IntsAre)
section
variable [Tabs] {P : Program} {w : World} {K : PySem.W.Frag} {mg : Str → Option Value} {base : Heap}
/-- a def keeps the function of its body -/
theorem def_okD {x qual : Str} {params : Arguments} {bd : List Stmt} {scope : Scope} {f : Addr} {fd : FuncData} {N ps : List Str} {k n : Nat} {fl : List Bool} {body : DS} (F : FunD K x qual params bd scope [] [] f fd) (S : FnScope N ps scope) (hfl : ps.length = fl.length) (hN : N.length = fl.length + n)
    (hb : ∀ (c : Addr) (A : Around) (out : List Env) (s : Shared) (H : Hp) (E : XK), (∀ p : He.Defn, He.fAd K p = f → He.codeOf K p = c) → Rm k (A.deeper (PyProof.Rows.envOfC qual scope s.heap.objs.size f (.ref c))) →
      SXs (cxOf (L2.CX P w) P w K mg base N qual scope f (.ref c) A out s H E) (WD E) bd body) : DefOk P w K mg base (k + 1) f fd ps (dFn fl n body) := by
  refine ⟨fun A out s H args us vs Q E hr hgd e0 bt rv hsp => ?_⟩
  obtain ⟨oc, od, dV, kV, doc, pm, an, cdv, ct, osl, rfl, lk, hcd, _, _⟩ := F.ex
  obtain ⟨c, rfl⟩ := He.codeIn_ref hcd
  have hc : ∀ p : He.Defn, He.fAd K p = f → He.codeOf K p = c := fun p hp => He.codeOf_eq (p := p) (by rw [hp]; exact lk) rfl
  obtain ⟨hv, G, F', os, hFb, hx, hp⟩ := hsp
  have keep0 : ∀ b o, base.get? b = some o → s.heap.get? b = some o := fun b o e => (e0.bs b o e).1
  have KX := e0.mod.kin.keeps keep0
  have lim := e0.mod.nolimit.keeps keep0
  have kinds : ∀ y ∈ ps.zip us, scope.names.lookup y.1 = some .local ∨ (scope.names.lookup y.1 = some .cell ∧ ((PySem.cellsFrom (s.heap.objs.size + 1) scope.names []).lookup y.1).isSome = true) := by
    rintro ⟨nm, u⟩ hy
    rcases S.par nm (List.of_mem_zip hy).1 with q | q
    · exact .inl q
    · exact .inr ⟨q, PySem.W.cellsFrom_some _ _ _ (.inl q)⟩
  refine codeAny_call_function hr.depth (KX _ _ lk) rfl S.co S.gen rfl (PySem.W.codeRec_of KX hcd) (bt _ _ _ _ ?_)
  refine wpAny_newFunctionEnv_cells S.kind kinds fun env he s1 ic => ?_
  subst he
  refine ⟨lim.keeps ic.toInCall.keep, codeAny_func ?_⟩
  have I := inv_start (CX := L2.CX P w) (N := N) (E := E) S hr.hd e0 hv rv ic
  have body_t := hb c A out s H E hc ⟨hr.deeper _, by rw [guards_deeper]; exact hgd⟩
  have start_t : liftS K (WD E) body { nx := fun _ H' => Q .non H', rt := Q } (L2.start N vs) H := by
    unfold dFn at hp
    by_cases hl : os.length = fl.length
    · rw [if_pos hl] at hp
      have h2 := hx.start (N := N) (n := n) hl hN
      refine ⟨G, F', _, _, h2, ?_⟩
      generalize body (mkEn fl os ++ List.replicate n .un) = r at hp ⊢
      have give : ∀ (o : OT) (en : En), (match Lf.fin o (outs fl en) with
          | .ok (o, os') => ∀ G' H' v, Same G G' → RX K G' F' [] [] H' [] (v :: vs) (o :: os') → Q v H'
          | .error .stuck => False
          | .error (.exn c _) => ∀ G' H', Same G G' → RX K G' F' [] [] H' [] [] [] → E c none H') → ∀ G' σ' H' v, Same G G' → RX K G' F' (L2.start N vs) σ' H' en [v] [o] → Q v H' := fun o en hq G' σ' H' v s x => by
        have y := x.leave (fl := fl) (by rw [hv, hfl])
        cases ef : Lf.fin o (outs fl en) with
        | error z =>
          unfold Lf.fin at ef hq
          split at ef
          · cases ef
          · split at ef
            · cases ef
            · rename_i n1 n2
              rw [if_neg n1, if_neg n2] at hq
              exact hq.elim
        | ok z =>
          obtain ⟨o', os'⟩ := z
          rw [ef] at hq
          obtain ⟨G2, sg, y2⟩ := RX.fin y ef
          rcases sg with sg | sg
          · exact hq G2 H' v (s.trans sg) y2
          · exact hq G2 H' v (by rw [← hFb]; exact sg) y2
      match r, hp with
      | .ok (.rt o, en), hp => exact give o en hp
      | .ok (.nx, en), hp => exact fun G' σ' H' s x => give (.d .none) en hp G' σ' H' .non s (RX.withD x .non)
      | .error (.exn c en), hp =>
        intro G' σ' H' s x
        obtain ⟨M, φ, B, S, E, r, d⟩ := x
        exact hp G' H' s ⟨M, fun _ => [], [], S, ⟨rfl, fun i s hs => by simp at hs, fun _ _ => rfl, fun _ _ _ a ha => by simp at ha⟩, .nil, fun _ _ z => nomatch z⟩
    · rw [if_neg hl] at hp
      exact hp.elim
  refine wpAny_mono (body_t.run [] s1 (L2.start N vs) H _ I start_t) (fun fl s' hs => ?_) fun e s' hs => hs
  match fl, hs with
  | .ret u, ⟨v, σ', H', J, rv, q⟩ => exact ⟨v, H', J.os, J.bare, J.base, J.hok, rv, q⟩
  | .next, ⟨σ', H', J, q⟩ => exact ⟨.non, H', J.os, J.bare, J.base, J.hok, rfl, q⟩
  | .brk, ⟨_, _, _, q⟩ => exact False.elim q
  | .cont, ⟨_, _, _, q⟩ => exact False.elim q
end
/-! ### the law's end -/
/-- what is tracked when the law begins: empty tables, and the script where it isn't the top's -/
def H0 (T : List Addr) (a : Addr) (inK : Bool) (ob : Obj) (xs : List V) : Hp := fun b => if b ∈ T then some (.tbl #[]) else if b = a ∧ inK = false then some (.frz ob (.lst xs)) else none
theorem ints_dp {K : PySem.W.Frag} {G : Hp} : ∀ ns : List Int, DpAll K G (ns.map V.int) (ns.map PyData.int)
  | [] => .nil
  | n :: ns => .cons (.int n) (ints_dp ns)
theorem law_callD {P : Program} {w : World} {K : PySem.W.Frag} {mg mb : Str → Option Value} {k : Nat} {fa a : Addr} {cs : List (Addr × Addr)} {fd : FuncData} {x : Str} {g : DF} {s1 : Shared} {us : List Value} {ns : List Int}
    (KX : K.In s1.heap) (hns : s1.heap.Ns mainGlobals mg) (hb : s1.heap.Ns builtinsNs mb) (hbb : ∀ x : Str, x ≠ "__name__" → mb x = bootBuiltins x) (hlim : s1.heap.NoLimit) (hg : s1.gens = #[])
    (hT : ∀ p ∈ cs, s1.heap.get? p.2 = some { cls := .none, data := .fields #[] }) (nT : ∀ p ∈ cs, K.lookup p.2 = none) (C : ∀ p ∈ cs, PySem.W.CodeHd s1.heap p.1 p.2)
    (hbm : ∃ (bm : Addr) (ob : Obj), mg "__builtins__" = some (.ref bm) ∧ bm ≠ builtinsNs ∧ s1.heap.get? bm = some ob ∧ ob.cls = .type "module" ∧ ob.dict = some builtinsNs ∧ ob.data = .plain)
    (ha : s1.heap.get? a = some { cls := .type "list", data := .seq us.toArray }) (hi : IntsAre us ns) (hl : ns.length ≤ sizeLine) (hr : Room k callerA) (hgd : callerA.guards = some [])
    (F : ∀ base : Heap, K.In base → base.Ns mainGlobals mg → (∀ p ∈ cs, GxR.TabB base mg p.1 p.2) → @DefOk ⟨cs.map (·.2)⟩ P w K mg base k fa fd [x] g) (hbind : ∀ (s : Shared) (u : Value), BindsTo s fd ⟨[u], []⟩ [(x, u)])
    (hsp : ∃ os, g [.d (.list (ns.map .int))] = .ok (.d (.bool true), os)) :
    codeAny (model P w) callerA (.call (.ref fa) ⟨[.ref a], []⟩) (fun r s' => r = .ok (.ret (.bool true)) ∧ OldK s1.heap s'.heap ∧ s'.os = s1.os ∧ PyProof.Rows.AllBare s'.gens) s1 := by
  have rv := vals_ints hi
  have lenV := hi.length
  generalize hts : cs.map (·.2) = T at F
  have isT : ∀ b ∈ T, s1.heap.get? b = some { cls := .none, data := .fields #[] } := fun b hb => by
    rw [← hts] at hb
    obtain ⟨p, hp, e⟩ := List.mem_map.mp hb
    rw [← e]
    exact hT p hp
  have aT : a ∉ T := fun z => by
    have q := isT a z
    rw [ha] at q
    have z' : Data.seq us.toArray _ = Data.fields #[] := congrArg Obj.data (Option.some.inj q)
    cases z'
  generalize hob : ({ cls := .type "list", data := .seq us.toArray } : Obj) = ob at ha
  have obd : ob.data = .seq us.toArray := by rw [← hob]
  generalize hH : H0 T a (K.lookup a).isSome ob (ns.map V.int) = H
  have Ht : ∀ b ∈ T, H b = some (.tbl #[]) := fun b hb => by rw [← hH]; exact if_pos hb
  have Hn : ∀ b, b ∉ T → b ≠ a → H b = none := fun b h1 h2 => by rw [← hH]; unfold H0; rw [if_neg h1, if_neg fun z => h2 z.1]
  have Ha : (K.lookup a).isSome = false → H a = some (.frz ob (.lst (ns.map V.int))) := fun e => by rw [← hH]; unfold H0; rw [if_neg aT, if_pos ⟨rfl, e⟩]
  have HaK : (K.lookup a).isSome = true → H a = none := fun e => by rw [← hH]; unfold H0; rw [if_neg aT, if_neg fun z => by rw [e] at z; cases z.2]
  -- what else stands is not tracked
  have free : ∀ {b : Addr} {o : Obj}, s1.heap.get? b = some o → (∀ vs n, o.data ≠ .seq vs n) → o.data ≠ .fields #[] → H b = none := fun {b o} e h1 h2 => by
    by_cases hbT : b ∈ T
    · rw [isT b hbT] at e; cases e; exact absurd rfl h2
    · by_cases hba : b = a
      · rw [hba, ha] at e; cases e; exact absurd obd (h1 _ _)
      · exact Hn b hbT hba
  have freeD : ∀ {b : Addr} {o : Obj} {es : Array DictEntry} {ep : Nat}, s1.heap.get? b = some o → o.data = .dict es ep → H b = none := fun e d => free e (fun vs n z => by rw [d] at z; cases z) fun z => by rw [d] at z; cases z
  have nsK : ∀ {b : Addr} {m : Str → Option Value}, s1.heap.Ns b m → (hidT s1.heap H).Ns b m := fun ⟨o, es, ep, e, d, r⟩ => ⟨o, es, ep, hidT_get e (freeD e d), d, r⟩
  have freeK : ∀ {b : Addr} {o : Obj}, K.lookup b = some o → H b = none := fun {b o} e => by
    by_cases hbT : b ∈ T
    · rw [← hts] at hbT
      obtain ⟨p, hp, ep⟩ := List.mem_map.mp hbT
      rw [← ep, nT p hp] at e
      cases e
    · by_cases hba : b = a
      · rw [hba] at e ⊢
        exact HaK (by rw [e]; rfl)
      · exact Hn b hbT hba
  have hKb : K.In (hidT s1.heap H) := fun b o e => hidT_get (KX b o e) (freeK e)
  have hM : L2.Mod K mg (hidT s1.heap H) := ⟨hKb, nsK hns, ⟨mb, nsK hb, hbb⟩, let ⟨mc, h1, h2⟩ := hlim; ⟨mc, nsK h1, h2⟩⟩
  have TB : ∀ p ∈ cs, GxR.TabB (hidT s1.heap H) mg p.1 p.2 := fun p hp => by
    have hTp := hT p hp
    obtain ⟨go, ges, gep, g1, g2, _⟩ := hns
    refine ⟨?_, ?_, fun z => ?_⟩
    · obtain ⟨o, vs, file, tf, flags, tg, inF, text, tt, e1, r1, r2, r3, r⟩ := C p hp
      exact ⟨o, vs, file, tf, flags, tg, inF, text, tt, hidT_get e1 (free e1 (fun _ _ z => by rw [r2] at z; cases z) fun z => by rw [r2] at z; cases z; simp at r3), r1, r2, r3, r⟩
    · obtain ⟨bm, o, b1, b2, b3, b4, b5, b6⟩ := hbm
      refine ⟨bm, o, b1, b2, fun q => ?_, fun q => ?_, hidT_get b3 (free b3 (fun _ _ z => by rw [b6] at z; cases z) fun z => by rw [b6] at z; cases z), b4, b5, b6⟩
      · rw [q, g1] at b3; cases b3; rw [g2] at b6; cases b6
      · rw [q, hTp] at b3; cases b3; cases b6
    · rw [z, hTp] at g1; cases g1; cases g2
  have hok : HOk P w H s1.heap := fun b u z => by
    by_cases hbT : b ∈ T
    · rw [Ht b hbT] at z; cases z; exact isT b hbT
    · by_cases hba : b = a
      · rw [hba] at z ⊢
        cases q : (K.lookup a).isSome with
        | true => rw [HaK q] at z; cases z
        | false =>
          rw [Ha q] at z; cases z
          exact ⟨ha, by rw [List.length_map]; exact hl, us, _, rv, by rw [hob]; exact ha⟩
      · rw [Hn b hbT hba] at z; cases z
  have e0 : Env0 P w K mg (hidT s1.heap H) callerA [] s1 H := ⟨rfl, hM, fun b o e => of_hidT e, Nat.le_of_eq (hidT_size _ _), trivial, fun b hb => absurd (show b ∈ ([] : List Addr) from hb) (by simp), hok, .of_eq hg⟩
  letI : Tabs := ⟨T⟩
  obtain ⟨os', hgo⟩ := hsp
  -- the script as data, the tables as others'
  have hspL : spL K 1 g [V.ref a] H (fun v _ => v = .bl true) (fun _ _ _ => False) := by
    refine ⟨rfl, fun b => if b ∈ T then none else H b, ⟨fun b => if b ∈ T then H b else none, fun b => if b ∈ T then none else H b⟩, [.d (.list (ns.map .int))], rfl, ⟨fun _ => none, fun _ => [], [], ⟨fun b => ?_, fun _ _ z => (nomatch z), fun b hb => ⟨⟨#[], (if_pos (show b ∈ T from hb)).trans (Ht b hb)⟩, #[], Ht b hb, ?_⟩, Same.refl _, fun _ _ z => (nomatch z)⟩, ⟨rfl, fun i s hs => by simp at hs, fun _ _ => rfl, fun _ _ _ c hc => by simp at hc⟩, .cons (A := []) (.d ?_) .nil (fun _ z => nomatch z), fun _ _ z => nomatch z⟩, ?_⟩
    · by_cases hbT : b ∈ T
      · exact .inr (.inr (.inl ⟨if_pos hbT, rfl, by show Up (if b ∈ T then H b else none) (H b); rw [if_pos hbT]; exact up_refl⟩))
      · exact .inl ⟨rfl, if_neg hbT, (if_neg hbT).symm⟩
    · first
        | trivial
        | exact trivial
        | decide
        | simp [TriplesOk]
    · refine .lst (a := a) (xs := ns.map V.int) ?_ (ints_dp ns)
      cases q : K.lookup a with
      | some o =>
        have e := KX a o q
        rw [ha] at e
        cases e
        exact .inr ⟨_, us.toArray, _, q, by rw [← hob], by rw [← hob], obd, by rw [List.size_toArray, lenV]; exact hl, by simpa using rv⟩
      | none => exact .inl (.inr ⟨ob, by show (if a ∈ T then none else H a) = _; rw [if_neg aT]; exact Ha (by rw [q]; rfl)⟩)
    · rw [hgo]
      intro G' H' v s x
      have d := x.dataG
      cases d
      rfl
  refine codeAny_mono ((F _ hKb (nsK hns) TB).run callerA [] s1 H ⟨[.ref a], []⟩ [.ref a] [.ref a] _ _ hr hgd e0 (hbind s1 (.ref a)) (.cons rfl .nil) hspL) fun r s' h => ?_
  match r, h with
  | .error e, h =>
    obtain ⟨_, _, _, _, _, _, _, _, _, _, _, _, z⟩ := h
    exact z.elim
  | .ok .next, h => exact False.elim h
  | .ok .brk, h => exact False.elim h
  | .ok .cont, h => exact False.elim h
  | .ok (.ret u), ⟨v, H', os, bare, un, hok', r', q⟩ =>
    have q' : v = .bl true := q
    subst q'
    obtain rfl : u = Value.bool true := r'
    have grown : ∀ b ∈ T, ∃ more : Array Value, s'.heap.get? b = some { cls := .none, data := .fields more } := fun b hb => by
      obtain ⟨more, z⟩ := un.tbls b #[] (Ht b hb)
      exact ⟨_, hok' b _ z⟩
    have key : ∀ b o, b ∉ T → s1.heap.get? b = some o → s'.heap.get? b = some o := fun b o nb e => by
      cases q : H b with
      | none => exact un.keep b o e q (by intro z; exact absurd (show b ∈ ([] : List Addr) from z) (by simp)) (by simp)
      | some u =>
        have hba : b = a := by
          by_cases z : b = a
          · exact z
          · rw [Hn b nb z] at q; cases q
        rw [hba] at e q ⊢
        rw [ha] at e
        cases e
        cases q2 : (K.lookup a).isSome with
        | true => rw [HaK q2] at q; cases q
        | false => exact (hok' a _ (un.frzs a ob _ (Ha q2))).1
    refine ⟨rfl, ⟨fun b o e => ?_, fun b o e => ?_⟩, os, bare⟩
    · by_cases hbT : b ∈ T
      · obtain ⟨more, hm⟩ := grown b hbT
        have hbT' := hbT
        rw [← hts] at hbT'
        obtain ⟨p, hp, ep⟩ := List.mem_map.mp hbT'
        have e2 := e
        rw [isT b hbT] at e2
        cases e2
        subst ep
        exact .inr (.inl ⟨((C p hp).tab (hT p hp)).isCodeTable, rfl, #[], more, rfl, by rw [Array.empty_append]; exact hm⟩)
      · exact .inl (key b o hbT e)
    · by_cases hbT : b ∈ T
      · obtain ⟨more, hm⟩ := grown b hbT
        exact ⟨_, hm⟩
      · exact ⟨o, key b o hbT e⟩
/-- what is told of the law at the head's heap -/
def LawD (l : PySem.W.OpenLaw) (w : World) (K : PySem.W.Frag) (k n : Nat) (x : Str) (mg : Str → Option Value) (fa : Addr) (h : Heap) : Prop :=
  ∃ (fd : FuncData) (cs : List (Addr × Addr)) (g : DF), (∀ p ∈ cs, h.get? p.2 = some { cls := .none, data := .fields #[] }) ∧ (∀ p ∈ cs, K.lookup p.2 = none) ∧ (∀ p ∈ cs, PySem.W.CodeHd h p.1 p.2) ∧ (∀ (s : Shared) (u : Value), BindsTo s fd ⟨[u], []⟩ [(x, u)]) ∧
    (∀ ns : List Int, ns.length ≤ n → (∀ z ∈ ns, Builtin.Int.intBits z ≤ 1048576) → ∃ os, g [.d (.list (ns.map .int))] = .ok (.d (.bool true), os)) ∧
    ∀ base : Heap, K.In base → base.Ns mainGlobals mg → (∀ p ∈ cs, GxR.TabB base mg p.1 p.2) → @DefOk ⟨cs.map (·.2)⟩ l.prog w K mg base k fa fd [x] g
theorem walk_D {l : PySem.W.OpenLaw} {n k : Nat} {q : Program} {loose : List Str} {XP : (Str → Option Value) → Heap → Prop} {YP : World → Heap → Prop} {d : DefRec} {x : Str}
    (hn : l.most = some n) (hn2 : n ≤ sizeLine) (hdf : d.params.defaults = []) (hr : Room k callerA) (hgd : callerA.guards = some [])
    (F : ∀ (w : World) (mg : Str → Option Value) (fa : Addr) (h : Heap), YP w h → h.Ns mainGlobals mg → mg d.name = some (.ref fa) → ∃ K : PySem.W.Frag, K.In h ∧ LawD l w K k n x mg fa h) :
    PySem.W.WalkO q loose XP YP l.row.toRowW d [] (fun f vs => PySem.call f vs) := by
  refine Att.attach_callB hn hdf fun w s₀ s1 mg mb fa o pm cd doc a vs ns G Y ho hd hcd hmg hobj hints hlen hbits hg => ?_
  obtain ⟨K, KX, fd, cs, g, hT, nT, C, hb, hsp, hF⟩ := F w mg fa _ Y G.T.g hmg
  exact law_callD KX G.T.g G.T.b G.T.builtins G.T.nolimit hg hT nT C G.T.bmain hobj hints (Nat.le_trans hlen hn2) hr hgd hF hb (hsp ns hlen hbits)
end Lf
end
section
set_option Elab.async false
set_option linter.all false
set_option maxRecDepth 100000
set_option maxHeartbeats 2000000
namespace Lf
open PySem PySem.Spec L2
variable [Tabs]
mutual
/-- one's own lists as data for now -/
def fz : OT → OT
  | .own xs => .fr (fzs xs)
  | .fr xs => .fr (fzs xs)
  | .d x => .d x
  | .opq v => .opq v
  | .dic t kvs => .dic t kvs
  | .lkd t kvs => .lkd t kvs
  | .tp xs => .tp (fzs xs)
  | .leaf t xs => .leaf t xs
  | .hole => .hole
def fzs : List OT → List OT
  | [] => []
  | o :: os => fz o :: fzs os
end
/-- a name: what it stands for is handed on, the name reads it from now on -/
def eMovK (i : Nat) : DE := fun en => match en[i]? with
  | some (.v o) => (match frz o with
    | some x => .ok (fz o, en.set i (.v (.d x)))
    | none => .error .stuck)
  | _ => .error .stuck
end Lf
end
section
set_option Elab.async false
set_option linter.all false
set_option maxRecDepth 100000
set_option maxHeartbeats 2000000
namespace Lf
open PySem PySem.Spec L2
variable [Tabs]
section
variable {X : Cx} {W : WX} {k n : Nat} {f : Addr} {fd : FuncData} {ps ks : List Str} {perm : List Nat} {g : DF} {x : Str} {p pos : Pos} {e : Expr} {es : List Expr} {kws : List Keyword} {da : DA}
/-! ### the rules by the wanted function -/
theorem XC (F : DefOk X.prog X.w X.K X.mg X.base k f fd ps g) (hr : Rm k X.A) (hg : Gl X x) (hm : X.mg x = some (.ref f)) (hk : PySem.W.keepIn X.K (.ref f) = true) (hb : Binds X.K fd ps []) (tk : Takes X W)
    (ha : AX X W (e :: es) da) (hn : ps.length = n := by rfl) (hdb : (x == ("__debug__" : Str)) = false := by decide) (he : starEach (e :: es) X.env = (false, eval e X.env) :: starEach es X.env := by rfl) (hpl : (backTo pos (starEach es X.env)).any (·.1) = false := by rfl) :
    EX X W (.Call (.Name x p) (e :: es) [] pos) (eCl n g da) := hn ▸ EX_call F hr hg hm hk hb tk ha hdb he hpl
theorem XCB {i : Nat} (F : DefOk X.prog X.w X.K X.mg X.base k f fd ps g) (hr : Rm k X.A) (hg : Gl X x) (hm : X.mg x = some (.ref f)) (hk : PySem.W.keepIn X.K (.ref f) = true) (hb : Binds X.K fd ps []) (tk : Takes X W)
    (h1 : PE X e (tVar i)) (ha : AX X W es da) (hn : ps.length = n := by rfl) (hdb : (x == ("__debug__" : Str)) = false := by decide) (he : starEach (e :: es) X.env = (false, eval e X.env) :: starEach es X.env := by rfl) (hpl : (backTo pos (starEach es X.env)).any (·.1) = false := by rfl) :
    EX X W (.Call (.Name x p) (e :: es) [] pos) (eClB n g i da) := hn ▸ EX_callB F hr hg hm hk hb tk h1 ha hdb he hpl
end
section
variable {X : Cx} {W : WX} {elt tg iter : Expr} {ifs : List Expr} {scope : Scope} {pos : Pos} {di : DI} {g : DG} {is vs : List Nat} {tt : DT} {te : DE}
theorem XL (own : List (Str × Nat)) (hv : own.map (·.2) = vs) (hc : X.calm = true) (hN : X.N.Nodup) (hi : IX X W tg iter di) (ok : BlkOk X.N X.env.scope scope own) (hs : ∀ i ∈ is, i ∈ own.map (·.2))
    (hg : ∀ (s : Shared) (H : Hp) (C : Addr) (cl : List (Str × Addr)) (fp : List Addr), GX (X.blk s H scope (PySem.compEnvC scope cl C X.env) fp) tg is g) (ht : ∀ (s : Shared) (H : Hp) (C : Addr) (cl : List (Str × Addr)) (fp : List Addr), PTs (X.blk s H scope (PySem.compEnvC scope cl C X.env) fp) ifs (liftT X.K W0 tt))
    (he : ∀ (s : Shared) (H : Hp) (C : Addr) (cl : List (Str × Addr)) (fp : List Addr), EX (X.blk s H scope (PySem.compEnvC scope cl C X.env) fp) W0 elt te) (hz : ∀ x, foldedSetIterable iter X.env x = pure x := by intro _; rfl) :
    EX X W (.ListComp elt [⟨tg, iter, ifs, 0⟩] scope pos) (eLc vs di g tt te) := hv ▸ EX_lc hc hN hi ok hs hg ht he hz
theorem XA {P c : Addr} {gpos p : Pos} {k : Nat} (own : List (Str × Nat)) (hv : own.map (·.2) = vs)
    (hP : P ∈ Tabs.ts) (hr : Rm (k + 3) X.A) (hgl : Gl X "all") (hm : X.mg "all" = none) (TB : GxR.TabB X.base X.mg c P) (hcode : X.env.code = .ref c) (hc : X.calm = true) (hN : X.N.Nodup) (ok : BlkOk X.N X.env.scope scope own) (gk : GOk scope) (hi : IX X W tg iter di)
    (his : ∀ i ∈ is, i ∈ own.map (·.2))
    (hg : ∀ (B : Around) (s : Shared) (H : Hp) (C : Addr) (cl : List (Str × Addr)) (cd : Value) (fp : List Addr), Rm k (B.deeper (gxE X scope cl C cd)) → GX (gxC X B s H (gxE X scope cl C cd) fp) tg is g)
    (ht : ∀ (B : Around) (s : Shared) (H : Hp) (C : Addr) (cl : List (Str × Addr)) (cd : Value) (fp : List Addr), Rm k (B.deeper (gxE X scope cl C cd)) → PTs (gxC X B s H (gxE X scope cl C cd) fp) ifs (liftT X.K W0 tt))
    (he : ∀ (B : Around) (s : Shared) (H : Hp) (C : Addr) (cl : List (Str × Addr)) (cd : Value) (fp : List Addr), Rm k (B.deeper (gxE X scope cl C cd)) → EX (gxC X B s H (gxE X scope cl C cd) fp) W0 elt te)
    (hs : ∀ v, genFold iter X.env v = pure v := by intro _; rfl)
    (hst : starEach [.GeneratorExp elt [⟨tg, iter, ifs, 0⟩] scope gpos] X.env = (false, eval (.GeneratorExp elt [⟨tg, iter, ifs, 0⟩] scope gpos) X.env) :: starEach [] X.env := by rfl) :
    EX X W (.Call (.Name "all" p) [.GeneratorExp elt [⟨tg, iter, ifs, 0⟩] scope gpos] [] pos) (eAll vs di g tt te) := hv ▸ EX_all hP hr hgl hm (by decide +kernel) TB hcode hc hN ok gk hi his hg ht he hs hst
end
/-! ### a block's names, checked -/
def blkB (N : List Str) (sc scope : Scope) (own : List (Str × Nat)) : Bool :=
  decide (scope.kind = .function) && (scope.names.all fun y => decide (scope.names.lookup y.1 = some y.2)) && (own.all fun p => decide (N[p.2]? = some p.1)) &&
  (scope.names.all fun y => !decide (y.2 = .free) || (decide (sc.names.lookup y.1 = some .cell) || decide (sc.names.lookup y.1 = some .free))) &&
  (scope.names.all fun y => !(decide (y.2 = .local) || decide (y.2 = .cell)) || (decide (y.1 ∈ own.map (·.1)) || decide (y.1 ∉ N)))
theorem blk_ok {N : List Str} {sc scope : Scope} {own : List (Str × Nat)} (h : blkB N sc scope own = true) : BlkOk N sc scope own := by
  simp only [blkB, Bool.and_eq_true, decide_eq_true_eq, List.all_eq_true, Bool.or_eq_true, Bool.not_eq_true', decide_eq_false_iff_not] at h
  obtain ⟨⟨⟨⟨h1, h2⟩, h3⟩, h4⟩, h5⟩ := h
  refine ⟨h1, h2, h3, fun y hy e => ?_, fun y hy e => ?_⟩
  · rcases h4 y hy with z | z
    · exact absurd e z
    · exact z
  · rcases h5 y hy with z | z
    · rcases e with e | e <;> simp [e] at z
    · exact z
def gokB (scope : Scope) : Bool := !scope.isCoroutine && (scope.names.all fun y => !decide (y.2 = .cell)) && decide (scope.names.lookup (".0" : Str) = some NameKind.local)
theorem gok_ok {scope : Scope} (h : gokB scope = true) : GOk scope := by
  simp only [gokB, Bool.and_eq_true, Bool.not_eq_true', List.all_eq_true, decide_eq_true_eq, decide_eq_false_iff_not] at h
  exact ⟨h.1.1, h.1.2, h.2⟩
end Lf
end
section
set_option Elab.async false
set_option linter.all false
set_option maxRecDepth 100000
set_option maxHeartbeats 2000000
namespace Lf
open PySem PySem.Spec L2
variable [Tabs]
/-! ### a slice of a name's own list, whose items are data from now on -/
def eSlS (i : Nat) (dl dh : DP) : DE := fun en => match ownAt en i with
  | none => .error .stuck
  | some _ => bd (dl en) fun l => bd (dh l.2) fun u => match ownAt u.2 i with
    | some (b, os) => (match frzs os with
      | some xs => .ok (.own ((cutA xs l.1 u.1).map .d), u.2.set i (mkS b (.own (xs.map .d))))
      | none => .error .stuck)
    | none => .error .stuck
section
variable {X : Cx} {W : WX} {i : Nat} {a : Expr} {lo hi : Option Expr} {dl dh : DP} {pos p2 : Pos}
theorem EX_slS (ha : PE X a (tVar i)) (hl : PX X W lo dl) (hh : PX X W hi dh) : EX X W (.Subscript a (.Slice lo hi none p2) pos) (eSlS i dl dh) :=
  PE.imp (pe_slice sl_list ha hl hh) fun σ H Q q => by
  obtain ⟨G, F, τ, en, h, hp⟩ := q
  unfold eSlS at hp
  split at hp
  · exact hp.elim
  · rename_i bo h0
    obtain ⟨a, xs, hx, hH, _, _⟩ := h.openS h0
    refine ⟨.ref a, hx, ?_⟩
    refine bindP h hp fun l e2 hp2 G2 H2 s2 h2 => ?_
    refine bindP h2 (hp2.mono s2) fun u e3 hp3 G3 H3 s3 h3 => ?_
    dsimp only at hp3
    split at hp3
    · rename_i b os eo
      split at hp3
      · rename_i ds ed
        obtain ⟨G4, a', ys, s4, hx', hH', dv, h4⟩ := h3.frzS eo ed
        rw [hx] at hx'
        cases hx'
        exact ⟨a, ys, rfl, SqL.of hH', fun p np => hp3 G4 _ [.ref p] (s3.trans s4) (RX.newD h4 (dv.cut l u) np) _ rfl⟩
      · exact hp3.elim
    · exact hp3.elim
/-- len of a name's own list -/
def eLenS (i : Nat) : DE := fun en => match ownAt en i with
  | some (_, os) => .ok (.d (.int os.length), en)
  | none => .error .stuck
end
end Lf
end
section
set_option Elab.async false
set_option linter.all false
set_option maxRecDepth 100000
set_option maxHeartbeats 2000000
namespace Lf
open PySem PySem.Spec L2
variable [Tabs]
theorem units_ok {k : Nat} {A : Around} (hr : Rm k A) : A.units + 64 < cLine := hr.hr.units
section
variable {X : Cx} {W : WX} {elt tg iter : Expr} {ifs : List Expr} {scope : Scope} {pos : Pos} {di : DI} {g : DG} {is vs : List Nat} {tt : DT} {te : DE}
theorem XSL {i : Nat} {y : Str} {py spos : Pos} (own : List (Str × Nat)) (hv : own.map (·.2) = vs) (hc : X.calm = true) (hN : X.N.Nodup) (hy : X.N[i]? = some y) (hyl : X.env.scope.names.lookup y = some .local)
    (hsw : swapsWith (.ListComp elt [⟨tg, iter, ifs, 0⟩] scope pos) (some (.Name y py)) spos.line X.env = pure true) (hi : IX X W tg iter di) (ok : BlkOk X.N X.env.scope scope own) (hs : ∀ i ∈ is, i ∈ own.map (·.2))
    (hg : ∀ (s : Shared) (H : Hp) (C : Addr) (cl : List (Str × Addr)) (fp : List Addr), GX (X.blk s H scope (PySem.compEnvC scope cl C X.env) fp) tg is g) (ht : ∀ (s : Shared) (H : Hp) (C : Addr) (cl : List (Str × Addr)) (fp : List Addr), PTs (X.blk s H scope (PySem.compEnvC scope cl C X.env) fp) ifs (liftT X.K W0 tt))
    (he : ∀ (s : Shared) (H : Hp) (C : Addr) (cl : List (Str × Addr)) (fp : List Addr), EX (X.blk s H scope (PySem.compEnvC scope cl C X.env) fp) W0 elt te) (hz : ∀ x, foldedSetIterable iter X.env x = pure x := by intro _; rfl) :
    SX X W (.Assign [.Name y py] (.ListComp elt [⟨tg, iter, ifs, 0⟩] scope pos) spos) (dSet i (eLc vs di g tt te)) := hv ▸ SX_setLc hc hN hy hyl hsw hi ok hs hg ht he hz
end
theorem EX_gi {X : Cx} {W : WX} {x : Str} {i : Int} {pos : Pos} (hg : Gl X x) (h : ∃ u, X.mg x = some u ∧ RelV (.int i) u) (hd : (x == ("__debug__" : Str)) = false := by decide) : EX X W (.Name x pos) (eD (.int i)) := by
  obtain ⟨u, e, r⟩ := h
  exact EX_D (pe_glob hg e r hd) fun _ => .int i
end Lf
namespace Lf
open PySem PySem.Spec L2
/-- one function object stands at an address -/
theorem fun_one {K : PySem.W.Frag} {x q x' q' : Str} {pa pa' : Arguments} {b b' : List Stmt} {sc sc' : Scope} {d d' : List V} {k k' : List (Str × V)} {f : Addr} {fd fd' : FuncData} (F : FunD K x q pa b sc d k f fd) (F' : FunD K x' q' pa' b' sc' d' k' f fd') : fd = fd' := by
  obtain ⟨_, _, _, _, _, _, _, _, _, _, _, l, _⟩ := F.ex
  obtain ⟨_, _, _, _, _, _, _, _, _, _, _, l', _⟩ := F'.ex
  rw [l] at l'
  cases l'
  rfl
end Lf
end
section
set_option Elab.async false
set_option linter.all false
set_option maxRecDepth 100000
set_option maxHeartbeats 2000000
namespace Lf
open PySem PySem.Spec L2
variable [Tabs]
/-! ### target = data -/
def dAsg (g : DG) (da : DE) : DS := fun en => bd (da en) fun p => match frz p.1 with
  | some x => (match g x p.2 with
    | some e1 => .ok (.nx, e1)
    | none => .error .stuck)
  | none => .error .stuck
/-! ### a, b = x, y -/
def dPar (i j : Nat) (da : DA) : DS := fun en => bd (da en) fun p => match p.1 with
  | [o, q] => (match (stor i o p.2).bind (stor j q) with
    | some e1 => .ok (.nx, e1)
    | none => .error .stuck)
  | _ => .error .stuck
/-! ### is None -/
def isN : PyData → Bool
  | .none => true
  | _ => false
def fIsN : PyData → PyData → Option PyData
  | x, .none => some (.bool (isN x))
  | _, _ => none
def fNotN : PyData → PyData → Option PyData
  | x, .none => some (.bool (!isN x))
  | _, _ => none
/-! ### x += e on ints -/
def dAug (i : Nat) (f : PyData → PyData → Option PyData) (da : DE) : DS := fun en => match sVar i en with
  | some (.int k) => bd (da en) fun p => (match frz p.1 with
    | some y => (match f (.int k) y with
      | some z => (match stor i (.d z) p.2 with
        | some e1 => .ok (.nx, e1)
        | none => .error .stuck)
      | none => .error .stuck)
    | none => .error .stuck)
  | _ => .error .stuck
section
variable {X : Cx} {W : WX} {e : Expr} {da : DE} {pos pos' : Pos}
theorem aug_lift {i : Nat} {f : Int → Int → Int} {D : Ends} {σ : St} {H : Hp} (q : liftS X.K W (dAug i (fI fun a b => some (.int (f a b))) da) D σ H) : tAug i (liftE X.K W da) (ipI f) D σ H := by
  obtain ⟨G, F, τ, en, h, hp⟩ := q
  unfold dAug at hp
  split at hp
  · rename_i k hk
    have hs : ∃ o, (en[i]? = some (.v o) ∨ en[i]? = some (.p o)) ∧ frz o = some (.int k) := by
      unfold sVar at hk
      split at hk
      · rename_i o ho; exact ⟨o, .inl ho, hk⟩
      · rename_i o ho; exact ⟨o, .inr ho, hk⟩
      · cases hk
    obtain ⟨o, ho, hf⟩ := hs
    obtain ⟨v, hv, dv⟩ := h.peek ho hf
    cases dv
    refine ⟨_, hv, ?_⟩
    refine bindES h hp fun o2 e1 hp1 G1 H1 w s1 h1 => ?_
    dsimp only at hp1
    split at hp1
    · rename_i y hy
      have dw := h1.data hy
      split at hp1
      · rename_i z hz
        unfold fI at hz
        split at hz
        · rename_i a b ea
          cases ea
          cases hz
          cases dw
          split at hp1
          · rename_i e2 he2
            refine ⟨_, _, rfl, rfl, hp1 G1 _ H1 s1 ?_⟩
            exact (RX.withD h1.nil (v := .int (f k b)) (.int _)).stor he2
          · exact hp1.elim
        · cases hz
      · exact hp1.elim
    · exact hp1.elim
  · exact hp.elim
theorem SX_augAdd {i : Nat} {x : Str} (hN : X.N.Nodup) (hi : X.N[i]? = some x) (hx : Loc X.env.scope x) (he : EX X W e da) (hf : X.fn x = true ∨ X.env.scope.names.lookup x = some .local := by first | exact .inl rfl | exact .inr rfl | assumption) :
    SX X W (.AugAssign (.Name x pos') .Add e pos) (dAug i fAdd da) := PS.imp (ps_aug hN hi hx he ip_add hf) fun D σ H q => aug_lift (f := fun i j => i + j) q
theorem SX_augSub {i : Nat} {x : Str} (hN : X.N.Nodup) (hi : X.N[i]? = some x) (hx : Loc X.env.scope x) (he : EX X W e da) (hf : X.fn x = true ∨ X.env.scope.names.lookup x = some .local := by first | exact .inl rfl | exact .inr rfl | assumption) :
    SX X W (.AugAssign (.Name x pos') .Sub e pos) (dAug i fSub da) := PS.imp (ps_aug hN hi hx he ip_sub hf) fun D σ H q => aug_lift (f := fun i j => i - j) q
end
end Lf
end
section
set_option Elab.async false
set_option linter.all false
set_option maxRecDepth 100000
set_option maxHeartbeats 2000000
namespace Lf
open PySem PySem.Spec L2
variable [Tabs]
/-! ### a list display over a name's own list of data, which stays one's own -/
def dats : List OT → Option (List PyData)
  | [] => some []
  | .d x :: os => (dats os).map (x :: ·)
  | _ :: _ => none
section
variable {K : PySem.W.Frag} {G M : Hp}
theorem dats_dp : ∀ {qs : List OT} {vs : List V} {A : List Addr} {xs : List PyData}, RepOs K G M vs qs A → dats qs = some xs → DpAll K G vs xs
  | [], _, _, xs, h, e => by
    cases h
    simp only [dats, Option.some.injEq] at e
    subst e
    exact .nil
  | .d x :: os, _, _, xs, h, e => by
    cases h with
    | cons h1 h2 h3 =>
      simp only [dats, Option.map_eq_some_iff] at e
      obtain ⟨ys, e, rfl⟩ := e
      cases h1 with
      | d h1 => exact .cons h1 (dats_dp h2 e)
  | .own _ :: _, _, _, _, _, e => by simp [dats] at e
  | .fr _ :: _, _, _, _, _, e => by simp [dats] at e
  | .opq _ :: _, _, _, _, _, e => by simp [dats] at e
  | .dic _ _ :: _, _, _, _, _, e => by simp [dats] at e
  | .lkd _ _ :: _, _, _, _, _, e => by simp [dats] at e
  | .tp _ :: _, _, _, _, _, e => by simp [dats] at e
  | .leaf _ _ :: _, _, _, _, _, e => by simp [dats] at e
  | .hole :: _, _, _, _, _, e => by simp [dats] at e
theorem RX.items {H : Hp} {F : FS} {τ σ : St} {en : En} {a : Addr} {qs : List OT} {xs : List PyData} {vs : List V} {os : List OT} (h : RX K G F τ σ H en (.ref a :: vs) (.own qs :: os)) (e : dats qs = some xs) : ∃ us, H a = some (.lst us) ∧ DpAll K G us xs := by
  obtain ⟨M, φ, B, S, E, r, d⟩ := h
  cases r with
  | cons r1 r2 hd =>
    cases r1 with
    | own h1 h2 h3 => exact ⟨_, S.m _ _ h1, dats_dp h2 e⟩
end
end Lf
end
section
set_option Elab.async false
set_option linter.all false
set_option maxRecDepth 100000
set_option maxHeartbeats 2000000
namespace Lf
open PySem PySem.Spec L2 PyProof.Rows
/-! ### sum, max, min of a tuple of ints -/
section
variable {prog : Program} {w : World} {A : Around} {E : Value → Shared → Prop} {s : Shared} {t : Addr} {xs : Array (Int × Tok)} {its : List Value} {ns : List Int} {Q : Value → Shared → Prop}
theorem old_keptT {h' : Heap} {o0 : Obj} (hk : ∀ b o, b ∉ [s.heap.objs.size] → (s.heap.push o0).get? b = some o → h'.get? b = some o) :
    ∀ b o, s.heap.get? b = some o → h'.get? b = some o := fun b o e => by
  refine hk b o (fun hm => ?_) (Heap.get?_push_of_some _ e)
  rcases List.mem_cons.mp hm with e1 | hm
  · exact absurd (e1 ▸ Heap.lt_size e) (Nat.lt_irrefl _)
  · cases hm
theorem iter_intTup (ht : s.heap.IsTuple t (intItems xs))
    (h : ∀ s₂ : Shared, s₂ = { s with heap := s.heap.push { cls := .type "tuple_iterator", data := .fields #[.ref t, .int 0 0] } } →
      (s₂.heap.IsTupleIter s.heap.objs.size t 0 ∧ s₂.heap.IsTuple t (intItems xs)) → (∀ b ∈ [s.heap.objs.size, t], b < s₂.heap.objs.size) → t ≠ s.heap.objs.size → Q (.ref s.heap.objs.size) s₂) :
    wpAny (model prog w) A (pyIter (.ref t)) Q E s := by
  have hlt : t < s.heap.objs.size := by obtain ⟨_, e, _⟩ := ht; exact Heap.lt_size e
  refine wpAny_pyIter_tuple ht (h _ rfl ⟨⟨_, Heap.get?_push_size _ rfl, rfl, rfl⟩, ht.push _⟩ (fun b hb => ?_) (Nat.ne_of_lt hlt))
  show b < (s.heap.push _).objs.size
  rw [Heap.size_push]
  rcases List.mem_cons.mp hb with rfl | hb
  · exact Nat.lt_succ_self _
  · rcases List.mem_cons.mp hb with rfl | hb
    · exact Nat.lt_succ_of_lt hlt
    · cases hb
theorem sum_intTup (hh : A.handled = none) (ht : s.heap.IsTuple t (intItems xs))
    (h : ∀ h' tk t', (∀ b o, s.heap.get? b = some o → h'.get? b = some o) → Q (.int (preSum (numAt xs) xs.size) t') { s with heap := h', toks := tk }) :
    wpAny (model prog w) A (call (.builtin "sum") [.ref t]) Q E s := by
  refine call_sum_walkG (iter_intTup ht fun s₂ e st hfp hne => ?_)
  subst e
  refine ⟨_, _, _, _, _, _, numAt xs, rfl, Walks.tuple (A := A.in1) hh _ t hne (intItems xs), st, hfp, (fun _ _ => intItems_at), fun h' tk t' hk => ?_⟩
  have := h h' tk t' (old_keptT hk)
  simpa [intItems] using this
theorem max_intTup (hh : A.handled = none) (ht : s.heap.IsTuple t (intItems xs)) (hne : 0 < xs.size)
    (h : ∀ v h' tk, (intItems xs)[argBest (fun i j => decide (numAt xs i > numAt xs j)) (xs.size - 1)]? = some v → (∀ b o, s.heap.get? b = some o → h'.get? b = some o) → Q v { s with heap := h', toks := tk }) :
    wpAny (model prog w) A (call (.builtin "max") [.ref t]) Q E s := by
  refine call_max_walk (iter_intTup ht fun s₂ e st hfp hlI => ?_)
  subst e
  refine ⟨_, _, _, _, _, _, _, rfl, Walks.tuple (A := A.in1) hh _ t hlI (intItems xs), st, hfp, by simpa [intItems] using hne, CmpOf.ints_gt (numAt xs) (fun _ _ => intItems_at), fun v h' tk hP hk => ?_⟩
  exact h v h' tk (by simpa [intItems] using hP) (old_keptT hk)
theorem sum_rawT (hh : A.handled = none) (hl : s.heap.IsTuple t its.toArray) (hi : IntsAre its ns)
    (h : ∀ h' tk t', (∀ b o, s.heap.get? b = some o → h'.get? b = some o) → Q (.int ns.sum t') { s with heap := h', toks := tk }) : wpAny (model prog w) A (call (.builtin "sum") [.ref t]) Q E s := by
  obtain ⟨xs, e⟩ := hi.allInts.items
  have hn : numsOf (intItems xs).toList = ns := by rw [← e]; exact hi.numsOf
  rw [nums_intItems] at hn
  rw [e] at hl
  refine sum_intTup hh hl fun h' tk t' hk => ?_
  have := h h' tk t' hk
  rw [preSum_eq, List.take_of_length_le (by simp), hn]; exact this
theorem max_rawT (hh : A.handled = none) (hl : s.heap.IsTuple t its.toArray) (hi : IntsAre its ns) (hne : 0 < ns.length)
    (h : ∀ h' tk M t', (∀ b o, s.heap.get? b = some o → h'.get? b = some o) → M ∈ ns → (∀ a, a ∈ ns → a ≤ M) → Q (.int M t') { s with heap := h', toks := tk }) : wpAny (model prog w) A (call (.builtin "max") [.ref t]) Q E s := by
  obtain ⟨xs, e⟩ := hi.allInts.items
  have hn : numsOf (intItems xs).toList = ns := by rw [← e]; exact hi.numsOf
  rw [nums_intItems] at hn
  subst hn
  rw [e] at hl
  have hsz : 0 < xs.size := by simpa using hne
  refine max_intTup hh hl hsz fun v h' tk hv hk => ?_
  obtain ⟨t, rfl⟩ := intItems_at hv
  obtain ⟨h1, h2⟩ := argBest_gt (numAt xs) (xs.size - 1)
  refine h h' tk _ t hk ?_ fun a ha => ?_
  · rw [numAt_eq]; exact PySem.getD_mem (by rw [List.length_map, Array.length_toList]; omega)
  · obtain ⟨j, hj, rfl⟩ := mem_getD ha
    rw [List.length_map, Array.length_toList] at hj
    rw [← numAt_eq]; exact h2 j (by omega)
end
section
variable {X : Cx}
/-- of a list or a tuple -/
def SqA (K : PySem.W.Frag) (H : Hp) (a : Addr) (xs : List V) : Prop := SqL K H a xs ∨ SqT K H a xs
def rSumA (K : PySem.W.Frag) : List V → Hp → VK → Prop := fun vs H Q => ∃ (a : Addr) (ns : List Int), vs = [V.ref a] ∧ SqA K H a (ns.map V.int) ∧ Q (.int ns.sum) H
def rMaxA (K : PySem.W.Frag) : List V → Hp → VK → Prop := fun vs H Q => ∃ (a : Addr) (ns : List Int), vs = [V.ref a] ∧ SqA K H a (ns.map V.int) ∧ 0 < ns.length ∧ ∀ m, m ∈ ns → (∀ y, y ∈ ns → y ≤ m) → Q (.int m) H
theorem cr_sumA (hc : X.calm = true) : CallR X (.builtin "sum") (rSumA X.K) := by
  intro pins s σ H vs us Q I r h
  obtain ⟨a, ns, e, hs | hs, q⟩ := h
  · exact cr_sum hc pins s σ H vs us Q I r ⟨a, ns, e, hs, q⟩
  · subst e
    obtain ⟨its, rv, hl, _⟩ := I.tuple hs
    rw [Vals.ref1 r]
    exact sum_rawT (I.ok.hd hc) (show s.heap.IsTuple a its.toArray from hl) rv.ints fun h' tk t' hk => ⟨.int _, H, I.kept hk, ⟨_, rfl⟩, q⟩
theorem cr_maxA (hc : X.calm = true) : CallR X (.builtin "max") (rMaxA X.K) := by
  intro pins s σ H vs us Q I r h
  obtain ⟨a, ns, e, hs | hs, hne, q⟩ := h
  · exact cr_max hc pins s σ H vs us Q I r ⟨a, ns, e, hs, hne, q⟩
  · subst e
    obtain ⟨its, rv, hl, _⟩ := I.tuple hs
    rw [Vals.ref1 r]
    exact max_rawT (I.ok.hd hc) (show s.heap.IsTuple a its.toArray from hl) rv.ints hne fun h' tk m t' hk h1 h2 => ⟨.int _, H, I.kept hk, ⟨_, rfl⟩, q m h1 h2⟩
end
def seqInts : List PyData → Option (List Int)
  | [.list xs] => ints? xs
  | [.tuple xs] => ints? xs
  | _ => none
def fSumA (xs : List PyData) : Option PyData := (seqInts xs).map fun ns => .int ns.sum
def fMaxA (xs : List PyData) : Option PyData := ((seqInts xs).bind foldMax).map .int
section
variable [Tabs] {K : PySem.W.Frag}
theorem seqInts_v {H : Hp} {vs : List V} {xs : List PyData} {ns : List Int} (h : DpAll K H vs xs) (e : seqInts xs = some ns) : ∃ a, vs = [V.ref a] ∧ SqA K H a (ns.map V.int) := by
  unfold seqInts at e
  split at e
  · cases h with
    | cons h1 h2 =>
      cases h2
      cases h1 with
      | lst hs ha =>
        have := ints_vs e ha
        subst this
        exact ⟨_, rfl, .inl hs⟩
  · cases h with
    | cons h1 h2 =>
      cases h2
      cases h1 with
      | tup hs ha =>
        have := ints_vs e ha
        subst this
        exact ⟨_, rfl, .inr hs⟩
  · cases e
theorem flat_sumA : FlatC K (rSumA K) fSumA := by
  intro H vs xs z Q h e q
  obtain ⟨ns, e1, rfl⟩ := Option.map_eq_some_iff.mp e
  obtain ⟨a, rfl, hs⟩ := seqInts_v h e1
  exact ⟨a, ns, rfl, hs, q _ fun _ => .int _⟩
theorem flat_maxA : FlatC K (rMaxA K) fMaxA := by
  intro H vs xs z Q h e q
  obtain ⟨m, e1, rfl⟩ := Option.map_eq_some_iff.mp e
  obtain ⟨ns, e2, em⟩ := Option.bind_eq_some_iff.mp e1
  obtain ⟨a, rfl, hs⟩ := seqInts_v h e2
  cases ns with
  | nil => cases em
  | cons i r =>
    cases em
    refine ⟨_, i :: r, rfl, hs, by simp, fun m hm hy => ?_⟩
    obtain ⟨k1, k2⟩ := foldMax_spec r i
    have : m = r.foldl max i := Int.le_antisymm (k2 m hm) (hy _ k1)
    subst this
    exact q _ fun _ => .int _
end
/-! ### xs[::-1], t[::-1], t[i::-1] -/
section
variable {prog : Program} {w : World} {A : Around} {E : Value → Shared → Prop} {s : Shared}
/-- how many items lie from the start on to the left -/
def revN (n : Nat) : Option Int → Nat
  | none => n
  | some v => if v < 0 then (v + n + 1).toNat else min (v.toNat + 1) n
theorem adjust_rev (lo : Option Int) (n : Nat) : Builtin.Slice.sliceAdjust lo none (-1) (n : Int) = (((revN n lo : Nat) : Int) - 1, -1) := by
  unfold Builtin.Slice.sliceAdjust
  have h1 : ((-1 : Int) < 0) := by omega
  simp only [h1, if_true]
  refine Prod.ext ?_ rfl
  cases lo with
  | none => rfl
  | some v =>
    show (if v < 0 then max (v + (n : Int)) (-1) else min v ((n : Int) - 1)) = _
    simp only [revN]
    by_cases hv : v < 0
    · rw [if_pos hv, if_pos hv]; omega
    · rw [if_neg hv, if_neg hv]; omega
theorem places_rev (j : Nat) : Builtin.Slice.slicePlaces ((j : Int) - 1) (-1) (-1) = j := by
  unfold Builtin.Slice.slicePlaces
  have h1 : ¬ ((-1 : Int) > 0) := by omega
  simp only [h1, if_false]
  by_cases h : ((j : Int) - 1 > -1)
  · rw [if_pos h]
    have : ((j : Int) - 1 - -1 - 1) / (- -1) + 1 = j := by
      rw [show (- -1 : Int) = 1 from rfl, Int.ediv_one]; omega
    rw [this]; simp
  · rw [if_neg h]; simp; omega
theorem sliceApplied_rev {sl : Addr} {vl vs : Value} {lo : Option Int} {n : Nat} {Q : Int × Int × Nat → Shared → Prop} (hs : s.heap.IsSliceOf sl vl .none vs) (pl : IsPart vl lo) (ps : IsPart vs (some (-1)))
    (h : Q (((revN n lo : Nat) : Int) - 1, -1, revN n lo) s) : wpAny (model prog w) A (Builtin.Slice.sliceApplied (.ref sl) (pure (n : Int))) Q E s := by
  obtain ⟨os, hos, hcs, hds⟩ := id hs
  unfold Builtin.Slice.sliceApplied Builtin.Slice.sliceFields
  refine wpAny_bind (wpAny_bind (wpAny_field hos hds (x := vl) rfl (wpAny_bind (wpAny_field hos hds (x := .none) rfl (wpAny_bind (wpAny_field hos hds (x := vs) rfl (wpAny_pure ?_)))))))
  refine wpAny_bind (HT.slicePart_ ps ?_)
  show wpAny _ _ (if ((-1 : Int) == 0) = true then _ else _) _ _ s
  rw [if_neg (by decide)]
  refine wpAny_bind (HT.slicePart_ pl (wpAny_bind (HT.slicePart_ IsPart.none (wpAny_bind (wpAny_pure ?_)))))
  show wpAny _ _ (match Builtin.Slice.sliceAdjust lo none (-1) (n : Int) with | (lo, hi) => pure (lo, (-1 : Int), Builtin.Slice.slicePlaces lo hi (-1))) _ _ s
  rw [adjust_rev lo n]
  show wpAny _ _ (pure (((revN n lo : Nat) : Int) - 1, (-1 : Int), Builtin.Slice.slicePlaces (((revN n lo : Nat) : Int) - 1) (-1) (-1))) _ _ s
  rw [places_rev]
  exact wpAny_pure h
theorem fm_eq {α β : Type} {f : α → Option β} {g : α → β} : ∀ (l : List α), (∀ x ∈ l, f x = some (g x)) → l.filterMap f = l.map g
  | [], _ => rfl
  | x :: l, h => by
    rw [List.filterMap_cons_some (h x (List.mem_cons_self ..)), List.map_cons, fm_eq l fun y hy => h y (List.mem_cons_of_mem _ hy)]
theorem pick_rev (xs : Array Value) : ∀ (j : Nat), j ≤ xs.size → ((List.range j).filterMap fun (k : Nat) => xs[(((j : Int) - 1) + (k : Int) * -1).toNat]?) = (xs.toList.take j).reverse := by
  intro j hj
  apply List.ext_getElem?
  intro i
  have hmap : ((List.range j).filterMap fun (k : Nat) => xs[(((j : Int) - 1) + (k : Int) * -1).toNat]?) = (List.range j).map fun k => xs.getD (j - 1 - k) .none := by
    apply fm_eq
    intro k hk
    have hk : k < j := by simpa using hk
    have e : (((j : Int) - 1) + (k : Int) * -1).toNat = j - 1 - k := by omega
    rw [e, Array.getElem?_eq_getElem (by omega)]
    simp [Array.getD, show j - 1 - k < xs.size by omega]
  rw [hmap]
  by_cases hi : i < j
  · rw [List.getElem?_map, List.getElem?_range hi, List.getElem?_reverse (by simp; omega)]
    simp only [List.length_take, Array.length_toList, Option.map_some]
    rw [List.getElem?_take, if_pos (by omega), show min j xs.size - 1 - i = j - 1 - i by omega]
    rw [Array.getElem?_toList, Array.getElem?_eq_getElem (by omega)]
    simp [Array.getD, show j - 1 - i < xs.size by omega]
  · rw [List.getElem?_eq_none (by simp; omega), List.getElem?_eq_none (by simp; omega)]
theorem revN_le (n : Nat) (lo : Option Int) : revN n lo ≤ n := by
  cases lo with
  | none => exact Nat.le_refl _
  | some v =>
    simp only [revN]
    split <;> omega
theorem getItem_tuple_rev {t sl : Addr} {items : Array Value} {vl vs : Value} {lo : Option Int} {Q : Value → Shared → Prop} (ht : IsTup s.heap t items) (hs : s.heap.IsSliceOf sl vl .none vs) (pl : IsPart vl lo) (ps : IsPart vs (some (-1)))
    (h : Q (.ref s.heap.objs.size) { s with heap := s.heap.push { cls := .type "tuple", data := .seq (items.toList.take (revN items.size lo)).reverse.toArray } })
    (hsz : items.size ≤ sizeLine) : wpAny (model prog w) A (getItem (.ref t) (.ref sl)) Q E s := by
  have hj := revN_le items.size lo
  have htake : sizeOk (.seq (items.toList.take (revN items.size lo)).reverse.toArray) := by
    show ((items.toList.take (revN items.size lo)).reverse.toArray).size ≤ sizeLine
    rw [List.size_toArray, List.length_reverse, List.length_take, Array.length_toList]
    omega
  obtain ⟨os, hos, hcs, hds⟩ := id hs
  have hTs : s.TypeIs (.ref sl) "slice" := ⟨os, hos, hcs⟩
  unfold getItem
  try with_reducible refine wpAny_holding ?_
  first | refine wpAny_bind (wpAny_pure ?_) | skip
  refine wpAny_bind (wpAny_sequenceKey ht.typeIs (by decide) ?_)
  refine wpAny_bind (wpAny_callSpecial?_slot (name := Str.ofString "__getitem__") ht.typeIs PyProof.Rows.slot_tuple_getitem
    (wpAny_call_entry PyProof.Rows.slot_tuple_getitem ht.typeIs entry_tuple_getitem ?_ (args_tuple_getitem _ _)))
  show wpAny _ _ (Builtin.Tuple.tupleItemsOf (.ref t) >>= _) _ _ s
  refine wpAny_bind (tupleItemsOf_ ht ?_)
  refine wpAny_bind (wpAny_typeOf hTs ?_)
  rw [if_pos (by decide)]
  refine wpAny_bind (sliceApplied_rev hs pl ps ?_)
  have hno : ¬ (((((revN items.size lo : Nat) : Int) - 1) == 0 && (-1 : Int) == 1 && (revN items.size lo) == items.size) = true) := by
    intro q
    rw [Bool.and_eq_true, Bool.and_eq_true] at q
    exact absurd q.1.2 (by decide)
  show wpAny _ _ (if ((((revN items.size lo : Nat) : Int) - 1) == 0 && (-1 : Int) == 1 && (revN items.size lo) == items.size) = true then _ else _) _ _ s
  rw [if_neg hno, pick_rev items _ hj]
  first
    | exact wpAny_bind (m := Builtin.Tuple.tupleExact _) (wpAny_newObj_type (wpAny_pure ⟨_, rfl, wpAny_pure h⟩) htake)
    | exact wpAny_bind (m := Builtin.Tuple.tupleExact _) (wpAny_newObj_type (wpAny_bind (wpAny_pure (wpAny_pure ⟨_, rfl, wpAny_pure h⟩))) htake)
    | exact wpAny_bind (wpAny_bind (m := Builtin.Tuple.tupleExact _) (wpAny_newObj_type (wpAny_pure (wpAny_pure ⟨_, rfl, wpAny_pure h⟩)) htake))
    | exact wpAny_bind (wpAny_bind (m := Builtin.Tuple.tupleExact _) (wpAny_newObj_type (wpAny_pure ⟨_, rfl, wpAny_pure h⟩) htake))
end
end Lf
namespace Lf
open PySem PySem.Spec L2 PyProof.Rows
section
variable {X : Cx}
def tRevA (K : PySem.W.Frag) (te : TE) : TE := fun σ H Q => te σ H fun x H1 => (∃ a xs, x = .ref a ∧ SqL K H1 a xs ∧ ∀ p, H1 p = none → Q (.ref p) (upd H1 p (.lst xs.reverse))) ∨ (∃ a xs, x = .ref a ∧ SqT K H1 a xs ∧ ∀ p, H1 p = none → Q (.ref p) (upd H1 p (.tup xs.reverse)))
theorem pe_revA {e : Expr} {te : TE} {k : Nat} {p1 p2 p3 pos : Pos} (he : PE X e te) : PE X (.Subscript e (.Slice none none (some (.UnaryOp .USub (.Constant (.int 1) k p1) p2)) p3) pos) (tRevA X.K te) := by
  refine ⟨fun pins s σ H Q I h => ?_⟩
  refine Subscript_ (thn (he.run pins s σ H _ I h) fun v s1 ⟨x, H1, I1, r1, q1⟩ => ?_)
  have hst : PO X (some (.UnaryOp .USub (.Constant (.int 1) k p1) p2)) (tPart (tUn (rU fun i => .int (-i)) (tC (.int 1)))) := po_some (pe_un un_neg pe_int)
  refine wpAny_Slice (thn (po_none.run pins s1 σ H1 (fun o H2 => o = none ∧ H2 = H1) I1 ⟨rfl, rfl⟩) fun vl s2 ⟨l, H2, I2, pl, el, e2⟩ => ?_)
  subst el e2
  refine thn (po_none.run pins s2 σ H2 (fun o H3 => o = none ∧ H3 = H2) I2 ⟨rfl, rfl⟩) fun vu s3 ⟨u, H3, I3, pu, eu, e3⟩ => ?_
  subst eu e3
  refine thn (hst.run pins s3 σ H3 (fun o H4 => o = some (-1) ∧ H4 = H3) I3 ⟨1, rfl, -1, rfl, rfl, rfl⟩) fun vs s4 ⟨o, H4, I4, ps, eo, e4⟩ => ?_
  subst eo e4
  cases pl
  cases pu
  have I5 : Inv X pins σ H4 { s4 with heap := s4.heap.push { cls := .type "slice", data := .fields #[.none, .none, vs] } } := I4.kept (t' := s4.toks) fun b ob q => Heap.get?_push_of_some _ q
  rcases q1 with ⟨a, xs, ex, hx, q⟩ | ⟨a, xs, ex, hx, q⟩
  · subst ex
    cases r1
    obtain ⟨its, r, ht, hz⟩ := I5.list hx
    have hlen := r.length
    show wpAny (model X.prog X.w) X.A (subscriptTail e (.Slice none none (some (.UnaryOp .USub (.Constant (.int 1) k p1) p2)) p3) (.ref a) (.ref s4.heap.objs.size)) (EP X pins σ Q) X.xe { s4 with heap := s4.heap.push { cls := .type "slice", data := .fields #[.none, .none, vs] } }
    refine tail_any (ops := [.ref a, .ref s4.heap.objs.size]) ht.isList.typeIs (PySem.slot_list_getitem.lookup) ?_ (by with_unfolding_all rfl)
    refine wpAny_getItem_list_slice ht.isList (Heap.IsSliceOf.new _ .none .none vs) .none .none ps (by decide) ?_ (by rw [List.size_toArray]; omega)
    rw [PySem.W.krv_pick]
    refine ⟨.ref _, _, I5.laid (t' := s4.toks) (o := .lst xs.reverse) (fun b ob q => Heap.get?_push_of_some _ q) (Nat.le_refl _) ?_, rfl, q _ (I5.hok.fresh (Nat.le_refl _))⟩
    exact ⟨by rw [List.length_reverse]; exact hz, _, 0, r.reverse, Heap.get?_push_size _ rfl⟩
  · subst ex
    cases r1
    obtain ⟨its, r, ht, hz⟩ := I5.tuple hx
    have hlen := r.length
    show wpAny (model X.prog X.w) X.A (subscriptTail e (.Slice none none (some (.UnaryOp .USub (.Constant (.int 1) k p1) p2)) p3) (.ref a) (.ref s4.heap.objs.size)) (EP X pins σ Q) X.xe { s4 with heap := s4.heap.push { cls := .type "slice", data := .fields #[.none, .none, vs] } }
    refine tail_any (ops := [.ref a, .ref s4.heap.objs.size]) ht.typeIs (PyProof.Rows.slot_tuple_getitem.lookup) ?_ (by with_unfolding_all rfl)
    refine getItem_tuple_rev (lo := none) ht (Heap.IsSliceOf.new _ .none .none vs) .none ps ?_ (by rw [List.size_toArray]; omega)
    have hn : (its.toArray.toList.take (revN its.toArray.size none)) = its := by
      simp only [revN]
      rw [List.take_of_length_le (by simp)]
    rw [hn]
    refine ⟨.ref _, _, I5.laid (t' := s4.toks) (o := .tup xs.reverse) (fun b ob q => Heap.get?_push_of_some _ q) (Nat.le_refl _) ?_, rfl, q _ (I5.hok.fresh (Nat.le_refl _))⟩
    exact ⟨by rw [List.length_reverse]; exact hz, _, r.reverse, IsTup.new _ _⟩
end
/-! ### the same, by things -/
def eRv (da : DE) : DE := fun en => bd (da en) fun p => match frz p.1 with
  | some (.list xs) => .ok (.own (xs.reverse.map .d), p.2)
  | some (.tuple xs) => .ok (.d (.tuple xs.reverse), p.2)
  | _ => .error .stuck
section
variable [Tabs] {X : Cx} {W : WX} {a : Expr} {da : DE} {dl : DP} {lower : Option Expr}
theorem DpAll.take {K : PySem.W.Frag} {H : Hp} : ∀ {vs : List V} {xs : List PyData} (n : Nat), DpAll K H vs xs → DpAll K H (vs.take n) (xs.take n)
  | _, [], n, h => by cases h; cases n <;> exact .nil
  | _, x :: xs, 0, h => .nil
  | _, x :: xs, n + 1, h => by cases h with | cons h1 h2 => exact .cons h1 (DpAll.take n h2)
theorem EX_rv {k : Nat} {p1 p2 p3 pos : Pos} (ha : EX X W a da) : EX X W (.Subscript a (.Slice none none (some (.UnaryOp .USub (.Constant (.int 1) k p1) p2)) p3) pos) (eRv da) :=
  PE.imp (pe_revA ha) fun σ H Q q => by
  obtain ⟨G, F, τ, en, h, hp⟩ := q
  refine bindE h hp fun o e1 hp1 G1 H1 v s1 h1 => ?_
  have h1 : RX X.K G1 F τ σ H1 e1 [v] [o] := h1
  dsimp only at hp1
  split at hp1
  · rename_i xs ex
    obtain ⟨G4, s4, h4⟩ := RX.freeze (vs := []) (os := []) h1 ex
    have dv := h4.dataG
    cases dv with
    | lst hs hd => exact .inl ⟨_, _, rfl, h4.same.seq hs, fun p np => hp1 G4 _ [.ref p] (s1.trans s4) (RX.newD h4.nil (dprev hd) np) _ rfl⟩
  · rename_i xs ex
    obtain ⟨G4, s4, h4⟩ := RX.freeze (vs := []) (os := []) h1 ex
    have dv := h4.dataG
    cases dv with
    | tup hs hd =>
      refine .inr ⟨_, _, rfl, sqT_same h4.same hs, fun p np => ?_⟩
      obtain ⟨G5, s5, h5⟩ := RX.newT h4.nil (dprev hd) np
      exact hp1 G5 _ [.ref p] (s1.trans (s4.trans s5)) h5 _ rfl
  · exact hp1.elim
end
/-! ### xs.extend([..]) -/
def extK (i : Nat) (p : OT) (e1 : En) : R (OT × En) := match ownAt e1 i with
  | none => .error .stuck
  | some (b, os) => (match p with
    | .own ps => if few (os.length + ps.length) then .ok (.d .none, e1.set i (mkS b (.own (os ++ ps)))) else .error .stuck
    | _ => .error .stuck)
def eExt (i : Nat) (da : DE) : DE := fun en => match ownAt en i with
  | none => .error .stuck
  | some _ => bd (da en) fun p => extK i p.1 p.2
end Lf
namespace Lf
open PySem PySem.Spec L2 PyProof.Rows
theorem tuple_mul1 (l : Addr) (items : Array Value) (n : Nat) (dd : Option Addr) (sl : Array (Option Value)) (u : Tok) :
    Meets (Builtin.«tuple.__mul__» ⟨[.ref l, .int 1 u], []⟩) (fun _ R s => s.heap.get? l = some { cls := .type "tuple", dict := dd, data := .seq items n, slots := sl } ∧
      R (.ok (.ret (Value.ref l))) s) :=
  .of_wp fun prog w A R s h => by
    obtain ⟨hp, g, d, tk, os⟩ := s
    obtain ⟨hl, h⟩ := h
    have f1 := AutoSeq1.idx_int
    wp_walk using wpAny_loadPart' hl
    exact ⟨_, rfl, h⟩
section
variable {X : Cx}
def rRepA (K : PySem.W.Frag) : R2 := fun x y H Q => rRep x y H Q ∨ rRepT K x y H Q ∨ (∃ l xs, x = .ref l ∧ y = .int 1 ∧ SqT K H l xs ∧ Q (.ref l) H)
theorem op_repA : OpR X (binaryOp .Mult) (rRepA X.K) := by
  intro pins s σ H x y v u Q I rx ry h
  rcases h with h | h | h
  · exact op_rep pins s σ H x y v u Q I rx ry h
  · exact op_repT pins s σ H x y v u Q I rx ry h
  · obtain ⟨l, xs, rfl, rfl, hT, q⟩ := h
    cases rx
    obtain ⟨t, rfl⟩ := ry
    obtain ⟨its, r, ⟨⟨cls, dd, data, sl⟩, ho, hc, n, hd⟩, hs⟩ := I.tuple hT
    simp only at hc hd
    subst hc hd
    refine wpAny_binaryOp_repeat_ref (T := "tuple") (U := "int") (by decide) ⟨_, ho, rfl⟩ (fun s' => typeIs_int s' 1 t) noFill_tuple_mul F.fills_int_mul F.slot_int_rmul repeat_tuple F.slot_int_index.lookup
      (call_meets F.slot_int_rmul (typeIs_int s 1 t) F.entry_int_rmul (F.args_int_rmul_2 _ _) (int_rmul_tuple 1 t l its.toArray n dd sl)
        ⟨ho, rfl, ⟨_, ho, rfl⟩, call_meets F.slot_tuple_mul ⟨_, ho, rfl⟩ F.entry_tuple_mul (F.args_tuple_mul_2 _ _) (tuple_mul1 l its.toArray n dd sl t) ⟨ho, ?_⟩⟩)
    exact ⟨.ref l, H, I, rfl, q⟩
end
/-! ### xs * k -/
section
variable [Tabs] {K : PySem.W.Frag} {H : Hp}
theorem DpAll.rep {vs : List V} {xs : List PyData} (h : DpAll K H vs xs) : ∀ n : Nat, DpAll K H (List.replicate n vs).flatten (List.replicate n xs).flatten
  | 0 => .nil
  | n + 1 => by
    rw [List.replicate_succ, List.replicate_succ, List.flatten_cons, List.flatten_cons]
    exact DpAll.app h (DpAll.rep h n)
end
end Lf
end
section
set_option Elab.async false
set_option linter.all false
set_option maxRecDepth 100000
namespace Lf
open PySem PySem.Spec L2
/-! ### zip of two with a name for a target: the tuple handed out may be there still or not -/
end Lf
end
section
set_option Elab.async false
set_option linter.all false
set_option maxRecDepth 100000
set_option maxHeartbeats 2000000
namespace Lf
open PySem PySem.Spec L2
variable [Tabs]
/-! ### x[j][k] of a name's own list of own lists: read where it stands; x[j].append(y) -/
def rowAt (en : En) (i j : Nat) : Option (Bool × List OT × Nat × List OT) := match ownAt en i, sVar j en with
  | some (b, os), some (.int a) => (match ixN os.length a with
    | some q => (match os[q]? with
      | some (.own rs) => some (b, os, q, rs)
      | _ => none)
    | none => none)
  | _, _ => none
def eIx3 (i j k : Nat) : DE := fun en => match rowAt en i j, sVar k en with
  | some (_, _, _, rs), some (.int c) => (match ixN rs.length c with
    | some r => (match rs[r]? with
      | some (.d x) => .ok (.d x, en)
      | _ => .error .stuck)
    | none => .error .stuck)
  | _, _ => .error .stuck
/-- a name of data -/
def dVar (i : Nat) : En → Option PyData := fun en => match en[i]? with
  | some (.v (.d x)) => some x
  | some (.p (.d x)) => some x
  | _ => none
def eAppAt (i j k : Nat) : DE := fun en => match rowAt en i j, dVar k en with
  | some (b, os, q, rs), some x => if few rs.length then .ok (.d .none, en.set i (mkS b (.own (os.set q (.own (rs ++ [.d x])))))) else .error .stuck
  | _, _ => .error .stuck
end Lf
end
section
set_option Elab.async false
set_option linter.all false
set_option maxRecDepth 100000
set_option maxHeartbeats 2000000
namespace Lf
open PySem PySem.Spec L2
variable [Tabs]
/-! ### dicts of one's own: numbers by tuples of numbers -/
def lookL (kvs : List (List Int × Int)) (ks : List Int) : Option Int := (kvs.find? fun p => decide (p.1 = ks)).map (·.2)
def putL (kvs : List (List Int × Int)) (ks : List Int) (v : Int) : List (List Int × Int) :=
  if (kvs.any fun p => decide (p.1 = ks)) = true then kvs.map (fun p => if p.1 = ks then (p.1, v) else p) else kvs ++ [(ks, v)]
def keyT (ks : List Int) : List Key := ks.map Sum.inl
/-- the dict of a name -/
def dicS : Slot → Option (Bool × Bool × List (List Int × Int))
  | .v (.dic t kvs) => some (false, t, kvs)
  | .p (.dic t kvs) => some (true, t, kvs)
  | _ => none
def dicAt (en : En) (i : Nat) : Option (Bool × Bool × List (List Int × Int)) := en[i]?.bind dicS
/-! ### {}, d[k], d.get(k, x), d[k] = v with k a tuple that is written out -/
def eDicT : DE := fun en => .ok (.dic true [], en)
def dDPutT (i : Nat) (da : DE) (dr : DA) : DS := fun en => bd (da en) fun p => match frz p.1, dicAt p.2 i with
  | some (.int v), some _ => bd (dr p.2) fun q => (match (frzs q.1).bind ints?, dicAt q.2 i with
    | some ks, some (b, true, kvs) => if few q.1.length && few kvs.length then .ok (.nx, q.2.set i (mkS b (.dic true (putL kvs ks v)))) else .error .stuck
    | _, _ => .error .stuck)
  | _, _ => .error .stuck
end Lf
end
section
set_option Elab.async false
set_option linter.all false
set_option maxRecDepth 100000
set_option maxHeartbeats 3200000
namespace Lf
open PySem PySem.Spec L2 PySem.Calls PyProof.Rows
/-! ### set([..]) of whole numbers, for sorted(set([..])) -/
end Lf
end
section
set_option Elab.async false
set_option linter.all false
set_option maxRecDepth 100000
set_option maxHeartbeats 2000000
namespace Lf
open PySem PySem.Spec L2
/-! sorted, without the same twice -/
/-! x is False, x is True -/
end Lf
end
section
set_option Elab.async false
set_option linter.all false
set_option maxRecDepth 100000
set_option maxHeartbeats 2000000
/-! ### data that are shown, compared: bounds by shape -/
namespace Lf
open PySem PySem.Spec L2
mutual
/-- what data cost when they are shown -/
def cost : PyData → Nat
  | .none => 4
  | .bool _ => 5
  | .int i => if i.natAbs < 10 ^ 60 then 61 else if i.natAbs < 10 ^ 500 then 501 else 1000000
  | .str s => if PyData.strOk (PyData.shown (.str s)) = true then (PyData.shown (.str s)).length else 1000000
  | .list xs => costs xs + 2
  | .tuple xs => costs xs + 3
  | .dict _ => 1000000
def costs : List PyData → Nat
  | [] => 0
  | x :: xs => cost x + 2 + costs xs
end
/-- data of bounded cost and depth -/
structure Nice (k d : Nat) (x : PyData) : Prop where
  c : PyData.canLay0 x = true
  k : cost x ≤ k
  d : PyData.depth x ≤ d
theorem Nice.mono {k d k' d' : Nat} {x : PyData} (h : Nice k d x) (a : k ≤ k') (b : d ≤ d') : Nice k' d' x := ⟨h.c, Nat.le_trans h.k a, Nat.le_trans h.d b⟩
end Lf
end
section
set_option Elab.async false
set_option linter.all false
set_option maxRecDepth 100000
set_option maxHeartbeats 2000000
namespace Cp
open PySem PySem.Spec L2 Lf
def D_is_whole : DS := (dRt (eAn (eTyIs "int" (eVar 0)) (eOp2 fGe (eVar 0) (eD (.int 0)))))
def f_is_whole : DF := dFn [false] 0 D_is_whole
def D_is_short_tuple : DS := (dRt (eAn (eTyIs "tuple" (eVar 0)) (eChn fLe fLe (eD (.int 1)) (eLen (eVar 0)) (eD (.int 8)))))
def f_is_short_tuple : DF := dFn [false] 0 D_is_short_tuple
def D_is_row : DS := (dRt (eAn (eCl 1 f_is_short_tuple (aCons (eVar 0) aNil)) (eAll [1] (iSq (eVar 0)) (gNm 1) tYs (eCl 1 f_is_whole (aCons (eVar 1) aNil)))))
def f_is_row : DF := dFn [false] 1 D_is_row
def D_is_hall : DS := (dSq (dIf (tOr' (tNt (tV (eCl 1 f_is_short_tuple (aCons (eVar 0) aNil)))) (tNt (tV (eAll [1] (iSq (eVar 0)) (gNm 1) tYs (eCl 1 f_is_row (aCons (eVar 1) aNil)))))) (dRt (eD (.bool false))) dNx) (dRt (eAll [1] (iSq (eVar 0)) (gNm 1) tYs (eOp2 fEq (eLen (eVar 1)) (eLen (eIx (eVar 0) (eD (.int 0))))))))
def f_is_hall : DF := dFn [false] 1 D_is_hall
def D_is_day : DS := (dSq (dIf (tOr' (tV (eTyNot "list" (eVar 1))) (tV (eOp2 fNe (eLen (eVar 1)) (eLen (eIx (eVar 0) (eD (.int 0))))))) (dRt (eD (.bool false))) dNx) (dSq (dIf (tNt (tV (eAll [2] (iSq (eVar 1)) (gNm 2) tYs (eCl 1 f_is_whole (aCons (eVar 2) aNil))))) (dRt (eD (.bool false))) dNx) (dRt (eAll [3] (iR2 (aCons (eD (.int 1)) (aCons (eLen (eVar 1)) aNil))) (gNm 3) tYs (eOp2 fLe (eIx (eVar 1) (eOp2 fSub (eVar 3) (eD (.int 1)))) (eIx (eVar 1) (eVar 3)))))))
def f_is_day : DF := dFn [false, false] 2 D_is_day
def D_check_hall : DS := (dIf (tNt (tV (eCl 1 f_is_hall (aCons (eVar 0) aNil)))) (fun _ => .error .stuck) dNx)
def f_check_hall : DF := dFn [false] 0 D_check_hall
def D_check_day : DS := (dIf (tNt (tV (eCl 2 f_is_day (aCons (eVar 0) (aCons (eVar 1) aNil))))) (fun _ => .error .stuck) dNx)
def f_check_day : DF := dFn [false, false] 0 D_check_day
def D_check_customer : DS := (dIf (tOr' (tNt (tV (eCl 1 f_is_whole (aCons (eVar 1) aNil)))) (tV (eOp2 fGe (eVar 1) (eLen (eIx (eVar 0) (eD (.int 0))))))) (fun _ => .error .stuck) dNx)
def f_check_customer : DF := dFn [false, false] 0 D_check_customer
def D_served : DS := (dSq (dSet 2 (eD (.int 0))) (dSq (dSet 3 (eLst aNil)) (dSq (dFor (iZ2 (aCons (eVar 0) (aCons (eVar 1) aNil))) (gTp [4, 5]) (dSq (dSet 2 (eOp2 fAdd (eCb fMax2 (aCons (eVar 2) (aCons (eVar 5) aNil))) (eVar 4))) (dEx (eApp 3 (eVar 2))))) (dRt (eMov 3)))))
def f_served : DF := dFn [false, false] 4 D_served
def D_gone_through : DS := (dSq (dSet 2 (eLst aNil)) (dSq (dSet 3 (eVar 1)) (dSq (dFor (iSq (eVar 0)) (gNm 4) (dSq (dSet 3 (eCl 2 f_served (aCons (eVar 4) (aCons (eVar 3) aNil)))) (dEx (eApp 2 (eMovK 3))))) (dRt (eMov 2)))))
def f_gone_through : DF := dFn [false, false] 3 D_gone_through
def D_leavings : DS := (dSq (dEx (eCl 1 f_check_hall (aCons (eVar 0) aNil))) (dSq (dEx (eCl 2 f_check_day (aCons (eVar 0) (aCons (eVar 1) aNil)))) (dRt (eCl 2 f_gone_through (aCons (eVar 0) (aCons (eVar 1) aNil))))))
def f_leavings : DF := dFn [false, false] 0 D_leavings
def D_last : DS := (dRt (eIx (eCl 2 f_leavings (aCons (eVar 0) (aCons (eVar 1) aNil))) (eNeg (eD (.int 1)))))
def f_last : DF := dFn [false, false] 0 D_last
def D_cell_ahead : DS := (dSq (dAsg (gTp [3, 4]) (eVar 2)) (dSq (dIf (tV (eOp2 fEq (eVar 3) (eD (.int 0)))) (dSq (dIf (tOr' (tV (eOp2 fEq (eVar 4) (eD (.int 0)))) (tV (eOp2 fLe (eIx (eIx (eVar 0) (eD (.int 0))) (eOp2 fSub (eVar 4) (eD (.int 1)))) (eIx (eVar 1) (eVar 4))))) (dRt (eD .none)) dNx) (dRt (eTup (aCons (eD (.int 0)) (aCons (eOp2 fSub (eVar 4) (eD (.int 1))) aNil))))) dNx) (dSq (dIf (tAn (tV (eOp2 fGt (eVar 4) (eD (.int 0)))) (tV (eOp2 fGe (eIx (eIx (eVar 0) (eVar 3)) (eOp2 fSub (eVar 4) (eD (.int 1)))) (eIx (eIx (eVar 0) (eOp2 fSub (eVar 3) (eD (.int 1)))) (eVar 4))))) (dRt (eTup (aCons (eVar 3) (aCons (eOp2 fSub (eVar 4) (eD (.int 1))) aNil)))) dNx) (dRt (eTup (aCons (eOp2 fSub (eVar 3) (eD (.int 1))) (aCons (eVar 4) aNil)))))))
def f_cell_ahead : DF := dFn [false, false, false] 2 D_cell_ahead
end Cp
end
section
set_option Elab.async false
set_option linter.all false
set_option maxRecDepth 100000
set_option maxHeartbeats 2000000
namespace Ca
open PySem PySem.Spec L2 Lf
def D__law_dip : DS := (dSq (dIf (tV (eOp2 fGt (eIxS 0 (eD (.int 0))) (eD (.int 0)))) (dSq (dSet 2 (eOp2 fMod (eIxS 0 (eD (.int 0))) (eVar 1))) (dSq (dStI 0 (eOp2 fDiv (eIxS 0 (eD (.int 0))) (eVar 1)) (eD (.int 0))) (dRt (eMov 2)))) dNx) (dSq (dStI 0 (eOp2 fAdd (eIxS 0 (eD (.int 2))) (eD (.int 1))) (eD (.int 2))) (dSq (dSet 3 (eOp2 fMod (eOp2 fPow (eOp2 fAdd (eIxS 0 (eD (.int 1))) (eOp2 fMul (eD (.int 49979687)) (eIxS 0 (eD (.int 2))))) (eD (.int 3))) (eOp2 fAdd (eOp2 fPow (eD (.int 10)) (eD (.int 38))) (eD (.int 133))))) (dSq (dSet 3 (eOp2 fMod (eOp2 fPow (eOp2 fAdd (eVar 3) (eOp2 fMul (eD (.int 160481183)) (eIxS 0 (eD (.int 2))))) (eD (.int 3))) (eOp2 fAdd (eOp2 fPow (eD (.int 10)) (eD (.int 35))) (eD (.int 69))))) (dRt (eOp2 fMod (eOp2 fDiv (eVar 3) (eD (.int 131071))) (eVar 1)))))))
def f__law_dip : DF := dFn [true, false] 2 D__law_dip
def D__law_hall : DS := (dSq (dSet 4 (eClB 2 f__law_dip 0 (aCons (eD (.int 3)) aNil))) (dSq (dSet 5 (eOp2 fAdd (eD (.int 1)) (eClB 2 f__law_dip 0 (aCons (eVar 2) aNil)))) (dSq (dSet 6 (eLst aNil)) (dSq (dFor (iR1 (aCons (eOp2 fAdd (eD (.int 1)) (eClB 2 f__law_dip 0 (aCons (eVar 1) aNil))) aNil)) (gNm 7) (dSq (dSet 8 (eLst aNil)) (dSq (dFor (iR1 (aCons (eVar 5) aNil)) (gNm 9) (dEx (eApp 8 (eIx (eLst (aCons (eClB 2 f__law_dip 0 (aCons (eD (.int 4)) aNil)) (aCons (eClB 2 f__law_dip 0 (aCons (eD (.int 12)) aNil)) (aCons (eClB 2 f__law_dip 0 (aCons (eVar 3) aNil)) aNil)))) (eClB 2 f__law_dip 0 (aCons (eOp2 fAdd (eD (.int 1)) (eVar 4)) aNil)))))) (dEx (eApp 6 (eTp (eVar 8))))))) (dRt (eTp (eVar 6)))))))
def f__law_hall : DF := dFn [true, false, false, false] 6 D__law_hall
end Ca
end
section
set_option Elab.async false
set_option linter.all false
set_option maxRecDepth 100000
set_option maxHeartbeats 2000000
namespace Pl
open PySem PySem.Spec L2 Lf Cp Ca
abbrev I (i : Int) : OT := .d (.int i)
abbrev W (a b c : Int) : OT := .own [I a, I b, I c]
theorem bits_le {i : Int} {k : Nat} (h : i.natAbs < 2 ^ k) : Builtin.Int.intBits i ≤ k := by
  unfold Builtin.Int.intBits
  split
  · omega
  · rename_i h0
    have := (Nat.log2_lt (by simpa using h0)).mpr h
    omega
theorem log_le {i : Int} {k : Nat} (h : i.natAbs < 2 ^ k) : i.natAbs.log2 ≤ k := by
  by_cases h0 : i.natAbs = 0
  · rw [h0]; simp [Nat.log2_def]
  · exact Nat.le_of_lt ((Nat.log2_lt h0).mpr h)
theorem pow_ok {i : Int} (h : i.natAbs < 2 ^ 200) : (Builtin.Int.intBits i : Int) * 3 ≤ 2 ^ 27 := by
  have := bits_le h
  omega
/-- a well: three numbers, of which the last one has come to t at the most -/
def WOk (t : Int) (o : OT) : Prop := ∃ a b c, o = W a b c ∧ 0 ≤ a ∧ (0 ≤ b ∧ b < 10 ^ 40) ∧ 0 ≤ c ∧ c ≤ t
theorem WOk.mono {t u : Int} {o : OT} (h : WOk t o) (hu : t ≤ u) : WOk u o := by
  obtain ⟨a, b, c, e, h1, h2, h3, h4⟩ := h
  exact ⟨a, b, c, e, h1, h2, h3, by omega⟩
end Pl
end
section
set_option Elab.async false
set_option linter.all false
set_option maxRecDepth 100000
set_option maxHeartbeats 2000000
namespace Pl
open PySem PySem.Spec L2 Lf Cp Ca
theorem inR_nat {n : Nat} (h : n ≤ 1000) : inR (n : Int) = true := by
  have h2 : (n : Int) ≤ 1000 := by omega
  have h1 : (0 : Int) ≤ n := by omega
  generalize (n : Int) = z at h1 h2
  exact decide_eq_true ⟨by omega, by omega⟩
theorem forD_inv {g : DG} {body : DS} (P : Nat → En → Prop) : ∀ (xs : List PyData) (k : Nat) (en : En), P k en → (∀ (i : Nat) (x : PyData) (e : En), xs[i]? = some x → P (k + i) e → ∃ e1 e2, g x e = some e1 ∧ body e1 = .ok (.nx, e2) ∧ P (k + i + 1) e2) → ∃ e', forD g body xs en = .ok (.nx, e') ∧ P (k + xs.length) e'
  | [], k, en, h, _ => ⟨en, rfl, h⟩
  | x :: xs, k, en, h, st => by
    obtain ⟨e1, e2, h1, h2, h3⟩ := st 0 x en rfl h
    obtain ⟨e', h4, h5⟩ := forD_inv P xs (k + 1) e2 h3 fun i y e hy hp => by
      have := st (i + 1) y e (by simpa using hy)
      rw [show k + (i + 1) = k + 1 + i by omega] at this
      exact this hp
    refine ⟨e', by simp [forD, h1, h2, bd, h4], ?_⟩
    rw [show k + (x :: xs).length = k + 1 + xs.length by simp; omega]
    exact h5
theorem forR {g : DG} {body : DS} {en : En} (P : Nat → En → Prop) (n : Nat) (h0 : P 0 en) (st : ∀ (i : Nat) (e : En), i < n → P i e → ∃ e1 e2, g (.int i) e = some e1 ∧ body e1 = .ok (.nx, e2) ∧ P (i + 1) e2) : ∃ e', forD g body (rng 0 n) en = .ok (.nx, e') ∧ P n e' := by
  obtain ⟨e', h1, h2⟩ := forD_inv P (rng 0 n) 0 en h0 fun i x e hx hp => by
    obtain ⟨hi, rfl⟩ : i < n ∧ .int i = x := by
      obtain ⟨hj, rfl⟩ := List.getElem?_eq_some_iff.mp hx
      have hn : i < n := by simpa [rng] using hj
      exact ⟨hn, by simp [rng]⟩
    rw [Nat.zero_add] at hp ⊢
    exact st i e hi hp
  refine ⟨e', h1, ?_⟩
  simpa [rng] using h2
theorem WOk.noFr {t : Int} {o : OT} (h : WOk t o) : noFr o = true := by
  obtain ⟨a, b, c, rfl, _⟩ := h
  simp [Lf.noFr, noFrs]
/-- a name that may be unbound -/
def sl : Option OT → Slot
  | some o => .v o
  | none => .un
def hEn (o : OT) (cu cs wide lean many : Int) (rows : List OT) (s7 s8 s9 : Option OT) : En := [.p o, .v (I cu), .v (I cs), .v (I wide), .v (I lean), .v (I many), .v (.own rows), sl s7, sl s8, sl s9]
/-- a row of n numbers below wide -/
def ROk (n : Nat) (wide : Int) (r : List Int) : Prop := r.length = n ∧ ∀ x ∈ r, 0 ≤ x ∧ x < wide
abbrev rowP (r : List Int) : PyData := .tuple (r.map .int)
theorem frzs_d : ∀ xs : List PyData, frzs (xs.map .d) = some xs
  | [] => rfl
  | x :: xs => by simp [frzs, frz, frzs_d xs]
theorem frzs_I (xs : List Int) : frzs (xs.map I) = some (xs.map .int) := by
  have := frzs_d (xs.map .int)
  rw [List.map_map] at this
  exact this
theorem st1 {o : OT} {cu cs wide lean many : Int} {rows : List OT} {s7 s8 s9 : Option OT} : dSet 8 (eLst aNil) (hEn o cu cs wide lean many rows s7 s8 s9) = .ok (.nx, hEn o cu cs wide lean many rows s7 (some (.own [])) s9) := by
  have hk0 : few 0 = true := rfl
  cases s8 <;> simp [dSet, eLst, aNil, bd, hk0, hEn, sl, stor]
theorem dFor_I {da : DA} {g : DG} {B : DS} {en en' : En} {j : Int} (h1 : da en = .ok ([I j], en')) (hj : inR j = true) : dFor (iR1 da) g B en = forD g B (rng 0 j.toNat) en' := by simp [dFor, iR1, h1, bd, hj]
theorem dFor_N {da : DA} {g : DG} {B : DS} {en en' : En} {n : Nat} (h1 : da en = .ok ([I n], en')) (hn : n ≤ 1000) : dFor (iR1 da) g B en = forD g B (rng 0 n) en' := by
  have := dFor_I (g := g) (B := B) h1 (inR_nat hn)
  rw [Int.toNat_natCast] at this
  exact this
theorem st2 {o : OT} {cu cs wide lean : Int} {n : Nat} {rows : List OT} {s7 s8 s9 : Option OT} {B : DS} (hn : n ≤ 8) : dFor (iR1 (aCons (eVar 5) aNil)) (gNm 9) B (hEn o cu cs wide lean n rows s7 s8 s9) = forD (gNm 9) B (rng 0 n) (hEn o cu cs wide lean n rows s7 s8 s9) := dFor_N rfl (by omega)
theorem dSq_ok {d e : DS} {en e1 : En} (h : d en = .ok (.nx, e1)) : dSq d e en = e e1 := by simp [dSq, h, bd]
end Pl
end
section
set_option Elab.async false
set_option linter.all false
set_option maxRecDepth 100000
set_option maxHeartbeats 2000000
namespace Pl
open PySem PySem.Spec L2 Lf Cp Ca
/-- n times that don't fall, none over top -/
def TOk (n : Nat) (most : Int) (r : List Int) : Prop := r.length = n ∧ r.Pairwise (· ≤ ·) ∧ ∀ x ∈ r, 0 ≤ x ∧ x ≤ most
end Pl
end
section
set_option Elab.async false
set_option linter.all false
set_option maxRecDepth 100000
set_option maxHeartbeats 2000000
namespace Pl
open PySem PySem.Spec L2 Lf Cp Ca
theorem allD_true {vs : List Nat} {g : DG} {te : DE} {en : En} : ∀ (xs : List PyData), (∀ x ∈ xs, ∃ e2 e3, g x en = some e2 ∧ te e2 = .ok (.d (.bool true), e3) ∧ wipeE vs e3 = some en) → allD vs g tYs te xs en = .ok (true, en)
  | [], _ => rfl
  | x :: xs, h => by
    obtain ⟨e2, e3, h1, h2, h3⟩ := h x (List.mem_cons_self ..)
    have := allD_true (te := te) xs fun y hy => h y (List.mem_cons_of_mem _ hy)
    simp [allD, h1, tYs, bd, nx, h2, h3]
    simpa [tYs] using this
abbrev yes : OT := .d (.bool true)
theorem is_whole {i : Int} (h : 0 ≤ i) : f_is_whole [I i] = .ok (yes, [.hole]) := by
  simp [f_is_whole, D_is_whole, dFn, mkEn, dRt, eAn, eTyIs, eVar, bd, frz, tyOf, eOp2, eD, fGe, fI, h, outs, fin, noFrs, noFr]
theorem is_short_tuple {xs : List PyData} (h1 : 1 ≤ xs.length) (h8 : xs.length ≤ 8) : f_is_short_tuple [.d (.tuple xs)] = .ok (yes, [.hole]) := by
  have a : (1 : Int) ≤ xs.length := by omega
  have b : (xs.length : Int) ≤ 8 := by omega
  simp [f_is_short_tuple, D_is_short_tuple, dFn, mkEn, dRt, eAn, eTyIs, eVar, bd, frz, tyOf, eChn, eLen, dlen, eD, fLe, fI, a, b, outs, fin, noFrs, noFr]
theorem is_row {n : Nat} {wide : Int} {r : List Int} (h : ROk n wide r) (h1 : 1 ≤ n) (h8 : n ≤ 8) : f_is_row [.d (rowP r)] = .ok (yes, [.hole]) := by
  have a := is_short_tuple (xs := r.map .int) (by simp [h.1, h1]) (by simp [h.1, h8])
  have b : allD [1] (gNm 1) tYs (eCl 1 f_is_whole (aCons (eVar 1) aNil)) (r.map .int) [.v (.d (rowP r)), .un] = .ok (true, [.v (.d (rowP r)), .un]) := by
    refine allD_true _ fun x hx => ?_
    obtain ⟨i, hi, rfl⟩ := List.mem_map.mp hx
    have := is_whole (h.2 i hi).1
    exact ⟨[.v (.d (rowP r)), .v (I i)], [.v (.d (rowP r)), .v (I i)], rfl, by simp [eCl, aCons, eVar, aNil, bd, ar, noFrs, noFr, this], rfl⟩
  simp [f_is_row, D_is_row, dFn, mkEn, dRt, eAn, eCl, aCons, eVar, aNil, bd, ar, noFrs, noFr, a]
  simp [eCl] at b
  simp [eAll, iSq, eVar, bd, frz, dItems, wipeE, b, okB, outs, fin, noFrs, noFr]
/-- the halls that the law makes -/
structure HOk (m n : Nat) (wide : Int) (rs : List (List Int)) : Prop where
  len : rs.length = m
  m1 : 1 ≤ m
  m8 : m ≤ 8
  n1 : 1 ≤ n
  n8 : n ≤ 8
  rows : ∀ r ∈ rs, ROk n wide r
abbrev hallP (rs : List (List Int)) : PyData := .tuple (rs.map rowP)
theorem is_hall {m n : Nat} {wide : Int} {rs : List (List Int)} (h : HOk m n wide rs) : f_is_hall [.d (hallP rs)] = .ok (yes, [.hole]) := by
  have a := is_short_tuple (xs := rs.map rowP) (by simp [h.len, h.m1]) (by simp [h.len, h.m8])
  have b : allD [1] (gNm 1) tYs (eCl 1 f_is_row (aCons (eVar 1) aNil)) (rs.map rowP) [.v (.d (hallP rs)), .un] = .ok (true, [.v (.d (hallP rs)), .un]) := by
    refine allD_true _ fun x hx => ?_
    obtain ⟨r, hr, rfl⟩ := List.mem_map.mp hx
    have := is_row (h.rows r hr) h.n1 h.n8
    exact ⟨[.v (.d (hallP rs)), .v (.d (rowP r))], [.v (.d (hallP rs)), .v (.d (rowP r))], rfl, by simp [eCl, aCons, eVar, aNil, bd, ar, noFrs, noFr, this], rfl⟩
  obtain ⟨r0, rs', hrs⟩ : ∃ r0 rs', rs = r0 :: rs' := by
    cases rs with
    | nil => have := h.len; have := h.m1; simp at *; omega
    | cons r0 rs' => exact ⟨_, _, rfl⟩
  have c : allD [1] (gNm 1) tYs (eOp2 fEq (eLen (eVar 1)) (eLen (eIx (eVar 0) (eD (.int 0))))) (rs.map rowP) [.v (.d (hallP rs)), .un] = .ok (true, [.v (.d (hallP rs)), .un]) := by
    refine allD_true _ fun x hx => ?_
    obtain ⟨r, hr, rfl⟩ := List.mem_map.mp hx
    have e1 := (h.rows r hr).1
    have e2 := (h.rows r0 (by simp [hrs])).1
    refine ⟨[.v (.d (hallP rs)), .v (.d (rowP r))], [.v (.d (hallP rs)), .v (.d (rowP r))], rfl, ?_, rfl⟩
    simp [eOp2, eLen, eVar, eIx, eD, bd, dlen, atI, ixN, frz, hrs, fEq, SeqAt.shaped, PyData.eqv, PyData.canLay0, PyData.depth, e1, e2]
  simp [f_is_hall, D_is_hall, dFn, mkEn, dSq, dIf, tOr', tNt, tV, eCl, aCons, aNil, eAll, iSq, eVar, bd, ar, noFrs, noFr, a, frz, dItems, wipeE, b, c, okB, dNx, dRt, outs, fin]
end Pl
end
section
set_option Elab.async false
set_option linter.all false
set_option maxRecDepth 100000
set_option maxHeartbeats 2000000
namespace Pl
open PySem PySem.Spec L2 Lf Cp Ca
abbrev dayP (r : List Int) : PyData := .list (r.map .int)
theorem mem_rng {lo : Int} {n : Nat} {x : PyData} (h : x ∈ rng lo n) : ∃ i : Nat, i < n ∧ x = .int (lo + i) := by
  simp only [rng, List.mem_map, List.mem_range] at h
  obtain ⟨i, hi, rfl⟩ := h
  exact ⟨i, hi, rfl⟩
theorem atI_nat {α : Type} {xs : List α} {i : Nat} (h : i < xs.length) : atI xs (i : Int) = some xs[i] := by
  have a : ¬ ((i : Int) < 0) := by omega
  simp [atI, ixN, h, a]
theorem all_R2 {vs : List Nat} {da : DA} {g : DG} {te : DE} {en e1 e2 e3 : En} {i j : Int} {b : Bool} (h1 : da en = .ok ([I i, I j], e1)) (hi : inR i = true) (hj : inR j = true) (hw : wipeE vs e1 = some e2) (h : allD vs g tYs te (rng i (j - i).toNat) e2 = .ok (b, e3)) : eAll vs (iR2 da) g tYs te en = .ok (.d (.bool b), e3) := by
  simp [eAll, iR2, h1, bd, hi, hj, hw, h, okB]
theorem dIf_no {c : DT} {d e : DS} {en e1 : En} (h : c en = .ok (false, e1)) : dIf c d e en = e e1 := by simp [dIf, h, bd]
theorem dRt_ok {da : DE} {en e1 : En} {o : OT} (h : da en = .ok (o, e1)) : dRt da en = .ok (.rt o, e1) := by simp [dRt, h, bd]
theorem tV_ok {da : DE} {en e1 : En} {b : Bool} (h : da en = .ok (.d (.bool b), e1)) : tV da en = .ok (b, e1) := by simp [tV, h, bd]
theorem tNt_ok {d : DT} {en e1 : En} {b : Bool} (h : d en = .ok (b, e1)) : tNt d en = .ok (!b, e1) := by simp [tNt, h, bd]
theorem tOr_no {c d : DT} {en e1 : En} (h : c en = .ok (false, e1)) : tOr' c d en = d e1 := by simp [tOr', h, bd]
theorem fn_ok {fl : List Bool} {k : Nat} {B : DS} {os : List OT} {o : OT} {en : En} (hl : os.length = fl.length) (h : B (mkEn fl os ++ List.replicate k .un) = .ok (.rt o, en)) (hf : noFrs (o :: outs fl en) = true) : dFn fl k B os = .ok (o, outs fl en) := by
  unfold dFn fin
  simp only [hl, if_true, h, hf]
theorem is_day {m n : Nat} {wide top : Int} {rs : List (List Int)} {r : List Int} (h : HOk m n wide rs) (ht : TOk n top r) : f_is_day [.d (hallP rs), .d (dayP r)] = .ok (yes, [.hole, .hole]) := by
  obtain ⟨r0, rs', hrs⟩ : ∃ r0 rs', rs = r0 :: rs' := by
    cases rs with
    | nil => have := h.len; have := h.m1; simp at *; omega
    | cons r0 rs' => exact ⟨_, _, rfl⟩
  have e1 := ht.1
  have e2 := (h.rows r0 (by simp [hrs])).1
  have b : allD [2] (gNm 2) tYs (eCl 1 f_is_whole (aCons (eVar 2) aNil)) (r.map .int) [.v (.d (hallP rs)), .v (.d (dayP r)), .un, .un] = .ok (true, [.v (.d (hallP rs)), .v (.d (dayP r)), .un, .un]) := by
    refine allD_true _ fun x hx => ?_
    obtain ⟨i, hi, rfl⟩ := List.mem_map.mp hx
    have := is_whole (ht.2.2 i hi).1
    exact ⟨[.v (.d (hallP rs)), .v (.d (dayP r)), .v (I i), .un], [.v (.d (hallP rs)), .v (.d (dayP r)), .v (I i), .un], rfl, by simp [eCl, aCons, eVar, aNil, bd, ar, noFrs, noFr, this], rfl⟩
  have c : allD [3] (gNm 3) tYs (eOp2 fLe (eIx (eVar 1) (eOp2 fSub (eVar 3) (eD (.int 1)))) (eIx (eVar 1) (eVar 3))) (rng 1 ((n : Int) - 1).toNat) [.v (.d (hallP rs)), .v (.d (dayP r)), .un, .un] = .ok (true, [.v (.d (hallP rs)), .v (.d (dayP r)), .un, .un]) := by
    refine allD_true _ fun x hx => ?_
    obtain ⟨i, hi, rfl⟩ := mem_rng hx
    have hi1 : i + 1 < r.length := by omega
    have hi0 : i < r.length := by omega
    have q : r[i] ≤ r[i + 1] := (List.pairwise_iff_getElem.mp ht.2.1) i (i + 1) hi0 hi1 (by omega)
    have k0 : atI (r.map PyData.int) (i : Int) = some (.int r[i]) := by rw [atI_nat (by simpa using hi0)]; simp
    have k1 : atI (r.map PyData.int) ((i + 1 : Nat) : Int) = some (.int r[i + 1]) := by rw [atI_nat (by simpa using hi1)]; simp
    have z0 : (1 : Int) + i - 1 = i := by omega
    have z1 : (1 : Int) + i = ((i + 1 : Nat) : Int) := by omega
    refine ⟨[.v (.d (hallP rs)), .v (.d (dayP r)), .un, .v (I (1 + i))], [.v (.d (hallP rs)), .v (.d (dayP r)), .un, .v (I (1 + i))], rfl, ?_, rfl⟩
    have y1 : eIx (eVar 1) (eOp2 fSub (eVar 3) (eD (.int 1))) [.v (.d (hallP rs)), .v (.d (dayP r)), .un, .v (I (1 + i))] = .ok (I r[i], [.v (.d (hallP rs)), .v (.d (dayP r)), .un, .v (I (1 + i))]) := by
      simp [eIx, eVar, eOp2, eD, bd, frz, fSub, fI, z0, k0]
    have y2 : eIx (eVar 1) (eVar 3) [.v (.d (hallP rs)), .v (.d (dayP r)), .un, .v (I (1 + i))] = .ok (I r[i + 1], [.v (.d (hallP rs)), .v (.d (dayP r)), .un, .v (I (1 + i))]) := by
      rw [z1]
      simp only [eIx, eVar, bd, List.getElem?_cons_succ, List.getElem?_cons_zero, k1]
    simp [eOp2, y1, y2, bd, frz, fLe, fI, q]
  have hin1 : inR 1 = true := by decide
  have hin : inR (n : Int) = true := inR_nat (by have := h.n8; omega)
  have hd : eAll [3] (iR2 (aCons (eD (.int 1)) (aCons (eLen (eVar 1)) aNil))) (gNm 3) tYs (eOp2 fLe (eIx (eVar 1) (eOp2 fSub (eVar 3) (eD (.int 1)))) (eIx (eVar 1) (eVar 3))) [.v (.d (hallP rs)), .v (.d (dayP r)), .un, .un] = .ok (yes, [.v (.d (hallP rs)), .v (.d (dayP r)), .un, .un]) := by
    have y : aCons (eD (.int 1)) (aCons (eLen (eVar 1)) aNil) [.v (.d (hallP rs)), .v (.d (dayP r)), .un, .un] = .ok ([I 1, I n], [.v (.d (hallP rs)), .v (.d (dayP r)), .un, .un]) := by
      simp [aCons, eD, eLen, eVar, dlen, aNil, bd, e1]
    exact all_R2 y hin1 hin rfl c
  have ha : eAll [2] (iSq (eVar 1)) (gNm 2) tYs (eCl 1 f_is_whole (aCons (eVar 2) aNil)) [.v (.d (hallP rs)), .v (.d (dayP r)), .un, .un] = .ok (yes, [.v (.d (hallP rs)), .v (.d (dayP r)), .un, .un]) := by
    simp [eAll, iSq, eVar, bd, frz, dItems, wipeE, b, okB]
  have hl : (eOp2 fNe (eLen (eVar 1)) (eLen (eIx (eVar 0) (eD (.int 0))))) [.v (.d (hallP rs)), .v (.d (dayP r)), .un, .un] = .ok (.d (.bool false), [.v (.d (hallP rs)), .v (.d (dayP r)), .un, .un]) := by
    simp [eOp2, eLen, eVar, eIx, eD, bd, dlen, atI, ixN, frz, hrs, fNe, SeqAt.shaped, PyData.eqv, PyData.canLay0, PyData.depth, e1, e2]
  have hy : (eTyNot "list" (eVar 1)) [.v (.d (hallP rs)), .v (.d (dayP r)), .un, .un] = .ok (.d (.bool false), [.v (.d (hallP rs)), .v (.d (dayP r)), .un, .un]) := by
    simp [eTyNot, eVar, bd, frz, tyOf]
  have g1 := tOr_no (d := tV (eOp2 fNe (eLen (eVar 1)) (eLen (eIx (eVar 0) (eD (.int 0)))))) (tV_ok hy)
  have g2 := dSq_ok (e := dSq (dIf (tNt (tV (eAll [2] (iSq (eVar 1)) (gNm 2) tYs (eCl 1 f_is_whole (aCons (eVar 2) aNil))))) (dRt (eD (.bool false))) dNx) (dRt (eAll [3] (iR2 (aCons (eD (.int 1)) (aCons (eLen (eVar 1)) aNil))) (gNm 3) tYs (eOp2 fLe (eIx (eVar 1) (eOp2 fSub (eVar 3) (eD (.int 1)))) (eIx (eVar 1) (eVar 3)))))) (dIf_no (d := dRt (eD (.bool false))) (e := dNx) (g1.trans (tV_ok hl)))
  have g3 := dSq_ok (e := dRt (eAll [3] (iR2 (aCons (eD (.int 1)) (aCons (eLen (eVar 1)) aNil))) (gNm 3) tYs (eOp2 fLe (eIx (eVar 1) (eOp2 fSub (eVar 3) (eD (.int 1)))) (eIx (eVar 1) (eVar 3))))) (dIf_no (d := dRt (eD (.bool false))) (e := dNx) (tNt_ok (tV_ok ha)))
  exact fn_ok (fl := [false, false]) (k := 2) (B := D_is_day) (os := [.d (hallP rs), .d (dayP r)]) (o := yes) (en := [.v (.d (hallP rs)), .v (.d (dayP r)), .un, .un]) rfl (g2.trans (g3.trans (dRt_ok hd))) rfl
end Pl
end
section
set_option Elab.async false
set_option linter.all false
set_option maxRecDepth 100000
set_option maxHeartbeats 2000000
namespace Pl
open PySem PySem.Spec L2 Lf Cp Ca
/-! ### tools -/
def np : Slot → Bool
  | .p _ => false
  | _ => true
theorem stor_eq (i : Nat) (o : OT) (en : En) : stor i o en = match en[i]? with | some s => if np s = true then some (en.set i (.v o)) else none | none => none := by
  unfold stor
  split <;> simp_all [np]
@[simp] theorem np_v (o : OT) : np (.v o) = true := rfl
@[simp] theorem np_un : np .un = true := rfl
theorem if_max (i j : Int) : (if i < j then j else i) = max i j := by omega
theorem if_min (i j : Int) : (if j < i then j else i) = min i j := by omega
theorem few_of {n : Nat} (h : n ≤ 100000) : few n = true := decide_eq_true h
theorem noFrs_d : ∀ xs : List PyData, noFrs (xs.map .d) = true
  | [] => rfl
  | x :: xs => by simp [noFrs, noFr, noFrs_d xs]
@[simp] theorem noFrs_I (xs : List Int) : noFrs (xs.map I) = true := by
  have := noFrs_d (xs.map .int)
  rw [List.map_map] at this
  exact this
@[simp] theorem frzs_I' (xs : List Int) : frzs (xs.map I) = some (xs.map .int) := frzs_I xs
/-- a for whose items are of one kind, by what is left of them -/
theorem forD_rest {α : Type} {item : α → PyData} {g : DG} {body : DS} (P : List α → En → Prop) (st : ∀ a as en, P (a :: as) en → ∃ e1 e2, g (item a) en = some e1 ∧ body e1 = .ok (.nx, e2) ∧ P as e2) : ∀ as en, P as en → ∃ en', forD g body (as.map item) en = .ok (.nx, en') ∧ P [] en'
  | [], en, h => ⟨en, rfl, h⟩
  | a :: as, en, h => by
    obtain ⟨e1, e2, h1, h2, h3⟩ := st a as en h
    obtain ⟨en', h4, h5⟩ := forD_rest P st as e2 h3
    exact ⟨en', by simp [forD, h1, h2, bd, h4], h5⟩
/-- a list display whose items are of one kind -/
theorem lcD_map {α : Type} {item : α → PyData} {vs : List Nat} {g : DG} {te : DE} {en : En} (o : α → OT) : ∀ (as : List α) (acc : List OT), acc.length + as.length ≤ 100000 → (∀ a ∈ as, ∃ e2 e3, g (item a) en = some e2 ∧ te e2 = .ok (o a, e3) ∧ wipeE vs e3 = some en) → lcD vs g tYs te (as.map item) en acc = .ok (.own (acc ++ as.map o), en)
  | [], acc, _, _ => by simp [lcD]
  | a :: as, acc, hl, h => by
    obtain ⟨e2, e3, h1, h2, h3⟩ := h a (List.mem_cons_self ..)
    have hf : few acc.length = true := few_of (by simp at hl; omega)
    have := lcD_map (te := te) o as (acc ++ [o a]) (by simp at hl ⊢; omega) fun b hb => h b (List.mem_cons_of_mem _ hb)
    simp only [List.map_cons, lcD, h1, tYs, bd, nx, h2, h3, hf, if_true]
    simp [tYs] at this ⊢
    rw [this]
theorem zip2_map {α β : Type} (f : α → PyData) (g : β → PyData) : ∀ (xs : List α) (ys : List β), zip2 (xs.map f) (ys.map g) = (xs.zip ys).map fun p => .tuple [f p.1, g p.2]
  | [], _ => by simp [zip2]
  | _ :: _, [] => by simp [zip2]
  | x :: xs, y :: ys => by
    have := zip2_map f g xs ys
    simp [zip2] at this ⊢
    exact this
/-! ### one counter -/
def servedP : Int → List (Int × Int) → List Int
  | free, p :: ps => (max free p.2 + p.1) :: servedP (max free p.2 + p.1) ps
  | _, [] => []
abbrev servedL (rs cs : List Int) : List Int := servedP 0 (rs.zip cs)
theorem servedP_len : ∀ {free : Int} {ps : List (Int × Int)}, (servedP free ps).length = ps.length
  | _, [] => rfl
  | _, p :: ps => by simp [servedP, servedP_len (ps := ps)]
def sBody : DS := dSq (dSet 2 (eOp2 fAdd (eCb fMax2 (aCons (eVar 2) (aCons (eVar 5) aNil))) (eVar 4))) (dEx (eApp 3 (eVar 2)))
theorem served_step {A B : OT} {m c free : Int} {left : List Int} (hl : left.length ≤ 1000) : sBody [.v A, .v B, .v (I free), .v (.own (left.map I)), .v (I m), .v (I c)] = .ok (.nx, [.v A, .v B, .v (I (max free c + m)), .v (.own ((left ++ [max free c + m]).map I)), .v (I m), .v (I c)]) := by
  have hf : few left.length = true := few_of (by omega)
  simp [stor_eq, sBody, dSq, dSet, eOp2, eCb, aCons, aNil, eVar, bd, frz, frzs, fMax2, fAdd, fI, dEx, eApp, ownAt, ownS, mkS, hf, if_max]
theorem served_loop (A B : OT) (ps : List (Int × Int)) (hl : ps.length ≤ 1000) : ∃ e, forD (gTp [4, 5]) sBody (ps.map fun p => .tuple [.int p.1, .int p.2]) [.v A, .v B, .v (I 0), .v (.own []), .un, .un] = .ok (.nx, e) ∧ ∃ free s4 s5, e = [.v A, .v B, free, .v (.own ((servedP 0 ps).map I)), s4, s5] := by
  obtain ⟨e, h1, free, left, s4, s5, rfl, _, _, h2, _⟩ := forD_rest (item := fun p : Int × Int => .tuple [.int p.1, .int p.2]) (g := gTp [4, 5]) (body := sBody)
    (fun rest en => ∃ free left s4 s5, en = [.v A, .v B, .v (I free), .v (.own (left.map I)), s4, s5] ∧ np s4 = true ∧ np s5 = true ∧ left ++ servedP free rest = servedP 0 ps ∧ left.length + rest.length ≤ 1000)
    (by
      rintro ⟨m, c⟩ rest en ⟨free, left, s4, s5, rfl, n4, n5, h, hl⟩
      simp only [List.length_cons] at hl
      exact ⟨[.v A, .v B, .v (I free), .v (.own (left.map I)), .v (I m), .v (I c)], _, by simp [gTp, gNms, stor_eq, n4, n5], served_step (by omega), _, _, _, _, rfl, rfl, rfl, by simpa [servedP] using h, by simp; omega⟩)
    ps _ ⟨0, [], .un, .un, rfl, rfl, rfl, rfl, by simpa using hl⟩
  exact ⟨_, h1, .v (I free), s4, s5, by rw [← h2]; simp [servedP]⟩
theorem served {rs cs : List Int} (hl : rs.length ≤ 1000) : f_served [.d (rowP rs), .d (dayP cs)] = .ok (.own ((servedL rs cs).map I), [.hole, .hole]) := by
  obtain ⟨e, h1, free, s4, s5, rfl⟩ := served_loop (.d (rowP rs)) (.d (dayP cs)) (rs.zip cs) (by simp; omega)
  have hD : f_served = dFn [false, false] 4 (dSq (dSet 2 (eD (.int 0))) (dSq (dSet 3 (eLst aNil)) (dSq (dFor (iZ2 (aCons (eVar 0) (aCons (eVar 1) aNil))) (gTp [4, 5]) sBody) (dRt (eMov 3))))) := rfl
  rw [hD]
  generalize sBody = Bd at h1
  have f0 : few 0 = true := rfl
  simp [dFn, mkEn, dSq, dSet, eD, bd, stor_eq, eLst, aNil, aCons, f0, dFor, iZ2, eVar, frzs, frz, dItems, zip2_map, h1, dRt, eMov, outs, fin, noFrs, noFr]
/-! ### all counters -/
def goneL : List (List Int) → List Int → List (List Int)
  | r :: rs, cs => servedL r cs :: goneL rs (servedL r cs)
  | [], _ => []
theorem goneL_len : ∀ {rs : List (List Int)} {cs : List Int}, (goneL rs cs).length = rs.length
  | [], _ => rfl
  | r :: rs, cs => by simp [goneL, goneL_len (rs := rs)]
def gBody : DS := dSq (dSet 3 (eCl 2 f_served (aCons (eVar 4) (aCons (eVar 3) aNil)))) (dEx (eApp 2 (eMovK 3)))
abbrev FR (r : List Int) : OT := .fr (r.map I)
theorem fzs_I (r : List Int) : fzs (r.map I) = r.map I := by induction r <;> simp_all [fzs, fz]
theorem gone_step {A B : OT} {m : List Int} {cs : List Int} {left : List (List Int)} (hm : m.length ≤ 1000) (hl : left.length ≤ 1000) :
    gBody [.v A, .v B, .v (.own (left.map FR)), .v (.d (dayP cs)), .v (.d (rowP m))] = .ok (.nx, [.v A, .v B, .v (.own ((left ++ [servedL m cs]).map FR)), .v (.d (dayP (servedL m cs))), .v (.d (rowP m))]) := by
  have hf : few left.length = true := few_of (by omega)
  have e := served (rs := m) (cs := cs) hm
  simp [gBody, dSq, dSet, eCl, aCons, aNil, eVar, bd, ar, noFrs, noFr, e, stor_eq, dEx, eApp, ownAt, ownS, mkS, hf, eMovK, frz, fz, fzs_I]
theorem gone_loop (A B : OT) (rs : List (List Int)) (cs : List Int) (hr : ∀ r ∈ rs, r.length ≤ 1000) (hl : rs.length ≤ 1000) : ∃ e, forD (gNm 4) gBody (rs.map rowP) [.v A, .v B, .v (.own []), .v (.d (dayP cs)), .un] = .ok (.nx, e) ∧ ∃ c s4, e = [.v A, .v B, .v (.own ((goneL rs cs).map FR)), c, s4] := by
  obtain ⟨e, h1, left, c, s4, rfl, _, h2, _⟩ := forD_rest (item := rowP) (g := gNm 4) (body := gBody)
    (fun rest en => ∃ left c s4, en = [.v A, .v B, .v (.own (left.map FR)), .v (.d (dayP c)), s4] ∧ np s4 = true ∧ left ++ goneL rest c = goneL rs cs ∧ left.length + rest.length ≤ 1000 ∧ ∀ r ∈ rest, r.length ≤ 1000)
    (by
      rintro m rest en ⟨left, c, s4, rfl, n4, h, hl, hm⟩
      simp only [List.length_cons] at hl
      exact ⟨[.v A, .v B, .v (.own (left.map FR)), .v (.d (dayP c)), .v (.d (rowP m))], _, by simp [gNm, stor_eq, n4], gone_step (hm m (List.mem_cons_self ..)) (by omega), _, _, _, rfl, rfl, by simpa [goneL] using h, by simp; omega, fun r hr => hm r (List.mem_cons_of_mem _ hr)⟩)
    rs _ ⟨[], cs, .un, rfl, rfl, rfl, by simpa using hl, hr⟩
  exact ⟨_, h1, .v (.d (dayP c)), s4, by rw [← h2]; simp [goneL]⟩
abbrev OW (r : List Int) : OT := .own (r.map I)
theorem thaws_I (r : List Int) : thaws (r.map I) = r.map I := by induction r <;> simp_all [thaws, thaw]
theorem okTs_I (r : List Int) : okTs (r.map I) = true := by induction r <;> simp_all [okTs, okT, noL]
theorem thaws_FR (rs : List (List Int)) : thaws (rs.map FR) = rs.map OW := by induction rs <;> simp_all [thaws, thaw, thaws_I]
theorem okTs_FR (rs : List (List Int)) : okTs (rs.map FR) = true := by induction rs <;> simp_all [okTs, okT, okTs_I]
theorem noFrs_FR : ∀ (rs : List (List Int)), noFrs (rs.map FR) = decide (rs = [])
  | [] => rfl
  | r :: rs => by simp [noFrs, noFr]
theorem noFrs_OW (rs : List (List Int)) : noFrs (rs.map OW) = true := by induction rs <;> simp_all [noFrs, noFr]
theorem frzs_OW (rs : List (List Int)) : frzs (rs.map OW) = some (rs.map dayP) := by induction rs <;> simp_all [frzs, frz]
theorem gone_through {rs : List (List Int)} {cs : List Int} (hr : ∀ r ∈ rs, r.length ≤ 1000) (hl : rs.length ≤ 1000) : f_gone_through [.d (hallP rs), .d (dayP cs)] = .ok (.own ((goneL rs cs).map OW), [.hole, .hole]) := by
  obtain ⟨e, h1, c, s4, rfl⟩ := gone_loop (.d (hallP rs)) (.d (dayP cs)) rs cs hr hl
  have hD : f_gone_through = dFn [false, false] 3 (dSq (dSet 2 (eLst aNil)) (dSq (dSet 3 (eVar 1)) (dSq (dFor (iSq (eVar 0)) (gNm 4) gBody) (dRt (eMov 2))))) := rfl
  rw [hD]
  generalize gBody = Bd at h1
  have f0 : few 0 = true := rfl
  by_cases hn : goneL rs cs = []
  · simp [dFn, mkEn, dSq, dSet, eD, bd, stor_eq, eLst, aNil, aCons, f0, dFor, iSq, eVar, frzs, frz, dItems, h1, dRt, eMov, outs, fin, noFrs, noFr, hn]
  · simp [dFn, mkEn, dSq, dSet, eD, bd, stor_eq, eLst, aNil, aCons, f0, dFor, iSq, eVar, frzs, frz, dItems, h1, dRt, eMov, outs, fin, noFrs, noFr, noFrs_FR, hn, okTs, okT, okTs_FR, thaw, thaws_FR, thaws]
theorem check_hall {m n : Nat} {wide : Int} {rs : List (List Int)} (h : HOk m n wide rs) : f_check_hall [.d (hallP rs)] = .ok (.d .none, [.hole]) := by
  simp [f_check_hall, D_check_hall, dFn, mkEn, dIf, tNt, tV, eCl, aCons, aNil, eVar, bd, ar, noFrs, noFr, is_hall h, dNx, outs, fin]
theorem check_day {m n : Nat} {wide top : Int} {rs : List (List Int)} {r : List Int} (h : HOk m n wide rs) (ht : TOk n top r) : f_check_day [.d (hallP rs), .d (dayP r)] = .ok (.d .none, [.hole, .hole]) := by
  simp [f_check_day, D_check_day, dFn, mkEn, dIf, tNt, tV, eCl, aCons, aNil, eVar, bd, ar, noFrs, noFr, is_day h ht, dNx, outs, fin]
theorem HOk.short {m n : Nat} {wide : Int} {rs : List (List Int)} (h : HOk m n wide rs) : (∀ r ∈ rs, r.length ≤ 1000) ∧ rs.length ≤ 1000 := ⟨fun r hr => by have := (h.rows r hr).1; have := h.n8; omega, by have := h.len; have := h.m8; omega⟩
theorem leavings {m n : Nat} {wide top : Int} {rs : List (List Int)} {r : List Int} (h : HOk m n wide rs) (ht : TOk n top r) : f_leavings [.d (hallP rs), .d (dayP r)] = .ok (.own ((goneL rs r).map OW), [.hole, .hole]) := by
  have e1 := check_hall h
  have e2 := check_day h ht
  have e3 := gone_through (cs := r) h.short.1 h.short.2
  simp [f_leavings, D_leavings, dFn, mkEn, dSq, dEx, eCl, aCons, aNil, eVar, bd, ar, noFrs, noFr, e1, e2, e3, dRt, outs, fin, noFrs_OW]
def endL_ (rs : List (List Int)) : List Int := rs.getLast?.getD []
theorem atI_last {α : Type} {xs : List α} (h : xs ≠ []) : atI xs (-1) = xs.getLast? := by
  have hl : 0 < xs.length := List.length_pos_iff.mpr h
  have e : ixN xs.length (-1) = some (xs.length - 1) := by
    unfold ixN
    have : (-1 : Int) + xs.length = ((xs.length - 1 : Nat) : Int) := by omega
    simp [this]
    omega
  simp [atI, e, List.getLast?_eq_getElem?]
theorem goneL_ne {m n : Nat} {wide : Int} {rs : List (List Int)} {r : List Int} (h : HOk m n wide rs) : goneL rs r ≠ [] := fun e => by
  have := goneL_len (rs := rs) (cs := r)
  rw [e] at this
  have := h.len; have := h.m1
  simp at *; omega
theorem last {m n : Nat} {wide top : Int} {rs : List (List Int)} {r : List Int} (h : HOk m n wide rs) (ht : TOk n top r) : f_last [.d (hallP rs), .d (dayP r)] = .ok (OW (endL_ (goneL rs r)), [.hole, .hole]) := by
  have e3 := leavings h ht
  have hn := goneL_ne (r := r) h
  obtain ⟨a, ha⟩ : ∃ a, (goneL rs r).getLast? = some a := by
    cases q : (goneL rs r).getLast? with
    | none => simp at q; exact absurd q hn
    | some a => exact ⟨a, rfl⟩
  have e4 : atI ((goneL rs r).map OW) (-1) = some (OW a) := by
    rw [atI_last (by simpa using hn)]
    simp [ha]
  simp [f_last, D_last, dFn, mkEn, dRt, eIx, eNeg, eD, eCl, aCons, aNil, eVar, bd, ar, noFrs, noFr, e3, e4, outs, fin, endL_, ha]
end Pl
end
section
set_option Elab.async false
set_option linter.all false
set_option maxRecDepth 100000
set_option maxHeartbeats 2000000
/-! ### how what is run comes out, piece by piece -/
namespace Ev
open PySem PySem.Spec L2 Lf
/-- an item -/
def ixV : OT → Int → Option OT
  | .d (.list xs), k => (atI xs k).map .d
  | .d (.tuple xs), k => (atI xs k).map .d
  | .own os, k => atI os k
  | _, _ => none
def catV : PyData → PyData → Option OT
  | .list xs, .list ys => if few (xs ++ ys).length = true then some (.own ((xs ++ ys).map .d)) else none
  | .tuple xs, .tuple ys => if few (xs ++ ys).length = true then some (.d (.tuple (xs ++ ys))) else none
  | _, _ => none
def slV : PyData → Option Int → Option Int → Option OT
  | .list xs, l, u => some (.own ((cutA xs l u).map .d))
  | .tuple xs, l, u => some (.d (.tuple (cutA xs l u)))
  | _, _, _ => none
theorem ixVl {xs : List PyData} {k : Int} {x : PyData} (h : atI xs k = some x) : ixV (.d (.list xs)) k = some (.d x) := by simp [ixV, h]
theorem ixVt {xs : List PyData} {k : Int} {x : PyData} (h : atI xs k = some x) : ixV (.d (.tuple xs)) k = some (.d x) := by simp [ixV, h]
theorem ixVo {os : List OT} {k : Int} {o : OT} (h : atI os k = some o) : ixV (.own os) k = some o := by simp [ixV, h]
theorem catVl {xs ys : List PyData} (h : few (xs ++ ys).length = true) : catV (.list xs) (.list ys) = some (.own ((xs ++ ys).map .d)) := by unfold catV; simp only [h, if_true]
theorem catVt {xs ys : List PyData} (h : few (xs ++ ys).length = true) : catV (.tuple xs) (.tuple ys) = some (.d (.tuple (xs ++ ys))) := by unfold catV; simp only [h, if_true]
theorem stor_np {i : Nat} {o : OT} {en e1 : En} {s : Slot} (h : en[i]? = some s) (k : Pl.np s = true) (hr : en.set i (.v o) = e1) : stor i o en = some e1 := by simp [Pl.stor_eq, h, k, hr]
theorem frz_own {os : List OT} {xs : List PyData} (h : frzs os = some xs) : frz (.own os) = some (.list xs) := by simp [frz, h]
theorem frzs_cons {o : OT} {os : List OT} {x : PyData} {xs : List PyData} (h : frz o = some x) (k : frzs os = some xs) : frzs (o :: os) = some (x :: xs) := by simp [frzs, h, k]
section
variable {en e1 e2 e3 : En} {o p q : OT} {os ps qs : List OT} {x y z : PyData} {xs ys : List PyData} {i j : Nat} {k : Int} {da db dc : DE} {dr : DA} {b : Bool}
theorem d_ : eD x en = .ok (.d x, en) := rfl
theorem var (h : en[i]? = some (.v (.d x))) : eVar i en = .ok (.d x, en) := by simp [eVar, h]
theorem varp (h : en[i]? = some (.p (.d x))) : eVar i en = .ok (.d x, en) := by simp [eVar, h]
theorem varo (h : en[i]? = some (.v (.own os))) (f : frzs os = some xs) (hr : en.set i (.v (.d (.list xs))) = e1) : eVar i en = .ok (.d (.list xs), e1) := by simp [eVar, h, frz, f, hr]
theorem mov (h : en[i]? = some (.v o)) (hr : en.set i .un = e1) : eMov i en = .ok (o, e1) := by simp [eMov, h, hr]
theorem nil_ : aNil en = .ok ([], en) := rfl
theorem cons_ (h : da en = .ok (o, e1)) (k : dr e1 = .ok (os, e2)) : aCons da dr en = .ok (o :: os, e2) := by simp [aCons, h, k, bd]
theorem lst (h : dr en = .ok (os, e1)) (f : few os.length = true) : eLst dr en = .ok (.own os, e1) := by simp [eLst, h, bd, f]
theorem tup (h : dr en = .ok (os, e1)) (k : frzs os = some xs) (f : few os.length = true) : eTup dr en = .ok (.d (.tuple xs), e1) := by simp [eTup, h, bd, f, k]
theorem ix (h : da en = .ok (p, e1)) (g : db e1 = .ok (.d (.int k), e2)) (f : ixV p k = some o) : eIx da db en = .ok (o, e2) := by
  unfold ixV at f
  simp only [eIx, h, g, bd]
  split at f
  · obtain ⟨x, hx, rfl⟩ := Option.map_eq_some_iff.mp f
    simp [hx]
  · obtain ⟨x, hx, rfl⟩ := Option.map_eq_some_iff.mp f
    simp [hx]
  · simp [f]
  · cases f
theorem len_ {n : Nat} (h : da en = .ok (o, e1)) (f : dlen o = some n) : eLen da en = .ok (.d (.int n), e1) := by simp [eLen, h, f, bd]
theorem op2 {f : PyData → PyData → Option PyData} (h : da en = .ok (p, e1)) (g : db e1 = .ok (q, e2)) (fp : frz p = some x) (fq : frz q = some y) (hz : f x y = some z) : eOp2 f da db en = .ok (.d z, e2) := by simp [eOp2, h, g, bd, fp, fq, hz]
theorem cb {f : List PyData → Option PyData} (h : dr en = .ok (os, e1)) (fp : frzs os = some xs) (hz : f xs = some z) : eCb f dr en = .ok (.d z, e1) := by simp [eCb, h, bd, fp, hz]
theorem cl {n : Nat} {f : DF} (h : dr en = .ok (os, e1)) (hn : os.length = n) (hf : noFrs os = true) (hz : f os = .ok (o, ps)) : eCl n f dr en = .ok (o, e1) := by simp [eCl, h, bd, ar, hn, hf, hz]
theorem clB {n : Nat} {f : DF} {p' : OT} (h0 : en[i]? = some (mkS b q)) (h : dr en = .ok (os, e1)) (h1 : e1[i]? = some (mkS b p)) (hn : os.length + 1 = n) (hf : noFrs (p :: os) = true) (hz : f (p :: os) = .ok (o, p' :: ps)) (hr : e1.set i (mkS b p') = e2) : eClB n f i dr en = .ok (o, e2) := by
  subst hr
  cases b <;> simp [eClB, h, bd, ar, hn, hf, hz, h0, h1, mkS] <;> simp_all [mkS]
theorem neg (h : da en = .ok (.d (.int k), e1)) : eNeg da en = .ok (.d (.int (-k)), e1) := by simp [eNeg, h, bd]
theorem ls (h : da en = .ok (o, e1)) (f : (frz o).bind dItems = some xs) (hr : xs.map .d = os) : eLs da en = .ok (.own os, e1) := by simp [eLs, h, bd, f, hr]
theorem tp (h : da en = .ok (o, e1)) (f : (frz o).bind dItems = some xs) : eTp da en = .ok (.d (.tuple xs), e1) := by simp [eTp, h, bd, f]
theorem rep (h : da en = .ok (o, e1)) (f : frz o = some x) (g : showOk x = true) : eRep da en = .ok (.d (.str (PyData.shown x)), e1) := by simp [eRep, h, bd, f, g]
theorem cat (h : da en = .ok (p, e1)) (g : db e1 = .ok (q, e2)) (fp : frz p = some x) (fq : frz q = some y) (f : catV x y = some o) : eCat da db en = .ok (o, e2) := by
  unfold catV at f
  unfold eCat
  simp only [h, g, bd, fp, fq]
  split at f
  · split at f
    · cases f; rename_i hf; simp only [hf, if_true]
    · cases f
  · split at f
    · cases f; rename_i hf; simp only [hf, if_true]
    · cases f
  · cases f
theorem rv (h : da en = .ok (o, e1)) (f : frz o = some (.list xs)) (hr : xs.reverse.map .d = os) : eRv da en = .ok (.own os, e1) := by subst hr; simp [eRv, h, bd, f]
theorem rvT (h : da en = .ok (o, e1)) (f : frz o = some (.tuple xs)) (hr : xs.reverse = ys) : eRv da en = .ok (.d (.tuple ys), e1) := by subst hr; simp [eRv, h, bd, f]
theorem ext (h0 : ownAt en i = some (b, ps)) (h : da en = .ok (.own qs, e1)) (h1 : ownAt e1 i = some (b, os)) (f : few (os.length + qs.length) = true) (hr : e1.set i (mkS b (.own (os ++ qs))) = e2) : eExt i da en = .ok (.d .none, e2) := by simp [eExt, extK, h0, h, bd, h1, f, hr]
theorem asg {g : DG} (h : da en = .ok (o, e1)) (f : frz o = some x) (k : g x e1 = some e2) : dAsg g da en = .ok (.nx, e2) := by simp [dAsg, h, bd, f, k]
theorem par (h : dr en = .ok ([o, p], e1)) (k1 : stor i o e1 = some e2) (k2 : stor j p e2 = some e3) : dPar i j dr en = .ok (.nx, e3) := by simp [dPar, h, bd, k1, k2]
theorem aug {f : PyData → PyData → Option PyData} (h0 : sVar i en = some (.int k)) (h : da en = .ok (o, e1)) (g : frz o = some y) (hf : f (.int k) y = some z) (hr : stor i (.d z) e1 = some e2) : dAug i f da en = .ok (.nx, e2) := by simp [dAug, h0, h, bd, g, hf, hr]
theorem pno : pNo en = .ok (none, en) := rfl
theorem psm (h : da en = .ok (.d (.int k), e1)) : pSm da en = .ok (some k, e1) := by simp [pSm, h, bd]
theorem sl_ {dl dh : DP} {l u : Option Int} (h : da en = .ok (p, e1)) (h1 : dl e1 = .ok (l, e2)) (h2 : dh e2 = .ok (u, e3)) (f : frz p = some x) (g : slV x l u = some o) : eSl da dl dh en = .ok (o, e3) := by
  unfold slV at g
  simp only [eSl, h, h1, h2, bd, f]
  split at g
  · cases g; rfl
  · cases g; rfl
  · cases g
theorem app (h0 : ownAt en i = some (b, ps)) (h : da en = .ok (o, e1)) (h1 : ownAt e1 i = some (b, os)) (f : few os.length = true) (hr : e1.set i (mkS b (.own (os ++ [o]))) = e2) : eApp i da en = .ok (.d .none, e2) := by simp [eApp, h0, h, bd, h1, f, hr]
theorem rev_ (h0 : ownAt en i = some (b, ps)) (hr : en.set i (mkS b (.own ps.reverse)) = e1) : eRev i en = .ok (.d .none, e1) := by simp [eRev, h0, hr]
theorem tyIs {T t : String} (h : da en = .ok (o, e1)) (f : (frz o).bind tyOf = some t) : eTyIs T da en = .ok (.d (.bool (decide (t = T))), e1) := by simp [eTyIs, h, bd, f]
theorem tyNot {T t : String} (h : da en = .ok (o, e1)) (f : (frz o).bind tyOf = some t) : eTyNot T da en = .ok (.d (.bool (!decide (t = T))), e1) := by simp [eTyNot, h, bd, f]
/-! tests -/
theorem tv (h : da en = .ok (.d (.bool b), e1)) : tV da en = .ok (b, e1) := by simp [tV, h, bd]
theorem nt {d : DT} (h : d en = .ok (b, e1)) : tNt d en = .ok (!b, e1) := by simp [tNt, h, bd]
theorem orN {c d : DT} {r : R (Bool × En)} (h : c en = .ok (false, e1)) (k : d e1 = r) : tOr' c d en = r := by simp [tOr', h, bd, k]
theorem orY {c d : DT} (h : c en = .ok (true, e1)) : tOr' c d en = .ok (true, e1) := by simp [tOr', h, bd]
theorem anY {c d : DT} {r : R (Bool × En)} (h : c en = .ok (true, e1)) (k : d e1 = r) : tAn c d en = r := by simp [tAn, h, bd, k]
theorem anN {c d : DT} (h : c en = .ok (false, e1)) : tAn c d en = .ok (false, e1) := by simp [tAn, h, bd]
/-! statements -/
variable {d e : DS} {r : R (Fl × En)}
theorem sq (h : d en = .ok (.nx, e1)) (k : e e1 = r) : dSq d e en = r := by simp [dSq, h, bd, k]
theorem sqR (h : d en = .ok (.rt o, e1)) : dSq d e en = .ok (.rt o, e1) := by simp [dSq, h, bd]
theorem set_ (h : da en = .ok (o, e1)) (k : stor i o e1 = some e2) : dSet i da en = .ok (.nx, e2) := by simp [dSet, h, bd, k]
theorem rt (h : da en = .ok (o, e1)) : dRt da en = .ok (.rt o, e1) := by simp [dRt, h, bd]
theorem ex (h : da en = .ok (o, e1)) : dEx da en = .ok (.nx, e1) := by simp [dEx, h, bd]
theorem nx_ : dNx en = .ok (.nx, en) := rfl
theorem difY {c : DT} (h : c en = .ok (true, e1)) (k : d e1 = r) : dIf c d e en = r := by simp [dIf, h, bd, k]
theorem difN {c : DT} (h : c en = .ok (false, e1)) (k : e e1 = r) : dIf c d e en = r := by simp [dIf, h, bd, k]
theorem for_ {di : DI} {g : DG} (h : di en = .ok (xs, e1)) (k : forD g d xs e1 = r) : dFor di g d en = r := by simp [dFor, h, bd, k]
theorem forN {da : DA} {g : DG} {n : Nat} (h1 : da en = .ok ([.d (.int n)], e1)) (hn : n ≤ 1000) (k : forD g d (rng 0 n) e1 = r) : dFor (iR1 da) g d en = r := (Pl.dFor_N h1 hn).trans k
theorem stI (h : da en = .ok (o, e1)) (h0 : ownAt e1 i = some (b, ps)) (g : db e1 = .ok (.d (.int k), e2)) (h1 : ownAt e2 i = some (b, os)) (f : ixN os.length k = some j) (hr : e2.set i (mkS b (.own (os.set j o))) = e3) : dStI i da db en = .ok (.nx, e3) := by simp [dStI, h, h0, g, bd, h1, f, hr]
theorem ixS (h0 : ownAt en i = some (b, ps)) (g : db en = .ok (.d (.int k), e2)) (h1 : ownAt e2 i = some (b, os)) (f : ixN os.length k = some j) (f2 : os[j]?.bind frz = some x) (hr : e2.set i (mkS b (.own (os.set j (.d x)))) = e3) : eIxS i db en = .ok (.d x, e3) := by simp [eIxS, h0, g, bd, h1, f, f2, hr]
theorem lenS (h0 : ownAt en i = some (b, ps)) : eLenS i en = .ok (.d (.int ps.length), en) := by simp [eLenS, h0]
/-! what is walked -/
theorem iSq_ (h : da en = .ok (o, e1)) (f : (frz o).bind dItems = some xs) : iSq da en = .ok (xs, e1) := by simp [iSq, h, bd, f]
end
end Ev
end
section
set_option Elab.async false
set_option linter.all false
set_option maxRecDepth 100000
set_option maxHeartbeats 2000000
/-! xs * k of a list of one's own, k from nought on -/
namespace Lf
open PySem PySem.Spec L2 PyProof.Rows
def mulK0 (p q : OT) (e : En) : R (OT × En) := match q with
  | .d (.int k) => if 0 ≤ k ∧ k ≤ 100 then (match p with
    | .own os => (match dats os with
      | some xs => if os.length ≤ 100 then .ok (.own ((List.replicate k.toNat xs).flatten.map .d), e) else .error .stuck
      | none => .error .stuck)
    | _ => .error .stuck) else .error .stuck
  | _ => .error .stuck
def eMul0 (da db : DE) : DE := fun en => bd (da en) fun p => bd (db p.2) fun q => mulK0 p.1 q.1 q.2
section
variable [Tabs] {X : Cx} {W : WX} {a b : Expr} {da db : DE} {pos : Pos}
theorem EX_mul0 (ha : EX X W a da) (hb : EX X W b db) : EX X W (.BinOp a .Mult b pos) (eMul0 da db) :=
  PE.imp (pe_op op_repA ha hb) fun σ H Q q => by
  obtain ⟨G, F, τ, en, h, hp⟩ := q
  refine bindE h hp fun o e1 hp1 G1 H1 v s1 h1 => ?_
  refine bindE (vs := [v]) (os := [o]) h1 (hp1.mono s1) fun p e2 hp2 G2 H2 w s2 h2 => ?_
  have h2 : RX X.K G2 F τ σ H2 e2 [v, w] [o, p] := h2
  unfold mulK0 at hp2
  dsimp only at hp2
  cases p with
  | d y =>
    cases y with
    | int kk =>
      dsimp only at hp2
      split at hp2
      · rename_i hk
        have dw := RX.data (vs := []) (os := []) (RX.right (vs := [v]) (os := [o]) rfl h2) rfl
        cases dw
        cases o with
        | own os =>
          dsimp only at hp2
          cases hx : dats os with
          | none => rw [hx] at hp2; exact hp2.elim
          | some xs =>
            rw [hx] at hp2
            dsimp only at hp2
            split at hp2
            · rename_i hl
              obtain ⟨a, xs', e, hH', hl', _⟩ := h2.openL
              subst e
              obtain ⟨us, hH, hd⟩ := h2.items hx
              have eu : us = xs' := by rw [hH] at hH'; cases hH'; rfl
              subst eu
              refine .inl ⟨a, _, us, rfl, rfl, hH, by omega, by omega, ?_, fun p np => ?_⟩
              · rw [hl', sizeLine_eq]
                have := Nat.mul_le_mul hl (show kk.toNat ≤ 100 by omega)
                omega
              · exact hp2 G2 _ [.ref p] s2 (RX.newD h2.nil (DpAll.rep hd kk.toNat) np) _ rfl
            · exact hp2.elim
        | _ => exact hp2.elim
      · exact hp2.elim
    | _ => exact hp2.elim
  | _ => exact hp2.elim
end
end Lf
namespace Ev
open PySem PySem.Spec L2 Lf Pl
variable {da db : DE} {en e1 e2 : En} {p q : OT}
theorem mul0 (h : da en = .ok (p, e1)) (g : db e1 = .ok (q, e2)) {r : R (OT × En)} (hr : mulK0 p q e2 = r) : eMul0 da db en = r := by simp [eMul0, h, g, bd, hr]
/-- [z] * k -/
theorem mulZ {z : Int} {n : Nat} {w : Int} (hw : w = n) (hn : n ≤ 100) : mulK0 (.own [I z]) (I w) e2 = .ok (OW (List.replicate n z), e2) := by
  subst hw
  have e : ((n : Int)).toNat = n := by omega
  have f : (List.replicate n [PyData.int z]).flatten = (List.replicate n z).map .int := by
    clear hn e
    induction n with
    | zero => rfl
    | succ n ih => simp only [List.replicate_succ, List.flatten_cons, ih, List.map_cons]; rfl
  simp only [mulK0, dats, Option.map_some, e]
  rw [if_pos (by omega), if_pos (by simp), f, List.map_map]
  rfl
end Ev
end
section
set_option Elab.async false
set_option linter.all false
set_option maxRecDepth 100000
set_option maxHeartbeats 2000000
/-! a name that is read and stays one's own (to be handed back), min of a list of alike data, not in -/
namespace Lf
open PySem PySem.Spec L2
/-! min of a list of alike data -/
/-! in, not in of lists -/
end Lf
end
section
set_option Elab.async false
set_option linter.all false
set_option maxRecDepth 100000
set_option maxHeartbeats 2000000
/-! repr, of truths and None too -/
namespace Lf
open PySem PySem.Spec L2
end Lf
end
section
set_option Elab.async false
set_option linter.all false
set_option maxRecDepth 100000
set_option maxHeartbeats 2000000
/-! tuple(.. for .. in ..): the turns, and the list that collects -/
namespace Lf
open PySem PySem.Spec L2
end Lf
end
section
set_option Elab.async false
set_option linter.all false
set_option maxRecDepth 100000
set_option maxHeartbeats 2000000
/-! tuple(.. for .. in ..) as a function on things -/
namespace Lf
open PySem PySem.Spec L2
variable [Tabs]
def tpD (vs : List Nat) (g : DG) (tt : DT) (te : DE) : List PyData → En → List PyData → R (List PyData × En)
  | [], en, acc => .ok (acc, en)
  | x :: xs, en, acc => match g x en with
    | none => .error .stuck
    | some e2 => bd (nx (tt e2)) fun p => if p.1 = true then bd (nx (te p.2)) fun q => match q.1, wipeE vs q.2 with
        | .d y, some e5 => if few acc.length = true then tpD vs g tt te xs e5 (acc ++ [y]) else .error .stuck
        | _, _ => .error .stuck
      else match wipeE vs p.2 with
        | some e5 => tpD vs g tt te xs e5 acc
        | none => .error .stuck
def okT2 (r : R (List PyData × En)) : R (OT × En) := bd r fun r => .ok (.d (.tuple r.1), r.2)
def eTpG (vs : List Nat) (di : DI) (g : DG) (tt : DT) (te : DE) : DE := fun en => bd (di en) fun p => match wipeE vs p.2 with
  | some e2 => okT2 (tpD vs g tt te p.1 e2 [])
  | none => .error .stuck
end Lf
end
section
set_option Elab.async false
set_option linter.all false
set_option maxRecDepth 100000
set_option maxHeartbeats 2000000
/-! tuple(.. for .. in ..), its slots by number; sorted of a list of whole numbers -/
namespace Lf
open PySem PySem.Spec L2
variable [Tabs]
omit [Tabs] in
def insI (x : Int) : List Int → List Int
  | [] => [x]
  | y :: ys => if x ≤ y then x :: y :: ys else y :: insI x ys
def sortI : List Int → List Int
  | [] => []
  | x :: xs => insI x (sortI xs)
theorem insI_perm (x : Int) : ∀ l : List Int, (insI x l).Perm (x :: l)
  | [] => .refl _
  | y :: ys => by
    unfold insI
    split
    · exact .refl _
    · exact ((insI_perm x ys).cons y).trans (.swap x y ys)
theorem sortI_perm : ∀ l : List Int, (sortI l).Perm l
  | [] => .refl _
  | x :: xs => (insI_perm x (sortI xs)).trans ((sortI_perm xs).cons x)
theorem insI_pw {x : Int} : ∀ {l : List Int}, l.Pairwise (· ≤ ·) → (insI x l).Pairwise (· ≤ ·)
  | [], _ => by simp [insI]
  | y :: ys, h => by
    obtain ⟨h1, h2⟩ := List.pairwise_cons.mp h
    unfold insI
    split
    · rename_i hle
      refine List.pairwise_cons.mpr ⟨fun z hz => ?_, h⟩
      rcases List.mem_cons.mp hz with rfl | hz
      · exact hle
      · have := h1 z hz; omega
    · rename_i hgt
      refine List.pairwise_cons.mpr ⟨fun z hz => ?_, insI_pw h2⟩
      rcases List.mem_cons.mp ((insI_perm x ys).mem_iff.mp hz) with rfl | hz
      · omega
      · exact h1 z hz
theorem sortI_pw : ∀ {l : List Int}, (sortI l).Pairwise (· ≤ ·)
  | [] => by simp [sortI]
  | x :: xs => insI_pw sortI_pw
theorem sortI_uniq {a b : List Int} (h : a.Perm (b)) (ha : a.Pairwise (· ≤ ·)) : a = sortI b :=
  (h.trans (sortI_perm b).symm).eq_of_pairwise (fun x y _ _ h1 h2 => by omega) ha sortI_pw
end Lf
end
section
set_option Elab.async false
set_option linter.all false
set_option maxRecDepth 100000
set_option maxHeartbeats 2000000
/-! reversed(range(..)) as what is walked -/
namespace Lf
open PySem PySem.Spec L2
variable [Tabs]
def iRev1 (da : DE) : DI := fun en => bd (da en) fun p => match p.1 with
  | .d (.int j) => if inR j = true then .ok ((rng 0 (j - 0).toNat).reverse, p.2) else .error .stuck
  | _ => .error .stuck
def iRev2 (da db : DE) : DI := fun en => bd (da en) fun p => bd (db p.2) fun q => match p.1, q.1 with
  | .d (.int i), .d (.int j) => if inR i = true ∧ inR j = true then .ok ((rng i (j - i).toNat).reverse, q.2) else .error .stuck
  | _, _ => .error .stuck
theorem its_rev {K : PySem.W.Frag} {G : Hp} {lo : Int} {n : Nat} : ItS K G (Itc (lo + ((n : Nat) : Int) - 1) (-1) n) (rng lo n).reverse where
  go := fun i H s hi => by
    have : i < n := by simpa [rng] using hi
    exact this
  stop := fun H s => by
    have : n ≤ (rng lo n).reverse.length := by simp [rng]
    exact this
  yld := fun i H x H' G1 F τ σ en ws os hi s h y => by
    obtain ⟨rfl, y⟩ := y
    subst y
    have hn : i < n := by simpa [rng] using hi
    refine ⟨.int (lo + ((n - 1 - i : Nat) : Int)), G1, ?_, Same.refl _, h.withD ?_⟩
    · have hl : (rng lo n).length = n := by simp [rng]
      rw [List.getElem?_reverse (by omega), hl]
      simp [rng, show n - 1 - i < n by omega]
    · have : lo + (n : Int) - 1 + (i : Int) * (-1) = lo + ((n - 1 - i : Nat) : Int) := by omega
      rw [this]
      exact .int _
section
variable {X : Cx} {W : WX} {tg a b : Expr} {da db : DE} {p1 p2 pos1 pos2 : Pos}
theorem IX_rev2 (hg : Gl X "reversed") (hm : X.mg "reversed" = none) (hg2 : Gl X "range") (hm2 : X.mg "range" = none) (ha : EX X W a da) (hb : EX X W b db)
    (hs : starEach [.Call (.Name "range" p2) [a, b] [] pos2] X.env = (false, eval (.Call (.Name "range" p2) [a, b] [] pos2) X.env) :: starEach [] X.env := by rfl) (hs2 : starEach [a, b] X.env = (false, eval a X.env) :: starEach [b] X.env := by rfl)
    (hs3 : starEach [b] X.env = (false, eval b X.env) :: starEach [] X.env := by rfl) (hp2 : (backTo pos2 (starEach [b] X.env)).any (·.1) = false := by rfl) :
    IX X W tg (.Call (.Name "reversed" p1) [.Call (.Name "range" p2) [a, b] [] pos2] [] pos1) (iRev2 da db) := PI.imp (pi_revR hg hm (prg_2 hg2 hm2 ha hb hs2 hs3 hp2) hs) fun σ H Rr q => by
  obtain ⟨G, F, τ, en, h, hp⟩ := q
  refine ⟨G, F, τ, en, h, ?_⟩
  unfold iRev2 at hp
  revert hp
  match da en with
  | .error .stuck => exact fun hp => hp
  | .error (.exn c e1) => exact fun hp => hp
  | .ok (o, e1) =>
    intro hp G1 H1 vs s1 h1 v ev
    subst ev
    simp only [bd] at hp
    have h1 : RX X.K G1 F τ σ H1 e1 [v] [o] := h1
    obtain ⟨F', h1', back⟩ := h1.hold
    refine ⟨G1, F', τ, e1, h1', ?_⟩
    revert hp
    match db e1 with
    | .error .stuck => exact fun hp => hp.elim
    | .error (.exn c e2) => exact fun hp G2 H2 s2 x => hp G2 H2 (s1.trans s2) (back _ _ _ _ _ _ s2 x).nil
    | .ok (o2, e2) =>
      intro hp G2 H2 vs2 s2 h2 u ev2
      subst ev2
      have h3 : RX X.K G2 F τ σ H2 e2 (v :: [u]) (o :: [o2]) := back _ _ _ _ _ _ s2 h2
      cases o with
      | d x =>
        cases x with
        | int i =>
          cases o2 with
          | d y =>
            cases y with
            | int j =>
              dsimp only at hp
              by_cases hr : inR i = true ∧ inR j = true
              · rw [if_pos hr] at hp
                have hr1 := of_decide_eq_true hr.1
                have hr2 := of_decide_eq_true hr.2
                cases h3.data rfl
                cases RX.data (RX.right (vs := [.int i]) (os := [.d (.int i)]) (ws := [u]) (ps := [.d (.int j)]) rfl h3) rfl
                exact ⟨i, j, rfl, rfl, hr1.1, hr1.2, hr2.1, hr2.2, hp G2 H2 _ (s1.trans s2) h3.nil its_rev⟩
              · rw [if_neg hr] at hp
                exact hp.elim
            | _ => exact hp.elim
          | _ => exact hp.elim
        | _ => exact hp.elim
      | _ => exact hp.elim
end
end Lf
end
section
set_option Elab.async false
set_option linter.all false
set_option maxRecDepth 100000
set_option maxHeartbeats 2000000
/-! int(..) of truths and whole numbers; isinstance(.., T) of data -/
namespace Lf
open PySem PySem.Spec L2
variable [Tabs]
def eIsi (T : String) (da : DE) : DE := fun en => bd (da en) fun p => match (frz p.1).bind tyOf with
  | some t => (match kitB t T with
    | some b => .ok (.d (.bool b), p.2)
    | none => .error .stuck)
  | none => .error .stuck
theorem tyX_of {K : PySem.W.Frag} {H : Hp} {v : V} {x : PyData} {T : String} (h : Dp K H v x) (e : tyOf x = some T) : TyX K H v (.type T) := by
  cases x with
  | none => cases h; cases e; exact .base .non
  | bool b => cases h; cases e; exact .base (.bl b)
  | int i => cases h; cases e; exact .base (.int i)
  | str s => cases h; cases e; exact .base (.str s)
  | list xs =>
    cases e
    cases h with
    | lst hs _ =>
      rcases hs with (h | ⟨o, h⟩) | ⟨o, its, n, h1, h2, _⟩
      · exact .base (.lst h)
      · exact .base (.frz h)
      · exact .kList h1 h2
  | tuple xs =>
    cases e
    cases h with
    | tup hs _ =>
      rcases hs with (h | ⟨o, h⟩) | ⟨o, its, n, h1, h2, _⟩
      · exact .base (.tup h)
      · exact .fTuple h
      · exact .kTuple h1 h2
  | dict _ => cases e
section
variable {X : Cx} {W : WX} {a : Expr} {da : DE} {p1 p2 pos : Pos} {T : String} {x : Str}
theorem EX_isi (hg : Gl X "isinstance") (hm : X.mg "isinstance" = none) (hb : bootBuiltins "isinstance" = some (.builtin "isinstance")) (hg2 : Gl X x) (hm2 : X.mg x = none) (hv : bootBuiltins x = some (.type T)) (ha : EX X W a da)
    (hn : x ≠ "__name__" := by decide) (hd : (x == ("__debug__" : Str)) = false := by decide)
    (he : starEach [a, .Name x p2] X.env = (false, eval a X.env) :: starEach [.Name x p2] X.env := by rfl) (he2 : starEach [.Name x p2] X.env = (false, eval (.Name x p2) X.env) :: starEach [] X.env := by rfl) (hpl : (backTo pos (starEach [.Name x p2] X.env)).any (·.1) = false := by rfl) :
    EX X W (.Call (.Name "isinstance" p1) [a, .Name x p2] [] pos) (eIsi T da) :=
  PE.imp (pe_callB call_isi hg hm hb (pa_cons ha (pa_cons (pe_bltn (v := .ty T) hg2 hm2 hv rfl hn hd) pa_nil he2) he) (by decide) (by decide) he hpl) fun σ H Q q => by
  obtain ⟨G, F, τ, en, h, hp⟩ := q
  refine bindE h hp fun o e1 hp1 G1 H1 v s1 h1 => ?_
  have h1 : RX X.K G1 F τ σ H1 e1 [v] [o] := h1
  dsimp only at hp1
  split at hp1
  · rename_i t et
    split at hp1
    · rename_i b eb
      obtain ⟨y, ey, ty⟩ := Option.bind_eq_some_iff.mp et
      exact ⟨v, .ty T, .type t, .type T, b, rfl, .ty T, tyX_of (h1.data ey) ty, kit_ty eb, hp1 G1 H1 [.bl b] s1 (h1.nil.withD (.bl b)) _ rfl⟩
    · exact hp1.elim
  · exact hp1.elim
end
end Lf
end
section
set_option Elab.async false
set_option linter.all false
set_option maxRecDepth 100000
set_option maxHeartbeats 2000000
/-! dicts of one's own whose keys are whole numbers -/
namespace Lf
open PySem PySem.Spec L2
variable [Tabs]
def onesL (kvs : List (List Int × Int)) : Bool := kvs.all fun p => decide (p.1.length = 1)
def eDicK : DE := fun en => .ok (.dic false [], en)
def dDPutK (i : Nat) (da dk : DE) : DS := fun en => bd (da en) fun p => match frz p.1, dicAt p.2 i with
  | some (.int v), some _ => bd (dk p.2) fun q => (match q.1, dicAt q.2 i with
    | .d (.int k), some (b, false, kvs) => if onesL kvs = true ∧ few kvs.length = true then .ok (.nx, q.2.set i (mkS b (.dic false (putL kvs [k] v)))) else .error .stuck
    | _, _ => .error .stuck)
  | _, _ => .error .stuck
def eDGetK (i : Nat) (dk : DE) (z : Int) : DE := fun en => match dicAt en i with
  | some (_, false, _) => bd (dk en) fun p => match p.1, dicAt p.2 i with
    | .d (.int k), some (_, false, kvs) => if onesL kvs = true then .ok (.d (.int ((lookL kvs [k]).getD z)), p.2) else .error .stuck
    | _, _ => .error .stuck
  | _ => .error .stuck
end Lf
end
section
set_option Elab.async false
set_option linter.all false
set_option maxRecDepth 100000
set_option maxHeartbeats 2000000
/-! a dict of one's own walked by its keys -/
namespace Lf
open PySem PySem.Spec L2
variable [Tabs]
mutual
/-- no walked dict in it -/
def noK : OT → Bool
  | .lkd _ _ => false
  | .own xs => noKs xs
  | .tp xs => noKs xs
  | .fr xs => noKs xs
  | _ => true
def noKs : List OT → Bool
  | [] => true
  | o :: os => noK o && noKs os
end
def noKS : Slot → Bool
  | .un => true
  | .v o => noK o
  | .p o => noK o
/-! ### the statement -/
def noKF : Fl → Bool
  | .rt o => noK o
  | _ => true
def endK (i : Nat) (kvs : List (List Int × Int)) (r : R (Fl × En)) : R (Fl × En) := match r with
  | .ok (f, en) => (match en[i]? with
    | some (.p (.lkd t kvs)) => if (en.set i .un).all noKS = true ∧ noKF f = true then .ok (f, en.set i (.v (.dic t kvs))) else .error .stuck
    | _ => .error .stuck)
  | .error _ => .error .stuck
def dLk (i : Nat) (d : DS) : DS := fun en => match en[i]? with
  | some (.v (.dic t kvs)) => endK i kvs (d (en.set i (.p (.lkd t kvs))))
  | _ => .error .stuck
/-! ### its keys, an item -/
def keysK (kvs : List (List Int × Int)) : List PyData := kvs.map fun p => .int (p.1.headD 0)
def iKs (i : Nat) : DI := fun en => match en[i]? with
  | some (.p (.lkd false kvs)) => .ok (keysK kvs, en)
  | _ => .error .stuck
def eLGK (i : Nat) (dk : DE) : DE := fun en => match en[i]? with
  | some (.p (.lkd false _)) => bd (dk en) fun p => match p.1, p.2[i]? with
    | .d (.int k), some (.p (.lkd false kvs)) => if onesL kvs = true then (match lookL kvs [k] with
      | some v => .ok (.d (.int v), p.2)
      | none => .error .stuck) else .error .stuck
    | _, _ => .error .stuck
  | _ => .error .stuck
end Lf
end
section
set_option Elab.async false
set_option linter.all false
set_option maxRecDepth 100000
set_option maxHeartbeats 2000000
/-! isinstance(.., (T1, T2)); defs that call themselves -/
namespace Lf
open PySem PySem.Spec L2
variable [Tabs]
def kit2 (t T1 T2 : String) : Option Bool := match kitB t T1 with
  | some true => some true
  | some false => kitB t T2
  | none => none
def eIsi2 (T1 T2 : String) (da : DE) : DE := fun en => bd (da en) fun p => match (frz p.1).bind tyOf with
  | some t => (match kit2 t T1 T2 with
    | some b => .ok (.d (.bool b), p.2)
    | none => .error .stuck)
  | none => .error .stuck
theorem kit2_any {K : PySem.W.Frag} {t T1 T2 : String} {b : Bool} (h : kit2 t T1 T2 = some b) : PySem.W.kitAny K (.type t) [.type T1, .type T2] = some b := by
  unfold kit2 at h
  unfold PySem.W.kitAny
  split at h
  · rename_i e
    cases h
    rw [kit_ty e]
  · rename_i e
    rw [kit_ty e]
    unfold PySem.W.kitAny
    rw [kit_ty h]
    cases b <;> rfl
  · cases h
section
variable {X : Cx} {W : WX} {a : Expr} {da : DE} {p1 p2 p3 p4 pos : Pos} {T1 T2 : String} {x1 x2 : Str} {c : Nat}
theorem EX_isi2 (hg : Gl X "isinstance") (hm : X.mg "isinstance" = none) (hb : bootBuiltins "isinstance" = some (.builtin "isinstance")) (hg1 : Gl X x1) (hm1 : X.mg x1 = none) (hv1 : bootBuiltins x1 = some (.type T1)) (hg2 : Gl X x2) (hm2 : X.mg x2 = none) (hv2 : bootBuiltins x2 = some (.type T2)) (ha : EX X W a da)
    (hn1 : x1 ≠ "__name__" := by decide) (hd1 : (x1 == ("__debug__" : Str)) = false := by decide) (hn2 : x2 ≠ "__name__" := by decide) (hd2 : (x2 == ("__debug__" : Str)) = false := by decide)
    (he : starEach [a, .Tuple [.Name x1 p2, .Name x2 p3] c p4] X.env = (false, eval a X.env) :: starEach [.Tuple [.Name x1 p2, .Name x2 p3] c p4] X.env := by rfl) (he2 : starEach [.Tuple [.Name x1 p2, .Name x2 p3] c p4] X.env = (false, eval (.Tuple [.Name x1 p2, .Name x2 p3] c p4) X.env) :: starEach [] X.env := by rfl)
    (he3 : starEach [.Name x1 p2, .Name x2 p3] X.env = (false, eval (.Name x1 p2) X.env) :: starEach [.Name x2 p3] X.env := by rfl) (he4 : starEach [.Name x2 p3] X.env = (false, eval (.Name x2 p3) X.env) :: starEach [] X.env := by rfl)
    (hpl : (backTo pos (starEach [.Tuple [.Name x1 p2, .Name x2 p3] c p4] X.env)).any (·.1) = false := by rfl) :
    EX X W (.Call (.Name "isinstance" p1) [a, .Tuple [.Name x1 p2, .Name x2 p3] c p4] [] pos) (eIsi2 T1 T2 da) :=
  PE.imp (pe_callB call_isiT hg hm hb (pa_cons ha (pa_cons (pe_tup (pa_cons (pe_bltn (v := .ty T1) hg1 hm1 hv1 rfl hn1 hd1) (pa_cons (pe_bltn (v := .ty T2) hg2 hm2 hv2 rfl hn2 hd2) pa_nil he4) he3)) pa_nil he2) he) (by decide) (by decide) he hpl) fun σ H Q q => by
  obtain ⟨G, F, τ, en, h, hp⟩ := q
  refine bindE h hp fun o e1 hp1 G1 H1 v s1 h1 => ?_
  have h1 : RX X.K G1 F τ σ H1 e1 [v] [o] := h1
  dsimp only at hp1
  split at hp1
  · rename_i t et
    split at hp1
    · rename_i b eb
      obtain ⟨y, ey, ty⟩ := Option.bind_eq_some_iff.mp et
      refine ⟨by show 2 ≤ sizeLine; decide, fun p np => ?_⟩
      obtain ⟨s2, h2⟩ := h1.newG (u := .tup [.ty T1, .ty T2]) np
      exact ⟨v, p, [.ty T1, .ty T2], .type t, [.type T1, .type T2], b, rfl, upd_same, .cons (.ty T1) (.cons (.ty T2) .nil), tyX_of (h2.data ey) ty, kit2_any eb, hp1 _ _ [.bl b] (s1.trans s2) (h2.nil.withD (.bl b)) _ rfl⟩
    · exact hp1.elim
  · exact hp1.elim
end
theorem stuck_ok {P : Program} {w : World} {K : PySem.W.Frag} {mg : Str → Option Value} {base : Heap} {k : Nat} {f : Addr} {fd : FuncData} {ps : List Str} : DefOk P w K mg base k f fd ps (fun _ => .error .stuck) := by
  refine ⟨fun A out s H args us vs Q E hr hgd e0 bt rv hsp => ?_⟩
  obtain ⟨hv, G, F', os, hFb, hx, hp⟩ := hsp
  exact hp.elim
end Lf
end
section
set_option Elab.async false
set_option linter.all false
set_option maxRecDepth 100000
set_option maxHeartbeats 2000000
/-! an item of a dict that an expression gives, by a tuple that is written out -/
namespace Lf
open PySem PySem.Spec L2
end Lf
end
section
set_option Elab.async false
set_option linter.all false
set_option maxRecDepth 100000
set_option maxHeartbeats 2000000
/-! == and != of two dicts of one's own -/
namespace LfD
open PySem PySem.W PySem.Calls PyProof.Rows PyProof.V PySem.Spec
end LfD
namespace Lf
open PySem PySem.Spec L2 LfD
end Lf
end
section
set_option Elab.async false
set_option linter.all false
set_option maxRecDepth 100000
set_option maxHeartbeats 2000000
/-! a call with two names whose lists are lent -/
namespace Lf
open PySem PySem.Spec L2
end Lf
end
section
set_option Elab.async false
set_option linter.all false
set_option maxRecDepth 100000
set_option maxHeartbeats 2000000
/-! dicts asked by a tuple that is data; range with a step of -1 -/
namespace Lf
open PySem PySem.Spec L2
/-! range(i, j, -1) -/
end Lf
end
section
set_option Elab.async false
set_option linter.all false
set_option maxRecDepth 100000
set_option maxHeartbeats 2000000
/-! a call whose last argument is a name that is lent -/
namespace Lf
open PySem PySem.Spec L2
end Lf
end
section
set_option Elab.async false
set_option linter.all false
set_option maxRecDepth 100000
namespace Lf
open PySem PySem.Spec L2 PyProof PyProof.Rows
/-! ### enumerate of a list or a tuple -/
set_option maxHeartbeats 1000000 in
theorem meets_enumerate_one {v : Value} {o : Obj} {H : Heap → Prop} (B : Begins v o H) :
    Meets (Builtin.«enumerate.__new__» ⟨[.type "enumerate", v], []⟩) (fun _ R s => H s.heap ∧
      R (.ok (.ret (.ref (s.heap.push o).objs.size))) { s with heap := (s.heap.push o).push { cls := .type "enumerate", data := .fields #[.none, .bool false, .ref s.heap.objs.size, rawInt 0, .none, .none] } }) :=
  .of_wp fun prog w A R s h => by
    obtain ⟨hp, g, d, tk, os⟩ := s; obtain ⟨h1, h⟩ := h
    have hsub := sub_enumerate
    have q1 : ∀ {A' : Around} {E : Value → Shared → Prop} {Q : Value → Shared → Prop}, Q (.ref hp.objs.size) ⟨hp.push o, g, d, tk, os⟩ → wpAny (model prog w) A' (pyIter v) Q E ⟨hp, g, d, tk, os⟩ :=
      fun q => B.iter prog w _ _ ⟨hp, g, d, tk, os⟩ _ h1 q
    wp_walk using q1
    refine wpAny_stack_any fun st => wpAny_pure ?_
    split
    · rename_i c _ _ _ _ _
      cases (c == Value.type "enumerate")
      · wp_walk using q1
        exact ⟨_, rfl, h⟩
      · wp_walk using q1
        exact ⟨_, rfl, h⟩
    · wp_walk using q1
      exact ⟨_, rfl, h⟩
section
variable {prog : Program} {w : World} {A : Around} {E : Value → Shared → Prop} {s : Shared}
theorem enum_one {v : Value} {o : Obj} {H : Heap → Prop} {Q : Value → Shared → Prop} (B : Begins v o H) (h1 : H s.heap)
    (h : ∀ h', IsEnum h' (s.heap.objs.size + 1) s.heap.objs.size 0 .none → h'.get? s.heap.objs.size = some o → h'.objs.size = s.heap.objs.size + 2 →
      (∀ b o, s.heap.get? b = some o → h'.get? b = some o) → Q (.ref (s.heap.objs.size + 1)) { s with heap := h' }) :
    wpAny (model prog w) A (call (.type "enumerate") [v]) Q E s := by
  refine callType_new F.called_enumerate (by decide) (F.typeCall_enumerate_1 _) (F.newCall_enumerate_1 _) (fun obj => F.args_object_init_2 obj _) F.entry_enumerate_new
    (meets_enumerate_one B) ⟨h1, ?_⟩
  have hz : (s.heap.push o).objs.size = s.heap.objs.size + 1 := Heap.size_push ..
  show _ ∧ _
  rw [hz]
  have he : IsEnum ((s.heap.push o).push { cls := .type "enumerate", data := .fields #[.none, .bool false, .ref s.heap.objs.size, rawInt 0, .none, .none] }) (s.heap.objs.size + 1) s.heap.objs.size 0 .none := by
    have := Heap.get?_push_size (s.heap.push o) (o := { cls := .type "enumerate", data := .fields #[.none, .bool false, .ref s.heap.objs.size, rawInt 0, .none, .none] }) rfl
    rw [hz] at this; exact this
  refine ⟨⟨_, he, rfl⟩, h _ he (Heap.get?_push_of_some _ (Heap.get?_push_size _ B.free)) (by rw [Heap.size_push, hz]) fun b o x => Heap.get?_push_of_some _ (Heap.get?_push_of_some _ x)⟩
end
variable [Tabs]
def Et (K : PySem.W.Frag) (b : Bool) (a : Addr) : It :=
  ⟨fun i H => ∃ xs : List V, SqB K b H a xs ∧ i < xs.length, fun i H v H' => ∃ T x, v = .ref T ∧ H T = none ∧ H' = upd H T (.tup [.int (i : Nat), x]) ∧ ∀ xs, SqB K b H a xs → xs[i]? = some x, fun i H => ∃ xs : List V, SqB K b H a xs ∧ i = xs.length⟩
theorem turn_en {P : Program} {w : World} {K : PySem.W.Frag} {elts : List Expr} {kk : Nat} {tpos : Pos} {b : Bool} {a e it : Addr} (hne : e ≠ it) (n1 : a ≠ it) (n2 : e ≠ a) :
    Turn P w K (.Tuple elts kk tpos) (Et K b a) [e, it] e (fun i h => (∃ old, IsEnum h e it ((i : Nat) : Int) old) ∧ ItB b h it a i) where
  mem := by simp
  obj := fun i h st c hc => by
    obtain ⟨⟨old, he⟩, hi⟩ := st
    have e' : c = e ∨ c = it := by simpa using hc
    rcases e' with z | z
    · rw [z]; exact ⟨_, he, fun v q => nomatch q⟩
    · rw [z]; exact itB_obj hi
  keep := fun i h h' st k => let ⟨⟨old, he⟩, hi⟩ := st; ⟨⟨old, k e (by simp) _ he⟩, itB_at hi fun o q => k it (by simp) o q⟩
  item := by
    intro X hP hw hK hc i pins s σ H E I hf st hg
    subst hP hw hK
    obtain ⟨⟨old, he⟩, hit⟩ := st
    obtain ⟨xs, hq, hlt⟩ := hg
    obtain ⟨its, rv, p, hz⟩ := srcB I hq
    have el := rv.length
    obtain ⟨u, hu, ru⟩ := rv.get (List.getElem?_eq_getElem hlt)
    have hel : e < s.heap.objs.size := Heap.lt_size he
    have hil : it < s.heap.objs.size := by obtain ⟨o, q, _⟩ := itB_obj hit; exact Heap.lt_size q
    have D := drawsB (prog := X.prog) (w := X.w) (A := X.A.in1) (I.ok.hd hc) b it a n1 its.toArray
    refine wpAny_pyNext_enum_itemD D he ⟨hit, p⟩ (by simp only [List.size_toArray]; omega) hne (by simp only [List.mem_cons, List.not_mem_nil, or_false, not_or]; exact ⟨hne, n2⟩) fun x h' tk hx ho st' hT hsz hk => ?_
    have ex : x = u := by
      have q : its[i]? = some x := by simpa using hx
      exact Option.some.inj (q.symm.trans hu)
    subst ex
    refine ⟨_, rfl, wpAny_letOwnedTupleGo_enum (s := { s with heap := h', toks := tk + 1 }) ho fun h'' he' sb => ?_⟩
    have hT2 : h''.get? s.heap.objs.size = some { cls := .type "tuple", data := .seq #[.int i tk, x] } := (sb.2 _ (Nat.ne_of_gt hel)).trans hT
    have new : ObjOk X.prog X.w (upd H s.heap.objs.size (.tup [.int (i : Nat), xs[i]])) h'' s.heap.objs.size (.tup [.int (i : Nat), xs[i]]) :=
      ⟨by show 2 ≤ sizeLine; decide, [.int i tk, x], .cons ⟨_, rfl⟩ (.cons ru .nil), ⟨_, hT2, rfl, _, rfl⟩⟩
    have I1 : Inv X pins σ (upd H s.heap.objs.size (.tup [.int (i : Nat), xs[i]])) { s with heap := h'', toks := tk + 1 } :=
      I.turnedNew (t' := tk + 1) (ch := [e, it]) (fun c ob hb q => (sb.2 c (fun z => hb (by simp [z]))).trans (hk c ob (fun z => hb (by simp [z])) (fun z => hb (by simp [z])) q)) hf (Nat.le_refl _) new
    refine ⟨.ref s.heap.objs.size, _, I1, rfl, ⟨_, xs[i], rfl, I.hok.fresh (Nat.le_refl _), rfl, fun ys hy => by rw [srcB_inj I hy hq]; exact List.getElem?_eq_getElem _⟩, ⟨⟨x, ?_⟩, itB_at st'.1 fun o q => (sb.2 it (Ne.symm hne)).trans q⟩, fun c hb => ?_⟩
    · have e1 : ((i + 1 : Nat) : Int) = (i : Int) + 1 := by omega
      rw [e1]; exact he'
    · have hb' : c < s.heap.objs.size := by
        have e' : c = e ∨ c = it := by simpa using hb
        rcases e' with z | z
        · rw [z]; exact hel
        · rw [z]; exact hil
      rw [upd_ne (Nat.ne_of_lt hb')]
      exact (hf c hb).1
  done := by
    intro X hP hw hK hc i pins s σ H E I hf st hg
    subst hP hw hK
    obtain ⟨⟨old, he⟩, hit⟩ := st
    obtain ⟨xs, hq, hx⟩ := hg
    obtain ⟨its, rv, p, hz⟩ := srcB I hq
    have hl := rv.length
    have D := drawsB (prog := X.prog) (w := X.w) (A := X.A.in1) (I.ok.hd hc) b it a n1 its.toArray
    have ei : i = its.toArray.size := by simp only [List.size_toArray]; omega
    refine wpAny_pyNext_enum_endD D he (by rw [← ei]; exact ⟨hit, p⟩) fun h' eb => ⟨rfl, I.turnedL (t' := s.toks) (ch := [e, it]) (fun c o hb q => eb c o (fun z => hb (by simp [z])) q) hf⟩
  self := fun A i s Q E st h => let ⟨⟨_, he⟩, _⟩ := st; wpAny_pyIter_enum he h
def iEnB (K : PySem.W.Frag) (ta : TA) : TI := fun σ H R => ta σ H fun vs H1 => ∃ b a xs, vs = [.ref a] ∧ SqB K b H1 a xs ∧ R (Et K b a) H1
theorem pi_enB {X : Cx} {e : Expr} {ta : TA} {p pos tpos : Pos} {elts : List Expr} {kk : Nat} (hg : Gl X "enumerate") (hm : X.mg "enumerate" = none) (ha : PA X [e] ta) (hs : starEach [e] X.env = [(false, eval e X.env)] := by rfl) :
    PI X (.Tuple elts kk tpos) (.Call (.Name "enumerate" p) [e] [] pos) (iEnB X.K ta) := by
  refine ⟨fun pins s σ H R I h => ?_⟩
  refine PyProof.Rows.Call_ (ld_blt I hg hm boot_enumerate (PyProof.Rows.callWith_type1 (thn (ha.run pos pins s σ H _ I h) fun us s1 ⟨vs, H1, I1, r1, q1⟩ => ?_) hs rfl))
  obtain ⟨b, a, xs, ex, hq, q⟩ := q1
  subst ex
  cases r1 with
  | cons r rr =>
    cases rr
    cases r
    obtain ⟨its, rv, p', hz⟩ := srcB I1 hq
    refine enum_one (beginsB b a its.toArray) p' fun h' he hit hsz hk => wpAny_pyIter_enum he ?_
    have I2 : Inv X pins σ H1 { s1 with heap := h' } := I1.kept (t' := s1.toks) hk
    refine ⟨s1.heap.objs.size + 1, [s1.heap.objs.size + 1, s1.heap.objs.size], _, _, H1, rfl, I2, turn_en (b := b) (a := a) (e := s1.heap.objs.size + 1) (it := s1.heap.objs.size) (Nat.succ_ne_self _) (Nat.ne_of_lt hz) (Ne.symm (Nat.ne_of_lt (Nat.lt_succ_of_lt hz))), ⟨⟨.none, he⟩, itB_begun hit⟩, fun c hb => ?_, q⟩
    have e' : c = s1.heap.objs.size + 1 ∨ c = s1.heap.objs.size := by simpa using hb
    have hle : s1.heap.objs.size ≤ c := by
      rcases e' with z | z
      · rw [z]; exact Nat.le_add_right _ _
      · rw [z]; exact Nat.le_refl _
    exact I1.fpOk hle (I1.hok.fresh hle)
def enumL (xs : List PyData) : List PyData := zip2 ((List.range xs.length).map fun i : Nat => .int (i : Int)) xs
theorem its_en {K : PySem.W.Frag} {G : Hp} {b : Bool} {a : Addr} {vs : List V} {xs : List PyData} (h1 : SqB K b G a vs) (d1 : DpAll K G vs xs) : ItS K G (Et K b a) (enumL xs) where
  go := fun i H s hi => ⟨vs, sqB_same s h1, by rw [DpAll.length d1]; simpa [enumL, zip2] using hi⟩
  stop := fun H s => ⟨vs, sqB_same s h1, by rw [DpAll.length d1]; simp [enumL, zip2]⟩
  yld := fun i H x H' G1 F τ σ en us os hi s h y => by
    obtain ⟨T, x1, rfl, hT, rfl, f1⟩ := y
    obtain ⟨y1, g1, k1⟩ := DpAll.get' d1 (f1 vs (sqB_same (s.trans h.same) h1))
    obtain ⟨s3, h3⟩ := h.newG (u := .tup [.int (i : Nat), x1]) hT
    have hi' : i < xs.length := (List.getElem?_eq_some_iff.mp g1).1
    exact ⟨.tuple [.int (i : Nat), y1], _, by unfold enumL zip2; rw [List.getElem?_zipWith, g1]; simp [hi'], s3, h3.withD (.tup (SqT.of upd_same) (.cons (.int _) (.cons (dp_same (s.trans s3) _ _ k1) .nil)))⟩
def iEn (da : DA) : DI := fun en => bd (da en) fun p => match frzs p.1 with
  | some [x] => (match dItems x with
    | some xs => .ok (enumL xs, p.2)
    | _ => .error .stuck)
  | _ => .error .stuck
section
variable {X : Cx} {W : WX} {e : Expr} {elts : List Expr} {kk : Nat} {tpos p pos : Pos} {da : DA}
theorem IX_en (hg : Gl X "enumerate") (hm : X.mg "enumerate" = none) (ha : AX X W [e] da) (hs : starEach [e] X.env = [(false, eval e X.env)] := by rfl) :
    IX X W (.Tuple elts kk tpos) (.Call (.Name "enumerate" p) [e] [] pos) (iEn da) := PI.imp (pi_enB hg hm ha hs) fun σ H Rr q => by
  obtain ⟨G, F, τ, en, h, hp⟩ := q
  refine bindAI (X := X) h hp fun o e1 hp1 G1 H1 v s1 h1 => ?_
  dsimp only at hp1
  split at hp1
  · rename_i xs e2 hx
    split at hx
    · rename_i x ex
      split at hx
      · rename_i ys ey
        cases hx
        obtain ⟨G2, s2, dv, h2⟩ := h1.freezeA ex
        cases dv with
        | cons d1 d2 =>
          cases d2
          obtain ⟨b, a1, vs1, rfl, k1, l1⟩ := dp_items d1 ey
          exact ⟨b, a1, vs1, rfl, sqB_same h2.same k1, hp1 G2 H1 _ (s1.trans s2) h2 (its_en k1 l1)⟩
      · cases hx
    · cases hx
  · exact hp1.elim
  · rename_i c e2 hx
    split at hx
    · split at hx <;> cases hx
    · cases hx
end
/-! ### x[j][k] = e, x a name's own list of own lists -/
end Lf
end
section
set_option Elab.async false
set_option linter.all false
set_option maxRecDepth 100000
set_option maxHeartbeats 1000000
/-! zip of any number of tuples, drawn one after the other: at the model's own level -/
namespace Zs
open PySem
open Sem (wp)
theorem forIn_list {M : Model} {A : Around} {E : Value → Shared → Prop} {α β : Type} (f : α → β → Sem (ForInStep β)) (I : List α → β → Shared → Prop) (Q : β → Shared → Prop)
    (h : ∀ (x : α) (rest : List α) (b : β) (s : Shared), I (x :: rest) b s → wpAny M A (f x b) (fun r s' => match r with | .yield b' => I rest b' s' | .done b' => Q b' s') E s)
    (he : ∀ b s, I [] b s → Q b s) : ∀ (xs : List α) (b : β) (s : Shared), I xs b s → wpAny M A (forIn xs b f) Q E s
  | [], b, s, i => by rw [List.forIn_nil]; exact wpAny_pure (he b s i)
  | x :: xs, b, s, i => by
    rw [List.forIn_cons]
    refine wpAny_bind (wpAny_mono (h x xs b s i) (fun r s' q => ?_) fun _ _ x => x)
    cases r with
    | yield b' => exact forIn_list f I Q h he xs b' s' q
    | done b' => exact wpAny_pure q
section
variable {prog : Program} {w : World} {A : Around} {E : Value → Shared → Prop}
/-- the cells of a zip of m tuples, made from N on: the iterators, their tuple, its own tuple, itself -/
structure Zt (h : Heap) (N : Nat) (ls : List Addr) (f0 : Value) (k : Nat) : Prop where
  z : ∃ b, h.get? (N + ls.length + 2) = some { cls := .type "zip", dict := none, data := .fields #[f0, .bool b, .bool false, .ref (N + ls.length), .ref (N + ls.length + 1)], slots := #[] }
  ti : h.get? (N + ls.length) = some { cls := .type "tuple", data := .seq ((List.range ls.length).map fun j => Value.ref (N + j)).toArray }
  own : ∃ vs : Array Value, vs.size = ls.length ∧ h.get? (N + ls.length + 1) = some { cls := .type "tuple", data := .seq vs }
  it : ∀ j (hj : j < ls.length), h.IsTupleIter (N + j) ls[j] k
/-- the rows that are walked -/
structure Rw (h : Heap) (N : Nat) (n : Nat) (ls : List Addr) (rows : List (Array Value)) : Prop where
  len : rows.length = ls.length
  at_ : ∀ j (hj : j < ls.length) (hr : j < rows.length), h.IsTuple ls[j] rows[j]
  size : ∀ xs ∈ rows, xs.size = n
  low : ∀ l ∈ ls, (l : Nat) < N
def col (rows : List (Array Value)) (k : Nat) : List Value := rows.map fun xs => xs.getD k .none
theorem Rw.keep {h h' : Heap} {N n : Nat} {ls : List Addr} {rows : List (Array Value)} (r : Rw h N n ls rows) (k : ∀ (b : Nat) o, b < N → h.get? b = some o → h'.get? b = some o) : Rw h' N n ls rows :=
  ⟨r.len, fun j hj hr => (r.at_ j hj hr).at fun o e => k _ o (r.low _ (List.getElem_mem hj)) e, r.size, r.low⟩
end
end Zs
end
section
set_option Elab.async false
set_option linter.all false
set_option maxRecDepth 100000
set_option maxHeartbeats 1000000
namespace Zs
open PySem PySem.W
open Sem (wp)
section
variable {prog : Program} {w : World} {A : Around} {E : Value → Shared → Prop} {s : Shared} {N T : Nat} {ls : List Addr} {rows : List (Array Value)} {n k : Nat} {f : Bool}
theorem nz {a b : Nat} (h : a ≠ b) : @Ne PySem.Addr a b := h
/-- so many of the iterators have gone on -/
structure Md (h₁ h : Heap) (N : Nat) (ls : List Addr) (k j : Nat) : Prop where
  size : h.objs.size = h₁.objs.size
  same : ∀ b : Nat, (b < N ∨ N + ls.length ≤ b) → h.get? b = h₁.get? b
  it : ∀ i (hi : i < ls.length), h.IsTupleIter (N + i) ls[i] (if i < j then k + 1 else k)
theorem Md.next {h₁ h h' : Heap} {j : Nat} (d : Md h₁ h N ls k j) (hj : j < ls.length) (i' : h'.IsTupleIter (N + j) ls[j] (k + 1)) (hs : Heap.SameBut (N + j) h h') : Md h₁ h' N ls k (j + 1) where
  size := hs.1.trans d.size
  same := fun b hb => (hs.2 b (nz (by omega))).trans (d.same b hb)
  it := fun i hi => by
    by_cases z : i = j
    · subst z; rw [if_pos (by omega)]; exact i'
    · have := (d.it i hi).at fun o e => (hs.2 (N + i) (nz (by omega))).trans e
      by_cases y : i < j
      · rw [if_pos y] at this; rw [if_pos (by omega)]; exact this
      · rw [if_neg y] at this; rw [if_neg (by omega)]; exact this
theorem rest_cons {j m : Nat} {x : Value} {rest : List Value} (e : x :: rest = (List.range' j (m - j)).map fun i => Value.ref (N + i)) : j < m ∧ x = .ref (N + j) ∧ rest = (List.range' (j + 1) (m - (j + 1))).map fun i => Value.ref (N + i) := by
  have hj : j < m := by
    rcases Nat.lt_or_ge j m with z | z
    · exact z
    · rw [Nat.sub_eq_zero_of_le z] at e; simp at e
  rw [show m - j = (m - (j + 1)) + 1 by omega, List.range'_succ] at e
  simp only [List.map_cons, List.cons.injEq] at e
  exact ⟨hj, e.1, e.2⟩
theorem rest_nil {j m : Nat} (hj : j ≤ m) (e : [] = (List.range' j (m - j)).map fun i => Value.ref (N + i)) : j = m := by
  rcases Nat.lt_or_ge j m with z | z
  · rw [show m - j = (m - (j + 1)) + 1 by omega, List.range'_succ] at e; simp at e
  · omega
theorem Rw.get {h : Heap} (r : Rw h N n ls rows) (hk : k < n) {j : Nat} (hj : j < ls.length) : ∃ xs : Array Value, rows[j]? = some xs ∧ h.IsTuple ls[j] xs ∧ xs[k]? = some (xs.getD k .none) := by
  have hr : j < rows.length := by rw [r.len]; exact hj
  refine ⟨rows[j], List.getElem?_eq_getElem hr, r.at_ j hj hr, ?_⟩
  have hs := r.size _ (List.getElem_mem hr)
  have hx : k < rows[j].size := by omega
  rw [Array.getElem?_eq_getElem hx, Array.getD_eq_getD_getElem?, Array.getElem?_eq_getElem hx]
  rfl
theorem col_take {j : Nat} {xs : Array Value} (e : rows[j]? = some xs) : (col rows k).take (j + 1) = (col rows k).take j ++ [xs.getD k .none] := by
  have hj : j < rows.length := (List.getElem?_eq_some_iff.mp e).1
  rw [List.take_succ]
  congr 1
  unfold col
  rw [List.getElem?_map, e]
  rfl
/-- a turn, with the tuple of an earlier one still out -/
theorem item_held {Q : Value → Shared → Prop} {oT : Obj} (z : Zt s.heap N ls (rawInt T) k) (hT : s.heap.get? T = some oT) (r : Rw s.heap N n ls rows) (m1 : 0 < ls.length) (m8 : ls.length ≤ 1000) (hk : k < n)
    (hQ : ∀ h', Zt h' N ls (rawInt T) (k + 1) → h'.get? s.heap.objs.size = some { cls := .type "tuple", data := .seq (col rows k).toArray } → h'.objs.size = s.heap.objs.size + 1 →
      (∀ (b : Nat) o, (b < N ∨ N + ls.length ≤ b) → b ≠ N + ls.length + 2 → s.heap.get? b = some o → h'.get? b = some o) → Q (.ref s.heap.objs.size) { s with heap := h' }) :
    wpAny (model prog w) A (Builtin.«zip.__next__» ⟨[.ref (N + ls.length + 2)], []⟩) (fun fin s' => ∃ v, fin = .done (.ret v) ∧ Q v s') E s := by
  obtain ⟨f, hz⟩ := z.z
  have hTI := z.ti
  show wpAny _ _ (field (.ref (N + ls.length + 2)) 2 >>= _) _ _ _
  refine wpAny_bind (wpAny_field hz rfl (x := .bool false) rfl ?_)
  show wpAny _ _ (field (.ref (N + ls.length + 2)) 3 >>= _) _ _ _
  refine wpAny_bind (wpAny_field hz rfl (x := .ref (N + ls.length)) rfl ?_)
  refine wpAny_bind (wpAny_seqItems hTI rfl ?_)
  have ne : (((List.range ls.length).map fun j => Value.ref (N + j)).toArray).isEmpty = false := by
    obtain ⟨m, hm⟩ : ∃ m, ls.length = m + 1 := ⟨ls.length - 1, by omega⟩
    rw [hm]; simp [Array.isEmpty]
  simp only [ne, Bool.false_eq_true, if_false]
  refine wpAny_bind (wpAny_tupleHeld_zip hz hT fun h₁ hz₁ hs₁ => ?_)
  simp only [Bool.false_eq_true, if_false]
  refine wpAny_bind ?_
  rw [← Array.forIn_toList]
  have r1 : Rw h₁ N n ls rows := r.keep fun b o hb e => hs₁.extBut b o (nz (by omega)) e
  have i1 : Md h₁ h₁ N ls k 0 := ⟨rfl, fun _ _ => rfl, fun i hi => by rw [if_neg (by omega)]; exact (z.it i hi).at fun o e => hs₁.extBut _ o (nz (by omega)) e⟩
  refine forIn_list _ (fun rest st s' => ∃ j h', j ≤ ls.length ∧ rest = (List.range' j (ls.length - j)).map (fun i => Value.ref (N + i)) ∧ st = (none, ((col rows k).take j).toArray) ∧ s' = { s with heap := h' } ∧ Md h₁ h' N ls k j) _ ?_ ?_ _ _ _ ?_
  · rintro x rest st s' ⟨j, h', hj', e, rfl, rfl, d⟩
    obtain ⟨hj, rfl, er⟩ := rest_cons e
    have r2 : Rw h' N n ls rows := r1.keep fun b o hb e => (d.same b (.inl hb)).trans e
    obtain ⟨xs, ex, tx, gx⟩ := r2.get hk hj
    have it := d.it j hj
    rw [if_neg (by omega)] at it
    refine wpAny_bind (wpAny_holding ?_)
    show wpAny _ _ (Builtin.SmallTypes.nextOf (.ref (N + j)) >>= _) _ _ _
    refine wpAny_bind (wpAny_nextOf_tuple_item (s := { s with heap := h' }) it tx gx fun h'' i' hs => wpAny_pure ?_)
    refine wpAny_pure ?_
    refine ⟨j + 1, h'', by omega, er, ?_, rfl, d.next hj i' hs⟩
    rw [col_take ex]
    simp
  · rintro st s' ⟨j, h', hj, e, rfl, rfl, d⟩
    have := rest_nil hj e
    subst this
    have ec : (col rows k).take ls.length = col rows k := List.take_of_length_le (by unfold col; rw [List.length_map, r.len]; exact Nat.le_refl _)
    rw [ec]
    show wpAny _ _ (newTuple (col rows k).toArray.toList >>= _) _ _ _
    have lc : (col rows k).length = ls.length := by unfold col; rw [List.length_map, r.len]
    refine wpAny_bind (wpAny_newTuple (hsz := by rw [sizeLine_eq]; simp only [List.toList_toArray]; omega) ?_)
    refine wpAny_pure ⟨_, rfl, ?_⟩
    have hsz : h'.objs.size = s.heap.objs.size := by rw [d.size, hs₁.1]
    have kp : ∀ (b : Nat) o, (b < N ∨ N + ls.length ≤ b) → b ≠ N + ls.length + 2 → s.heap.get? b = some o → (h'.push { cls := .type "tuple", data := .seq (col rows k).toArray.toList.toArray }).get? b = some o := fun b o hb hz e =>
      Heap.get?_push_of_some _ ((d.same b hb).trans (hs₁.extBut b o hz e))
    have hz2 : h'.get? (N + ls.length + 2) = _ := (d.same _ (.inr (by omega))).trans hz₁
    have hp := Heap.get?_push_size (h := h') (o := { cls := .type "tuple", data := .seq (col rows k).toArray.toList.toArray }) rfl
    have hz4 : (h'.push { cls := .type "tuple", data := .seq (col rows k).toArray.toList.toArray }).objs.size = h'.objs.size + 1 := Heap.size_push ..
    show Q (.ref h'.objs.size) _
    rw [hsz] at hp hz4 ⊢
    refine hQ _ ⟨⟨_, Heap.get?_push_of_some _ hz2⟩, kp _ _ (.inr (by omega)) (by omega) z.ti, ?_, fun j hj => ?_⟩ ?_ hz4 kp
    · obtain ⟨vs, hv, ho⟩ := z.own
      exact ⟨vs, hv, kp _ _ (.inr (by omega)) (by omega) ho⟩
    · have := d.it j hj
      rw [if_pos hj] at this
      exact this.at fun o e => Heap.get?_push_of_some _ e
    · simpa using hp
  · exact ⟨0, h₁, by omega, by simp [List.range_eq_range'], by simp, rfl, i1⟩
end
end Zs
end
section
set_option Elab.async false
set_option linter.all false
set_option maxRecDepth 100000
set_option maxHeartbeats 1000000
namespace Zs
open PySem PySem.W
open Sem (wp)
section
variable {prog : Program} {w : World} {A : Around} {E : Value → Shared → Prop} {s : Shared} {N T : Nat} {ls : List Addr} {rows : List (Array Value)} {n k : Nat} {f : Bool}
theorem updateSeq_own {T : Addr} {vs : Array Value} {x : Value} {j : Nat} {Q : Unit → Shared → Prop} (hT : s.heap.get? T = some { cls := .type "tuple", data := .seq vs }) (hv : vs.size ≤ 1000)
    (h : ∀ h', h'.get? T = some { cls := .type "tuple", data := .seq (vs.setIfInBounds j x) } → Heap.SameBut T s.heap h' → Q () { s with heap := h' }) :
    wpAny (model prog w) A (updateSeq T (·.setIfInBounds j x)) Q E s := by
  refine wpAny_updateSeq (hz := by rw [sizeLine_eq]; omega) (_hz' := by rw [sizeLine_eq]; simp only [Array.size_setIfInBounds]; omega) hT rfl (h _ ?_ (Heap.SameBut.update ..))
  rw [Heap.get?_update_self _ hT rfl]
  simp [Obj.mapSeq]
/-- so many of the iterators have gone on, and their things stand in the own tuple -/
structure Mo (h₁ h : Heap) (N : Nat) (ls : List Addr) (rows : List (Array Value)) (k j : Nat) : Prop where
  size : h.objs.size = h₁.objs.size
  same : ∀ b : Nat, (b < N ∨ N + ls.length ≤ b) → b ≠ N + ls.length + 1 → h.get? b = h₁.get? b
  it : ∀ i (hi : i < ls.length), h.IsTupleIter (N + i) ls[i] (if i < j then k + 1 else k)
  own : ∃ vs : Array Value, vs.size = ls.length ∧ vs.toList.take j = (col rows k).take j ∧ h.get? (N + ls.length + 1) = some { cls := .type "tuple", data := .seq vs }
theorem idx_rest {m : Nat} {g : Nat → Value} : ((List.range m).map g).zipIdx = (List.range' 0 (m - 0)).map fun i => (g i, i) := by
  apply List.ext_getElem
  · simp
  · intro i h1 h2
    simp
theorem ridx_cons {j m : Nat} {x : Value × Nat} {rest : List (Value × Nat)} (e : x :: rest = (List.range' j (m - j)).map fun i => (Value.ref (N + i), i)) : j < m ∧ x = (.ref (N + j), j) ∧ rest = (List.range' (j + 1) (m - (j + 1))).map fun i => (Value.ref (N + i), i) := by
  have hj : j < m := by
    rcases Nat.lt_or_ge j m with z | z
    · exact z
    · rw [Nat.sub_eq_zero_of_le z] at e; simp at e
  rw [show m - j = (m - (j + 1)) + 1 by omega, List.range'_succ] at e
  simp only [List.map_cons, List.cons.injEq] at e
  exact ⟨hj, e.1, e.2⟩
theorem ridx_nil {j m : Nat} (hj : j ≤ m) (e : [] = (List.range' j (m - j)).map fun i => (Value.ref (N + i), i)) : j = m := by
  rcases Nat.lt_or_ge j m with z | z
  · rw [show m - j = (m - (j + 1)) + 1 by omega, List.range'_succ] at e; simp at e
  · omega
/-- the first turn -/
theorem item_first {Q : Value → Shared → Prop} (z : Zt s.heap N ls .none k) (r : Rw s.heap N n ls rows) (m1 : 0 < ls.length) (m8 : ls.length ≤ 1000) (hk : k < n)
    (hQ : ∀ h', Zt h' N ls (rawInt s.heap.objs.size) (k + 1) → h'.get? s.heap.objs.size = some { cls := .type "tuple", data := .seq (col rows k).toArray } → h'.objs.size = s.heap.objs.size + 1 →
      (∀ (b : Nat) o, (b < N ∨ N + ls.length ≤ b) → b ≠ N + ls.length + 2 → b ≠ N + ls.length + 1 → s.heap.get? b = some o → h'.get? b = some o) → Q (.ref s.heap.objs.size) { s with heap := h' }) :
    wpAny (model prog w) A (Builtin.«zip.__next__» ⟨[.ref (N + ls.length + 2)], []⟩) (fun fin s' => ∃ v, fin = .done (.ret v) ∧ Q v s') E s := by
  obtain ⟨f, hz⟩ := z.z
  have hTI := z.ti
  obtain ⟨vs0, hv0, hO⟩ := z.own
  show wpAny _ _ (field (.ref (N + ls.length + 2)) 2 >>= _) _ _ _
  refine wpAny_bind (wpAny_field hz rfl (x := .bool false) rfl ?_)
  show wpAny _ _ (field (.ref (N + ls.length + 2)) 3 >>= _) _ _ _
  refine wpAny_bind (wpAny_field hz rfl (x := .ref (N + ls.length)) rfl ?_)
  refine wpAny_bind (wpAny_seqItems hTI rfl ?_)
  have ne : (((List.range ls.length).map fun j => Value.ref (N + j)).toArray).isEmpty = false := by
    obtain ⟨m, hm⟩ : ∃ m, ls.length = m + 1 := ⟨ls.length - 1, by omega⟩
    rw [hm]; simp [Array.isEmpty]
  simp only [ne, Bool.false_eq_true, if_false]
  refine wpAny_bind ?_
  unfold Builtin.SmallTypes.ownedTupleIsFree
  refine wpAny_bind (wpAny_field hz rfl (x := .none) rfl (wpAny_pure ?_))
  simp only [if_true]
  refine wpAny_bind (wpAny_rule ?_)
  refine wpAny_bind (wpAny_field hz rfl (x := .ref (N + ls.length + 1)) rfl ?_)
  refine wpAny_bind (wpAny_setField_rec hz (by simp) fun h₁ hz₁ hs₁ => ?_)
  refine wpAny_bind ?_
  have r1 : Rw h₁ N n ls rows := r.keep fun b o hb e => hs₁.extBut b o (nz (by omega)) e
  have o1 : h₁.get? (N + ls.length + 1) = some { cls := .type "tuple", data := .seq vs0 } := hs₁.extBut _ _ (nz (by omega)) hO
  have i1 : Mo h₁ h₁ N ls rows k 0 := ⟨rfl, fun _ _ _ => rfl, fun i hi => by rw [if_neg (by omega)]; exact (z.it i hi).at fun o e => hs₁.extBut _ o (nz (by omega)) e, vs0, hv0, by simp, o1⟩
  refine forIn_list _ (fun rest st s' => ∃ j h', j ≤ ls.length ∧ rest = (List.range' j (ls.length - j)).map (fun i => (Value.ref (N + i), i)) ∧ st = (none, ()) ∧ s' = { s with heap := h' } ∧ Mo h₁ h' N ls rows k j) _ ?_ ?_ _ _ _ ?_
  · rintro x rest st s' ⟨j, h', hj', e, rfl, rfl, d⟩
    obtain ⟨hj, rfl, er⟩ := ridx_cons e
    have r2 : Rw h' N n ls rows := r1.keep fun b o hb e => (d.same b (.inl hb) (by omega)).trans e
    obtain ⟨xs, ex, tx, gx⟩ := r2.get hk hj
    have it := d.it j hj
    rw [if_neg (by omega)] at it
    obtain ⟨vs, hv, ht, ho⟩ := d.own
    refine wpAny_bind (wpAny_onRaise ?_)
    show wpAny _ _ (Builtin.SmallTypes.nextOf (.ref (N + j)) >>= _) _ _ _
    refine wpAny_bind (wpAny_nextOf_tuple_item (s := { s with heap := h' }) it tx gx fun h2 i' hs => wpAny_pure ?_)
    have ho2 : h2.get? (N + ls.length + 1) = some { cls := .type "tuple", data := .seq vs } := hs.extBut _ _ (nz (by omega)) ho
    refine wpAny_bind (wpAny_seqItems (s := { s with heap := h2 }) ho2 rfl ?_)
    refine wpAny_bind (updateSeq_own (s := { s with heap := h2 }) ho2 (by omega) fun h3 ho3 hs3 => ?_)
    refine wpAny_bind (wpAny_letGo (wpAny_pure ?_))
    refine ⟨j + 1, h3, by omega, er, rfl, rfl, ⟨hs3.1.trans (hs.1.trans d.size), fun b hb hb2 => (hs3.2 b (nz hb2)).trans ((hs.2 b (nz (by omega))).trans (d.same b hb hb2)), fun i hi => ?_, _, by rw [Array.size_setIfInBounds]; exact hv, ?_, ho3⟩⟩
    · by_cases z : i = j
      · subst z
        rw [if_pos (by omega)]
        exact i'.at fun o e => hs3.extBut _ o (nz (by omega)) e
      · have := ((d.it i hi).at fun o e => (hs.2 (N + i) (nz (by omega))).trans e).at fun o e => hs3.extBut _ o (nz (by omega)) e
        by_cases y : i < j
        · rw [if_pos y] at this; rw [if_pos (by omega)]; exact this
        · rw [if_neg y] at this; rw [if_neg (by omega)]; exact this
    · rw [col_take ex, ← ht, Array.toList_setIfInBounds, List.take_succ, List.getElem?_set_self (by simpa [hv] using hj), List.take_set_of_le (Nat.le_refl j)]
      rfl
  · rintro st s' ⟨j, h', hj, e, rfl, rfl, d⟩
    have := ridx_nil hj e
    subst this
    obtain ⟨vs, hv, ht, ho⟩ := d.own
    have lc : (col rows k).length = ls.length := by unfold col; rw [List.length_map, r.len]
    rw [List.take_of_length_le (by simp [hv]), List.take_of_length_le (by omega)] at ht
    refine wpAny_bind (wpAny_seqItems (s := { s with heap := h' }) ho rfl ?_)
    refine wpAny_bind (wpAny_newTuple (hsz := by rw [sizeLine_eq]; simp; omega) ?_)
    have hsz : h'.objs.size = s.heap.objs.size := by rw [d.size, hs₁.1]
    have hzz : h'.get? (N + ls.length + 2) = some { cls := .type "zip", dict := none, data := .fields #[.ellipsis, .bool f, .bool false, .ref (N + ls.length), .ref (N + ls.length + 1)], slots := #[] } := (d.same _ (.inr (by omega)) (by omega)).trans hz₁
    have hzlt := Heap.lt_size hzz
    refine wpAny_bind ?_
    unfold Builtin.SmallTypes.ownedTupleHandOut
    rw [Array.toArray_toList]
    have hz₆ : (h'.push { cls := .type "tuple", data := .seq vs }).get? (N + ls.length + 2) = some { cls := .type "zip", dict := none, data := .fields #[.ellipsis, .bool f, .bool false, .ref (N + ls.length), .ref (N + ls.length + 1)], slots := #[] } := Heap.get?_push_of_some _ hzz
    refine wpAny_bind (wpAny_setField_rec (s := { s with heap := h'.push { cls := .type "tuple", data := .seq vs } }) hz₆ (by simp) fun h₇ hz₇ hs₇ => ?_)
    refine wpAny_setField_rec (s := { s with heap := h₇ }) hz₇ (by simp) fun h₈ hz₈ hs₈ => ?_
    have kp : ∀ (b : Nat) o, b ≠ N + ls.length + 2 → h'.get? b = some o → h₈.get? b = some o := fun b o hz e => hs₈.extBut _ _ (nz hz) (hs₇.extBut _ _ (nz hz) (Heap.get?_push_of_some _ e))
    have kp2 : ∀ (b : Nat) o, (b < N ∨ N + ls.length ≤ b) → b ≠ N + ls.length + 2 → b ≠ N + ls.length + 1 → s.heap.get? b = some o → h₈.get? b = some o := fun b o hb h2 h1 e => kp b o h2 ((d.same b hb h1).trans (hs₁.extBut b o (nz h2) e))
    have hT₈ : h₈.get? h'.objs.size = some { cls := .type "tuple", data := .seq vs } := hs₈.extBut _ _ (Nat.ne_of_gt hzlt) (hs₇.extBut _ _ (Nat.ne_of_gt hzlt) (Heap.get?_push_size _ rfl))
    have hz8 : h₈.objs.size = h'.objs.size + 1 := by rw [hs₈.1, hs₇.1, Heap.size_push]
    refine wpAny_pure ⟨_, rfl, ?_⟩
    show Q (.ref h'.objs.size) { s with heap := h₈ }
    rw [hsz] at hT₈ hz8 ⊢
    have ev : vs = (col rows k).toArray := by rw [← ht]
    refine hQ h₈ ⟨⟨_, by rw [← hsz]; exact hz₈⟩, kp2 (N + ls.length) _ (.inr (by omega)) (by omega) (by omega) z.ti, ⟨vs, hv, kp (N + ls.length + 1) _ (by omega) ho⟩, fun j hj => ?_⟩ (by rw [← ev]; exact hT₈) hz8 kp2
    have := d.it j hj
    rw [if_pos hj] at this
    exact this.at fun o e => kp (N + j) o (by omega) e
  · exact ⟨0, h₁, by omega, by simpa using idx_rest, rfl, rfl, i1⟩
end
end Zs
end
section
set_option Elab.async false
set_option linter.all false
set_option maxRecDepth 100000
set_option maxHeartbeats 1000000
namespace Zs
open PySem PySem.W
open Sem (wp)
section
variable {prog : Program} {w : World} {A : Around} {E : Value → Shared → Prop} {s : Shared} {N T : Nat} {ls : List Addr} {rows : List (Array Value)} {n k : Nat} {f : Bool}
theorem end_held {Q : PySem.Fin → Shared → Prop} {oT : Obj} (hh : A.handled = none) (z : Zt s.heap N ls (rawInt T) k) (hT : s.heap.get? T = some oT) (r : Rw s.heap N n ls rows) (m1 : 0 < ls.length) (hk : n ≤ k)
    (hE : ∀ h' e, (∀ (b : Nat) o, (b < N ∨ N + ls.length ≤ b) → b ≠ N + ls.length + 2 → s.heap.get? b = some o → h'.get? b = some o) → (∃ o, h'.get? e = some o ∧ o.cls = .type "StopIteration") → E (.ref e) { s with heap := h' }) :
    wpAny (model prog w) A (Builtin.«zip.__next__» ⟨[.ref (N + ls.length + 2)], []⟩) Q E s := by
  obtain ⟨f, hz⟩ := z.z
  have hTI := z.ti
  show wpAny _ _ (field (.ref (N + ls.length + 2)) 2 >>= _) _ _ _
  refine wpAny_bind (wpAny_field hz rfl (x := .bool false) rfl ?_)
  show wpAny _ _ (field (.ref (N + ls.length + 2)) 3 >>= _) _ _ _
  refine wpAny_bind (wpAny_field hz rfl (x := .ref (N + ls.length)) rfl ?_)
  refine wpAny_bind (wpAny_seqItems hTI rfl ?_)
  have ne : (((List.range ls.length).map fun j => Value.ref (N + j)).toArray).isEmpty = false := by
    obtain ⟨m, hm⟩ : ∃ m, ls.length = m + 1 := ⟨ls.length - 1, by omega⟩
    rw [hm]; simp [Array.isEmpty]
  simp only [ne, Bool.false_eq_true, if_false]
  refine wpAny_bind (wpAny_tupleHeld_zip hz hT fun h₁ hz₁ hs₁ => ?_)
  simp only [Bool.false_eq_true, if_false]
  refine wpAny_bind ?_
  rw [← Array.forIn_toList]
  have r1 : Rw h₁ N n ls rows := r.keep fun b o hb e => hs₁.extBut b o (nz (by omega)) e
  refine forIn_list _ (fun rest st s' => rest = (List.range' 0 (ls.length - 0)).map (fun i => Value.ref (N + i)) ∧ s' = { s with heap := h₁ }) _ ?_ ?_ _ _ _ ?_
  · rintro x rest st s' ⟨e, rfl⟩
    obtain ⟨hj, rfl, er⟩ := rest_cons e
    have it := (z.it 0 hj).at fun o e => hs₁.extBut _ o (nz (by omega)) e
    have hr : 0 < rows.length := by rw [r.len]; exact hj
    have tx := r1.at_ 0 hj hr
    have gx : rows[0][k]? = none := by
      have := r.size _ (List.getElem_mem hr)
      rw [Array.getElem?_eq_none (by omega)]
    refine wpAny_bind (wpAny_holding ?_)
    show wpAny _ _ (Builtin.SmallTypes.nextOf (.ref (N + 0)) >>= _) _ _ _
    refine wpAny_bind (wpAny_nextOf_tuple_end (s := { s with heap := h₁ }) hh it tx gx fun h₂ e hs he => ?_)
    exact hE h₂ e (fun b o hb h2 x => hs b o (nz (by omega)) (hs₁.extBut b o (nz h2) x)) he
  · rintro st s' ⟨e, _⟩
    have := rest_nil (Nat.zero_le _) e
    omega
  · exact ⟨by simp [List.range_eq_range'], rfl⟩
/-- a zip that has been drawn from so often, while what it told is held -/
structure Zc (h : Heap) (N : Nat) (n : Nat) (ls : List Addr) (rows : List (Array Value)) (k : Nat) : Prop where
  st : (k = 0 ∧ Zt h N ls .none 0) ∨ ∃ (T : Nat) (oT : Obj), Zt h N ls (rawInt (T : Nat)) k ∧ h.get? T = some oT ∧ N + ls.length + 2 < T
  rw_ : Rw h N n ls rows
theorem Zt.keep {h h' : Heap} {f0 : Value} (z : Zt h N ls f0 k) (kp : ∀ (b : Nat) o, b ≤ N + ls.length + 2 → h.get? b = some o → h'.get? b = some o) : Zt h' N ls f0 k :=
  ⟨let ⟨b, e⟩ := z.z; ⟨b, kp _ _ (Nat.le_refl _) e⟩, kp _ _ (by omega) z.ti, let ⟨vs, hv, e⟩ := z.own; ⟨vs, hv, kp _ _ (by omega) e⟩, fun j hj => (z.it j hj).at fun o e => kp (N + j) o (by omega) e⟩
theorem Zc.keep {h h' : Heap} (c : Zc h N n ls rows k) (kp : ∀ (b : Nat) o, b ≠ N + ls.length + 3 → h.get? b = some o → h'.get? b = some o) (hT : ∀ (T : Nat) oT, T = N + ls.length + 3 → h.get? T = some oT → ∃ o, h'.get? T = some o) : Zc h' N n ls rows k := by
  refine ⟨?_, c.rw_.keep fun b o hb e => kp b o (by omega) e⟩
  rcases c.st with ⟨h0, z⟩ | ⟨T, oT, z, t, lt⟩
  · exact .inl ⟨h0, z.keep fun b o hb e => kp b o (by omega) e⟩
  · by_cases y : (T : Nat) = N + ls.length + 3
    · obtain ⟨o, ho⟩ := hT T oT y t
      exact .inr ⟨T, o, z.keep fun b o hb e => kp b o (by omega) e, ho, lt⟩
    · exact .inr ⟨T, oT, z.keep fun b o hb e => kp b o (by omega) e, kp T oT y t, lt⟩
theorem zip_type {h : Heap} {g d tk os} (c : Zc h N n ls rows k) : Shared.TypeIs ⟨h, g, d, tk, os⟩ (.ref (N + ls.length + 2)) "zip" := by
  rcases c.st with ⟨_, z⟩ | ⟨T, oT, z, _⟩
  · obtain ⟨b, e⟩ := z.z; exact ⟨_, e, rfl⟩
  · obtain ⟨b, e⟩ := z.z; exact ⟨_, e, rfl⟩
theorem zip_item {Q : Option Value → Shared → Prop} (c : Zc s.heap N n ls rows k) (m1 : 0 < ls.length) (m8 : ls.length ≤ 1000) (hk : k < n)
    (hQ : ∀ h', Zc h' N n ls rows (k + 1) → h'.get? s.heap.objs.size = some { cls := .type "tuple", data := .seq (col rows k).toArray } → h'.objs.size = s.heap.objs.size + 1 →
      (∀ (b : Nat) o, (b < N ∨ N + ls.length + 2 < b) → s.heap.get? b = some o → h'.get? b = some o) → Q (some (.ref s.heap.objs.size)) { s with heap := h' }) :
    wpAny (model prog w) A (pyNext (.ref (N + ls.length + 2))) Q E s := by
  have hTy : s.TypeIs (.ref (N + ls.length + 2)) "zip" := zip_type (g := s.gens) (d := s.drawn) (tk := s.toks) (os := s.os) c
  have lo : N + ls.length + 2 < s.heap.objs.size := by obtain ⟨o, e, _⟩ := hTy; exact Heap.lt_size e
  unfold pyNext
  refine wpAny_bind (wpAny_attempt (wpAny_callSpecial?_slot (name := Str.ofString "__next__") hTy F.slot_zip_next
    (wpAny_call_entry F.slot_zip_next hTy F.entry_zip_next ?_ (F.args_zip_next_1 _))))
  rcases c.st with ⟨rfl, z⟩ | ⟨T, oT, z, t, lt⟩
  · refine item_first z c.rw_ m1 m8 hk fun h' z' ht hz kp => wpAny_pure (hQ h' ⟨.inr ⟨s.heap.objs.size, _, z', ht, lo⟩, c.rw_.keep fun b o hb e => kp b o (.inl hb) (by omega) (by omega) e⟩ ht hz fun b o hb e => kp b o (by omega) (by omega) (by omega) e)
  · refine item_held z t c.rw_ m1 m8 hk fun h' z' ht hz kp => wpAny_pure (hQ h' ⟨.inr ⟨T, oT, z', kp T oT (by omega) (by omega) t, lt⟩, c.rw_.keep fun b o hb e => kp b o (.inl hb) (by omega) e⟩ ht hz fun b o hb e => kp b o (by omega) (by omega) e)
theorem zip_done {Q : Option Value → Shared → Prop} (hh : A.handled = none) (c : Zc s.heap N n ls rows k) (m1 : 0 < ls.length) (n1 : 0 < n) (hk : n ≤ k)
    (hQ : ∀ h', (∀ (b : Nat) o, (b < N ∨ N + ls.length + 2 < b) → s.heap.get? b = some o → h'.get? b = some o) → Q none { s with heap := h' }) :
    wpAny (model prog w) A (pyNext (.ref (N + ls.length + 2))) Q E s := by
  have hTy : s.TypeIs (.ref (N + ls.length + 2)) "zip" := zip_type (g := s.gens) (d := s.drawn) (tk := s.toks) (os := s.os) c
  unfold pyNext
  rcases c.st with ⟨rfl, z⟩ | ⟨T, oT, z, t, lt⟩
  · omega
  · refine wpAny_bind (wpAny_attempt (wpAny_callSpecial?_slot (name := Str.ofString "__next__") hTy F.slot_zip_next
      (wpAny_call_entry F.slot_zip_next hTy F.entry_zip_next (end_held hh z t c.rw_ m1 hk fun h' e kp he => ?_) (F.args_zip_next_1 _))))
    obtain ⟨o, ho, hc⟩ := he
    refine wpAny_bind (wpAny_isInstance (T := "StopIteration") (b := true) ⟨o, ho, hc⟩ isSubtype_stop ?_)
    exact wpAny_pure (hQ h' fun b o hb e => kp b o (by omega) (by omega) e)
end
end Zs
end
section
set_option Elab.async false
set_option linter.all false
set_option maxRecDepth 100000
set_option maxHeartbeats 1000000
namespace Zs
open PySem PySem.W PyProof.Rows
open Sem (wp)
section
variable {prog : Program} {w : World} {A : Around} {E : Value → Shared → Prop} {s : Shared} {N T : Nat} {ls : List Addr} {rows : List (Array Value)} {n k : Nat} {f : Bool}
/-- the tuples told so far -/
structure Gt (rows : List (Array Value)) (lo : Nat) (h : Heap) (as : List Addr) : Prop where
  at_ : ∀ (j : Nat) (a : Addr), as[j]? = some a → h.get? a = some { cls := .type "tuple", data := .seq (col rows j).toArray }
  up : ∀ a ∈ as, lo < (a : Nat)
  rise : as.Pairwise fun a b : Nat => a < b
theorem Zc.keep' {h h' : Heap} {S : Nat} (c : Zc h N n ls rows k) (hS : N + ls.length + 2 < S) (kp : ∀ (b : Nat) o, b ≠ S → h.get? b = some o → h'.get? b = some o) (hT : ∀ oT, h.get? S = some oT → ∃ o, h'.get? S = some o) : Zc h' N n ls rows k := by
  refine ⟨?_, c.rw_.keep fun b o hb e => kp b o (by omega) e⟩
  rcases c.st with ⟨h0, z⟩ | ⟨T, oT, z, t, lt⟩
  · exact .inl ⟨h0, z.keep fun b o hb e => kp b o (by omega) e⟩
  · by_cases y : T = S
    · subst y
      obtain ⟨o, ho⟩ := hT oT t
      exact .inr ⟨T, o, z.keep fun b o hb e => kp b o (by omega) e, ho, lt⟩
    · exact .inr ⟨T, oT, z.keep fun b o hb e => kp b o (by omega) e, kp T oT y t, lt⟩
theorem loop {S : Nat} {R : Result → Shared → Prop} (hh : A.handled = none) (m1 : 0 < ls.length) (m8 : ls.length ≤ 1000) (n1 : 0 < n) (n8 : n ≤ 1000) (hS : N + ls.length + 2 < S) (res : Value) {h₁ : Heap}
    (hR : ∀ h' tk acc c as, (∀ (b : Nat) o, b ≠ S → (b < N ∨ N + ls.length + 2 < b) → h₁.get? b = some o → h'.get? b = some o) → h'.get? S = some { cls := .type "list", dict := none, data := .seq acc c, slots := #[] } → as.length = n → Gt rows S h' as →
      acc.toList = as.map Value.ref → R (.ok (.ret res)) { s with heap := h', toks := tk }) :
    ∀ (t i : Nat) (h : Heap) (tk c : Nat) (acc : Array Value) (as : List Addr), n - i = t → i ≤ n → Zc h N n ls rows i → (∀ (b : Nat) o, b ≠ S → (b < N ∨ N + ls.length + 2 < b) → h₁.get? b = some o → h.get? b = some o) →
      h.get? S = some { cls := .type "list", dict := none, data := .seq acc c, slots := #[] } → acc.toList = as.map Value.ref → as.length = i → Gt rows S h as →
      codeAny (model prog w) A (.builtin "list.extend.loop" ⟨[.ref S, .ref (N + ls.length + 2), res], []⟩) R { s with heap := h, toks := tk } := by
  intro t
  induction t with
  | zero =>
    intro i h tk c acc as hk hi hst hkeep hS' hacc hal hG
    refine codeAny_builtin PySem.F.entry_extend_loop ?_
    rw [Around.under_plainId PySem.F.plain_extend_loop _]
    show wpAny _ A.in1 (pyNext (.ref (N + ls.length + 2)) >>= _) _ _ _
    refine wpAny_bind (zip_done (s := { s with heap := h, toks := tk }) (A := A.in1) hh hst m1 n1 (by omega) fun h' he => ?_)
    exact wpAny_pure (hR h' tk acc c as (fun b o h1 h2 e => he b o h2 (hkeep b o h1 h2 e)) (he S _ (.inr hS) hS') (by omega) ⟨fun j a hj => he a _ (.inr (by have := hG.up a (List.mem_of_getElem? hj); omega)) (hG.at_ j a hj), hG.up, hG.rise⟩ hacc)
  | succ t ih =>
    intro i h tk c acc as hk hi hst hkeep hS' hacc hal hG
    have hlt : i < n := by omega
    have hsz : acc.size = i := by rw [← Array.length_toList, hacc, List.length_map, hal]
    refine codeAny_builtin PySem.F.entry_extend_loop ?_
    rw [Around.under_plainId PySem.F.plain_extend_loop _]
    show wpAny _ A.in1 (pyNext (.ref (N + ls.length + 2)) >>= _) _ _ _
    refine wpAny_bind (zip_item (s := { s with heap := h, toks := tk }) (A := A.in1) hst m1 m8 hlt fun h' hst' ht hz kp => ?_)
    dsimp only at ht hz kp ⊢
    have hS2 := kp S _ (.inr hS) hS'
    have hSl : S < h.objs.size := Heap.lt_size hS'
    have up : ∀ (b : Nat) o, b ≠ S → h'.get? b = some o → (h'.update S (Obj.mapSeq (·.push (Value.ref h.objs.size)))).get? b = some o := fun b o hb e => (Heap.get?_update_other _ _ (Ne.symm hb)).trans e
    have self := Heap.get?_update_self (Obj.mapSeq (·.push (Value.ref h.objs.size))) hS2 rfl
    show wpAny _ A.in1 (updateSeq S (·.push (Value.ref h.objs.size)) >>= _) _ _ _
    refine wpAny_bind ?_
    refine wpAny_updateSeq (s := { s with heap := h', toks := tk }) hS2 rfl (wpAny_pure ⟨plainId_quiet PySem.F.plain_extend_loop _, ih (i + 1) _ tk _ (acc.push (Value.ref h.objs.size)) (as ++ [h.objs.size]) (by omega) hlt (hst'.keep' hS up fun _ _ => ⟨_, self⟩)
      (fun b o h1 h2 e => up b o h1 (kp b o h2 (hkeep b o h1 h2 e))) self (by rw [Array.toList_push, hacc, List.map_append]; rfl) (by rw [List.length_append, hal]; rfl) ⟨fun j b hj => ?_, fun a ha => ?_, ?_⟩⟩) (by rw [sizeLine_eq, hsz]; omega) (by show (acc.push (Value.ref h.objs.size)).size ≤ sizeLine + 1; rw [Array.size_push, sizeLine_eq, hsz]; omega)
    · rcases Nat.lt_trichotomy j as.length with h1 | h1 | h1
      · rw [List.getElem?_append_left h1] at hj
        have hb := hG.up b (List.mem_of_getElem? hj)
        exact up b _ (by omega) (kp b _ (.inr (by omega)) (hG.at_ j b hj))
      · subst h1
        have hb : h.objs.size = b := by simpa using hj
        subst hb
        rw [hal]
        exact up _ _ (Nat.ne_of_gt hSl) ht
      · have hnone : (as ++ [h.objs.size])[j]? = none := List.getElem?_eq_none (by rw [List.length_append, List.length_singleton]; omega)
        rw [hnone] at hj; cases hj
    · rcases List.mem_append.mp ha with ha | ha
      · exact hG.up a ha
      · rw [List.mem_singleton.mp ha]; exact hSl
    · refine List.pairwise_append.mpr ⟨hG.rise, List.pairwise_singleton _ _, fun a ha b hb => ?_⟩
      rw [List.mem_singleton.mp hb]
      obtain ⟨j, hj⟩ := List.mem_iff_getElem?.mp ha
      exact Heap.lt_size (hG.at_ j a hj)
end
end Zs
end
section
set_option Elab.async false
set_option linter.all false
set_option maxRecDepth 100000
set_option maxHeartbeats 1000000
namespace Zs
open PySem PySem.W PyProof.Rows
open Sem (wp)
end Zs
end
section
set_option Elab.async false
set_option linter.all false
set_option maxRecDepth 100000
set_option maxHeartbeats 1000000
namespace Zs
open PySem PySem.W PyProof.Rows
open Sem (wp)
end Zs
end
section
set_option Elab.async false
set_option linter.all false
set_option maxRecDepth 100000
set_option maxHeartbeats 1000000
namespace Zs
open PySem PySem.W
open Sem (wp)
end Zs
namespace L2
open PySem PySem.W Zs
/-! ### tuple(zip(*e)) -/
end L2
end
section
set_option Elab.async false
set_option linter.all false
set_option maxRecDepth 100000
set_option maxHeartbeats 2000000
/-! tuple(zip(*e)): the columns of a tuple of tuples -/
namespace Lf
open PySem PySem.Spec L2 Zs
variable [Tabs]
/-- all of them tuples -/
def tupsD : List PyData → Option (List (List PyData))
  | [] => some []
  | .tuple r :: xs => (tupsD xs).map (r :: ·)
  | _ :: _ => none
def colsD (rows : List (List PyData)) (n : Nat) : List PyData := (List.range n).map fun k => .tuple (rows.map fun r => r.getD k .none)
def eTZ (da : DE) : DE := fun en => bd (da en) fun p => match frz p.1 with
  | some (.tuple xs) => (match tupsD xs with
    | some rows => let n := (rows.headD []).length
      if (rows.all fun r => decide (r.length = n)) = true ∧ 0 < n ∧ n ≤ 1000 ∧ 0 < rows.length ∧ rows.length ≤ 8 then .ok (.d (.tuple (colsD rows n)), p.2) else .error .stuck
    | none => .error .stuck)
  | _ => .error .stuck
end Lf
end
section
set_option Elab.async false
set_option linter.all false
set_option maxRecDepth 100000
set_option maxHeartbeats 2000000
/-! the least of three numbers -/
namespace Lf
open PySem PySem.Spec L2 PyProof.Rows
end Lf
end
section
set_option Elab.async false
set_option linter.all false
set_option maxRecDepth 100000
set_option maxHeartbeats 2000000
/-! Lf52: x *= e on ints -/
namespace Lf
open PySem PySem.Spec L2
end Lf
end
section
set_option Elab.async false
set_option linter.all false
set_option maxRecDepth 100000
set_option maxHeartbeats 2000000
/-! sum(.. for .. in ..): the turns, and the list of one that keeps the sum -/
namespace Lf
open PySem PySem.Spec L2
end Lf
end
section
set_option Elab.async false
set_option linter.all false
set_option maxRecDepth 100000
set_option maxHeartbeats 2000000
/-! sum(.. for .. in ..) -/
namespace Lf
open PySem PySem.Spec L2
end Lf
end
section
set_option Elab.async false
set_option linter.all false
set_option maxRecDepth 100000
set_option maxHeartbeats 2000000
/-! sum(.. for .. in ..) with the names' places; rows[..][k] += c -/
namespace Lf
open PySem PySem.Spec L2
/-! ### rows[e][k] += c -/
end Lf
end
section
set_option Elab.async false
set_option linter.all false
set_option maxRecDepth 100000
set_option maxHeartbeats 2000000
/-! [f, g][e](..); xs.index(x) of ints; rows[j + c][k] read and written -/
namespace Lf
open PySem PySem.Spec L2 PyProof.Rows
variable [Tabs]
/-! ### a list of two defs, one of them called -/
/-! ### xs.index(x), ints -/
theorem idx_at {k : Int} : ∀ {ns : List Int}, k ∈ ns → ns[ns.idxOf k]? = some k ∧ ∀ m z, m < ns.idxOf k → ns[m]? = some z → z ≠ k := fun {ns} h => by
  have hl : ns.idxOf k < ns.length := List.idxOf_lt_length_iff.mpr h
  refine ⟨by rw [List.getElem?_eq_getElem hl, List.getElem_idxOf hl], fun m z hm hz e => ?_⟩
  subst e
  obtain ⟨h1, h2⟩ := List.getElem?_eq_some_iff.mp hz
  have := List.not_of_lt_findIdx (p := (· == z)) (xs := ns) (i := m) hm
  simp [h2] at this
/-! ### rows[j + c][k], read and written -/
end Lf
end
section
set_option Elab.async false
set_option linter.all false
set_option maxRecDepth 100000
set_option maxHeartbeats 2000000
/-! list(range(..)); a local name that holds a def, called -/
namespace Lf
open PySem PySem.Spec L2 PyProof.Rows
variable [Tabs]
section
variable {X : Cx} {W : WX} {a b : Expr} {da db : DE} {p1 p2 pos1 pos2 : Pos}
theorem dInts (K : PySem.W.Frag) (G : Hp) (l : List Int) : DpAll K G (l.map V.int) (l.map PyData.int) := by
  induction l with
  | nil => exact .nil
  | cons x l ih => exact .cons (.int x) ih
end
/-! ### a local name that holds a def, called -/
/-! ### xs.pop(), xs.pop(e): what is taken out is data -/
end Lf
end
section
set_option Elab.async false
set_option linter.all false
set_option maxRecDepth 100000
set_option maxHeartbeats 2000000
/-! sorted(xs, reverse=True) of ints -/
namespace Lf
open PySem PySem.Spec L2 PyProof.Rows
end Lf
end
section
set_option Elab.async false
set_option linter.all false
set_option maxRecDepth 100000
set_option maxHeartbeats 2000000
/-! sorted(xs) of alike tuples that are not empty -/
namespace Lf
open PySem PySem.Spec L2 PyProof.Rows
end Lf
end
section
set_option Elab.async false
set_option linter.all false
set_option maxRecDepth 100000
set_option maxHeartbeats 2000000
/-! reversed(x) of a list or a tuple as what is walked; tuples of things: made, taken apart -/
namespace Lf
open PySem PySem.Spec L2
variable [Tabs]
def iRevS (da : DE) : DI := fun en => bd (da en) fun p => match (frz p.1).bind dItems with
  | some xs => .ok (xs.reverse, p.2)
  | none => .error .stuck
/-! ### a tuple of things -/
def eTupO (da : DA) : DE := fun en => bd (da en) fun p => if few p.1.length then .ok (.tp p.1, p.2) else .error .stuck
end Lf
end
section
set_option Elab.async false
set_option linter.all false
set_option maxRecDepth 100000
set_option maxHeartbeats 4000000
/-! sorted(t), sorted(t, reverse=True), t a tuple of ints -/
namespace SrtT
open PySem PyProof.Rows Srt SrtO SrtR
section
variable {prog : Program} {w : World} {A : Around} {E : Value → Shared → Prop} {s : Shared}
theorem sortedT_ordK {l : Addr} {vs : List Value} {b : Bool} {kw : List (Str × Value)} {ltv : Value → Value → Bool} {Q : Value → Shared → Prop} (hk : ∀ a, Builtin.«list.sort» ⟨[.ref a], kw⟩ = Builtin.«list.sort» ⟨[.ref a], [(Str.ofString "reverse", .bool b)]⟩)
    (ha1 : argsOk "sorted" ⟨[.ref l], kw⟩) (ha2 : ∀ a, argsOk "list.sort" ⟨[a], kw⟩) (O : Swo ltv) (hl : IsTup s.heap l vs.toArray) (hz : vs.length ≤ sizeLine)
    (hS : 2 ≤ vs.length → ∀ (h₁ : Heap) (a : Addr), h₁.get? a = some (seqObj "list" vs.toArray 0) → (∀ b o, s.heap.get? b = some o → b ≠ a ∧ h₁.get? b = some o) → SortableO prog w A.in1.in1 { s with heap := h₁ } a vs ltv)
    (h : ∀ (out : List Value) (h' : Heap) (a : Addr), (∀ b o, s.heap.get? b = some o → h'.get? b = some o) → s.heap.get? a = none → Srtd ltv out → Stb ltv out (if b = true then vs.reverse else vs) → (∃ n, h'.get? a = some (seqObj "list" (if b = true then out.toArray.reverse else out.toArray) n)) → Q (.ref a) { s with heap := h' }) :
    wpAny (model prog w) A (call (.builtin "sorted") [.ref l] kw) Q E s := by
  obtain ⟨ol, hol, hcl, nl, hdl⟩ := hl
  refine call_function_entry_kw kind_sorted plain_sorted entry_sorted ha1 ?_
  unfold Builtin.«sorted»
  refine wpAny_bind (m := checkCount "sorted" 1 1 _) (wpAny_pure ?_)
  refine wpAny_bind (wpAny_collect_seq (items := vs.toArray) l (.inr rfl) hol hcl hdl (fun h1 k1 => ?_) (by simpa using hz))
  refine wpAny_bind (wpAny_newList ?_ hz)
  have hoL : (h1.push (seqObj "list" vs.toArray 0)).get? h1.objs.size = some (seqObj "list" vs.toArray 0) := Heap.get?_push_size _ rfl
  have keep : ∀ b o, s.heap.get? b = some o → b ≠ h1.objs.size ∧ (h1.push (seqObj "list" vs.toArray 0)).get? b = some o := fun b o q =>
    ⟨Nat.ne_of_lt (Heap.lt_size (k1 _ _ q)), Heap.get?_push_of_some _ (k1 _ _ q)⟩
  show wpAny _ _ _ _ _ { s with heap := h1.push (seqObj "list" vs.toArray 0) }
  refine wpAny_bind (wpAny_holding (wpAny_call_entry_kw slot_list_sort ⟨_, hoL, rfl⟩ entry_list_sort ?_ (ha2 _)))
  rw [hk]
  refine list_sort_ordR O hoL hz (fun h2 => hS h2 _ _ hoL keep) fun out hs hb => ⟨_, rfl, ?_⟩
  refine wpAny_pure ⟨_, rfl, ?_⟩
  obtain ⟨ep, he'⟩ := PyProof.Rows.sortedHeap_at (vs := vs) (out := if b = true then out.toArray.reverse else out.toArray) hoL
  refine h out _ _ (fun b o q => (sortedHeap_old (keep b o q).1 (Heap.lt_size (keep b o q).2)).trans (keep b o q).2) ?_ hs hb ⟨_, he'⟩
  cases e : s.heap.get? h1.objs.size with
  | none => rfl
  | some o => exact absurd rfl (keep _ o e).1
end
end SrtT
namespace L2
open PySem PySem.Spec PyProof.Rows
theorem sortedT_run {X : Cx} {b : Bool} {kw : List (Str × Value)} {pins : List (Addr × Obj)} {s : Shared} {σ : St} {H : Hp} {a : Addr} {ns : List Int} {Q : VK} (I : Inv X pins σ H s) (hs : SqT X.K H a (ns.map V.int))
    (hk : ∀ a, Builtin.«list.sort» ⟨[.ref a], kw⟩ = Builtin.«list.sort» ⟨[.ref a], [(Str.ofString "reverse", .bool b)]⟩) (ha1 : argsOk "sorted" ⟨[.ref a], kw⟩) (ha2 : ∀ a, argsOk "list.sort" ⟨[a], kw⟩)
    (q : ∀ (ns' : List Int) (p : Addr), ns'.Perm ns → OrdB b ns' → H p = none → Q (.ref p) (upd H p (.lst (ns'.map V.int)))) : wpAny (model X.prog X.w) X.A (call (.builtin "sorted") [.ref a] kw) (EP X pins σ Q) X.xe s := by
  obtain ⟨its, rv, hl, hz⟩ := I.tuple hs
  have hi := rv.ints
  refine SrtT.sortedT_ordK hk ha1 ha2 SrtO.swo_int hl (by rw [← rv.length]; exact hz) (fun h2 h₁ a' _ _ => SrtO.ints_sortable hi h2) fun out h' a' kp nw h1 h2 hat => ?_
  obtain ⟨ns', k1, k2, k3⟩ := SrtR.ints_outR hi h1 h2
  obtain ⟨ep, he'⟩ := hat
  have hlen : (ns'.map V.int).length ≤ sizeLine := by
    rw [List.length_map, k2.length_eq]
    rw [List.length_map] at hz
    exact hz
  have e0 : ((if b = true then out.toArray.reverse else out.toArray).toList).toArray = (if b = true then out.toArray.reverse else out.toArray) := by rw [Array.toArray_toList]
  have hn := I.hok.gone nw
  exact ⟨.ref _, upd H a' (.lst (ns'.map V.int)), I.laidN (t' := s.toks) kp nw hn ⟨hlen, _, ep, vals_of_ints k1, by rw [e0]; exact he'⟩, rfl, q _ _ k2 k3 hn⟩
end L2
namespace Lf
open PySem PySem.Spec L2 PyProof.Rows
variable [Tabs]
def eSrtRT (da : DA) : DE := fun en => bd (da en) fun p => match frzs p.1 with
  | some [.tuple xs] => (match ints? xs with
    | some ns => .ok (.own ((sortI ns).reverse.map fun i => .d (.int i)), p.2)
    | none => .error .stuck)
  | _ => .error .stuck
end Lf
end
section
set_option Elab.async false
set_option linter.all false
set_option maxRecDepth 100000
set_option maxHeartbeats 2000000
/-! dicts of one's own with whole-number keys whose values are data -/
namespace Lf
open PySem PySem.Spec L2
variable [Tabs]
section
variable {K : PySem.W.Frag} {G G' H : Hp} {F : FS} {τ σ : St} {en : En} {vs ws : List V} {os ps : List OT}
theorem tagO_ntbl {t : Tag} {vs : List V} {a : Addr} {qs : Array Value} : tagO t vs a ≠ .tbl qs := by cases t <;> exact fun h => nomatch h
theorem tagO_ntg {t : Tag} {vs : List V} {a : Addr} : some (tagO t vs a) ≠ some tg := fun h => by
  have : isTg (tagO t vs a) = true := by rw [Option.some.inj h]; rfl
  rw [tagO_tg] at this; cases this
/-- the first one, a thing of one cell, looked at and written -/
theorem RX.leafT {v : V} {t : Tag} {xs : List PyData} (h : RX K G F τ σ H en (v :: vs) (.leaf t xs :: os)) :
    ∃ a us, v = .ref a ∧ H a = some (tagO t us a) ∧ DpAll K G us xs ∧ ∀ t' us' xs', DpAll K G us' xs' → RX K G F τ σ (upd H a (tagO t' us' a)) en (.ref a :: vs) (.leaf t' xs' :: os) := by
  obtain ⟨M, φ, B, S, E, r, d⟩ := h
  cases r with
  | cons r1 r2 hd =>
    rename_i A B
    cases r1 with
    | leaf hm hx =>
      rename_i a us
      have g0 := S.mgo hm tagO_tg
      have hH := S.mo _ _ hm tagO_tg
      refine ⟨a, us, rfl, hH, hx, fun t' us' xs' hx' => ⟨upd M a (tagO t' us' a), φ, [a] ++ B, ⟨fun c => ?_, fun c qs z => ?_, fun p hp => ⟨(S.tab p hp).1, tabG_of (S.tab p hp).2 (upd_ne fun e => ?_)⟩, S.base, fun c u z => ?_⟩, E.at (Same.refl _) (fun i c hc => upd_ne fun z => ?_), .cons (.leaf upd_same hx') (RepOs.at (Same.refl _) _ _ _ r2 fun c hc => upd_ne fun z => ?_) hd, d⟩⟩
      · by_cases e : c = a
        · subst e; exact .inr (.inl ⟨g0.1, g0.2, by rw [upd_same, upd_same], by rw [upd_same]; exact tagO_ntg⟩)
        · rw [upd_ne e, upd_ne e]; exact S.at_ c
      · by_cases e : c = a
        · subst e; rw [upd_same] at z; exact tagO_ntbl (Option.some.inj z)
        · rw [upd_ne e] at z; exact S.nt c qs z
      · have := S.tm hp
        rw [e, hm] at this; cases this
      · by_cases e : c = a
        · subst e; exact S.mb _ _ hm
        · rw [upd_ne e] at z; exact S.mb c u z
      · exact d i c (by rw [z]; exact List.mem_append_left _ List.mem_cons_self) hc
      · exact hd a List.mem_cons_self (z ▸ hc)
/-- a new thing of one cell -/
theorem RX.newLeaf {p : Addr} {t : Tag} {us : List V} {xs : List PyData} (h : RX K G F τ σ H en vs os) (hp : H p = none) (hx : DpAll K G us xs) : RX K G F τ σ (upd H p (tagO t us p)) en (.ref p :: vs) (.leaf t xs :: os) := by
  obtain ⟨M, φ, B, S, E, r, d⟩ := h
  obtain ⟨g0, m0, f0⟩ := S.new hp
  have nφ : ∀ i, ∀ a ∈ φ i, a ≠ p := fun i a ha e => by
    obtain ⟨xs, hx, _⟩ := E.dom ha
    rw [e, m0] at hx; cases hx
  have nB : ∀ a ∈ B, a ≠ p := fun a ha e => by
    obtain ⟨xs, hx, _⟩ := RepOs.dom _ _ _ r a ha
    rw [e, m0] at hx; cases hx
  refine ⟨upd M p (tagO t us p), φ, [p] ++ B, ⟨fun a => ?_, fun a ps z => ?_, fun q hq => ⟨(S.tab q hq).1, tabG_of (S.tab q hq).2 (upd_ne (S.tn hq hp))⟩, S.base, fun a u z => ?_⟩, E.at (Same.refl _) (fun i a ha => upd_ne (nφ i a ha)), .cons (.leaf upd_same hx) (RepOs.at (Same.refl _) _ _ _ r fun a ha => upd_ne (nB a ha)) (fun a ha => ?_), fun i a ha => ?_⟩
  · by_cases e : a = p
    · subst e; exact .inr (.inl ⟨g0, f0, by rw [upd_same, upd_same], by rw [upd_same]; exact tagO_ntg⟩)
    · rw [upd_ne e, upd_ne e]; exact S.at_ a
  · by_cases e : a = p
    · subst e; rw [upd_same] at z; exact tagO_ntbl (Option.some.inj z)
    · rw [upd_ne e] at z; exact S.nt a ps z
  · by_cases e : a = p
    · rw [e]; exact S.base.free g0
    · rw [upd_ne e] at z; exact S.mb a u z
  · simp only [List.mem_singleton] at ha
    subst ha
    exact fun hb => nB _ hb rfl
  · rcases List.mem_append.mp ha with ha | ha
    · simp only [List.mem_singleton] at ha
      subst ha
      exact fun hb => nφ i _ hb rfl
    · exact d i a ha
end
end Lf
end
section
set_option Elab.async false
set_option linter.all false
set_option maxRecDepth 100000
set_option maxHeartbeats 2000000
/-! for f in (g, h): a body for each of the two defs -/
namespace Lf
open PySem PySem.Spec L2
end Lf
end
section
set_option Elab.async false
set_option linter.all false
set_option maxRecDepth 100000
set_option maxHeartbeats 4000000
/-! a tuple known to have no dict: tuple(xs) of one's own list, t.index(k, start); sorted(t) of a tuple of ints -/
namespace L2
open PySem PySem.Spec PyProof.Rows
variable {X : Cx}
theorem tn_ok {P : Program} {w : World} {H : Hp} {h : Heap} {a : Addr} {vs : List V} {its : List Value} {n : Nat} (hv : Vals vs its) (e : h.get? a = some { cls := .type "tuple", data := .seq its.toArray n }) : ObjOk P w H h a (Lf.tagO .tn vs a) :=
  ⟨⟨its, n, hv, e⟩, ⟨_, e⟩, fun h1 h2 ⟨its, n, hv, e⟩ k => ⟨its, n, hv, k _ e⟩⟩
theorem tn_at {P : Program} {w : World} {H : Hp} {h : Heap} {a : Addr} {vs : List V} (hok : HOk P w H h) (e : H a = some (Lf.tagO .tn vs a)) : ∃ (its : List Value) (n : Nat), Vals vs its ∧ h.get? a = some { cls := .type "tuple", data := .seq its.toArray n } := (hok a _ e).1
theorem call_tupleN : CallR X (.type "tuple") (fun xs H Q => ∃ p ys, xs = [.ref p] ∧ SqL X.K H p ys ∧ ∀ l, H l = none → Q (.ref l) (upd H l (Lf.tagO .tn ys l))) := by
  intro pins s σ H xs us Q I r h
  obtain ⟨p, ys, rfl, hq, q⟩ := h
  obtain ⟨u, rfl, rx⟩ := vals1 r
  cases rx
  obtain ⟨its, r', pl, hz⟩ := I.list hq
  have hlen := r'.length
  refine call_tuple_list pl.isList (fun h' kp => ?_) (by simp only [List.size_toArray] <;> omega)
  have I1 : Inv X pins σ H { s with heap := h' } := I.kept (t' := s.toks) kp
  have I2 : Inv X pins σ (upd H h'.objs.size (Lf.tagO .tn ys h'.objs.size)) { s with heap := h'.push { cls := .type "tuple", data := .seq its.toArray } } :=
    I1.laid (t' := s.toks) (fun b o e => Heap.get?_push_of_some _ e) (Nat.le_refl _) (tn_ok r' (Heap.get?_push_size _ rfl))
  exact ⟨.ref h'.objs.size, _, I2, rfl, q _ (I1.hok.fresh (Nat.le_refl _))⟩
def rIdxT : V → List V → Hp → VK → Prop := fun x xs H Q => ∃ (a : Addr) (ns : List Int) (k : Int) (st j : Nat), x = .ref a ∧ xs = [.int k, .int st] ∧ H a = some (Lf.tagO .tn (ns.map V.int) a) ∧ st ≤ j ∧ ns[j]? = some k ∧ (∀ m z, st ≤ m → m < j → ns[m]? = some z → z ≠ k) ∧ Q (.int j) H
theorem mt_idxT : MtR X "tuple.index" rIdxT := by
  intro pins s σ H x xs v us Q I rx rs h
  obtain ⟨a, ns, k, st, j, rfl, rfl, e, hlo, hj, hno, q⟩ := h
  cases rx
  obtain ⟨u1, u2, rfl, r1, r2⟩ := Vals.two rs
  obtain ⟨t1, rfl⟩ : ∃ t, u1 = .int k t := r1
  obtain ⟨t2, rfl⟩ : ∃ t, u2 = .int st t := r2
  obtain ⟨its, n, hv, hget⟩ := tn_at I.hok e
  have hi := hv.ints
  have he := SeqAt.ItemsEq.ints (A := X.A.in1) (s := s) (k := k) (t := t1) hi
  have hlen := he.1
  have hjl : j < ns.length := (List.getElem?_eq_some_iff.mp hj).1
  refine call_meets PySem.F.slot_tuple_index ⟨_, hget, rfl⟩ PySem.F.entry_tuple_index (PySem.F.args_tuple_index_3 _ _ _)
    (SeqAt.tuple_index3_found a its.toArray n none #[] (.int k t1) (fun j => decide (ns[j]? = some k)) st t2 j (by simpa [hlen] using hjl) (by rw [SeqAt.searchFrom_nat]; exact hlo) (by simpa [hlen] using hjl) (by simpa using hj) ?_) ⟨hget, fun i hi' => ?_, ⟨.int j, H, I.tok _, ⟨s.toks, rfl⟩, q⟩⟩
  · intro m hm h1 h2
    rw [SeqAt.searchFrom_nat] at h1
    have hm' : m < ns.length := by simp at hm; omega
    have := hno m _ h1 h2 (List.getElem?_eq_getElem hm')
    simpa [List.getElem?_eq_getElem hm'] using this
  · have h1 : i < its.length := by simpa using hi'
    have h2 : i < ns.length := by omega
    simpa [List.getElem?_eq_getElem h2] using he.2 i h1 h2
def tBMT (r : V → List V → Hp → VK → Prop) (to : TE) (t : TA) : TE := fun σ H Q => to σ H fun x H1 => (∃ a vs, x = .ref a ∧ H1 a = some (Lf.tagO .tn vs a)) ∧ t σ H1 fun xs H2 => r x xs H2 Q
theorem pe_bmT {o e : Expr} {es : List Expr} {to : TE} {t : TA} {name : Str} {apos cpos : Pos} {id : String} {r : V → List V → Hp → VK → Prop} (slot : Slot "tuple" name id) (hty : typeOf (.builtin id) = pure (.type "method_descriptor")) (hm : MtR X id r) (ho : PE X o to) (ha : PA X (e :: es) t)
    (hbase : attributeBase o name X.env (eval o X.env) = eval o X.env := by rfl)
    (hfew : ((backTo cpos (starEach (e :: es) X.env)).all (fun x => !x.1) && (backToKw cpos (keywordEach [] X.env)).all (fun x => x.1.isSome)
      && decide ((e :: es).length + ([] : List Keyword).length + (if ([] : List Keyword).isEmpty then 0 else 1) < 30)) = true := by rfl)
    (hline : (apos.endLine == cpos.line) = true := by rfl) (hs : starEach (e :: es) X.env = (false, eval e X.env) :: starEach es X.env := by rfl) (hplain : (backTo cpos (starEach es X.env)).any (·.1) = false := by rfl) :
    PE X (.Call (.Attribute o name apos) (e :: es) [] cpos) (tBMT r to t) := by
  refine ⟨fun pins s σ H Q I h => ?_⟩
  refine wpAny_Call_method_late hbase hfew hline rfl (thn (ho.run pins s σ H _ I h) fun v s1 ⟨x, H1, I1, r1, ty, q1⟩ => ?_)
  obtain ⟨a, vs, rfl, e1⟩ := ty
  obtain ⟨its, n, hv, hget⟩ := tn_at I1.hok e1
  cases r1
  refine ⟨"tuple", id, PySem.F.plainAttrs_tuple, slot, hty, ⟨_, hget, rfl⟩, fun b e => by cases e; exact ⟨_, hget, rfl⟩, ?_⟩
  have hA := ha.run cpos pins s1 σ H1 _ I1 q1
  rw [hs] at hA ⊢
  refine Calls.callWith_builtin (by show (false || (backTo cpos (starEach es X.env)).any (·.1)) = false; rw [hplain] <;> rfl) (Calls.evalArgs_plain ?_)
  exact thn hA fun us s2 ⟨vs, H2, I2, r2, q2⟩ => hm pins s2 σ H2 (.ref a) vs _ us Q I2 rfl r2 q2
theorem cr_sortedT : CallR X (.builtin "sorted") (fun vs H Q => ∃ (a : Addr) (ns : List Int), vs = [V.ref a] ∧ SqT X.K H a (ns.map V.int) ∧ ∀ (ns' : List Int) (p : Addr), ns'.Perm ns → OrdB false ns' → H p = none → Q (.ref p) (upd H p (.lst (ns'.map V.int)))) := by
  intro pins s σ H vs us Q I r h
  obtain ⟨a, ns, rfl, hs, q⟩ := h
  obtain rfl := Vals.ref1 r
  exact sortedT_run (kw := []) I hs (fun _ => rfl) (PyProof.Rows.args_sorted1 _) (fun _ => PyProof.Rows.args_list_sort _) q
end L2
namespace Lf
open PySem PySem.Spec L2 PyProof.Rows
variable [Tabs]
/-- tuple(xs), xs a list of one's own: a tuple known to have no dict -/
def eTpN (da : DE) : DE := fun en => bd (da en) fun p => match frz p.1 with
  | some (.list xs) => .ok (.leaf .tn xs, p.2)
  | _ => .error .stuck
/-- t.index(k, start), ints -/
def eIdxT (da db dc : DE) : DE := fun en => bd (da en) fun p => match p.1 with
  | .leaf .tn xs => bd (db p.2) fun q => bd (dc q.2) fun r => (match q.1, r.1, ints? xs with
    | .d (.int k), .d (.int st), some ns => if 0 ≤ st ∧ k ∈ ns.drop st.toNat then .ok (.d (.int (st + ((ns.drop st.toNat).idxOf k : Nat))), r.2) else .error .stuck
    | _, _, _ => .error .stuck)
  | _ => .error .stuck
/-- sorted(t), t a tuple of ints -/
def eSrtT (da : DE) : DE := fun en => bd (da en) fun p => match frz p.1 with
  | some (.tuple xs) => (match ints? xs with
    | some ns => .ok (.own ((sortI ns).map fun i => .d (.int i)), p.2)
    | none => .error .stuck)
  | _ => .error .stuck
section
variable {X : Cx} {W : WX} {a e c o : Expr} {da db dc : DE} {ds : DA} {pos apos cpos p1 pos1 : Pos}
theorem EX_tpN {p : Pos} (hg : Gl X "tuple") (hm : X.mg "tuple" = none) (hbt : bootBuiltins "tuple" = some (.type "tuple")) (ha : EX X W a da) (he : starEach (a :: []) X.env = (false, eval a X.env) :: starEach [] X.env := by rfl) (hpl : (backTo pos (starEach [] X.env)).any (·.1) = false := by rfl) : EX X W (.Call (.Name "tuple" p) [a] [] pos) (eTpN da) :=
  PE.imp (pe_callTy call_tupleN hg hm hbt (pa_cons ha pa_nil he) (he := he) (hpl := hpl)) fun σ H Q q => by
  obtain ⟨G, F, τ, en, h, hp⟩ := q
  refine bindE h hp fun o e1 hp1 G1 H1 v s1 h1 => ?_
  have h1 : RX X.K G1 F τ σ H1 e1 [v] [o] := h1
  dsimp only at hp1
  split at hp1
  · rename_i xs ex
    obtain ⟨G2, s2, h2⟩ := RX.freeze (vs := []) (os := []) h1 ex
    have dv := h2.dataG
    cases dv with
    | lst hs hd => exact ⟨_, _, rfl, h2.same.seq hs, fun p np => hp1 G2 _ [.ref p] (s1.trans s2) (RX.newLeaf h2.nil np hd) _ rfl⟩
  · exact hp1.elim
theorem EX_idxT (ho : EX X W o da) (ha : EX X W e db) (hc : EX X W c dc)
    (hbase : attributeBase o "index" X.env (eval o X.env) = eval o X.env := by rfl)
    (hfew : ((backTo cpos (starEach [e, c] X.env)).all (fun x => !x.1) && (backToKw cpos (keywordEach [] X.env)).all (fun x => x.1.isSome)
      && decide ([e, c].length + ([] : List Keyword).length + (if ([] : List Keyword).isEmpty then 0 else 1) < 30)) = true := by rfl)
    (hline : (apos.endLine == cpos.line) = true := by rfl) (hs : starEach [e, c] X.env = (false, eval e X.env) :: starEach [c] X.env := by rfl) (hs2 : starEach [c] X.env = (false, eval c X.env) :: starEach [] X.env := by rfl) (hplain : (backTo cpos (starEach [c] X.env)).any (·.1) = false := by rfl) :
    EX X W (.Call (.Attribute o "index" apos) [e, c] [] cpos) (eIdxT da db dc) :=
  PE.imp (pe_bmT PySem.F.slot_tuple_index PySem.F.type_tuple_index mt_idxT ho (pa_cons ha (pa_cons hc pa_nil hs2) hs) hbase hfew hline hs hplain) fun σ H Q q => by
  obtain ⟨G, F, τ, en, h, hp⟩ := q
  refine bindE (vs := []) (os := []) h hp fun o1 e1 hp1 G1 H1 v s1 h1 => ?_
  have h1 : RX X.K G1 F τ σ H1 e1 [v] [o1] := h1
  dsimp only at hp1
  split at hp1
  · rename_i xs h0
    obtain ⟨a, us, ea, hH, hd, _⟩ := h1.leafT
    subst ea
    refine ⟨⟨a, us, rfl, hH⟩, ?_⟩
    refine bindE (vs := [.ref a]) (os := [.leaf .tn xs]) h1 (hp1.mono s1) fun o2 e2 hp2 G2 H2 w s2 h2 => ?_
    have h2 : RX X.K G2 F τ σ H2 e2 [.ref a, w] [.leaf .tn xs, o2] := h2
    dsimp only at hp2
    refine bindE (vs := [.ref a, w]) (os := [.leaf .tn xs, o2]) h2 (hp2.mono s2) fun o3 e3 hp3 G3 H3 u s3 h3 => ?_
    have h3 : RX X.K G3 F τ σ H3 e3 [.ref a, w, u] [.leaf .tn xs, o2, o3] := h3
    dsimp only at hp3
    split at hp3
    · rename_i k st ns e6 g1 g2
      split at hp3
      · rename_i hk
        obtain ⟨a', us', ea, hH', hd', _⟩ := h3.leafT
        cases ea
        have h4 : RX X.K G3 F τ σ H3 e3 [w, u] [.d (.int k), .d (.int st)] := RX.right (vs := [.ref a]) (os := [OT.leaf .tn xs]) (ws := [w, u]) (ps := [.d (.int k), .d (.int st)]) rfl h3
        have dd := h4.datas (xs := [.int k, .int st]) rfl
        cases dd with
        | cons d1 d2 =>
          cases d2 with
          | cons d2 d3 =>
            cases d1
            cases d2
            have vv := ints_vs e6 hd'
            subst vv
            obtain ⟨s, rfl⟩ : ∃ s : Nat, st = s := ⟨st.toNat, by omega⟩
            have hk2 := hk.2
            rw [Int.toNat_natCast] at hk2
            obtain ⟨i1, i2⟩ := idx_at hk2
            refine ⟨a, ns, k, s, s + (ns.drop s).idxOf k, rfl, rfl, hH', by omega, by rw [← List.getElem?_drop]; exact i1, fun m z h1 h2 hz => ?_, ?_⟩
            · refine i2 (m - s) z (by omega) ?_
              rw [List.getElem?_drop, show s + (m - s) = m by omega]
              exact hz
            · have q := hp3 G3 H3 [.int (((s : Nat) : Int) + ((ns.drop s).idxOf k : Nat))] s3 (h3.nil.withD (.int _)) _ rfl
              rw [Int.natCast_add]
              exact q
      · exact hp3.elim
    · exact hp3.elim
  · exact hp1.elim
theorem EX_srtT (hg1 : Gl X "sorted") (hm1 : X.mg "sorted" = none) (ha : EX X W e da)
    (hb1 : bootBuiltins "sorted" = some (.builtin "sorted"))
    (he : starEach [e] X.env = (false, eval e X.env) :: starEach [] X.env := by rfl) (hpl : (backTo pos1 (starEach [] X.env)).any (·.1) = false := by rfl) :
    EX X W (.Call (.Name "sorted" p1) [e] [] pos1) (eSrtT da) :=
  PE.imp (pe_callB cr_sortedT hg1 hm1 hb1 (pa_cons ha pa_nil he) (by decide) (by decide) he hpl) fun σ H Q q => by
  obtain ⟨G, F, τ, en, h, hp⟩ := q
  refine bindE h hp fun o e1 hp1 G1 H1 v s1 h1 => ?_
  have h1 : RX X.K G1 F τ σ H1 e1 [v] [o] := h1
  dsimp only at hp1
  split at hp1
  · rename_i xs ex
    split at hp1
    · rename_i ns en2
      have d1 := RX.data (vs := []) (os := []) h1 ex
      cases d1 with
      | @tup a ys _ hs ha2 =>
        have ey := ints_vs en2 ha2
        subst ey
        refine ⟨a, ns, rfl, hs, fun ns' p hperm hpw np => ?_⟩
        have e : ns' = sortI ns := sortI_uniq hperm hpw
        subst e
        have h3 := RX.withDs h1.nil (dInts X.K _ (sortI ns))
        have h4 := RX.newL0 (vs := (sortI ns).map V.int) (os := (sortI ns).map fun i => OT.d (.int i)) (by simpa only [List.map_map, Function.comp_def, List.append_nil] using h3) np
        exact hp1 _ _ [.ref p] s1 h4 _ rfl
    · exact hp1.elim
  · exact hp1.elim
end
end Lf
end
section
set_option Elab.async false
set_option linter.all false
set_option maxRecDepth 100000
set_option maxHeartbeats 2000000
namespace Cm
open PySem PySem.Spec L2 Lf
def D_check_counter : DS := (dIf (tOr' (tNt (tV (eCl 1 Cp.f_is_whole (aCons (eVar 1) aNil)))) (tV (eOp2 fGe (eVar 1) (eLen (eVar 0))))) (fun _ => .error .stuck) dNx)
def f_check_counter : DF := dFn [false, false] 0 D_check_counter
def D_check_neighbours : DS := (dSq (dEx (eCl 1 Cp.f_check_hall (aCons (eVar 0) aNil))) (dEx (eCl 2 f_check_counter (aCons (eSl (eVar 0) pNo (pSm (eNeg (eD (.int 1))))) (aCons (eVar 1) aNil)))))
def f_check_neighbours : DF := dFn [false, false] 0 D_check_neighbours
def D_leads : DS := (dSq (dSet 2 (eD (.int 0))) (dSq (dSet 3 (eLst aNil)) (dSq (dFor (iZ2 (aCons (eVar 0) (aCons (eVar 1) aNil))) (gTp [4, 5]) (dSq (dAug 2 fAdd (eVar 4)) (dSq (dEx (eApp 3 (eVar 2))) (dAug 2 fSub (eVar 5))))) (dRt (eMov 3)))))
def f_leads : DF := dFn [false, false] 4 D_leads
def D_most_moves : DS := (dSq (dSet 2 (eCb fMaxA (aCons (eCl 2 f_leads (aCons (eVar 0) (aCons (eVar 1) aNil))) aNil))) (dRt (eTup (aCons (eVar 2) (aCons (eOp2 fSub (eOp2 fAdd (eVar 2) (eCb fSumA (aCons (eVar 1) aNil))) (eCb fSumA (aCons (eVar 0) aNil))) aNil)))))
def f_most_moves : DF := dFn [false, false] 1 D_most_moves
def D_going_on : DS := (dSq (dSet 3 (eCl 2 f_leads (aCons (eVar 0) (aCons (eVar 1) aNil)))) (dSq (dSet 4 (eOp2 fSub (eCb fMaxA (aCons (eVar 3) aNil)) (eVar 2))) (dSq (dSet 5 (eLst aNil)) (dSq (dFor (iSq (eVar 3)) (gNm 6) (dSq (dEx (eApp 5 (eCb fMax2 (aCons (eOp2 fSub (eVar 6) (eVar 4)) (aCons (eD (.int 0)) aNil))))) (dSet 4 (eCb fMax2 (aCons (eVar 4) (aCons (eVar 6) aNil)))))) (dRt (eMov 5))))))
def f_going_on : DF := dFn [false, false, false] 4 D_going_on
def D_going_back : DS := (dRt (eRv (eCl 3 f_going_on (aCons (eRv (eVar 1)) (aCons (eRv (eVar 0)) (aCons (eVar 2) aNil))))))
def f_going_back : DF := dFn [false, false, false] 0 D_going_back
def D_carried : DS := (dSq (dSet 3 (eIx (eVar 0) (eVar 1))) (dSq (dSet 4 (eIx (eVar 0) (eOp2 fAdd (eVar 1) (eD (.int 1))))) (dSq (dIf (tV (eOp2 fGe (eVar 2) (eD (.int 0)))) (dSet 5 (eCl 3 f_going_on (aCons (eVar 3) (aCons (eVar 4) (aCons (eVar 2) aNil))))) (dSet 5 (eLc [8] (iSq (eCl 3 f_going_back (aCons (eVar 3) (aCons (eVar 4) (aCons (eNeg (eVar 2)) aNil))))) (gNm 8) tYs (eNeg (eVar 8))))) (dSq (dSet 6 (eTp (eLc [8, 9] (iZ2 (aCons (eVar 3) (aCons (eVar 5) aNil))) (gTp [8, 9]) tYs (eOp2 fSub (eVar 8) (eVar 9))))) (dSq (dSet 7 (eTp (eLc [8, 9] (iZ2 (aCons (eVar 4) (aCons (eVar 5) aNil))) (gTp [8, 9]) tYs (eOp2 fAdd (eVar 8) (eVar 9))))) (dRt (eCat (eCat (eSl (eVar 0) pNo (pSm (eVar 1))) (eTup (aCons (eVar 6) (aCons (eVar 7) aNil)))) (eSl (eVar 0) (pSm (eOp2 fAdd (eVar 1) (eD (.int 2)))) pNo))))))))
def f_carried : DF := dFn [false, false, false] 7 D_carried
def D_can_move : DS := (dSq (dEx (eCl 2 f_check_neighbours (aCons (eVar 0) (aCons (eVar 1) aNil)))) (dRt (eCl 2 f_most_moves (aCons (eIx (eVar 0) (eVar 1)) (aCons (eIx (eVar 0) (eOp2 fAdd (eVar 1) (eD (.int 1)))) aNil)))))
def f_can_move : DF := dFn [false, false] 0 D_can_move
def D_moved : DS := (dSq (dEx (eCl 2 f_check_neighbours (aCons (eVar 0) (aCons (eVar 1) aNil)))) (dSq (dIf (tV (eTyNot "int" (eVar 2))) (fun _ => .error .stuck) dNx) (dSq (dAsg (gTp [3, 4]) (eCl 2 f_most_moves (aCons (eIx (eVar 0) (eVar 1)) (aCons (eIx (eVar 0) (eOp2 fAdd (eVar 1) (eD (.int 1)))) aNil)))) (dSq (dIf (tOr' (tV (eOp2 fGt (eVar 2) (eVar 3))) (tV (eOp2 fGt (eNeg (eVar 2)) (eVar 4)))) (dRt (eD .none)) dNx) (dRt (eCl 3 f_carried (aCons (eVar 0) (aCons (eVar 1) (aCons (eVar 2) aNil)))))))))
def f_moved : DF := dFn [false, false, false] 2 D_moved
end Cm
end
section
set_option Elab.async false
set_option linter.all false
set_option maxRecDepth 100000
set_option maxHeartbeats 2000000
namespace Cb
open PySem PySem.Spec L2 Lf
def D__law_cell_at : DS := (dSq (dIf (tV (eOp2 fLt (eVar 1) (eLen (eVar 0)))) (dRt (eIx (eVar 0) (eVar 1))) dNx) (dRt (eD (.int 0))))
def f__law_cell_at : DF := dFn [false, false] 0 D__law_cell_at
def D__law_bag : DS := (dRt (eLst (aCons (eCb fMax2 (aCons (eD (.int 1)) (aCons (eOp2 fSub (eVar 0) (eOp2 fPow (eD (.int 10)) (eD (.int 18)))) aNil))) (aCons (eOp2 fMod (eVar 0) (eOp2 fAdd (eOp2 fPow (eD (.int 10)) (eD (.int 40))) (eD (.int 121)))) (aCons (eD (.int 0)) aNil)))))
def f__law_bag : DF := dFn [false] 0 D__law_bag
def D__law_draw : DS := (dSq (dIf (tV (eOp2 fGt (eIxS 0 (eD (.int 0))) (eD (.int 1)))) (dSq (dSet 2 (eOp2 fMod (eIxS 0 (eD (.int 0))) (eVar 1))) (dSq (dStI 0 (eOp2 fDiv (eIxS 0 (eD (.int 0))) (eVar 1)) (eD (.int 0))) (dRt (eMov 2)))) dNx) (dSq (dStI 0 (eOp2 fAdd (eIxS 0 (eD (.int 2))) (eD (.int 1))) (eD (.int 2))) (dSq (dSet 2 (eOp2 fMod (eOp2 fPow (eOp2 fAdd (eIxS 0 (eD (.int 1))) (eOp2 fMul (eIxS 0 (eD (.int 2))) (eD (.int 982451653)))) (eD (.int 5))) (eOp2 fAdd (eOp2 fPow (eD (.int 10)) (eD (.int 39))) (eD (.int 3))))) (dSq (dSet 2 (eOp2 fMod (eOp2 fPow (eOp2 fAdd (eVar 2) (eOp2 fMul (eIxS 0 (eD (.int 2))) (eD (.int 15485863)))) (eD (.int 3))) (eOp2 fAdd (eOp2 fPow (eD (.int 10)) (eD (.int 36))) (eD (.int 67))))) (dRt (eOp2 fMod (eOp2 fDiv (eVar 2) (eD (.int 1024))) (eVar 1)))))))
def f__law_draw : DF := dFn [true, false] 1 D__law_draw
def D__law_minutes : DS := (dSq (dSet 2 (eIx (eLst (aCons (eD (.int 2)) (aCons (eD (.int 4)) (aCons (eD (.int 20)) (aCons (eOp2 fPow (eD (.int 10)) (eD (.int 14))) (aCons (eD (.int 0)) aNil)))))) (eVar 1))) (dSq (dIf (tV (eOp2 fEq (eVar 2) (eD (.int 0)))) (dSet 2 (eIx (eLst (aCons (eD (.int 1)) (aCons (eD (.int 2)) (aCons (eD (.int 4)) (aCons (eD (.int 30)) (aCons (eOp2 fPow (eD (.int 10)) (eD (.int 14))) aNil)))))) (eClB 2 f__law_draw 0 (aCons (eD (.int 5)) aNil)))) dNx) (dRt (eOp2 fMul (eClB 2 f__law_draw 0 (aCons (eVar 2) aNil)) (eCb fMin2 (aCons (eD (.int 1)) (aCons (eClB 2 f__law_draw 0 (aCons (eD (.int 4)) aNil)) aNil)))))))
def f__law_minutes : DF := dFn [true, false] 1 D__law_minutes
def D__law_hall : DS := (dSq (dAsg (gTp [4, 5]) (eTup (aCons (eOp2 fAdd (eD (.int 1)) (eClB 2 f__law_draw 0 (aCons (eVar 1) aNil))) (aCons (eOp2 fAdd (eD (.int 1)) (eClB 2 f__law_draw 0 (aCons (eVar 2) aNil))) aNil)))) (dSq (dSet 6 (eClB 2 f__law_draw 0 (aCons (eIf (tV (eVar 3)) (eD (.int 2)) (eD (.int 5))) aNil))) (dRt (eTp (eLc [7] (iR1 (aCons (eVar 4) aNil)) (gNm 7) tYs (eTp (eLc [8] (iR1 (aCons (eVar 5) aNil)) (gNm 8) tYs (eClB 2 f__law_minutes 0 (aCons (eVar 6) aNil)))))))))
def f__law_hall : DF := dFn [true, false, false, false] 5 D__law_hall
end Cb
end
section
set_option Elab.async false
set_option linter.all false
set_option maxRecDepth 100000
set_option maxHeartbeats 2000000
namespace Cq
open PySem PySem.Spec L2 Lf
def D_totals : DS := (dSq (dEx (eCl 1 Cp.f_check_hall (aCons (eVar 0) aNil))) (dRt (eTp (eLc [1] (iSq (eVar 0)) (gNm 1) tYs (eCb fSumA (aCons (eVar 1) aNil))))))
def f_totals : DF := dFn [false] 1 D_totals
def D_with_total : DS := (dSq (dEx (eCl 2 Cm.f_check_neighbours (aCons (eVar 0) (aCons (eVar 1) aNil)))) (dSq (dIf (tNt (tV (eCl 1 Cp.f_is_whole (aCons (eVar 2) aNil)))) (fun _ => .error .stuck) dNx) (dRt (eCl 3 Cm.f_moved (aCons (eVar 0) (aCons (eVar 1) (aCons (eOp2 fSub (eCb fSumA (aCons (eIx (eVar 0) (eVar 1)) aNil)) (eVar 2)) aNil)))))))
def f_with_total : DF := dFn [false, false, false] 0 D_with_total
def D_exchanged : DS := (dSq (dEx (eCl 2 Cm.f_check_neighbours (aCons (eVar 0) (aCons (eVar 1) aNil)))) (dRt (eCl 3 Cm.f_carried (aCons (eVar 0) (aCons (eVar 1) (aCons (eOp2 fSub (eCb fSumA (aCons (eIx (eVar 0) (eVar 1)) aNil)) (eCb fSumA (aCons (eIx (eVar 0) (eOp2 fAdd (eVar 1) (eD (.int 1)))) aNil))) aNil))))))
def f_exchanged : DF := dFn [false, false] 0 D_exchanged
def D__law_bag : DS := (dRt (eLst (aCons (eCb fMax2 (aCons (eD (.int 0)) (aCons (eOp2 fSub (eVar 0) (eOp2 fPow (eD (.int 10)) (eD (.int 18)))) aNil))) (aCons (eOp2 fAdd (eOp2 fMod (eVar 0) (eD (.int 162259276829213363391578010288127))) (eOp2 fMul (eD (.int 7919)) (eOp2 fAdd (eVar 1) (eD (.int 1))))) (aCons (eD (.int 0)) aNil)))))
def f__law_bag : DF := dFn [false, false] 0 D__law_bag
def D__law_take : DS := (dSq (dIf (tV (eOp2 fGt (eIxS 0 (eD (.int 0))) (eD (.int 1)))) (dSq (dSet 2 (eOp2 fMod (eIxS 0 (eD (.int 0))) (eVar 1))) (dSq (dStI 0 (eOp2 fDiv (eIxS 0 (eD (.int 0))) (eVar 1)) (eD (.int 0))) (dRt (eMov 2)))) dNx) (dSq (dStI 0 (eOp2 fAdd (eIxS 0 (eD (.int 2))) (eD (.int 1))) (eD (.int 2))) (dSq (dSet 3 (eOp2 fMod (eOp2 fPow (eOp2 fAdd (eIxS 0 (eD (.int 1))) (eOp2 fMul (eD (.int 1299709)) (eIxS 0 (eD (.int 2))))) (eD (.int 3))) (eD (.int 162259276829213363391578010288127)))) (dSq (dSet 3 (eOp2 fMod (eOp2 fPow (eOp2 fAdd (eVar 3) (eOp2 fMul (eD (.int 15485863)) (eIxS 0 (eD (.int 2))))) (eD (.int 5))) (eD (.int 618970019642690137449562111)))) (dRt (eOp2 fMod (eOp2 fDiv (eVar 3) (eD (.int 1048576))) (eVar 1)))))))
def f__law_take : DF := dFn [true, false] 2 D__law_take
def D__law_alike (self : DF) : DS := (dSq (dIf (tV (eIsi2 "list" "tuple" (eVar 1))) (dSq (dIf (tOr' (tV (eOp2 fNe (eIsi "list" (eVar 0)) (eIsi "list" (eVar 1)))) (tNt (tV (eIsi2 "list" "tuple" (eVar 0))))) (dRt (eD (.bool false))) dNx) (dSq (dIf (tV (eOp2 fNe (eLen (eVar 0)) (eLen (eVar 1)))) (dRt (eD (.bool false))) dNx) (dRt (eCb fAll (aCons (eLc [2] (iR1 (aCons (eLen (eVar 1)) aNil)) (gNm 2) tYs (eCl 2 self (aCons (eIx (eVar 0) (eVar 2)) (aCons (eIx (eVar 1) (eVar 2)) aNil)))) aNil))))) dNx) (dSq (dIf (tOr' (tV (eIsi "bool" (eVar 1))) (tV (eIsi "bool" (eVar 0)))) (dRt (eAn (eIsi "bool" (eVar 1)) (eAn (eIsi "bool" (eVar 0)) (eOp2 fEq (eVar 0) (eVar 1))))) dNx) (dRt (eOp2 fEq (eVar 0) (eVar 1)))))
def f__law_alike : Nat → DF
  | 0 => fun _ => .error .stuck
  | n + 1 => dFn [false, false] 1 (D__law_alike (f__law_alike n))
def D__law_minutes : DS := (dSq (dSet 2 (eClB 2 f__law_take 0 (aCons (eD (.int 5)) aNil))) (dRt (eIx (eLst (aCons (eD (.int 0)) (aCons (eD (.int 0)) (aCons (eClB 2 f__law_take 0 (aCons (eD (.int 4)) aNil)) (aCons (eClB 2 f__law_take 0 (aCons (eD (.int 10)) aNil)) (aCons (eClB 2 f__law_take 0 (aCons (eOp2 fAdd (eVar 1) (eD (.int 1))) aNil)) aNil)))))) (eVar 2))))
def f__law_minutes : DF := dFn [true, false] 1 D__law_minutes
def D__law_hall : DS := (dSq (dSet 3 (eIx (eLst (aCons (eD (.int 3)) (aCons (eD (.int 9)) (aCons (eOp2 fPow (eD (.int 10)) (eD (.int 11))) aNil)))) (eOp2 fDiv (eClB 2 f__law_take 0 (aCons (eD (.int 5)) aNil)) (eD (.int 2))))) (dRt (eTp (eLc [4] (iR1 (aCons (eVar 1) aNil)) (gNm 4) tYs (eTp (eLc [5] (iR1 (aCons (eVar 2) aNil)) (gNm 5) tYs (eClB 2 f__law_minutes 0 (aCons (eVar 3) aNil))))))))
def f__law_hall : DF := dFn [true, false, false] 3 D__law_hall
def D__law_worths : DS := (dSq (dSet 1 (eLen (eIx (eVar 0) (eD (.int 0))))) (dSq (dSet 2 (eLst aNil)) (dSq (dFor (iR1 (aCons (eVar 1) aNil)) (gNm 3) (dSq (dSet 4 (eMul0 (eLst (aCons (eD (.int 0)) aNil)) (eVar 1))) (dSq (dFor (iSq (eVar 0)) (gNm 5) (dSq (dSet 6 (eD (.int 0))) (dFor (iR2 (aCons (eVar 3) (aCons (eVar 1) aNil))) (gNm 7) (dSq (dSet 6 (eOp2 fAdd (eCb fMax2 (aCons (eVar 6) (aCons (eIxS 4 (eVar 7)) aNil))) (eIx (eVar 5) (eVar 7)))) (dStI 4 (eVar 6) (eVar 7)))))) (dEx (eApp 2 (eSlS 4 (pSm (eVar 3)) pNo)))))) (dRt (eMov 2)))))
def f__law_worths : DF := dFn [false] 7 D__law_worths
end Cq
end
section
set_option Elab.async false
set_option linter.all false
set_option maxRecDepth 100000
set_option maxHeartbeats 2000000
namespace Cj
open PySem PySem.Spec L2 Lf
def D_settling : DS := (dSq (dSet 1 (eVar 0)) (dSq (dSet 2 (eLst aNil)) (dSq (dFor (iR2 (aCons (eD (.int 1)) (aCons (eLen (eVar 0)) aNil))) (gNm 3) (dFor (iRev1 (eVar 3)) (gNm 4) (dSq (dAsg (gTp [5, 6]) (eCl 2 Cm.f_most_moves (aCons (eIx (eVar 1) (eVar 4)) (aCons (eIx (eVar 1) (eOp2 fAdd (eVar 4) (eD (.int 1)))) aNil)))) (dIf (tV (eOp2 fGt (eVar 6) (eD (.int 0)))) (dSq (dSet 1 (eCl 3 Cm.f_carried (aCons (eVar 1) (aCons (eVar 4) (aCons (eNeg (eVar 6)) aNil))))) (dEx (eApp 2 (eTup (aCons (eVar 4) (aCons (eNeg (eVar 6)) aNil)))))) dNx)))) (dRt (eTup (aCons (eVar 1) (aCons (eVar 2) aNil)))))))
def f_settling : DF := dFn [false] 6 D_settling
def D_to_first : DS := (dSq (dEx (eCl 1 Cp.f_check_hall (aCons (eVar 0) aNil))) (dRt (eIx (eCl 1 f_settling (aCons (eVar 0) aNil)) (eD (.int 0)))))
def f_to_first : DF := dFn [false] 0 D_to_first
def D_seen_from_behind : DS := (dRt (eTp (eLc [1] (iSq (eRv (eVar 0))) (gNm 1) tYs (eRv (eVar 1)))))
def f_seen_from_behind : DF := dFn [false] 1 D_seen_from_behind
def D_to_last : DS := (dSq (dEx (eCl 1 Cp.f_check_hall (aCons (eVar 0) aNil))) (dRt (eCl 1 f_seen_from_behind (aCons (eCl 1 f_to_first (aCons (eCl 1 f_seen_from_behind (aCons (eVar 0) aNil)) aNil)) aNil))))
def f_to_last : DF := dFn [false] 0 D_to_last
end Cj
end
section
set_option Elab.async false
set_option linter.all false
set_option maxRecDepth 100000
set_option maxHeartbeats 2000000
namespace Cw
open PySem PySem.Spec L2 Lf
def D_worths_from : DS := (dSq (dSet 3 (eTpG [4] (iSq (eSl (eVar 0) (pSm (eVar 1)) pNo)) (gNm 4) tYs (eSl (eVar 4) (pSm (eVar 2)) pNo))) (dRt (eCl 2 Cp.f_gone_through (aCons (eVar 3) (aCons (eMul0 (eLst (aCons (eD (.int 0)) aNil)) (eLen (eIx (eVar 3) (eD (.int 0))))) aNil)))))
def f_worths_from : DF := dFn [false, false, false] 2 D_worths_from
def D_check_ends : DS := (dSq (dEx (eCl 1 Cp.f_check_hall (aCons (eVar 0) aNil))) (dSq (dEx (eCl 2 Cp.f_check_customer (aCons (eVar 0) (aCons (eVar 1) aNil)))) (dSq (dEx (eCl 2 Cp.f_check_customer (aCons (eVar 0) (aCons (eVar 2) aNil)))) (dIf (tV (eOp2 fGt (eVar 1) (eVar 2))) (fun _ => .error .stuck) dNx))))
def f_check_ends : DF := dFn [false, false, false] 0 D_check_ends
def D_greatest : DS := (dSq (dEx (eCl 3 f_check_ends (aCons (eVar 0) (aCons (eVar 1) (aCons (eVar 2) aNil))))) (dRt (eIx (eIx (eCl 3 f_worths_from (aCons (eVar 0) (aCons (eD (.int 0)) (aCons (eVar 1) aNil)))) (eNeg (eD (.int 1)))) (eOp2 fSub (eVar 2) (eVar 1)))))
def f_greatest : DF := dFn [false, false, false] 0 D_greatest
end Cw
end
section
set_option Elab.async false
set_option linter.all false
set_option maxRecDepth 100000
set_option maxHeartbeats 2000000
namespace Ce
open PySem PySem.Spec L2 Lf
def D__law_bag : DS := (dRt (eLst (aCons (eCb fMax2 (aCons (eD (.int 0)) (aCons (eOp2 fSub (eVar 0) (eOp2 fPow (eD (.int 10)) (eD (.int 18)))) aNil))) (aCons (eOp2 fAdd (eOp2 fMod (eVar 0) (eD (.int 162259276829213363391578010288127))) (eOp2 fMul (eD (.int 4409)) (eOp2 fAdd (eVar 1) (eD (.int 1))))) (aCons (eD (.int 0)) aNil)))))
def f__law_bag : DF := dFn [false, false] 0 D__law_bag
def D__law_take : DS := (dSq (dIf (tV (eOp2 fGt (eIxS 0 (eD (.int 0))) (eD (.int 1)))) (dSq (dSet 2 (eOp2 fMod (eIxS 0 (eD (.int 0))) (eVar 1))) (dSq (dStI 0 (eOp2 fDiv (eIxS 0 (eD (.int 0))) (eVar 1)) (eD (.int 0))) (dRt (eMov 2)))) dNx) (dSq (dStI 0 (eOp2 fAdd (eIxS 0 (eD (.int 2))) (eD (.int 1))) (eD (.int 2))) (dSq (dSet 3 (eOp2 fMod (eOp2 fPow (eOp2 fAdd (eIxS 0 (eD (.int 1))) (eOp2 fMul (eD (.int 1299827)) (eIxS 0 (eD (.int 2))))) (eD (.int 3))) (eD (.int 162259276829213363391578010288127)))) (dSq (dSet 3 (eOp2 fMod (eOp2 fPow (eOp2 fAdd (eVar 3) (eOp2 fMul (eD (.int 15485917)) (eIxS 0 (eD (.int 2))))) (eD (.int 5))) (eD (.int 618970019642690137449562111)))) (dRt (eOp2 fMod (eOp2 fDiv (eVar 3) (eD (.int 1048576))) (eVar 1)))))))
def f__law_take : DF := dFn [true, false] 2 D__law_take
end Ce
end
section
set_option Elab.async false
set_option linter.all false
set_option maxRecDepth 100000
set_option maxHeartbeats 2000000
namespace Co
open PySem PySem.Spec L2 Lf
end Co
end
section
set_option Elab.async false
set_option linter.all false
set_option maxRecDepth 100000
set_option maxHeartbeats 2000000
namespace Cu
open PySem PySem.Spec L2 Lf
def D_all_greatest : DS := (dRt (eLc [1] (iR1 (aCons (eLen (eIx (eVar 0) (eD (.int 0)))) aNil)) (gNm 1) tYs (eIx (eCl 3 Cw.f_worths_from (aCons (eVar 0) (aCons (eD (.int 0)) (aCons (eVar 1) aNil)))) (eNeg (eD (.int 1))))))
def f_all_greatest : DF := dFn [false] 1 D_all_greatest
def D_check_both : DS := (dSq (dEx (eCl 1 Cp.f_check_hall (aCons (eVar 0) aNil))) (dSq (dEx (eCl 1 Cp.f_check_hall (aCons (eVar 1) aNil))) (dIf (tV (eOp2 fNe (eLen (eIx (eVar 0) (eD (.int 0)))) (eLen (eIx (eVar 1) (eD (.int 0)))))) (fun _ => .error .stuck) dNx)))
def f_check_both : DF := dFn [false, false] 0 D_check_both
def D_alike : DS := (dSq (dEx (eCl 2 f_check_both (aCons (eVar 0) (aCons (eVar 1) aNil)))) (dRt (eOp2 fEq (eCl 1 f_all_greatest (aCons (eVar 0) aNil)) (eCl 1 f_all_greatest (aCons (eVar 1) aNil)))))
def f_alike : DF := dFn [false, false] 0 D_alike
end Cu
end
section
set_option Elab.async false
set_option linter.all false
set_option maxRecDepth 100000
set_option maxHeartbeats 2000000
namespace Ch
open PySem PySem.Spec L2 Lf
end Ch
end
section
set_option Elab.async false
set_option linter.all false
set_option maxRecDepth 100000
set_option maxHeartbeats 2000000
namespace Cf
open PySem PySem.Spec L2 Lf
def D_check_bounds : DS := (dSq (dEx (eCl 1 Cp.f_check_hall (aCons (eVar 0) aNil))) (dSq (dIf (tOr' (tNt (tV (eCl 1 Cp.f_is_whole (aCons (eVar 1) aNil)))) (tV (eOp2 fGt (eVar 1) (eCb fMin2 (aCons (eLen (eVar 0)) (aCons (eLen (eIx (eVar 0) (eD (.int 0)))) aNil)))))) (fun _ => .error .stuck) dNx) (dIf (tOr' (tNt (tV (eCl 1 Cp.f_is_whole (aCons (eVar 2) aNil)))) (tV (eOp2 fGt (eVar 2) (eLen (eIx (eVar 0) (eD (.int 0))))))) (fun _ => .error .stuck) dNx)))
def f_check_bounds : DF := dFn [false, false, false] 0 D_check_bounds
def D_covered_behind : DS := (dRt (eCb fSumA (aCons (eLc [3] (iSq (eSl (eVar 0) (pSm (eOp2 fSub (eLen (eVar 0)) (eVar 1))) pNo)) (gNm 3) tYs (eCb fSumA (aCons (eSl (eVar 3) pNo (pSm (eVar 2))) aNil))) aNil)))
def f_covered_behind : DF := dFn [false, false, false] 1 D_covered_behind
def D_covered : DS := (dSq (dEx (eCl 3 f_check_bounds (aCons (eVar 0) (aCons (eVar 1) (aCons (eVar 2) aNil))))) (dRt (eCl 3 f_covered_behind (aCons (eCl 1 Cj.f_to_last (aCons (eVar 0) aNil)) (aCons (eVar 1) (aCons (eVar 2) aNil))))))
def f_covered : DF := dFn [false, false, false] 0 D_covered
end Cf
end
section
set_option Elab.async false
set_option linter.all false
set_option maxRecDepth 100000
set_option maxHeartbeats 2000000
namespace Ck
open PySem PySem.Spec L2 Lf
def D_check_like : DS := (dSq (dEx (eCl 2 Cu.f_check_both (aCons (eVar 0) (aCons (eVar 1) aNil)))) (dIf (tV (eOp2 fNe (eLen (eVar 0)) (eLen (eVar 1)))) (fun _ => .error .stuck) dNx))
def f_check_like : DF := dFn [false, false] 0 D_check_like
def D_led : DS := (dSq (dEx (eCl 2 f_check_like (aCons (eVar 0) (aCons (eVar 1) aNil)))) (dRt (eOp2 fEq (eCl 1 Cj.f_to_first (aCons (eVar 0) aNil)) (eCl 1 Cj.f_to_first (aCons (eVar 1) aNil)))))
def f_led : DF := dFn [false, false] 0 D_led
end Ck
end
section
set_option Elab.async false
set_option linter.all false
set_option maxRecDepth 100000
set_option maxHeartbeats 2000000
namespace Cl
open PySem PySem.Spec L2 Lf
def D_tower_by_customers : DS := (dSq (dSet 1 (eRv (eCl 1 Cj.f_to_last (aCons (eVar 0) aNil)))) (dRt (eLc [2] (iR2 (aCons (eD (.int 1)) (aCons (eOp2 fAdd (eLen (eIx (eVar 0) (eD (.int 0)))) (eD (.int 1))) aNil))) (gNm 2) tYs (eTp (eLc [3] (iSq (eSl (eVar 1) pNo (pSm (eVar 2)))) (gNm 3) tYs (eCb fSumA (aCons (eSl (eVar 3) pNo (pSm (eVar 2))) aNil)))))))
def f_tower_by_customers : DF := dFn [false] 3 D_tower_by_customers
def D_towers : DS := (dSq (dEx (eCl 1 Cp.f_check_hall (aCons (eVar 0) aNil))) (dRt (eTup (aCons (eCl 1 f_tower_by_customers (aCons (eVar 0) aNil)) (aCons (eCl 1 f_tower_by_customers (aCons (eTZ (eVar 0)) aNil)) aNil)))))
def f_towers : DF := dFn [false] 0 D_towers
end Cl
end
section
set_option Elab.async false
set_option linter.all false
set_option maxRecDepth 100000
set_option maxHeartbeats 2000000
namespace Cr
open PySem PySem.Spec L2 Lf
def D_check_room : DS := (dIf (tNt (tV (eCl 1 Cp.f_is_whole (aCons (eVar 0) aNil)))) (fun _ => .error .stuck) dNx)
def f_check_room : DF := dFn [false] 0 D_check_room
def D_time_left : DS := (dSq (dIf (tOr' (tV (eOp2 fEq (eVar 1) (eLenS 0))) (tV (eOp2 fLt (eVar 2) (eD (.int 0))))) (dRt (eD (.int 0))) dNx) (dRt (eIx3 0 1 2)))
def f_time_left : DF := dFn [true, false, false] 0 D_time_left
def D_blocked : DS := (dSq (dEx (eCl 1 Cp.f_check_hall (aCons (eVar 0) aNil))) (dSq (dEx (eCl 2 Cp.f_check_day (aCons (eVar 0) (aCons (eVar 1) aNil)))) (dSq (dEx (eCl 1 f_check_room (aCons (eVar 2) aNil))) (dSq (dSet 3 (eLc [9] (iSq (eVar 0)) (gNm 9) tYs (eLst aNil))) (dSq (dFor (iR1 (aCons (eLen (eVar 1)) aNil)) (gNm 4) (dSq (dSet 5 (eIx (eVar 1) (eVar 4))) (dFor (iR1 (aCons (eLen (eVar 0)) aNil)) (gNm 6) (dSq (dSet 7 (eClB 3 f_time_left 3 (aCons (eVar 6) (aCons (eOp2 fSub (eVar 4) (eD (.int 1))) aNil)))) (dSq (dSet 8 (eOp2 fAdd (eCb fMax2 (aCons (eVar 5) (aCons (eVar 7) aNil))) (eIx (eIx (eVar 0) (eVar 6)) (eVar 4)))) (dSq (dSet 5 (eCb fMax2 (aCons (eVar 8) (aCons (eClB 3 f_time_left 3 (aCons (eOp2 fAdd (eVar 6) (eD (.int 1))) (aCons (eOp2 fSub (eOp2 fSub (eVar 4) (eVar 2)) (eD (.int 1))) aNil))) aNil)))) (dEx (eAppAt 3 6 5)))))))) (dRt (eMov 3)))))))
def f_blocked : DF := dFn [false, false, false] 7 D_blocked
end Cr
end
section
set_option Elab.async false
set_option linter.all false
set_option maxRecDepth 100000
set_option maxHeartbeats 2000000
namespace Cs
open PySem PySem.Spec L2 Lf
def D_move : DS := (dRt (eCl 3 Cm.f_moved (aCons (eVar 0) (aCons (eVar 1) (aCons (eD (.int 1)) aNil)))))
def f_move : DF := dFn [false, false] 0 D_move
def D_with_one_gone : DS := (dSq (dSet 2 (eCl 2 f_move (aCons (eVar 0) (aCons (eVar 1) aNil)))) (dSq (dIf (tV (eOp2 fIsN (eVar 2) (eD .none))) (fun _ => .error .stuck) dNx) (dRt (eMov 2))))
def f_with_one_gone : DF := dFn [false, false] 1 D_with_one_gone
def D_is_told_apart : DS := (dRt (eOp2 fNe (eIx (eCl 3 Cr.f_blocked (aCons (eVar 0) (aCons (eVar 2) (aCons (eVar 3) aNil)))) (eNeg (eD (.int 1)))) (eIx (eCl 3 Cr.f_blocked (aCons (eVar 1) (aCons (eVar 2) (aCons (eVar 3) aNil)))) (eNeg (eD (.int 1))))))
def f_is_told_apart : DF := dFn [false, false, false, false] 0 D_is_told_apart
end Cs
end
section
set_option Elab.async false
set_option linter.all false
set_option maxRecDepth 100000
set_option maxHeartbeats 2000000
namespace Cv
open PySem PySem.Spec L2 Lf
def D__law_worths : DS := (dSq (dSet 1 eDicT) (dSq (dFor (iR1 (aCons (eLen (eIx (eVar 0) (eD (.int 0)))) aNil)) (gNm 2) (dSq (dSet 3 eDicK) (dSq (dFor (iSq (eVar 0)) (gNm 4) (dFor (iR2 (aCons (eVar 2) (aCons (eLen (eVar 4)) aNil))) (gNm 5) (dSq (dPar 6 7 (aCons (eDGetK 3 (eVar 5) 0) (aCons (eDGetK 3 (eOp2 fSub (eVar 5) (eD (.int 1))) 0) aNil))) (dDPutK 3 (eOp2 fAdd (eCb fMax2 (aCons (eVar 6) (aCons (eVar 7) aNil))) (eIx (eVar 4) (eVar 5))) (eVar 5))))) (dLk 3 (dFor (iKs 3) (gNm 5) (dDPutT 1 (eLGK 3 (eVar 5)) (aCons (eVar 2) (aCons (eVar 5) aNil)))))))) (dRt (eMov 1))))
def f__law_worths : DF := dFn [false] 7 D__law_worths
end Cv
end
section
set_option Elab.async false
set_option linter.all false
set_option maxRecDepth 100000
set_option maxHeartbeats 2000000
namespace Cy
open PySem PySem.Spec L2 Lf
def D__law_alike (self : DF) : DS := (dSq (dIf (tV (eIsi2 "list" "tuple" (eVar 1))) (dSq (dIf (tV (eOp2 fNe (eIsi "list" (eVar 0)) (eIsi "list" (eVar 1)))) (dRt (eD (.bool false))) dNx) (dSq (dIf (tV (eOp2 fNe (eIsi "tuple" (eVar 0)) (eIsi "tuple" (eVar 1)))) (dRt (eD (.bool false))) dNx) (dSq (dIf (tV (eOp2 fNe (eLen (eVar 0)) (eLen (eVar 1)))) (dRt (eD (.bool false))) dNx) (dRt (eCb fAll (aCons (eLc [2] (iR1 (aCons (eLen (eVar 1)) aNil)) (gNm 2) tYs (eCl 2 self (aCons (eIx (eVar 0) (eVar 2)) (aCons (eIx (eVar 1) (eVar 2)) aNil)))) aNil)))))) dNx) (dSq (dIf (tOr' (tV (eOp2 fIsN (eVar 0) (eD .none))) (tV (eOp2 fIsN (eVar 1) (eD .none)))) (dRt (eAn (eOp2 fIsN (eVar 0) (eD .none)) (eOp2 fIsN (eVar 1) (eD .none)))) dNx) (dRt (eAn (eOp2 fEq (eIsi "bool" (eVar 0)) (eIsi "bool" (eVar 1))) (eOp2 fEq (eVar 0) (eVar 1))))))
def f__law_alike : Nat → DF
  | 0 => fun _ => .error .stuck
  | n + 1 => dFn [false, false] 1 (D__law_alike (f__law_alike n))
end Cy
end
section
set_option Elab.async false
set_option linter.all false
set_option maxRecDepth 100000
set_option maxHeartbeats 2000000
namespace Cc
open PySem PySem.Spec L2 Lf
def D_is_tower_row : DS := (dSq (dIf (tOr' (tV (eTyNot "tuple" (eVar 0))) (tV (eOp2 fNe (eLen (eVar 0)) (eVar 1)))) (dRt (eD (.bool false))) dNx) (dRt (eAll [2] (iSq (eVar 0)) (gNm 2) tYs (eCl 1 Cp.f_is_whole (aCons (eVar 2) aNil)))))
def f_is_tower_row : DF := dFn [false, false] 1 D_is_tower_row
def D_lies_on : DS := (dSq (dIf (tNt (tV (eAll [2, 3] (iZ2 (aCons (eVar 0) (aCons (eVar 1) aNil))) (gTp [2, 3]) tYs (eOp2 fLe (eVar 2) (eVar 3))))) (dRt (eD (.bool false))) dNx) (dRt (eAll [2, 4] (iZ2 (aCons (eVar 0) (aCons (eSl (eVar 1) (pSm (eD (.int 1))) pNo) aNil))) (gTp [2, 4]) tYs (eOp2 fGe (eVar 2) (eVar 4)))))
def f_lies_on : DF := dFn [false, false] 3 D_lies_on
def D_is_tower : DS := (dSq (dIf (tNt (tV (eAll [2] (iR1 (aCons (eLen (eVar 0)) aNil)) (gNm 2) tYs (eCl 2 f_is_tower_row (aCons (eIx (eVar 0) (eVar 2)) (aCons (eCb fMin2 (aCons (eOp2 fAdd (eVar 2) (eD (.int 1))) (aCons (eVar 1) aNil))) aNil)))))) (dRt (eD (.bool false))) dNx) (dRt (eAll [2] (iR1 (aCons (eOp2 fSub (eLen (eVar 0)) (eD (.int 1))) aNil)) (gNm 2) tYs (eCl 2 f_lies_on (aCons (eIx (eVar 0) (eVar 2)) (aCons (eIx (eVar 0) (eOp2 fAdd (eVar 2) (eD (.int 1)))) aNil))))))
def f_is_tower : DF := dFn [false, false] 1 D_is_tower
def D_is_short_list : DS := (dRt (eAn (eTyIs "list" (eVar 0)) (eChn fLe fLe (eD (.int 1)) (eLen (eVar 0)) (eD (.int 8)))))
def f_is_short_list : DF := dFn [false] 0 D_is_short_list
def D_check_towers : DS := (dSq (dIf (tOr' (tNt (tV (eCl 1 f_is_short_list (aCons (eVar 0) aNil)))) (tNt (tV (eCl 1 f_is_short_list (aCons (eVar 1) aNil))))) (fun _ => .error .stuck) dNx) (dSq (dSet 2 (eCb fMin2 (aCons (eLen (eVar 0)) (aCons (eLen (eVar 1)) aNil)))) (dSq (dIf (tOr' (tNt (tV (eCl 2 f_is_tower (aCons (eVar 0) (aCons (eVar 2) aNil))))) (tNt (tV (eCl 2 f_is_tower (aCons (eVar 1) (aCons (eVar 2) aNil)))))) (fun _ => .error .stuck) dNx) (dIf (tV (eOp2 fNe (eIx (eVar 0) (eNeg (eD (.int 1)))) (eIx (eVar 1) (eNeg (eD (.int 1)))))) (fun _ => .error .stuck) dNx))))
def f_check_towers : DF := dFn [false, false] 1 D_check_towers
def D_number_at : DS := (dRt (eIf (tV (eOp2 fLt (eVar 1) (eLen (eVar 0)))) (eIx (eVar 0) (eVar 1)) (eD (.int 0))))
def f_number_at : DF := dFn [false, false] 0 D_number_at
def D_hall_gone_on : DS := (dSq (dSet 2 (eLst aNil)) (dSq (dFor (iR1 (aCons (eVar 1) aNil)) (gNm 3) (dSq (dSet 4 (eD (.int 0))) (dSq (dSet 5 (eLst aNil)) (dSq (dFor (iSq (eVar 0)) (gNm 6) (dSq (dEx (eApp 5 (eOp2 fSub (eCl 2 f_number_at (aCons (eVar 6) (aCons (eVar 3) aNil))) (eVar 4)))) (dSet 4 (eCl 2 f_number_at (aCons (eVar 6) (aCons (eVar 3) aNil)))))) (dEx (eApp 2 (eTp (eVar 5)))))))) (dRt (eTp (eRv (eVar 2))))))
def f_hall_gone_on : DF := dFn [false, false] 5 D_hall_gone_on
def D_hall_of : DS := (dSq (dEx (eCl 2 f_check_towers (aCons (eVar 0) (aCons (eVar 1) aNil)))) (dSq (dSet 2 (eCl 1 Cj.f_to_first (aCons (eCl 2 f_hall_gone_on (aCons (eVar 0) (aCons (eLen (eVar 1)) aNil))) aNil))) (dSq (dFor (iRev2 (eD (.int 1)) (eLen (eVar 1))) (gNm 3) (dFor (iR1 (aCons (eVar 3) aNil)) (gNm 4) (dSet 2 (eCl 3 Cq.f_with_total (aCons (eVar 2) (aCons (eVar 4) (aCons (eCl 2 f_number_at (aCons (eIx (eVar 1) (eOp2 fSub (eVar 3) (eD (.int 1)))) (aCons (eVar 4) aNil))) aNil))))))) (dRt (eMov 2)))))
def f_hall_of : DF := dFn [false, false] 3 D_hall_of
end Cc
end
section
set_option Elab.async false
set_option linter.all false
set_option maxRecDepth 100000
set_option maxHeartbeats 2000000
namespace Cg
open PySem PySem.Spec L2 Lf
def D_with_counter : DS := (dSq (dSet 3 (eLst (aCons (eLst aNil) aNil))) (dSq (dFor (iRev1 (eLen (eVar 1))) (gNm 4) (dIf (tV (eOp2 fGt (eIx (eVar 1) (eVar 4)) (eD (.int 0)))) (dEx (eApp 3 (eCat (eIx (eVar 0) (eOp2 fAdd (eVar 4) (eD (.int 1)))) (eLst (aCons (eTup (aCons (eVar 2) (aCons (eVar 4) aNil))) aNil))))) (dIf (tV (eOp2 fGt (eLen (eIxS 3 (eNeg (eD (.int 1))))) (eLen (eIx (eVar 0) (eVar 4))))) (dEx (eApp 3 (eIxS 3 (eNeg (eD (.int 1)))))) (dEx (eApp 3 (eIx (eVar 0) (eVar 4))))))) (dRt (eRv (eVar 3)))))
def f_with_counter : DF := dFn [false, false, false] 2 D_with_counter
def D_fewest : DS := (dSq (dEx (eCl 1 Cp.f_check_hall (aCons (eVar 0) aNil))) (dSq (dSet 1 (eLc [4] (iR1 (aCons (eOp2 fAdd (eLen (eIx (eVar 0) (eD (.int 0)))) (eD (.int 1))) aNil)) (gNm 4) tYs (eLst aNil))) (dSq (dFor (iR1 (aCons (eLen (eVar 0)) aNil)) (gNm 2) (dSet 1 (eCl 3 f_with_counter (aCons (eVar 1) (aCons (eIx (eVar 0) (eVar 2)) (aCons (eVar 2) aNil)))))) (dSq (dSet 3 (eIx (eVar 1) (eD (.int 0)))) (dRt (eTup (aCons (eLen (eVar 3)) (aCons (eVar 3) aNil))))))))
def f_fewest : DF := dFn [false] 4 D_fewest
def D_not_led : DS := (dSq (dEx (eCl 2 Ck.f_check_like (aCons (eVar 0) (aCons (eVar 1) aNil)))) (dSq (dSet 2 (eCl 1 Cj.f_to_last (aCons (eVar 0) aNil))) (dSq (dSet 3 (eCl 1 Cj.f_to_last (aCons (eVar 1) aNil))) (dSq (dFor (iR2 (aCons (eD (.int 1)) (aCons (eOp2 fAdd (eCb fMin2 (aCons (eLen (eVar 0)) (aCons (eLen (eIx (eVar 0) (eD (.int 0)))) aNil))) (eD (.int 1))) aNil))) (gNm 4) (dFor (iR2 (aCons (eD (.int 1)) (aCons (eOp2 fAdd (eLen (eIx (eVar 0) (eD (.int 0)))) (eD (.int 1))) aNil))) (gNm 5) (dIf (tV (eOp2 fNe (eCl 3 Cf.f_covered_behind (aCons (eVar 2) (aCons (eVar 4) (aCons (eVar 5) aNil)))) (eCl 3 Cf.f_covered_behind (aCons (eVar 3) (aCons (eVar 4) (aCons (eVar 5) aNil)))))) (dRt (eTup (aCons (eVar 4) (aCons (eVar 5) aNil)))) dNx))) (dRt (eD .none))))))
def f_not_led : DF := dFn [false, false] 4 D_not_led
end Cg
end
section
set_option Elab.async false
set_option linter.all false
set_option maxRecDepth 100000
set_option maxHeartbeats 2000000
namespace Ba
open PySem PySem.Spec L2 Lf
def D_check_totals : DS := (dSq (dIf (tOr' (tV (eTyNot "tuple" (eVar 1))) (tV (eOp2 fNe (eLen (eVar 1)) (eLen (eVar 0))))) (fun _ => .error .stuck) dNx) (dIf (tNt (tV (eAll [2] (iSq (eVar 1)) (gNm 2) tYs (eCl 1 Cp.f_is_whole (aCons (eVar 2) aNil))))) (fun _ => .error .stuck) dNx))
def f_check_totals : DF := dFn [false, false] 1 D_check_totals
def D_settling_own : DS := (dSq (dSet 1 (eVar 0)) (dSq (dSet 2 (eLst aNil)) (dSq (dFor (iR2 (aCons (eD (.int 1)) (aCons (eLen (eVar 0)) aNil))) (gNm 3) (dFor (iRev1 (eVar 3)) (gNm 4) (dSq (dAsg (gTp [5, 6]) (eCl 2 Cm.f_most_moves (aCons (eIx (eVar 1) (eVar 4)) (aCons (eIx (eVar 1) (eOp2 fAdd (eVar 4) (eD (.int 1)))) aNil)))) (dIf (tV (eOp2 fGt (eVar 6) (eD (.int 0)))) (dSq (dSet 1 (eCl 3 Cm.f_carried (aCons (eVar 1) (aCons (eVar 4) (aCons (eNeg (eVar 6)) aNil))))) (dEx (eApp 2 (eTup (aCons (eVar 4) (aCons (eNeg (eVar 6)) aNil)))))) dNx)))) (dRt (eTupO (aCons (eVar 1) (aCons (eMov 2) aNil)))))))
def f_settling_own : DF := dFn [false] 6 D_settling_own
def D_can_have : DS := (dSq (dSet 2 (eD (.int 0))) (dSq (dFor (iZ2 (aCons (eVar 0) (aCons (eSrtRT (aCons (eVar 1) aNil)) aNil))) (gTp [3, 4]) (dSq (dAug 2 fAdd (eOp2 fSub (eVar 3) (eVar 4))) (dIf (tV (eOp2 fLt (eVar 2) (eD (.int 0)))) (dRt (eD (.bool false))) dNx))) (dRt (eOp2 fEq (eVar 2) (eD (.int 0))))))
def f_can_have : DF := dFn [false, false] 3 D_can_have
def D_row_without : DS := (dSq (dSet 2 (eLst aNil)) (dSq (dSet 3 (eD (.int 0))) (dSq (dFor (iRevS (eVar 0)) (gNm 4) (dSq (dSet 5 (eCb fMin2 (aCons (eVar 1) (aCons (eOp2 fSub (eVar 4) (eVar 3)) aNil)))) (dSq (dEx (eApp 2 (eOp2 fSub (eVar 4) (eVar 5)))) (dSq (dAug 1 fSub (eVar 5)) (dSet 3 (eVar 4)))))) (dRt (eTp (eRv (eVar 2)))))))
def f_row_without : DF := dFn [false, false] 4 D_row_without
def D_tower_with_totals : DS := (dSq (dSet 2 (eLst (aCons (eVar 0) aNil))) (dSq (dFor (iRev2 (eD (.int 1)) (eLen (eVar 1))) (gNm 3) (dSq (dSet 4 (eCl 2 f_row_without (aCons (eIxS 2 (eNeg (eD (.int 1)))) (aCons (eIx (eVar 1) (eVar 3)) aNil)))) (dEx (eApp 2 (eSl (eVar 4) pNo (pSm (eVar 3))))))) (dRt (eRv (eVar 2)))))
def f_tower_with_totals : DF := dFn [false, false] 3 D_tower_with_totals
end Ba
end
section
set_option Elab.async false
set_option linter.all false
set_option maxRecDepth 100000
set_option maxHeartbeats 2000000
namespace Bb
open PySem PySem.Spec L2 Lf
def D_totals_own : DS := (dSq (dEx (eCl 1 Cp.f_check_hall (aCons (eVar 0) aNil))) (dRt (eTpN (eLc [1] (iSq (eVar 0)) (gNm 1) tYs (eCb fSumA (aCons (eVar 1) aNil))))))
def f_totals_own : DF := dFn [false] 1 D_totals_own
def D_in_order : DS := (dSq (dEx (eCl 1 Cp.f_check_hall (aCons (eVar 0) aNil))) (dSq (dEx (eCl 2 Ba.f_check_totals (aCons (eVar 0) (aCons (eVar 1) aNil)))) (dSq (dIf (tV (eOp2 fNe (eSrtT (eCl 1 Cq.f_totals (aCons (eVar 0) aNil))) (eSrtT (eVar 1)))) (fun _ => .error .stuck) dNx) (dSq (dSet 2 (eVar 0)) (dSq (dFor (iEn (aCons (eVar 1) aNil)) (gTp [3, 4]) (dSq (dSet 5 (eIdxT (eCl 1 f_totals_own (aCons (eVar 2) aNil)) (eVar 4) (eVar 3))) (dFor (iRev2 (eVar 3) (eVar 5)) (gNm 6) (dSet 2 (eCl 2 Cq.f_exchanged (aCons (eVar 2) (aCons (eVar 6) aNil))))))) (dRt (eMov 2)))))))
def f_in_order : DF := dFn [false, false] 5 D_in_order
end Bb
end
section
set_option Elab.async false
set_option linter.all false
set_option maxRecDepth 100000
set_option maxHeartbeats 2000000
namespace K21
open PySem PySem.Spec L2 Lf
abbrev FnP (K : PySem.W.Frag) (x : Str) (st : Stmt) (fd : FuncData) : Prop := FunD K x x (defArgs st) (defBody st) (defScope st) [] [] (He.ga K x) fd
theorem sc_is_whole : FnScope ["thing"] ["thing"] (defScope s_is_whole) := ⟨rfl, rfl, rfl, by decide +kernel, rfl, by decide +kernel, by decide +kernel⟩
theorem sc_is_short_tuple : FnScope ["thing"] ["thing"] (defScope s_is_short_tuple) := ⟨rfl, rfl, rfl, by decide +kernel, rfl, by decide +kernel, by decide +kernel⟩
theorem sc_is_row : FnScope ["thing", "minutes"] ["thing"] (defScope s_is_row) := ⟨rfl, rfl, rfl, by decide +kernel, rfl, by decide +kernel, by decide +kernel⟩
theorem sc_is_hall : FnScope ["thing", "row"] ["thing"] (defScope s_is_hall) := ⟨rfl, rfl, rfl, by decide +kernel, rfl, by decide +kernel, by decide +kernel⟩
theorem sc_check_hall : FnScope ["hall"] ["hall"] (defScope s_check_hall) := ⟨rfl, rfl, rfl, by decide +kernel, rfl, by decide +kernel, by decide +kernel⟩
theorem sc_check_counter : FnScope ["hall", "counter"] ["hall", "counter"] (defScope s_check_counter) := ⟨rfl, rfl, rfl, by decide +kernel, rfl, by decide +kernel, by decide +kernel⟩
theorem sc_check_neighbours : FnScope ["hall", "counter"] ["hall", "counter"] (defScope s_check_neighbours) := ⟨rfl, rfl, rfl, by decide +kernel, rfl, by decide +kernel, by decide +kernel⟩
theorem sc_leads : FnScope ["row", "next_row", "lead", "told", "minutes", "next_minutes"] ["row", "next_row"] (defScope s_leads) := ⟨rfl, rfl, rfl, by decide +kernel, rfl, by decide +kernel, by decide +kernel⟩
theorem sc_going_on : FnScope ["row", "next_row", "many", "told", "reached", "minutes", "lead"] ["row", "next_row", "many"] (defScope s_going_on) := ⟨rfl, rfl, rfl, by decide +kernel, rfl, by decide +kernel, by decide +kernel⟩
theorem sc_going_back : FnScope ["row", "next_row", "many"] ["row", "next_row", "many"] (defScope s_going_back) := ⟨rfl, rfl, rfl, by decide +kernel, rfl, by decide +kernel, by decide +kernel⟩
theorem sc_carried : FnScope ["hall", "counter", "many", "row", "next_row", "gone", "left", "next_left", "minutes", "moving"] ["hall", "counter", "many"] (defScope s_carried) := ⟨rfl, rfl, rfl, by decide +kernel, rfl, by decide +kernel, by decide +kernel⟩
theorem sc_check_totals : FnScope ["hall", "thing", "total"] ["hall", "thing"] (defScope s_check_totals) := ⟨rfl, rfl, rfl, by decide +kernel, rfl, by decide +kernel, by decide +kernel⟩
theorem sc_totals : FnScope ["hall", "row"] ["hall"] (defScope s_totals) := ⟨rfl, rfl, rfl, by decide +kernel, rfl, by decide +kernel, by decide +kernel⟩
theorem sc_exchanged : FnScope ["hall", "counter"] ["hall", "counter"] (defScope s_exchanged) := ⟨rfl, rfl, rfl, by decide +kernel, rfl, by decide +kernel, by decide +kernel⟩
theorem sc_in_order : FnScope ["hall", "totals_wished", "told", "place", "total", "at", "counter"] ["hall", "totals_wished"] (defScope s_in_order) := ⟨rfl, rfl, rfl, by decide +kernel, rfl, by decide +kernel, by decide +kernel⟩
theorem sc__law_cell_at : FnScope ["script", "k"] ["script", "k"] (defScope s__law_cell_at) := ⟨rfl, rfl, rfl, by decide +kernel, rfl, by decide +kernel, by decide +kernel⟩
theorem sc__law_bag : FnScope ["cell", "k"] ["cell", "k"] (defScope s__law_bag) := ⟨rfl, rfl, rfl, by decide +kernel, rfl, by decide +kernel, by decide +kernel⟩
theorem sc__law_take : FnScope ["bag", "many", "found", "mixed"] ["bag", "many"] (defScope s__law_take) := ⟨rfl, rfl, rfl, by decide +kernel, rfl, by decide +kernel, by decide +kernel⟩
theorem sc__law_alike : FnScope ["found", "due", "k"] ["found", "due"] (defScope s__law_alike) := ⟨rfl, rfl, rfl, by decide +kernel, rfl, by decide +kernel, by decide +kernel⟩
theorem sc__law_minutes : FnScope ["bag", "size", "pick"] ["bag", "size"] (defScope s__law_minutes) := ⟨rfl, rfl, rfl, by decide +kernel, rfl, by decide +kernel, by decide +kernel⟩
theorem sc__law_hall : FnScope ["bag", "rows", "columns", "size", "j", "k"] ["bag", "rows", "columns"] (defScope s__law_hall) := ⟨rfl, rfl, rfl, by decide +kernel, rfl, by decide +kernel, by decide +kernel⟩
theorem sc__law_worths : FnScope ["hall", "many", "found", "first", "best", "row", "ahead", "k"] ["hall"] (defScope s__law_worths) := ⟨rfl, rfl, rfl, by decide +kernel, rfl, by decide +kernel, by decide +kernel⟩
theorem sc_law : FnScope ["script", "k", "bag", "rows", "hall", "sums", "now", "j", "order", "rising", "row"] ["script"] (defScope s_law) := ⟨rfl, rfl, rfl, by decide +kernel, rfl, by decide +kernel, by decide +kernel⟩
/-! ### the defs as functions on things -/
def D_law : DS := (dSq (dFor (iR1 (aCons (eCb fMax2 (aCons (eD (.int 1)) (aCons (eCb fMin2 (aCons (eD (.int 3)) (aCons (eLen (eVar 0)) aNil))) aNil))) aNil)) (gNm 1) (dSq (dSet 2 (eCl 2 Cq.f__law_bag (aCons (eCl 2 Cb.f__law_cell_at (aCons (eVar 0) (aCons (eVar 1) aNil))) (aCons (eVar 1) aNil)))) (dSq (dSet 3 (eOp2 fAdd (eD (.int 1)) (eClB 2 Cq.f__law_take 2 (aCons (eD (.int 8)) aNil)))) (dSq (dSet 4 (eClB 3 Cq.f__law_hall 2 (aCons (eVar 3) (aCons (eOp2 fAdd (eD (.int 1)) (eClB 2 Cq.f__law_take 2 (aCons (eD (.int 8)) aNil))) aNil)))) (dSq (dIf (tAn (tV (eOp2 fGt (eVar 3) (eD (.int 2)))) (tV (eOp2 fEq (eClB 2 Cq.f__law_take 2 (aCons (eD (.int 3)) aNil)) (eD (.int 0))))) (dSet 4 (eCat (eSl (eVar 4) pNo (pSm (eNeg (eD (.int 1))))) (eTup (aCons (eRv (eIx (eVar 4) (eD (.int 0)))) aNil)))) dNx) (dSq (dSet 5 (eTp (eLc [10] (iSq (eVar 4)) (gNm 10) tYs (eCb fSumA (aCons (eVar 10) aNil))))) (dSq (dIf (tNt (tV (eCl 2 (Cq.f__law_alike 6) (aCons (eCl 2 Bb.f_in_order (aCons (eVar 4) (aCons (eVar 5) aNil))) (aCons (eVar 4) aNil))))) (dRt (eD (.bool false))) dNx) (dSq (dSet 6 (eVar 4)) (dSq (dFor (iR1 (aCons (eClB 2 Cq.f__law_take 2 (aCons (eD (.int 31)) aNil)) aNil)) (gNm 7) (dIf (tV (eOp2 fGt (eVar 3) (eD (.int 1)))) (dSet 6 (eCl 2 Cq.f_exchanged (aCons (eVar 6) (aCons (eClB 2 Cq.f__law_take 2 (aCons (eOp2 fSub (eVar 3) (eD (.int 1))) aNil)) aNil)))) dNx)) (dSq (dSet 8 (eTp (eLc [10] (iSq (eVar 6)) (gNm 10) tYs (eCb fSumA (aCons (eVar 10) aNil))))) (dSq (dIf (tOr' (tV (eOp2 fNe (eSrtT (eVar 8)) (eSrtT (eVar 5)))) (tNt (tV (eCl 2 (Cq.f__law_alike 6) (aCons (eCl 2 Bb.f_in_order (aCons (eVar 4) (aCons (eVar 8) aNil))) (aCons (eVar 6) aNil)))))) (dRt (eD (.bool false))) dNx) (dSq (dIf (tOr' (tNt (tV (eCl 2 (Cq.f__law_alike 6) (aCons (eCl 2 Bb.f_in_order (aCons (eVar 6) (aCons (eVar 5) aNil))) (aCons (eVar 4) aNil))))) (tV (eOp2 fNe (eCl 1 Cq.f__law_worths (aCons (eVar 6) aNil)) (eCl 1 Cq.f__law_worths (aCons (eVar 4) aNil))))) (dRt (eD (.bool false))) dNx) (dSq (dSet 9 (eTp (eSrtT (eVar 5)))) (dSq (dIf (tNt (tV (eCl 2 (Cq.f__law_alike 6) (aCons (eCl 2 Bb.f_in_order (aCons (eVar 6) (aCons (eVar 9) aNil))) (aCons (eCl 2 Bb.f_in_order (aCons (eVar 4) (aCons (eVar 9) aNil))) aNil))))) (dRt (eD (.bool false))) dNx) (dIf (tNt (tV (eCl 2 (Cq.f__law_alike 6) (aCons (eCl 1 Cq.f_totals (aCons (eCl 2 Bb.f_in_order (aCons (eVar 6) (aCons (eVar 9) aNil))) aNil)) (aCons (eVar 9) aNil))))) (dRt (eD (.bool false))) dNx))))))))))))))) (dRt (eD (.bool true))))
def f_law : DF := dFn [false] 10 D_law
/-! ### what the top has left -/
structure Tx [Tabs] (K : PySem.W.Frag) (mg : Str → Option Value) (base : Heap) : Prop where
  F_is_whole : ∃ fd, FnP K "is_whole" s_is_whole fd
  m_is_whole : mg "is_whole" = some (.ref (He.ga K "is_whole"))
  F_is_short_tuple : ∃ fd, FnP K "is_short_tuple" s_is_short_tuple fd
  m_is_short_tuple : mg "is_short_tuple" = some (.ref (He.ga K "is_short_tuple"))
  F_is_row : ∃ fd, FnP K "is_row" s_is_row fd
  m_is_row : mg "is_row" = some (.ref (He.ga K "is_row"))
  t_is_row : (He.cT K ("is_row", none)).2 ∈ Tabs.ts ∧ GxR.TabB base mg (He.cT K ("is_row", none)).1 (He.cT K ("is_row", none)).2
  F_is_hall : ∃ fd, FnP K "is_hall" s_is_hall fd
  m_is_hall : mg "is_hall" = some (.ref (He.ga K "is_hall"))
  t_is_hall : (He.cT K ("is_hall", none)).2 ∈ Tabs.ts ∧ GxR.TabB base mg (He.cT K ("is_hall", none)).1 (He.cT K ("is_hall", none)).2
  F_check_hall : ∃ fd, FnP K "check_hall" s_check_hall fd
  m_check_hall : mg "check_hall" = some (.ref (He.ga K "check_hall"))
  F_check_counter : ∃ fd, FnP K "check_counter" s_check_counter fd
  m_check_counter : mg "check_counter" = some (.ref (He.ga K "check_counter"))
  F_check_neighbours : ∃ fd, FnP K "check_neighbours" s_check_neighbours fd
  m_check_neighbours : mg "check_neighbours" = some (.ref (He.ga K "check_neighbours"))
  F_leads : ∃ fd, FnP K "leads" s_leads fd
  m_leads : mg "leads" = some (.ref (He.ga K "leads"))
  F_going_on : ∃ fd, FnP K "going_on" s_going_on fd
  m_going_on : mg "going_on" = some (.ref (He.ga K "going_on"))
  F_going_back : ∃ fd, FnP K "going_back" s_going_back fd
  m_going_back : mg "going_back" = some (.ref (He.ga K "going_back"))
  F_carried : ∃ fd, FnP K "carried" s_carried fd
  m_carried : mg "carried" = some (.ref (He.ga K "carried"))
  F_check_totals : ∃ fd, FnP K "check_totals" s_check_totals fd
  m_check_totals : mg "check_totals" = some (.ref (He.ga K "check_totals"))
  t_check_totals : (He.cT K ("check_totals", none)).2 ∈ Tabs.ts ∧ GxR.TabB base mg (He.cT K ("check_totals", none)).1 (He.cT K ("check_totals", none)).2
  F_totals : ∃ fd, FnP K "totals" s_totals fd
  m_totals : mg "totals" = some (.ref (He.ga K "totals"))
  F_exchanged : ∃ fd, FnP K "exchanged" s_exchanged fd
  m_exchanged : mg "exchanged" = some (.ref (He.ga K "exchanged"))
  F_in_order : ∃ fd, FnP K "in_order" s_in_order fd
  m_in_order : mg "in_order" = some (.ref (He.ga K "in_order"))
  F__law_cell_at : ∃ fd, FnP K "_law_cell_at" s__law_cell_at fd
  m__law_cell_at : mg "_law_cell_at" = some (.ref (He.ga K "_law_cell_at"))
  F__law_bag : ∃ fd, FnP K "_law_bag" s__law_bag fd
  m__law_bag : mg "_law_bag" = some (.ref (He.ga K "_law_bag"))
  F__law_take : ∃ fd, FnP K "_law_take" s__law_take fd
  m__law_take : mg "_law_take" = some (.ref (He.ga K "_law_take"))
  F__law_alike : ∃ fd, FnP K "_law_alike" s__law_alike fd
  m__law_alike : mg "_law_alike" = some (.ref (He.ga K "_law_alike"))
  F__law_minutes : ∃ fd, FnP K "_law_minutes" s__law_minutes fd
  m__law_minutes : mg "_law_minutes" = some (.ref (He.ga K "_law_minutes"))
  F__law_hall : ∃ fd, FnP K "_law_hall" s__law_hall fd
  m__law_hall : mg "_law_hall" = some (.ref (He.ga K "_law_hall"))
  F__law_worths : ∃ fd, FnP K "_law_worths" s__law_worths fd
  m__law_worths : mg "_law_worths" = some (.ref (He.ga K "_law_worths"))
  F_law : ∃ fd, FnP K "law" s_law fd
  m_law : mg "law" = some (.ref (He.ga K "law"))
  i_MOST : ∃ u, mg "MOST" = some u ∧ RelV (.int 8) u
  n_all : mg "all" = none
  n_bool : mg "bool" = none
  n_enumerate : mg "enumerate" = none
  n_int : mg "int" = none
  n_isinstance : mg "isinstance" = none
  n_len : mg "len" = none
  n_list : mg "list" = none
  n_max : mg "max" = none
  n_min : mg "min" = none
  n_range : mg "range" = none
  n_reversed : mg "reversed" = none
  n_sorted : mg "sorted" = none
  n_sum : mg "sum" = none
  n_tuple : mg "tuple" = none
  n_type : mg "type" = none
  n_zip : mg "zip" = none
/-- a def that keeps its function -/
def Df [Tabs] (P : Program) (w : World) (K : PySem.W.Frag) (mg : Str → Option Value) (base : Heap) (k : Nat) (x : Str) (st : Stmt) (ps : List Str) (f : DF) : Prop :=
  ∃ fd, FnP K x st fd ∧ DefOk P w K mg base k (He.ga K x) fd ps f ∧ Binds K fd ps []
section
variable [Tabs] {P : Program} {w : World} {K : PySem.W.Frag} {mg : Str → Option Value} {base : Heap}
theorem ok_is_whole (T : Tx K mg base) : Df P w K mg base 2 "is_whole" s_is_whole ["thing"] Cp.f_is_whole := by
  obtain ⟨fd, F⟩ := T.F_is_whole
  refine ⟨fd, F, def_okD F sc_is_whole rfl rfl fun c A out s H E hc hr => ?_, FunD.bindsN (ps := ["thing"]) F fun _ _ _ _ _ _ us hl => match us, hl with | [_], _ => rfl⟩
  exact (SXs_one (SX_ret (EX_and (And.left (BX_tyIs rfl T.n_type (EX_var (pv 0)) rfl T.n_int (by decide +kernel))) (EX_one (EX_cmp op_ge (nomark _) flat_ge (EX_var (pv 0)) EX_int)))))
theorem ok_is_short_tuple (T : Tx K mg base) : Df P w K mg base 2 "is_short_tuple" s_is_short_tuple ["thing"] Cp.f_is_short_tuple := by
  obtain ⟨fd, F⟩ := T.F_is_short_tuple
  refine ⟨fd, F, def_okD F sc_is_short_tuple rfl rfl fun c A out s H E hc hr => ?_, FunD.bindsN (ps := ["thing"]) F fun _ _ _ _ _ _ us hl => match us, hl with | [_], _ => rfl⟩
  exact (SXs_one (SX_ret (EX_and (And.left (BX_tyIs rfl T.n_type (EX_var (pv 0)) rfl T.n_tuple (by decide +kernel))) (EX_one (And.left (BX_chn op_le op_le flat_le flat_le EX_int (EX_len rfl T.n_len (EX_var (pv 0))) (EX_gi rfl T.i_MOST)))))))
theorem ok_is_row (T : Tx K mg base) : Df P w K mg base 6 "is_row" s_is_row ["thing"] Cp.f_is_row := by
  obtain ⟨fd, F⟩ := T.F_is_row
  obtain ⟨fd_is_short_tuple, F_is_short_tuple, D_is_short_tuple, b_is_short_tuple⟩ := ok_is_short_tuple (P := P) (w := w) T
  obtain ⟨fd_is_whole, F_is_whole, D_is_whole, b_is_whole⟩ := ok_is_whole (P := P) (w := w) T
  obtain ⟨hP, TB0⟩ := T.t_is_row
  refine ⟨fd, F, def_okD F sc_is_row rfl rfl fun c A out s H E hc hr => ?_, FunD.bindsN (ps := ["thing"]) F fun _ _ _ _ _ _ us hl => match us, hl with | [_], _ => rfl⟩
  have TB : GxR.TabB base mg c (He.cT K ("is_row", none)).2 := by rw [← hc ("is_row", none) rfl]; exact TB0
  exact (SXs_one (SX_ret (EX_and (XC (D_is_short_tuple.mono (k := 5) (by decide)) hr rfl T.m_is_short_tuple F_is_short_tuple.kp b_is_short_tuple (takes_of rfl rfl rfl rfl) (AX_cons (EX_var (pv 0)) AX_nil)) (EX_one (XA (k := 2) [("minutes", 1)] rfl hP hr rfl T.n_all TB rfl rfl sc_is_row.nd (blk_ok (N := ["thing", "minutes"]) (sc := defScope s_is_row) (by decide +kernel)) (gok_ok (by decide +kernel)) (IX_sq (EX_var (pv 0))) (is := [1]) (by decide) (fun B s H C cl cd fp hr2 => (GX_name sc_is_row.nd rfl (by first | exact Or.inl rfl | exact Or.inr rfl))) (fun B s H C cl cd fp hr2 => TS_nil) (fun B s H C cl cd fp hr2 => (XC (D_is_whole.mono (k := 2) (by decide)) hr2 rfl T.m_is_whole F_is_whole.kp b_is_whole takes0 (AX_cons (EX_var (pv 1)) AX_nil))))))))
theorem ok_is_hall (T : Tx K mg base) : Df P w K mg base 10 "is_hall" s_is_hall ["thing"] Cp.f_is_hall := by
  obtain ⟨fd, F⟩ := T.F_is_hall
  obtain ⟨fd_is_short_tuple, F_is_short_tuple, D_is_short_tuple, b_is_short_tuple⟩ := ok_is_short_tuple (P := P) (w := w) T
  obtain ⟨fd_is_row, F_is_row, D_is_row, b_is_row⟩ := ok_is_row (P := P) (w := w) T
  obtain ⟨hP, TB0⟩ := T.t_is_hall
  refine ⟨fd, F, def_okD F sc_is_hall rfl rfl fun c A out s H E hc hr => ?_, FunD.bindsN (ps := ["thing"]) F fun _ _ _ _ _ _ us hl => match us, hl with | [_], _ => rfl⟩
  have TB : GxR.TabB base mg c (He.cT K ("is_hall", none)).2 := by rw [← hc ("is_hall", none) rfl]; exact TB0
  exact (SXs_cons (SX_if (TX_w (TW_or (TX_not (TX_val (XC (D_is_short_tuple.mono (k := 9) (by decide)) hr rfl T.m_is_short_tuple F_is_short_tuple.kp b_is_short_tuple (takes_of rfl rfl rfl rfl) (AX_cons (EX_var (pv 0)) AX_nil)))) (TW_or1 (TX_not (TX_val (XA (k := 6) [("row", 1)] rfl hP hr rfl T.n_all TB rfl rfl sc_is_hall.nd (blk_ok (N := ["thing", "row"]) (sc := defScope s_is_hall) (by decide +kernel)) (gok_ok (by decide +kernel)) (IX_sq (EX_var (pv 0))) (is := [1]) (by decide) (fun B s H C cl cd fp hr2 => (GX_name sc_is_hall.nd rfl (by first | exact Or.inl rfl | exact Or.inr rfl))) (fun B s H C cl cd fp hr2 => TS_nil) (fun B s H C cl cd fp hr2 => (XC (D_is_row.mono (k := 6) (by decide)) hr2 rfl T.m_is_row F_is_row.kp b_is_row takes0 (AX_cons (EX_var (pv 1)) AX_nil))))))))) (SXs_one (SX_ret EX_bl)) SXs_nil) (SXs_one (SX_ret (XA (k := 6) [("row", 1)] rfl hP hr rfl T.n_all TB rfl rfl sc_is_hall.nd (blk_ok (N := ["thing", "row"]) (sc := defScope s_is_hall) (by decide +kernel)) (gok_ok (by decide +kernel)) (IX_sq (EX_var (pv 0))) (is := [1]) (by decide) (fun B s H C cl cd fp hr2 => (GX_name sc_is_hall.nd rfl (by first | exact Or.inl rfl | exact Or.inr rfl))) (fun B s H C cl cd fp hr2 => TS_nil) (fun B s H C cl cd fp hr2 => (EX_cmp (op_eqD (units_ok hr2)) (nomark _) flat_eq (EX_len rfl T.n_len (EX_var (pv 1))) (EX_len rfl T.n_len (EX_ix (EX_var (pv 0)) EX_int))))))))
theorem ok_check_hall (T : Tx K mg base) : Df P w K mg base 11 "check_hall" s_check_hall ["hall"] Cp.f_check_hall := by
  obtain ⟨fd, F⟩ := T.F_check_hall
  obtain ⟨fd_is_hall, F_is_hall, D_is_hall, b_is_hall⟩ := ok_is_hall (P := P) (w := w) T
  refine ⟨fd, F, def_okD F sc_check_hall rfl rfl fun c A out s H E hc hr => ?_, FunD.bindsN (ps := ["hall"]) F fun _ _ _ _ _ _ us hl => match us, hl with | [_], _ => rfl⟩
  exact (SXs_one (SX_if (TX_not (TX_val (XC (D_is_hall.mono (k := 10) (by decide)) hr rfl T.m_is_hall F_is_hall.kp b_is_hall (takes_of rfl rfl rfl rfl) (AX_cons (EX_var (pv 0)) AX_nil)))) (SXs_one SX_no) SXs_nil))
theorem ok_check_counter (T : Tx K mg base) : Df P w K mg base 3 "check_counter" s_check_counter ["hall", "counter"] Cm.f_check_counter := by
  obtain ⟨fd, F⟩ := T.F_check_counter
  obtain ⟨fd_is_whole, F_is_whole, D_is_whole, b_is_whole⟩ := ok_is_whole (P := P) (w := w) T
  refine ⟨fd, F, def_okD F sc_check_counter rfl rfl fun c A out s H E hc hr => ?_, FunD.bindsN (ps := ["hall", "counter"]) F fun _ _ _ _ _ _ us hl => match us, hl with | [_, _], _ => rfl⟩
  exact (SXs_one (SX_if (TX_w (TW_or (TX_not (TX_val (XC (D_is_whole.mono (k := 2) (by decide)) hr rfl T.m_is_whole F_is_whole.kp b_is_whole (takes_of rfl rfl rfl rfl) (AX_cons (EX_var (pv 1)) AX_nil)))) (TW_or1 (TX_cmp op_ge (nomark _) flat_ge (EX_var (pv 1)) (EX_len rfl T.n_len (EX_var (pv 0))))))) (SXs_one SX_no) SXs_nil))
theorem ok_check_neighbours (T : Tx K mg base) : Df P w K mg base 12 "check_neighbours" s_check_neighbours ["hall", "counter"] Cm.f_check_neighbours := by
  obtain ⟨fd, F⟩ := T.F_check_neighbours
  obtain ⟨fd_check_hall, F_check_hall, D_check_hall, b_check_hall⟩ := ok_check_hall (P := P) (w := w) T
  obtain ⟨fd_check_counter, F_check_counter, D_check_counter, b_check_counter⟩ := ok_check_counter (P := P) (w := w) T
  refine ⟨fd, F, def_okD F sc_check_neighbours rfl rfl fun c A out s H E hc hr => ?_, FunD.bindsN (ps := ["hall", "counter"]) F fun _ _ _ _ _ _ us hl => match us, hl with | [_, _], _ => rfl⟩
  exact (SXs_cons (SX_expr (XC (D_check_hall.mono (k := 11) (by decide)) hr rfl T.m_check_hall F_check_hall.kp b_check_hall (takes_of rfl rfl rfl rfl) (AX_cons (EX_var (pv 0)) AX_nil))) (SXs_one (SX_expr (XC (D_check_counter.mono (k := 11) (by decide)) hr rfl T.m_check_counter F_check_counter.kp b_check_counter (takes_of rfl rfl rfl rfl) (AX_cons (EX_sl (EX_var (pv 0)) PX_no (PX_sm (EX_neg EX_int))) (AX_cons (EX_var (pv 1)) AX_nil))))))
theorem ok_leads (T : Tx K mg base) : Df P w K mg base 2 "leads" s_leads ["row", "next_row"] Cm.f_leads := by
  obtain ⟨fd, F⟩ := T.F_leads
  refine ⟨fd, F, def_okD F sc_leads rfl rfl fun c A out s H E hc hr => ?_, FunD.bindsN (ps := ["row", "next_row"]) F fun _ _ _ _ _ _ us hl => match us, hl with | [_, _], _ => rfl⟩
  exact (SXs_cons (SX_set sc_leads.nd rfl (by first | exact Or.inl rfl | exact Or.inr rfl) EX_int) (SXs_cons (SX_set sc_leads.nd rfl (by first | exact Or.inl rfl | exact Or.inr rfl) (EX_lst AX_nil)) (SXs_cons (SX_for (passes_of rfl) rfl (IX_z2 rfl T.n_zip (AX_cons (EX_var (pv 0)) (AX_cons (EX_var (pv 1)) AX_nil))) (GX_tup rfl (GXs_cons (pg_name sc_leads.nd rfl (by first | exact Or.inl rfl | exact Or.inr rfl)) (GXs_cons (pg_name sc_leads.nd rfl (by first | exact Or.inl rfl | exact Or.inr rfl)) GXs_nil (by decide)) (by decide)) rfl) (SXs_cons (SX_augAdd sc_leads.nd rfl (by first | exact Or.inl rfl | exact Or.inr rfl) (EX_var (pv 4))) (SXs_cons (SX_expr (EX_app (pv 3) (EX_var (pv 2)))) (SXs_one (SX_augSub sc_leads.nd rfl (by first | exact Or.inl rfl | exact Or.inr rfl) (EX_var (pv 5))))))) (SXs_one (SX_ret (EX_mov (pv 3)))))))
theorem ok_going_on (T : Tx K mg base) : Df P w K mg base 3 "going_on" s_going_on ["row", "next_row", "many"] Cm.f_going_on := by
  obtain ⟨fd, F⟩ := T.F_going_on
  obtain ⟨fd_leads, F_leads, D_leads, b_leads⟩ := ok_leads (P := P) (w := w) T
  refine ⟨fd, F, def_okD F sc_going_on rfl rfl fun c A out s H E hc hr => ?_, FunD.bindsN (ps := ["row", "next_row", "many"]) F fun _ _ _ _ _ _ us hl => match us, hl with | [_, _, _], _ => rfl⟩
  exact (SXs_cons (SX_set sc_going_on.nd rfl (by first | exact Or.inl rfl | exact Or.inr rfl) (XC (D_leads.mono (k := 2) (by decide)) hr rfl T.m_leads F_leads.kp b_leads (takes_of rfl rfl rfl rfl) (AX_cons (EX_var (pv 0)) (AX_cons (EX_var (pv 1)) AX_nil)))) (SXs_cons (SX_set sc_going_on.nd rfl (by first | exact Or.inl rfl | exact Or.inr rfl) (EX_op op_sub flat_sub (EX_cb (cr_maxA rfl) flat_maxA rfl T.n_max (by decide +kernel) (AX_cons (EX_var (pv 3)) AX_nil)) (EX_var (pv 2)))) (SXs_cons (SX_set sc_going_on.nd rfl (by first | exact Or.inl rfl | exact Or.inr rfl) (EX_lst AX_nil)) (SXs_cons (SX_for (passes_of rfl) rfl (IX_sq (EX_var (pv 3))) (GX_name sc_going_on.nd rfl (by first | exact Or.inl rfl | exact Or.inr rfl)) (SXs_cons (SX_expr (EX_app (pv 5) (EX_cb (call_max2 rfl) flat_max2 rfl T.n_max (by decide +kernel) (AX_cons (EX_op op_sub flat_sub (EX_var (pv 6)) (EX_var (pv 4))) (AX_cons EX_int AX_nil))))) (SXs_one (SX_set sc_going_on.nd rfl (by first | exact Or.inl rfl | exact Or.inr rfl) (EX_cb (call_max2 rfl) flat_max2 rfl T.n_max (by decide +kernel) (AX_cons (EX_var (pv 4)) (AX_cons (EX_var (pv 6)) AX_nil))))))) (SXs_one (SX_ret (EX_mov (pv 5))))))))
theorem ok_going_back (T : Tx K mg base) : Df P w K mg base 4 "going_back" s_going_back ["row", "next_row", "many"] Cm.f_going_back := by
  obtain ⟨fd, F⟩ := T.F_going_back
  obtain ⟨fd_going_on, F_going_on, D_going_on, b_going_on⟩ := ok_going_on (P := P) (w := w) T
  refine ⟨fd, F, def_okD F sc_going_back rfl rfl fun c A out s H E hc hr => ?_, FunD.bindsN (ps := ["row", "next_row", "many"]) F fun _ _ _ _ _ _ us hl => match us, hl with | [_, _, _], _ => rfl⟩
  exact (SXs_one (SX_ret (EX_rv (XC (D_going_on.mono (k := 3) (by decide)) hr rfl T.m_going_on F_going_on.kp b_going_on (takes_of rfl rfl rfl rfl) (AX_cons (EX_rv (EX_var (pv 1))) (AX_cons (EX_rv (EX_var (pv 0))) (AX_cons (EX_var (pv 2)) AX_nil)))))))
theorem ok_carried (T : Tx K mg base) : Df P w K mg base 5 "carried" s_carried ["hall", "counter", "many"] Cm.f_carried := by
  obtain ⟨fd, F⟩ := T.F_carried
  obtain ⟨fd_going_on, F_going_on, D_going_on, b_going_on⟩ := ok_going_on (P := P) (w := w) T
  obtain ⟨fd_going_back, F_going_back, D_going_back, b_going_back⟩ := ok_going_back (P := P) (w := w) T
  refine ⟨fd, F, def_okD F sc_carried rfl rfl fun c A out s H E hc hr => ?_, FunD.bindsN (ps := ["hall", "counter", "many"]) F fun _ _ _ _ _ _ us hl => match us, hl with | [_, _, _], _ => rfl⟩
  exact (SXs_cons (SX_set sc_carried.nd rfl (by first | exact Or.inl rfl | exact Or.inr rfl) (EX_ix (EX_var (pv 0)) (EX_var (pv 1)))) (SXs_cons (SX_set sc_carried.nd rfl (by first | exact Or.inl rfl | exact Or.inr rfl) (EX_ix (EX_var (pv 0)) (EX_op op_add flat_add (EX_var (pv 1)) EX_int))) (SXs_cons (SX_if (TX_cmp op_ge (nomark _) flat_ge (EX_var (pv 2)) EX_int) (SXs_one (SX_set sc_carried.nd rfl (by first | exact Or.inl rfl | exact Or.inr rfl) (XC (D_going_on.mono (k := 4) (by decide)) hr rfl T.m_going_on F_going_on.kp b_going_on (takes_of rfl rfl rfl rfl) (AX_cons (EX_var (pv 3)) (AX_cons (EX_var (pv 4)) (AX_cons (EX_var (pv 2)) AX_nil)))))) (SXs_one (XSL [("minutes", 8)] rfl rfl sc_carried.nd rfl rfl (sw_true rfl rfl rfl rfl) (IX_sq (XC (D_going_back.mono (k := 4) (by decide)) hr rfl T.m_going_back F_going_back.kp b_going_back (takes_of rfl rfl rfl rfl) (AX_cons (EX_var (pv 3)) (AX_cons (EX_var (pv 4)) (AX_cons (EX_neg (EX_var (pv 2))) AX_nil))))) (blk_ok (N := ["hall", "counter", "many", "row", "next_row", "gone", "left", "next_left", "minutes", "moving"]) (sc := defScope s_carried) (by decide +kernel)) (is := [8]) (by decide) (fun s H C cl fp => (GX_name sc_carried.nd rfl (by first | exact Or.inl rfl | exact Or.inr rfl))) (fun s H C cl fp => TS_nil) (fun s H C cl fp => (EX_neg (EX_var (pv 8))))))) (SXs_cons (SX_set sc_carried.nd rfl (by first | exact Or.inl rfl | exact Or.inr rfl) (EX_tp rfl T.n_tuple (by decide +kernel) (XL [("minutes", 8), ("moving", 9)] rfl rfl sc_carried.nd (IX_z2 rfl T.n_zip (AX_cons (EX_var (pv 3)) (AX_cons (EX_var (pv 5)) AX_nil))) (blk_ok (N := ["hall", "counter", "many", "row", "next_row", "gone", "left", "next_left", "minutes", "moving"]) (sc := defScope s_carried) (by decide +kernel)) (is := [8, 9]) (by decide) (fun s H C cl fp => (GX_tup rfl (GXs_cons (pg_name sc_carried.nd rfl (by first | exact Or.inl rfl | exact Or.inr rfl)) (GXs_cons (pg_name sc_carried.nd rfl (by first | exact Or.inl rfl | exact Or.inr rfl)) GXs_nil (by decide)) (by decide)) rfl)) (fun s H C cl fp => TS_nil) (fun s H C cl fp => (EX_op op_sub flat_sub (EX_var (pv 8)) (EX_var (pv 9))))))) (SXs_cons (SX_set sc_carried.nd rfl (by first | exact Or.inl rfl | exact Or.inr rfl) (EX_tp rfl T.n_tuple (by decide +kernel) (XL [("minutes", 8), ("moving", 9)] rfl rfl sc_carried.nd (IX_z2 rfl T.n_zip (AX_cons (EX_var (pv 4)) (AX_cons (EX_var (pv 5)) AX_nil))) (blk_ok (N := ["hall", "counter", "many", "row", "next_row", "gone", "left", "next_left", "minutes", "moving"]) (sc := defScope s_carried) (by decide +kernel)) (is := [8, 9]) (by decide) (fun s H C cl fp => (GX_tup rfl (GXs_cons (pg_name sc_carried.nd rfl (by first | exact Or.inl rfl | exact Or.inr rfl)) (GXs_cons (pg_name sc_carried.nd rfl (by first | exact Or.inl rfl | exact Or.inr rfl)) GXs_nil (by decide)) (by decide)) rfl)) (fun s H C cl fp => TS_nil) (fun s H C cl fp => (EX_op op_add flat_add (EX_var (pv 8)) (EX_var (pv 9))))))) (SXs_one (SX_ret (EX_cat (EX_cat (EX_sl (EX_var (pv 0)) PX_no (PX_sm (EX_var (pv 1)))) (EX_tup (AX_cons (EX_var (pv 6)) (AX_cons (EX_var (pv 7)) AX_nil)))) (EX_sl (EX_var (pv 0)) (PX_sm (EX_op op_add flat_add (EX_var (pv 1)) EX_int)) PX_no)))))))))
theorem ok_check_totals (T : Tx K mg base) : Df P w K mg base 6 "check_totals" s_check_totals ["hall", "thing"] Ba.f_check_totals := by
  obtain ⟨fd, F⟩ := T.F_check_totals
  obtain ⟨fd_is_whole, F_is_whole, D_is_whole, b_is_whole⟩ := ok_is_whole (P := P) (w := w) T
  obtain ⟨hP, TB0⟩ := T.t_check_totals
  refine ⟨fd, F, def_okD F sc_check_totals rfl rfl fun c A out s H E hc hr => ?_, FunD.bindsN (ps := ["hall", "thing"]) F fun _ _ _ _ _ _ us hl => match us, hl with | [_, _], _ => rfl⟩
  have TB : GxR.TabB base mg c (He.cT K ("check_totals", none)).2 := by rw [← hc ("check_totals", none) rfl]; exact TB0
  exact (SXs_cons (SX_if (TX_w (TW_or (And.right (BX_tyNot rfl T.n_type (EX_var (pv 1)) rfl T.n_tuple (by decide +kernel))) (TW_or1 (TX_cmp (op_neD (units_ok hr)) (nomark _) flat_ne (EX_len rfl T.n_len (EX_var (pv 1))) (EX_len rfl T.n_len (EX_var (pv 0))))))) (SXs_one SX_no) SXs_nil) (SXs_one (SX_if (TX_not (TX_val (XA (k := 2) [("total", 2)] rfl hP hr rfl T.n_all TB rfl rfl sc_check_totals.nd (blk_ok (N := ["hall", "thing", "total"]) (sc := defScope s_check_totals) (by decide +kernel)) (gok_ok (by decide +kernel)) (IX_sq (EX_var (pv 1))) (is := [2]) (by decide) (fun B s H C cl cd fp hr2 => (GX_name sc_check_totals.nd rfl (by first | exact Or.inl rfl | exact Or.inr rfl))) (fun B s H C cl cd fp hr2 => TS_nil) (fun B s H C cl cd fp hr2 => (XC (D_is_whole.mono (k := 2) (by decide)) hr2 rfl T.m_is_whole F_is_whole.kp b_is_whole takes0 (AX_cons (EX_var (pv 2)) AX_nil)))))) (SXs_one SX_no) SXs_nil)))
theorem ok_totals (T : Tx K mg base) : Df P w K mg base 12 "totals" s_totals ["hall"] Cq.f_totals := by
  obtain ⟨fd, F⟩ := T.F_totals
  obtain ⟨fd_check_hall, F_check_hall, D_check_hall, b_check_hall⟩ := ok_check_hall (P := P) (w := w) T
  refine ⟨fd, F, def_okD F sc_totals rfl rfl fun c A out s H E hc hr => ?_, FunD.bindsN (ps := ["hall"]) F fun _ _ _ _ _ _ us hl => match us, hl with | [_], _ => rfl⟩
  exact (SXs_cons (SX_expr (XC (D_check_hall.mono (k := 11) (by decide)) hr rfl T.m_check_hall F_check_hall.kp b_check_hall (takes_of rfl rfl rfl rfl) (AX_cons (EX_var (pv 0)) AX_nil))) (SXs_one (SX_ret (EX_tp rfl T.n_tuple (by decide +kernel) (XL [("row", 1)] rfl rfl sc_totals.nd (IX_sq (EX_var (pv 0))) (blk_ok (N := ["hall", "row"]) (sc := defScope s_totals) (by decide +kernel)) (is := [1]) (by decide) (fun s H C cl fp => (GX_name sc_totals.nd rfl (by first | exact Or.inl rfl | exact Or.inr rfl))) (fun s H C cl fp => TS_nil) (fun s H C cl fp => (EX_cb (cr_sumA rfl) flat_sumA rfl T.n_sum (by decide +kernel) (AX_cons (EX_var (pv 1)) AX_nil))))))))
theorem ok_totals_own (T : Tx K mg base) : Df P w K mg base 12 "totals" s_totals ["hall"] Bb.f_totals_own := by
  obtain ⟨fd, F⟩ := T.F_totals
  obtain ⟨fd_check_hall, F_check_hall, D_check_hall, b_check_hall⟩ := ok_check_hall (P := P) (w := w) T
  refine ⟨fd, F, def_okD F sc_totals rfl rfl fun c A out s H E hc hr => ?_, FunD.bindsN (ps := ["hall"]) F fun _ _ _ _ _ _ us hl => match us, hl with | [_], _ => rfl⟩
  exact (SXs_cons (SX_expr (XC (D_check_hall.mono (k := 11) (by decide)) hr rfl T.m_check_hall F_check_hall.kp b_check_hall (takes_of rfl rfl rfl rfl) (AX_cons (EX_var (pv 0)) AX_nil))) (SXs_one (SX_ret (EX_tpN rfl T.n_tuple (by decide +kernel) (XL [("row", 1)] rfl rfl sc_totals.nd (IX_sq (EX_var (pv 0))) (blk_ok (N := ["hall", "row"]) (sc := defScope s_totals) (by decide +kernel)) (is := [1]) (by decide) (fun s H C cl fp => (GX_name sc_totals.nd rfl (by first | exact Or.inl rfl | exact Or.inr rfl))) (fun s H C cl fp => TS_nil) (fun s H C cl fp => (EX_cb (cr_sumA rfl) flat_sumA rfl T.n_sum (by decide +kernel) (AX_cons (EX_var (pv 1)) AX_nil))))))))
theorem ok_exchanged (T : Tx K mg base) : Df P w K mg base 13 "exchanged" s_exchanged ["hall", "counter"] Cq.f_exchanged := by
  obtain ⟨fd, F⟩ := T.F_exchanged
  obtain ⟨fd_check_neighbours, F_check_neighbours, D_check_neighbours, b_check_neighbours⟩ := ok_check_neighbours (P := P) (w := w) T
  obtain ⟨fd_carried, F_carried, D_carried, b_carried⟩ := ok_carried (P := P) (w := w) T
  refine ⟨fd, F, def_okD F sc_exchanged rfl rfl fun c A out s H E hc hr => ?_, FunD.bindsN (ps := ["hall", "counter"]) F fun _ _ _ _ _ _ us hl => match us, hl with | [_, _], _ => rfl⟩
  exact (SXs_cons (SX_expr (XC (D_check_neighbours.mono (k := 12) (by decide)) hr rfl T.m_check_neighbours F_check_neighbours.kp b_check_neighbours (takes_of rfl rfl rfl rfl) (AX_cons (EX_var (pv 0)) (AX_cons (EX_var (pv 1)) AX_nil)))) (SXs_one (SX_ret (XC (D_carried.mono (k := 12) (by decide)) hr rfl T.m_carried F_carried.kp b_carried (takes_of rfl rfl rfl rfl) (AX_cons (EX_var (pv 0)) (AX_cons (EX_var (pv 1)) (AX_cons (EX_op op_sub flat_sub (EX_cb (cr_sumA rfl) flat_sumA rfl T.n_sum (by decide +kernel) (AX_cons (EX_ix (EX_var (pv 0)) (EX_var (pv 1))) AX_nil)) (EX_cb (cr_sumA rfl) flat_sumA rfl T.n_sum (by decide +kernel) (AX_cons (EX_ix (EX_var (pv 0)) (EX_op op_add flat_add (EX_var (pv 1)) EX_int)) AX_nil))) AX_nil)))))))
theorem ok_in_order (T : Tx K mg base) : Df P w K mg base 14 "in_order" s_in_order ["hall", "totals_wished"] Bb.f_in_order := by
  obtain ⟨fd, F⟩ := T.F_in_order
  obtain ⟨fd_check_hall, F_check_hall, D_check_hall, b_check_hall⟩ := ok_check_hall (P := P) (w := w) T
  obtain ⟨fd_check_totals, F_check_totals, D_check_totals, b_check_totals⟩ := ok_check_totals (P := P) (w := w) T
  obtain ⟨fd_totals, F_totals, D_totals, b_totals⟩ := ok_totals (P := P) (w := w) T
  obtain ⟨fd_exchanged, F_exchanged, D_exchanged, b_exchanged⟩ := ok_exchanged (P := P) (w := w) T
  obtain ⟨fd_totals_own, F_totals_own, D_totals_own, b_totals_own⟩ := ok_totals_own (P := P) (w := w) T
  refine ⟨fd, F, def_okD F sc_in_order rfl rfl fun c A out s H E hc hr => ?_, FunD.bindsN (ps := ["hall", "totals_wished"]) F fun _ _ _ _ _ _ us hl => match us, hl with | [_, _], _ => rfl⟩
  exact (SXs_cons (SX_expr (XC (D_check_hall.mono (k := 13) (by decide)) hr rfl T.m_check_hall F_check_hall.kp b_check_hall (takes_of rfl rfl rfl rfl) (AX_cons (EX_var (pv 0)) AX_nil))) (SXs_cons (SX_expr (XC (D_check_totals.mono (k := 13) (by decide)) hr rfl T.m_check_totals F_check_totals.kp b_check_totals (takes_of rfl rfl rfl rfl) (AX_cons (EX_var (pv 0)) (AX_cons (EX_var (pv 1)) AX_nil)))) (SXs_cons (SX_if (TX_cmp (op_neD (units_ok hr)) (nomark _) flat_ne (EX_srtT rfl T.n_sorted (XC (D_totals.mono (k := 13) (by decide)) hr rfl T.m_totals F_totals.kp b_totals (takes_of rfl rfl rfl rfl) (AX_cons (EX_var (pv 0)) AX_nil)) (by decide +kernel)) (EX_srtT rfl T.n_sorted (EX_var (pv 1)) (by decide +kernel))) (SXs_one SX_no) SXs_nil) (SXs_cons (SX_set sc_in_order.nd rfl (by first | exact Or.inl rfl | exact Or.inr rfl) (EX_var (pv 0))) (SXs_cons (SX_for (passes_of rfl) rfl (IX_en rfl T.n_enumerate (AX_cons (EX_var (pv 1)) AX_nil)) (GX_tup rfl (GXs_cons (pg_name sc_in_order.nd rfl (by first | exact Or.inl rfl | exact Or.inr rfl)) (GXs_cons (pg_name sc_in_order.nd rfl (by first | exact Or.inl rfl | exact Or.inr rfl)) GXs_nil (by decide)) (by decide)) rfl) (SXs_cons (SX_set sc_in_order.nd rfl (by first | exact Or.inl rfl | exact Or.inr rfl) (EX_idxT (XC (D_totals_own.mono (k := 13) (by decide)) hr rfl T.m_totals F_totals_own.kp b_totals_own (takes_of rfl rfl rfl rfl) (AX_cons (EX_var (pv 2)) AX_nil)) (EX_var (pv 4)) (EX_var (pv 3)))) (SXs_one (SX_for (passes_of rfl) rfl (IX_rev2 rfl T.n_reversed rfl T.n_range (EX_var (pv 3)) (EX_var (pv 5))) (GX_name sc_in_order.nd rfl (by first | exact Or.inl rfl | exact Or.inr rfl)) (SXs_one (SX_set sc_in_order.nd rfl (by first | exact Or.inl rfl | exact Or.inr rfl) (XC (D_exchanged.mono (k := 13) (by decide)) hr rfl T.m_exchanged F_exchanged.kp b_exchanged (takes_of rfl rfl rfl rfl) (AX_cons (EX_var (pv 2)) (AX_cons (EX_var (pv 6)) AX_nil))))))))) (SXs_one (SX_ret (EX_mov (pv 2)))))))))
theorem ok__law_cell_at (T : Tx K mg base) : Df P w K mg base 2 "_law_cell_at" s__law_cell_at ["script", "k"] Cb.f__law_cell_at := by
  obtain ⟨fd, F⟩ := T.F__law_cell_at
  refine ⟨fd, F, def_okD F sc__law_cell_at rfl rfl fun c A out s H E hc hr => ?_, FunD.bindsN (ps := ["script", "k"]) F fun _ _ _ _ _ _ us hl => match us, hl with | [_, _], _ => rfl⟩
  exact (SXs_cons (SX_if (TX_cmp op_lt (nomark _) flat_lt (EX_var (pv 1)) (EX_len rfl T.n_len (EX_var (pv 0)))) (SXs_one (SX_ret (EX_ix (EX_var (pv 0)) (EX_var (pv 1))))) SXs_nil) (SXs_one (SX_ret EX_int)))
theorem ok__law_bag (T : Tx K mg base) : Df P w K mg base 2 "_law_bag" s__law_bag ["cell", "k"] Cq.f__law_bag := by
  obtain ⟨fd, F⟩ := T.F__law_bag
  refine ⟨fd, F, def_okD F sc__law_bag rfl rfl fun c A out s H E hc hr => ?_, FunD.bindsN (ps := ["cell", "k"]) F fun _ _ _ _ _ _ us hl => match us, hl with | [_, _], _ => rfl⟩
  exact (SXs_one (SX_ret (EX_lst (AX_cons (EX_cb (call_max2 rfl) flat_max2 rfl T.n_max (by decide +kernel) (AX_cons EX_int (AX_cons (EX_op op_sub flat_sub (EX_var (pv 0)) (EX_op op_powW flat_pow EX_int EX_int)) AX_nil))) (AX_cons (EX_op op_add flat_add (EX_op op_mod flat_mod (EX_var (pv 0)) EX_int) (EX_op op_mulW flat_mul EX_int (EX_op op_add flat_add (EX_var (pv 1)) EX_int))) (AX_cons EX_int AX_nil))))))
theorem ok__law_take (T : Tx K mg base) : Df P w K mg base 2 "_law_take" s__law_take ["bag", "many"] Cq.f__law_take := by
  obtain ⟨fd, F⟩ := T.F__law_take
  refine ⟨fd, F, def_okD F sc__law_take rfl rfl fun c A out s H E hc hr => ?_, FunD.bindsN (ps := ["bag", "many"]) F fun _ _ _ _ _ _ us hl => match us, hl with | [_, _], _ => rfl⟩
  exact (SXs_cons (SX_if (TX_cmp op_gt (nomark _) flat_gt (EX_ixS (pv 0) EX_int) EX_int) (SXs_cons (SX_set sc__law_take.nd rfl (by first | exact Or.inl rfl | exact Or.inr rfl) (EX_op op_mod flat_mod (EX_ixS (pv 0) EX_int) (EX_var (pv 1)))) (SXs_cons (SX_stI (pv 0) EX_int (EX_op op_fdivW flat_div (EX_ixS (pv 0) EX_int) (EX_var (pv 1)))) (SXs_one (SX_ret (EX_mov (pv 2)))))) SXs_nil) (SXs_cons (SX_stI (pv 0) EX_int (EX_op op_add flat_add (EX_ixS (pv 0) EX_int) EX_int)) (SXs_cons (SX_set sc__law_take.nd rfl (by first | exact Or.inl rfl | exact Or.inr rfl) (EX_op op_mod flat_mod (EX_op op_powW flat_pow (EX_op op_add flat_add (EX_ixS (pv 0) EX_int) (EX_op op_mulW flat_mul EX_int (EX_ixS (pv 0) EX_int))) EX_int) EX_int)) (SXs_cons (SX_set sc__law_take.nd rfl (by first | exact Or.inl rfl | exact Or.inr rfl) (EX_op op_mod flat_mod (EX_op op_powW flat_pow (EX_op op_add flat_add (EX_var (pv 3)) (EX_op op_mulW flat_mul EX_int (EX_ixS (pv 0) EX_int))) EX_int) EX_int)) (SXs_one (SX_ret (EX_op op_mod flat_mod (EX_op op_fdivW flat_div (EX_var (pv 3)) EX_int) (EX_var (pv 1)))))))))
theorem okr__law_alike (T : Tx K mg base) (n : Nat) : Df P w K mg base (2 + n) "_law_alike" s__law_alike ["found", "due"] (Cq.f__law_alike n) := by
  induction n with
  | zero =>
    obtain ⟨fd, F⟩ := T.F__law_alike
    exact ⟨fd, F, stuck_ok, FunD.bindsN (ps := ["found", "due"]) F fun _ _ _ _ _ _ us hl => match us, hl with | [_, _], _ => rfl⟩
  | succ n ih =>
    obtain ⟨fd, F⟩ := T.F__law_alike
    obtain ⟨fd__law_alike, F__law_alike, D__law_alike, b__law_alike⟩ := ih
    refine ⟨fd, F, def_okD (k := 2 + n) F sc__law_alike rfl rfl fun c A out s H E hc hr => ?_, FunD.bindsN (ps := ["found", "due"]) F fun _ _ _ _ _ _ us hl => match us, hl with | [_, _], _ => rfl⟩
    exact (SXs_cons (SX_if (TX_val (EX_isi2 rfl T.n_isinstance (by decide +kernel) rfl T.n_list (by decide +kernel) rfl T.n_tuple (by decide +kernel) (EX_var (pv 1)))) (SXs_cons (SX_if (TX_w (TW_or (TX_cmp (op_neD (units_ok hr)) (nomark _) flat_ne (EX_isi rfl T.n_isinstance (by decide +kernel) rfl T.n_list (by decide +kernel) (EX_var (pv 0))) (EX_isi rfl T.n_isinstance (by decide +kernel) rfl T.n_list (by decide +kernel) (EX_var (pv 1)))) (TW_or1 (TX_not (TX_val (EX_isi2 rfl T.n_isinstance (by decide +kernel) rfl T.n_list (by decide +kernel) rfl T.n_tuple (by decide +kernel) (EX_var (pv 0)))))))) (SXs_one (SX_ret EX_bl)) SXs_nil) (SXs_cons (SX_if (TX_cmp (op_neD (units_ok hr)) (nomark _) flat_ne (EX_len rfl T.n_len (EX_var (pv 0))) (EX_len rfl T.n_len (EX_var (pv 1)))) (SXs_one (SX_ret EX_bl)) SXs_nil) (SXs_one (SX_ret (EX_cb (cr_all rfl) flat_all rfl T.n_all (by decide +kernel) (AX_cons (XL [("k", 2)] rfl rfl sc__law_alike.nd (IX_r1 rfl T.n_range (AX_cons (EX_len rfl T.n_len (EX_var (pv 1))) AX_nil)) (blk_ok (N := ["found", "due", "k"]) (sc := defScope s__law_alike) (by decide +kernel)) (is := [2]) (by decide) (fun s H C cl fp => (GX_name sc__law_alike.nd rfl (by first | exact Or.inl rfl | exact Or.inr rfl))) (fun s H C cl fp => TS_nil) (fun s H C cl fp => (XC (D__law_alike.mono (k := (2 + n)) (by omega)) hr rfl T.m__law_alike F__law_alike.kp b__law_alike takes0 (AX_cons (EX_ix (EX_var (pv 0)) (EX_var (pv 2))) (AX_cons (EX_ix (EX_var (pv 1)) (EX_var (pv 2))) AX_nil))))) AX_nil)))))) SXs_nil) (SXs_cons (SX_if (TX_w (TW_or (TX_val (EX_isi rfl T.n_isinstance (by decide +kernel) rfl T.n_bool (by decide +kernel) (EX_var (pv 1)))) (TW_or1 (TX_val (EX_isi rfl T.n_isinstance (by decide +kernel) rfl T.n_bool (by decide +kernel) (EX_var (pv 0))))))) (SXs_one (SX_ret (EX_and (EX_isi rfl T.n_isinstance (by decide +kernel) rfl T.n_bool (by decide +kernel) (EX_var (pv 1))) (EX_and (EX_isi rfl T.n_isinstance (by decide +kernel) rfl T.n_bool (by decide +kernel) (EX_var (pv 0))) (EX_one (EX_cmp (op_eqD (units_ok hr)) (nomark _) flat_eq (EX_var (pv 0)) (EX_var (pv 1)))))))) SXs_nil) (SXs_one (SX_ret (EX_cmp (op_eqD (units_ok hr)) (nomark _) flat_eq (EX_var (pv 0)) (EX_var (pv 1)))))))
theorem ok__law_alike (T : Tx K mg base) : Df P w K mg base 8 "_law_alike" s__law_alike ["found", "due"] (Cq.f__law_alike 6) := okr__law_alike T 6
theorem ok__law_minutes (T : Tx K mg base) : Df P w K mg base 3 "_law_minutes" s__law_minutes ["bag", "size"] Cq.f__law_minutes := by
  obtain ⟨fd, F⟩ := T.F__law_minutes
  obtain ⟨fd__law_take, F__law_take, D__law_take, b__law_take⟩ := ok__law_take (P := P) (w := w) T
  refine ⟨fd, F, def_okD F sc__law_minutes rfl rfl fun c A out s H E hc hr => ?_, FunD.bindsN (ps := ["bag", "size"]) F fun _ _ _ _ _ _ us hl => match us, hl with | [_, _], _ => rfl⟩
  exact (SXs_cons (SX_set sc__law_minutes.nd rfl (by first | exact Or.inl rfl | exact Or.inr rfl) (XCB (D__law_take.mono (k := 2) (by decide)) hr rfl T.m__law_take F__law_take.kp b__law_take (takes_of rfl rfl rfl rfl) (pv 0) (AX_cons EX_int AX_nil))) (SXs_one (SX_ret (EX_ix (EX_lst (AX_cons EX_int (AX_cons EX_int (AX_cons (XCB (D__law_take.mono (k := 2) (by decide)) hr rfl T.m__law_take F__law_take.kp b__law_take (takes_of rfl rfl rfl rfl) (pv 0) (AX_cons EX_int AX_nil)) (AX_cons (XCB (D__law_take.mono (k := 2) (by decide)) hr rfl T.m__law_take F__law_take.kp b__law_take (takes_of rfl rfl rfl rfl) (pv 0) (AX_cons EX_int AX_nil)) (AX_cons (XCB (D__law_take.mono (k := 2) (by decide)) hr rfl T.m__law_take F__law_take.kp b__law_take (takes_of rfl rfl rfl rfl) (pv 0) (AX_cons (EX_op op_add flat_add (EX_var (pv 1)) EX_int) AX_nil)) AX_nil)))))) (EX_var (pv 2))))))
theorem ok__law_hall (T : Tx K mg base) : Df P w K mg base 4 "_law_hall" s__law_hall ["bag", "rows", "columns"] Cq.f__law_hall := by
  obtain ⟨fd, F⟩ := T.F__law_hall
  obtain ⟨fd__law_take, F__law_take, D__law_take, b__law_take⟩ := ok__law_take (P := P) (w := w) T
  obtain ⟨fd__law_minutes, F__law_minutes, D__law_minutes, b__law_minutes⟩ := ok__law_minutes (P := P) (w := w) T
  refine ⟨fd, F, def_okD F sc__law_hall rfl rfl fun c A out s H E hc hr => ?_, FunD.bindsN (ps := ["bag", "rows", "columns"]) F fun _ _ _ _ _ _ us hl => match us, hl with | [_, _, _], _ => rfl⟩
  exact (SXs_cons (SX_set sc__law_hall.nd rfl (by first | exact Or.inl rfl | exact Or.inr rfl) (EX_ix (EX_lst (AX_cons EX_int (AX_cons EX_int (AX_cons (EX_op op_powW flat_pow EX_int EX_int) AX_nil)))) (EX_op op_fdivW flat_div (XCB (D__law_take.mono (k := 3) (by decide)) hr rfl T.m__law_take F__law_take.kp b__law_take (takes_of rfl rfl rfl rfl) (pv 0) (AX_cons EX_int AX_nil)) EX_int))) (SXs_one (SX_ret (EX_tp rfl T.n_tuple (by decide +kernel) (XL [("j", 4)] rfl rfl sc__law_hall.nd (IX_r1 rfl T.n_range (AX_cons (EX_var (pv 1)) AX_nil)) (blk_ok (N := ["bag", "rows", "columns", "size", "j", "k"]) (sc := defScope s__law_hall) (by decide +kernel)) (is := [4]) (by decide) (fun s H C cl fp => (GX_name sc__law_hall.nd rfl (by first | exact Or.inl rfl | exact Or.inr rfl))) (fun s H C cl fp => TS_nil) (fun s H C cl fp => (EX_tp rfl T.n_tuple (by decide +kernel) (XL [("k", 5)] rfl rfl sc__law_hall.nd (IX_r1 rfl T.n_range (AX_cons (EX_var (pv 2)) AX_nil)) (blk_ok (by kernel_rfl)) (is := [5]) (by decide) (fun s H C cl fp => (GX_name sc__law_hall.nd rfl (by first | exact Or.inl rfl | exact Or.inr rfl))) (fun s H C cl fp => TS_nil) (fun s H C cl fp => (XCB (D__law_minutes.mono (k := 3) (by decide)) hr rfl T.m__law_minutes F__law_minutes.kp b__law_minutes takes0 (pv 0) (AX_cons (EX_var (pv 3)) AX_nil)))))))))))
theorem ok__law_worths (T : Tx K mg base) : Df P w K mg base 2 "_law_worths" s__law_worths ["hall"] Cq.f__law_worths := by
  obtain ⟨fd, F⟩ := T.F__law_worths
  refine ⟨fd, F, def_okD F sc__law_worths rfl rfl fun c A out s H E hc hr => ?_, FunD.bindsN (ps := ["hall"]) F fun _ _ _ _ _ _ us hl => match us, hl with | [_], _ => rfl⟩
  exact (SXs_cons (SX_set sc__law_worths.nd rfl (by first | exact Or.inl rfl | exact Or.inr rfl) (EX_len rfl T.n_len (EX_ix (EX_var (pv 0)) EX_int))) (SXs_cons (SX_set sc__law_worths.nd rfl (by first | exact Or.inl rfl | exact Or.inr rfl) (EX_lst AX_nil)) (SXs_cons (SX_for (passes_of rfl) rfl (IX_r1 rfl T.n_range (AX_cons (EX_var (pv 1)) AX_nil)) (GX_name sc__law_worths.nd rfl (by first | exact Or.inl rfl | exact Or.inr rfl)) (SXs_cons (SX_set sc__law_worths.nd rfl (by first | exact Or.inl rfl | exact Or.inr rfl) (EX_mul0 (EX_lst (AX_cons EX_int AX_nil)) (EX_var (pv 1)))) (SXs_cons (SX_for (passes_of rfl) rfl (IX_sq (EX_var (pv 0))) (GX_name sc__law_worths.nd rfl (by first | exact Or.inl rfl | exact Or.inr rfl)) (SXs_cons (SX_set sc__law_worths.nd rfl (by first | exact Or.inl rfl | exact Or.inr rfl) EX_int) (SXs_one (SX_for (passes_of rfl) rfl (IX_r2 rfl T.n_range (AX_cons (EX_var (pv 3)) (AX_cons (EX_var (pv 1)) AX_nil))) (GX_name sc__law_worths.nd rfl (by first | exact Or.inl rfl | exact Or.inr rfl)) (SXs_cons (SX_set sc__law_worths.nd rfl (by first | exact Or.inl rfl | exact Or.inr rfl) (EX_op op_add flat_add (EX_cb (call_max2 rfl) flat_max2 rfl T.n_max (by decide +kernel) (AX_cons (EX_var (pv 6)) (AX_cons (EX_ixS (pv 4) (EX_var (pv 7))) AX_nil))) (EX_ix (EX_var (pv 5)) (EX_var (pv 7))))) (SXs_one (SX_stI (pv 4) (EX_var (pv 7)) (EX_var (pv 6))))))))) (SXs_one (SX_expr (EX_app (pv 2) (EX_slS (pv 4) (PX_sm (EX_var (pv 3))) PX_no))))))) (SXs_one (SX_ret (EX_mov (pv 2)))))))
theorem ok_law (T : Tx K mg base) : Df P w K mg base 15 "law" s_law ["script"] f_law := by
  obtain ⟨fd, F⟩ := T.F_law
  obtain ⟨fd__law_bag, F__law_bag, D__law_bag, b__law_bag⟩ := ok__law_bag (P := P) (w := w) T
  obtain ⟨fd__law_hall, F__law_hall, D__law_hall, b__law_hall⟩ := ok__law_hall (P := P) (w := w) T
  obtain ⟨fd__law_cell_at, F__law_cell_at, D__law_cell_at, b__law_cell_at⟩ := ok__law_cell_at (P := P) (w := w) T
  obtain ⟨fd__law_take, F__law_take, D__law_take, b__law_take⟩ := ok__law_take (P := P) (w := w) T
  obtain ⟨fd__law_alike, F__law_alike, D__law_alike, b__law_alike⟩ := ok__law_alike (P := P) (w := w) T
  obtain ⟨fd_in_order, F_in_order, D_in_order, b_in_order⟩ := ok_in_order (P := P) (w := w) T
  obtain ⟨fd_exchanged, F_exchanged, D_exchanged, b_exchanged⟩ := ok_exchanged (P := P) (w := w) T
  obtain ⟨fd__law_worths, F__law_worths, D__law_worths, b__law_worths⟩ := ok__law_worths (P := P) (w := w) T
  obtain ⟨fd_totals, F_totals, D_totals, b_totals⟩ := ok_totals (P := P) (w := w) T
  refine ⟨fd, F, def_okD F sc_law rfl rfl fun c A out s H E hc hr => ?_, FunD.bindsN (ps := ["script"]) F fun _ _ _ _ _ _ us hl => match us, hl with | [_], _ => rfl⟩
  exact (SXs_cons (SX_for (passes_of rfl) rfl (IX_r1 rfl T.n_range (AX_cons (EX_cb (call_max2 rfl) flat_max2 rfl T.n_max (by decide +kernel) (AX_cons EX_int (AX_cons (EX_cb (call_min2 rfl) flat_min2 rfl T.n_min (by decide +kernel) (AX_cons EX_int (AX_cons (EX_len rfl T.n_len (EX_var (pv 0))) AX_nil))) AX_nil))) AX_nil)) (GX_name sc_law.nd rfl (by first | exact Or.inl rfl | exact Or.inr rfl)) (SXs_cons (SX_set sc_law.nd rfl (by first | exact Or.inl rfl | exact Or.inr rfl) (XC (D__law_bag.mono (k := 14) (by decide)) hr rfl T.m__law_bag F__law_bag.kp b__law_bag (takes_of rfl rfl rfl rfl) (AX_cons (XC (D__law_cell_at.mono (k := 14) (by decide)) hr rfl T.m__law_cell_at F__law_cell_at.kp b__law_cell_at (takes_of rfl rfl rfl rfl) (AX_cons (EX_var (pv 0)) (AX_cons (EX_var (pv 1)) AX_nil))) (AX_cons (EX_var (pv 1)) AX_nil)))) (SXs_cons (SX_set sc_law.nd rfl (by first | exact Or.inl rfl | exact Or.inr rfl) (EX_op op_add flat_add EX_int (XCB (D__law_take.mono (k := 14) (by decide)) hr rfl T.m__law_take F__law_take.kp b__law_take (takes_of rfl rfl rfl rfl) (pv 2) (AX_cons EX_int AX_nil)))) (SXs_cons (SX_set sc_law.nd rfl (by first | exact Or.inl rfl | exact Or.inr rfl) (XCB (D__law_hall.mono (k := 14) (by decide)) hr rfl T.m__law_hall F__law_hall.kp b__law_hall (takes_of rfl rfl rfl rfl) (pv 2) (AX_cons (EX_var (pv 3)) (AX_cons (EX_op op_add flat_add EX_int (XCB (D__law_take.mono (k := 14) (by decide)) hr rfl T.m__law_take F__law_take.kp b__law_take (takes_of rfl rfl rfl rfl) (pv 2) (AX_cons EX_int AX_nil))) AX_nil)))) (SXs_cons (SX_if (TX_w (TW_and (TX_cmp op_gt (nomark _) flat_gt (EX_var (pv 3)) EX_int) (TW_and1 (TX_cmp (op_eqD (units_ok hr)) (nomark _) flat_eq (XCB (D__law_take.mono (k := 14) (by decide)) hr rfl T.m__law_take F__law_take.kp b__law_take (takes_of rfl rfl rfl rfl) (pv 2) (AX_cons EX_int AX_nil)) EX_int)))) (SXs_one (SX_set sc_law.nd rfl (by first | exact Or.inl rfl | exact Or.inr rfl) (EX_cat (EX_sl (EX_var (pv 4)) PX_no (PX_sm (EX_neg EX_int))) (EX_tup (AX_cons (EX_rv (EX_ix (EX_var (pv 4)) EX_int)) AX_nil))))) SXs_nil) (SXs_cons (SX_set sc_law.nd rfl (by first | exact Or.inl rfl | exact Or.inr rfl) (EX_tp rfl T.n_tuple (by decide +kernel) (XL [("row", 10)] rfl rfl sc_law.nd (IX_sq (EX_var (pv 4))) (blk_ok (N := ["script", "k", "bag", "rows", "hall", "sums", "now", "j", "order", "rising", "row"]) (sc := defScope s_law) (by decide +kernel)) (is := [10]) (by decide) (fun s H C cl fp => (GX_name sc_law.nd rfl (by first | exact Or.inl rfl | exact Or.inr rfl))) (fun s H C cl fp => TS_nil) (fun s H C cl fp => (EX_cb (cr_sumA rfl) flat_sumA rfl T.n_sum (by decide +kernel) (AX_cons (EX_var (pv 10)) AX_nil)))))) (SXs_cons (SX_if (TX_not (TX_val (XC (D__law_alike.mono (k := 14) (by decide)) hr rfl T.m__law_alike F__law_alike.kp b__law_alike (takes_of rfl rfl rfl rfl) (AX_cons (XC (D_in_order.mono (k := 14) (by decide)) hr rfl T.m_in_order F_in_order.kp b_in_order (takes_of rfl rfl rfl rfl) (AX_cons (EX_var (pv 4)) (AX_cons (EX_var (pv 5)) AX_nil))) (AX_cons (EX_var (pv 4)) AX_nil))))) (SXs_one (SX_ret EX_bl)) SXs_nil) (SXs_cons (SX_set sc_law.nd rfl (by first | exact Or.inl rfl | exact Or.inr rfl) (EX_var (pv 4))) (SXs_cons (SX_for (passes_of rfl) rfl (IX_r1 rfl T.n_range (AX_cons (XCB (D__law_take.mono (k := 14) (by decide)) hr rfl T.m__law_take F__law_take.kp b__law_take (takes_of rfl rfl rfl rfl) (pv 2) (AX_cons EX_int AX_nil)) AX_nil)) (GX_name sc_law.nd rfl (by first | exact Or.inl rfl | exact Or.inr rfl)) (SXs_one (SX_if (TX_cmp op_gt (nomark _) flat_gt (EX_var (pv 3)) EX_int) (SXs_one (SX_set sc_law.nd rfl (by first | exact Or.inl rfl | exact Or.inr rfl) (XC (D_exchanged.mono (k := 14) (by decide)) hr rfl T.m_exchanged F_exchanged.kp b_exchanged (takes_of rfl rfl rfl rfl) (AX_cons (EX_var (pv 6)) (AX_cons (XCB (D__law_take.mono (k := 14) (by decide)) hr rfl T.m__law_take F__law_take.kp b__law_take (takes_of rfl rfl rfl rfl) (pv 2) (AX_cons (EX_op op_sub flat_sub (EX_var (pv 3)) EX_int) AX_nil)) AX_nil))))) SXs_nil))) (SXs_cons (SX_set sc_law.nd rfl (by first | exact Or.inl rfl | exact Or.inr rfl) (EX_tp rfl T.n_tuple (by decide +kernel) (XL [("row", 10)] rfl rfl sc_law.nd (IX_sq (EX_var (pv 6))) (blk_ok (N := ["script", "k", "bag", "rows", "hall", "sums", "now", "j", "order", "rising", "row"]) (sc := defScope s_law) (by decide +kernel)) (is := [10]) (by decide) (fun s H C cl fp => (GX_name sc_law.nd rfl (by first | exact Or.inl rfl | exact Or.inr rfl))) (fun s H C cl fp => TS_nil) (fun s H C cl fp => (EX_cb (cr_sumA rfl) flat_sumA rfl T.n_sum (by decide +kernel) (AX_cons (EX_var (pv 10)) AX_nil)))))) (SXs_cons (SX_if (TX_w (TW_or (TX_cmp (op_neD (units_ok hr)) (nomark _) flat_ne (EX_srtT rfl T.n_sorted (EX_var (pv 8)) (by decide +kernel)) (EX_srtT rfl T.n_sorted (EX_var (pv 5)) (by decide +kernel))) (TW_or1 (TX_not (TX_val (XC (D__law_alike.mono (k := 14) (by decide)) hr rfl T.m__law_alike F__law_alike.kp b__law_alike (takes_of rfl rfl rfl rfl) (AX_cons (XC (D_in_order.mono (k := 14) (by decide)) hr rfl T.m_in_order F_in_order.kp b_in_order (takes_of rfl rfl rfl rfl) (AX_cons (EX_var (pv 4)) (AX_cons (EX_var (pv 8)) AX_nil))) (AX_cons (EX_var (pv 6)) AX_nil)))))))) (SXs_one (SX_ret EX_bl)) SXs_nil) (SXs_cons (SX_if (TX_w (TW_or (TX_not (TX_val (XC (D__law_alike.mono (k := 14) (by decide)) hr rfl T.m__law_alike F__law_alike.kp b__law_alike (takes_of rfl rfl rfl rfl) (AX_cons (XC (D_in_order.mono (k := 14) (by decide)) hr rfl T.m_in_order F_in_order.kp b_in_order (takes_of rfl rfl rfl rfl) (AX_cons (EX_var (pv 6)) (AX_cons (EX_var (pv 5)) AX_nil))) (AX_cons (EX_var (pv 4)) AX_nil))))) (TW_or1 (TX_cmp (op_neD (units_ok hr)) (nomark _) flat_ne (XC (D__law_worths.mono (k := 14) (by decide)) hr rfl T.m__law_worths F__law_worths.kp b__law_worths (takes_of rfl rfl rfl rfl) (AX_cons (EX_var (pv 6)) AX_nil)) (XC (D__law_worths.mono (k := 14) (by decide)) hr rfl T.m__law_worths F__law_worths.kp b__law_worths (takes_of rfl rfl rfl rfl) (AX_cons (EX_var (pv 4)) AX_nil)))))) (SXs_one (SX_ret EX_bl)) SXs_nil) (SXs_cons (SX_set sc_law.nd rfl (by first | exact Or.inl rfl | exact Or.inr rfl) (EX_tp rfl T.n_tuple (by decide +kernel) (EX_srtT rfl T.n_sorted (EX_var (pv 5)) (by decide +kernel)))) (SXs_cons (SX_if (TX_not (TX_val (XC (D__law_alike.mono (k := 14) (by decide)) hr rfl T.m__law_alike F__law_alike.kp b__law_alike (takes_of rfl rfl rfl rfl) (AX_cons (XC (D_in_order.mono (k := 14) (by decide)) hr rfl T.m_in_order F_in_order.kp b_in_order (takes_of rfl rfl rfl rfl) (AX_cons (EX_var (pv 6)) (AX_cons (EX_var (pv 9)) AX_nil))) (AX_cons (XC (D_in_order.mono (k := 14) (by decide)) hr rfl T.m_in_order F_in_order.kp b_in_order (takes_of rfl rfl rfl rfl) (AX_cons (EX_var (pv 4)) (AX_cons (EX_var (pv 9)) AX_nil))) AX_nil))))) (SXs_one (SX_ret EX_bl)) SXs_nil) (SXs_one (SX_if (TX_not (TX_val (XC (D__law_alike.mono (k := 14) (by decide)) hr rfl T.m__law_alike F__law_alike.kp b__law_alike (takes_of rfl rfl rfl rfl) (AX_cons (XC (D_totals.mono (k := 14) (by decide)) hr rfl T.m_totals F_totals.kp b_totals (takes_of rfl rfl rfl rfl) (AX_cons (XC (D_in_order.mono (k := 14) (by decide)) hr rfl T.m_in_order F_in_order.kp b_in_order (takes_of rfl rfl rfl rfl) (AX_cons (EX_var (pv 6)) (AX_cons (EX_var (pv 9)) AX_nil))) AX_nil)) (AX_cons (EX_var (pv 9)) AX_nil))))) (SXs_one (SX_ret EX_bl)) SXs_nil)))))))))))))))) (SXs_one (SX_ret EX_bl)))
end
end K21
end
section
set_option Elab.async false
set_option linter.all false
set_option maxRecDepth 100000
set_option maxHeartbeats 1000000
/-! moves between counters and moves between customers go past one another. Mathematics only: tables of whole numbers. -/
namespace Dc
abbrev Mat := Nat → Nat → Int
def ps (f : Nat → Int) : Nat → Int
  | 0 => 0
  | c + 1 => ps f c + f c
/-- the lead of customer c from counter i on the next -/
def ld (M : Mat) (i c : Nat) : Int := ps (M i) (c + 1) - ps (M (i + 1)) c
def tr (M : Mat) : Mat := fun p q => M q p
/-- c is the first of the greatest -/
structure FA (n : Nat) (L : Nat → Int) (c : Nat) : Prop where
  lt : c < n
  le : ∀ j, j < n → L j ≤ L c
  fst : ∀ j, j < c → L j < L c
/-- one minute of customer c from counter i to the next -/
def dl (i c p q : Nat) : Int := if q = c then (if p = i then -1 else if p = i + 1 then 1 else 0) else 0
def mvd (M : Mat) (i c : Nat) : Mat := fun p q => M p q + dl i c p q
def mvc (M : Mat) (k h : Nat) : Mat := fun p q => M p q + dl k h q p
theorem ps_congr {f g : Nat → Int} : ∀ {t : Nat}, (∀ q, q < t → f q = g q) → ps f t = ps g t
  | 0, _ => rfl
  | t + 1, h => by simp only [ps, ps_congr (t := t) fun q hq => h q (by omega), h t (by omega)]
theorem ps_add (f g : Nat → Int) : ∀ t, ps (fun q => f q + g q) t = ps f t + ps g t
  | 0 => rfl
  | t + 1 => by simp only [ps, ps_add f g t]; omega
theorem ps_one (c : Nat) (v : Int) : ∀ t, ps (fun q => if q = c then v else 0) t = if c < t then v else 0
  | 0 => rfl
  | t + 1 => by
    simp only [ps, ps_one c v t]
    by_cases h : t = c
    · subst h; simp
    · rw [if_neg h]
      by_cases g : c < t
      · rw [if_pos g, if_pos (by omega)]; omega
      · rw [if_neg g, if_neg (by omega)]; omega
theorem ps_zero : ∀ t, ps (fun _ => 0) t = 0
  | 0 => rfl
  | t + 1 => by simp only [ps, ps_zero t]; rfl
theorem ps_dl (i c p t : Nat) : ps (dl i c p) t = if c < t then (if p = i then -1 else if p = i + 1 then 1 else 0) else 0 := by
  have e : dl i c p = fun q => if q = c then (if p = i then (-1 : Int) else if p = i + 1 then 1 else 0) else 0 := rfl
  rw [e, ps_one]
theorem ps_dc (k h p t : Nat) : ps (fun q => dl k h q p) t = if p = h then (if k + 1 < t then 0 else if k < t then -1 else 0) else 0 := by
  by_cases g : p = h
  · rw [if_pos g]
    have e : (fun q => dl k h q p) = fun q => (if q = k then (-1 : Int) else 0) + (if q = k + 1 then 1 else 0) := by
      funext q
      unfold dl
      rw [if_pos g]
      by_cases z : q = k
      · rw [if_pos z, if_pos z, if_neg (by omega)]; rfl
      · rw [if_neg z, if_neg z]; omega
    rw [e, ps_add, ps_one, ps_one]
    by_cases z : k + 1 < t
    · rw [if_pos z, if_pos z, if_pos (by omega)]; rfl
    · rw [if_neg z, if_neg z]; omega
  · rw [if_neg g]
    have e : (fun q => dl k h q p) = fun _ => (0 : Int) := by funext q; unfold dl; rw [if_neg g]
    rw [e, ps_zero]
theorem ld_mvc (M : Mat) (k h i c : Nat) : ld (mvc M k h) i c = ld M i c + (if h = i ∧ c = k then -1 else if h = i + 1 ∧ c = k + 1 then 1 else 0) := by
  have e : ∀ p t, ps (mvc M k h p) t = ps (M p) t + ps (fun q => dl k h q p) t := fun p t => ps_add _ _ t
  unfold ld
  rw [e, e, ps_dc, ps_dc]
  (repeat' split) <;> omega
theorem ld_cl (M : Mat) (i k : Nat) : ld M i (k + 1) - ld M i k = ld (tr M) k i - ld (tr M) k (i + 1) := by
  have a : ld M i (k + 1) - ld M i k = M i (k + 1) - M (i + 1) k := by simp only [ld, ps]; omega
  have b : ld (tr M) k (i + 1) - ld (tr M) k i = M (i + 1) k - M i (k + 1) := by simp only [ld, ps, tr]; omega
  omega
/-- one move on between counters i and i + 1 -/
def Fs (n i : Nat) (M M' : Mat) : Prop := ∃ c, FA n (ld M i) c ∧ 1 ≤ ld M i c ∧ M' = mvd M i c
def Gs (m k : Nat) (M M' : Mat) : Prop := ∃ h, FA m (ld (tr M) k) h ∧ 1 ≤ ld (tr M) k h ∧ M' = mvc M k h
theorem Gs_tr {m k : Nat} {M M' : Mat} : Gs m k M M' ↔ Fs m k (tr M) (tr M') := by
  constructor
  · rintro ⟨h, a, b, rfl⟩; exact ⟨h, a, b, rfl⟩
  · rintro ⟨h, a, b, e⟩
    exact ⟨h, a, b, by have := congrArg tr e; exact this⟩
theorem FA.one_only {n : Nat} {L : Nat → Int} {c d : Nat} (h : FA n L c) (k : FA n L d) : c = d := by
  rcases Nat.lt_trichotomy c d with z | z | z
  · have := k.fst c z; have := h.le d k.lt; omega
  · exact z
  · have := h.fst d z; have := k.le c h.lt; omega
theorem Fs.one_only {n i : Nat} {M A B : Mat} (h : Fs n i M A) (k : Fs n i M B) : A = B := by
  obtain ⟨c, a, _, rfl⟩ := h
  obtain ⟨d, b, _, rfl⟩ := k
  rw [a.one_only b]
/-- where the first of the greatest leads is behind a move between customers -/
theorem fa_past {m n i k c h : Nat} {M : Mat} (hi : i + 1 < m) (hk : k + 1 < n) (a : FA n (ld M i) c) (b : FA m (ld (tr M) k) h) :
    FA n (ld (mvc M k h) i) (if h = i ∧ c = k then k + 1 else c) ∧ ld (mvc M k h) i (if h = i ∧ c = k then k + 1 else c) = ld M i c := by
  have key := ld_cl M i k
  have q : ∀ j, ld (mvc M k h) i j = ld M i j + (if h = i ∧ j = k then -1 else if h = i + 1 ∧ j = k + 1 then 1 else 0) := fun j => ld_mvc M k h i j
  by_cases z : h = i ∧ c = k
  · obtain ⟨rfl, rfl⟩ := z
    rw [if_pos ⟨rfl, rfl⟩]
    have b1 := b.le (h + 1) hi
    have a1 := a.le (c + 1) hk
    have e : ld (mvc M c h) h (c + 1) = ld M h c := by rw [q, if_neg (by omega), if_neg (by omega)]; omega
    refine ⟨⟨hk, fun j hj => ?_, fun j hj => ?_⟩, e⟩
    · rw [e, q j]
      have := a.le j hj
      split
      · omega
      · rw [if_neg (by omega)]; omega
    · rw [e, q j]
      by_cases y : j = c
      · rw [if_pos ⟨rfl, y⟩, y]; omega
      · rw [if_neg (by omega), if_neg (by omega)]
        have := a.fst j (by omega)
        omega
  · rw [if_neg z]
    by_cases z1 : h = i
    · subst z1
      have e : ld (mvc M k h) h c = ld M h c := by rw [q, if_neg z, if_neg (by omega)]; omega
      refine ⟨⟨a.lt, fun j hj => ?_, fun j hj => ?_⟩, e⟩
      · rw [e, q j]
        have := a.le j hj
        split
        · omega
        · rw [if_neg (by omega)]; omega
      · rw [e, q j]
        have := a.fst j hj
        split
        · omega
        · rw [if_neg (by omega)]; omega
    · by_cases z2 : h = i + 1
      · subst z2
        have b1 := b.fst i (by omega)
        have ck : c ≠ k + 1 := fun y => by
          have := a.fst k (by omega)
          rw [y] at this
          omega
        have e : ld (mvc M k (i + 1)) i c = ld M i c := by rw [q, if_neg (by omega), if_neg (by omega)]; omega
        have a2 := a.le k (by omega)
        refine ⟨⟨a.lt, fun j hj => ?_, fun j hj => ?_⟩, e⟩
        · rw [e, q j, if_neg (by omega)]
          have := a.le j hj
          by_cases y : j = k + 1
          · rw [if_pos ⟨rfl, y⟩, y]; omega
          · rw [if_neg (by omega)]; omega
        · rw [e, q j, if_neg (by omega)]
          have := a.fst j hj
          by_cases y : j = k + 1
          · rw [if_pos ⟨rfl, y⟩, y]
            have := a.fst k (by omega)
            omega
          · rw [if_neg (by omega)]; omega
      · have e : ∀ j, ld (mvc M k h) i j = ld M i j := fun j => by rw [q, if_neg (by omega), if_neg (by omega)]; omega
        refine ⟨⟨a.lt, fun j hj => ?_, fun j hj => ?_⟩, e c⟩
        · rw [e, e]; exact a.le j hj
        · rw [e, e]; exact a.fst j hj
/-- moves between counters and between customers go past one another -/
theorem past {m n i k : Nat} {M A B : Mat} (hi : i + 1 < m) (hk : k + 1 < n) (f : Fs n i M A) (g : Gs m k M B) : ∃ C, Gs m k A C ∧ Fs n i B C := by
  obtain ⟨c, fa, f1, rfl⟩ := f
  obtain ⟨h, ga, g1, rfl⟩ := g
  obtain ⟨u1, u2⟩ := fa_past hi hk fa ga
  have v := fa_past (M := tr M) (m := n) (n := m) (i := k) (k := i) (c := h) (h := c) hk hi ga fa
  obtain ⟨v1, v2⟩ := v
  have ev : mvc (tr M) i c = tr (mvd M i c) := rfl
  rw [ev] at v1 v2
  refine ⟨mvd (mvc M k h) i (if h = i ∧ c = k then k + 1 else c), ⟨(if c = k ∧ h = i then i + 1 else h), v1, by rw [v2]; exact g1, ?_⟩, ⟨_, u1, by rw [u2]; exact f1, rfl⟩⟩
  funext p q
  by_cases z : h = i ∧ c = k
  · obtain ⟨rfl, rfl⟩ := z
    rw [if_pos ⟨rfl, rfl⟩, if_pos ⟨rfl, rfl⟩]
    show M p q + dl c h q p + dl h (c + 1) p q = M p q + dl h c p q + dl c (h + 1) q p
    have : dl c h q p + dl h (c + 1) p q = dl h c p q + dl c (h + 1) q p := by
      unfold dl
      by_cases p1 : p = h
      · subst p1
        by_cases q1 : q = c
        · subst q1; simp
        · by_cases q2 : q = c + 1
          · subst q2; simp
          · simp [q1, q2]
      · by_cases p2 : p = h + 1
        · subst p2
          by_cases q1 : q = c
          · subst q1; simp
          · by_cases q2 : q = c + 1
            · subst q2; simp
            · simp [q1, q2]
        · simp [p1, p2]
    omega
  · rw [if_neg z, if_neg (fun y => z ⟨y.2, y.1⟩)]
    show M p q + dl k h q p + dl i c p q = M p q + dl i c p q + dl k h q p
    omega
end Dc
end
section
set_option Elab.async false
set_option linter.all false
set_option maxRecDepth 100000
set_option maxHeartbeats 1000000
namespace Dc
structure Ok (m n : Nat) (M : Mat) : Prop where
  nn : ∀ p q, 0 ≤ M p q
  out : ∀ p q, ¬ (p < m ∧ q < n) → M p q = 0
theorem Ok.tr {m n : Nat} {M : Mat} (h : Ok m n M) : Ok n m (tr M) := ⟨fun p q => h.nn q p, fun p q z => h.out q p fun y => z ⟨y.2, y.1⟩⟩
theorem fa_ex (L : Nat → Int) : ∀ n, 0 < n → ∃ c, FA n L c
  | 0, h => by omega
  | 1, _ => ⟨0, by omega, fun j hj => by have : j = 0 := by omega
                                         subst this; omega, fun j hj => by omega⟩
  | n + 2, _ => by
    obtain ⟨c, h⟩ := fa_ex L (n + 1) (by omega)
    by_cases z : L (n + 1) ≤ L c
    · exact ⟨c, by have := h.lt; omega, fun j hj => by
        by_cases y : j = n + 1
        · rw [y]; exact z
        · exact h.le j (by omega), h.fst⟩
    · exact ⟨n + 1, by omega, fun j hj => by
        by_cases y : j = n + 1
        · rw [y]; omega
        · have := h.le j (by omega); omega, fun j hj => by have := h.le j hj; omega⟩
section
variable {m n i k : Nat} {M A B A' B' : Mat}
theorem Fs.ok (h : Ok m n M) (hi : i + 1 < m) (f : Fs n i M A) : Ok m n A := by
  obtain ⟨c, a, f1, rfl⟩ := f
  have hc : 1 ≤ M i c := by
    by_cases z : c = 0
    · subst z
      have : ld M i 0 = M i 0 := by simp only [ld, ps]; omega
      omega
    · have h1 := a.fst (c - 1) (by omega)
      have e : ld M i (c - 1 + 1) - ld M i (c - 1) = M i (c - 1 + 1) - M (i + 1) (c - 1) := by simp only [ld, ps]; omega
      rw [show c - 1 + 1 = c by omega] at e
      have := h.nn (i + 1) (c - 1)
      omega
  refine ⟨fun p q => ?_, fun p q z => ?_⟩
  · have := h.nn p q
    show 0 ≤ M p q + dl i c p q
    unfold dl
    split
    · rename_i y
      split
      · rename_i x; rw [x, y]; omega
      · split <;> omega
    · omega
  · have := h.out p q z
    show M p q + dl i c p q = 0
    unfold dl
    have := a.lt
    split
    · rw [if_neg (by omega), if_neg (by omega)]; omega
    · omega
theorem Gs.ok (h : Ok m n M) (hk : k + 1 < n) (g : Gs m k M A) : Ok m n A := by
  have := Fs.ok h.tr hk (Gs_tr.mp g)
  exact this.tr
theorem mixed (hi : i + 1 < m) (hk : k + 1 < n) (f : Fs n i A B) (g : Gs m k B B') : ∃ A', Gs m k A A' ∧ Fs n i A' B' := by
  obtain ⟨c, fa, f1, e⟩ := id f
  obtain ⟨h', ga, g1, e'⟩ := id g
  obtain ⟨h, ha⟩ := fa_ex (ld (tr A) k) m (by omega)
  obtain ⟨v1, v2⟩ := fa_past (M := tr A) (m := n) (n := m) (i := k) (k := i) (c := h) (h := c) hk hi ha fa
  have ev : mvc (tr A) i c = tr (mvd A i c) := rfl
  rw [ev, ← e] at v1 v2
  have eh := v1.one_only ga
  rw [eh] at v2
  have gA : Gs m k A (mvc A k h) := ⟨h, ha, by omega, rfl⟩
  obtain ⟨C, c1, c2⟩ := past hi hk f gA
  have : C = B' := by
    have a := Gs_tr.mp c1
    have b := Gs_tr.mp g
    have := a.one_only b
    exact congrArg tr this
  rw [this] at c2
  exact ⟨_, gA, c2⟩
/-- the first of the greatest is behind the move the last of them -/
theorem ld_mvd (M : Mat) (i c j : Nat) : ld (mvd M i c) i j = ld M i j - (if j < c then 0 else if j = c then 1 else 2) := by
  have e : ∀ p t, ps (mvd M i c p) t = ps (M p) t + ps (dl i c p) t := fun p t => ps_add _ _ t
  unfold ld
  rw [e, e, ps_dl, ps_dl]
  rw [if_pos rfl, if_neg (show ¬ i + 1 = i by omega), if_pos rfl]
  (repeat' split) <;> omega
theorem Fs.inj (f : Fs n i A M) (g : Fs n i B M) : A = B := by
  obtain ⟨c, a, a1, e⟩ := f
  obtain ⟨d, b, b1, e'⟩ := g
  have q1 : ∀ j, ld M i j = ld A i j - (if j < c then 0 else if j = c then 1 else 2) := fun j => by rw [e]; exact ld_mvd A i c j
  have q2 : ∀ j, ld M i j = ld B i j - (if j < d then 0 else if j = d then 1 else 2) := fun j => by rw [e']; exact ld_mvd B i d j
  have cd : c = d := by
    have x1 := q1 c
    have x2 := q1 d
    have y1 := q2 c
    have y2 := q2 d
    rw [if_neg (by omega), if_pos rfl] at x1 y2
    have a2 := a.le d b.lt
    have b2 := b.le c a.lt
    rcases Nat.lt_trichotomy c d with z | z | z
    · rw [if_neg (by omega), if_neg (by omega)] at x2
      rw [if_pos z] at y1
      have := b.fst c z
      omega
    · exact z
    · rw [if_pos z] at x2
      rw [if_neg (by omega), if_neg (by omega)] at y1
      have := a.fst d z
      omega
  subst cd
  rw [e] at e'
  funext p q
  have := congrFun (congrFun e' p) q
  simp only [mvd] at this
  omega
theorem Gs.inj (f : Gs m k A M) (g : Gs m k B M) : A = B := congrArg tr ((Gs_tr.mp f).inj (Gs_tr.mp g))
theorem Gs.one_only (f : Gs m k M A) (g : Gs m k M B) : A = B := congrArg tr ((Gs_tr.mp f).one_only (Gs_tr.mp g))
/-- no move back between i and i + 1 -/
def Set (n i : Nat) (M : Mat) : Prop := ∀ j, j < n → ld M i j ≤ ps (M i) n - ps (M (i + 1)) n
/-- no move on between customers k and k + 1 -/
def Con (m k : Nat) (M : Mat) : Prop := ∀ h, h < m → ld (tr M) k h ≤ 0
theorem row_mvc (hk : k + 1 < n) (h p : Nat) : ps (mvc M k h p) n = ps (M p) n := by
  have e : ps (mvc M k h p) n = ps (M p) n + ps (fun q => dl k h q p) n := ps_add _ _ n
  rw [e, ps_dc, if_pos hk]
  split <;> omega
theorem Set.past (hi : i + 1 < m) (hk : k + 1 < n) (g : Gs m k A B) : Set n i A ↔ Set n i B := by
  obtain ⟨h, ga, g1, rfl⟩ := g
  obtain ⟨c, ca⟩ := fa_ex (ld A i) n (by omega)
  obtain ⟨u1, u2⟩ := fa_past hi hk ca ga
  have d1 := row_mvc (M := A) hk h i
  have d2 := row_mvc (M := A) hk h (i + 1)
  unfold Set
  rw [d1, d2]
  constructor
  · intro z j hj
    have := u1.le j hj
    have := z c ca.lt
    omega
  · intro z j hj
    have := ca.le j hj
    have := z _ u1.lt
    omega
theorem Con.past (hi : i + 1 < m) (hk : k + 1 < n) (f : Fs n i A B) : Con m k A ↔ Con m k B := by
  obtain ⟨c, fa, f1, rfl⟩ := f
  obtain ⟨h, ha⟩ := fa_ex (ld (tr A) k) m (by omega)
  obtain ⟨v1, v2⟩ := fa_past (M := tr A) (m := n) (n := m) (i := k) (k := i) (c := h) (h := c) hk hi ha fa
  have ev : mvc (tr A) i c = tr (mvd A i c) := rfl
  rw [ev] at v1 v2
  unfold Con
  constructor
  · intro z j hj
    have := v1.le j hj
    have := z h ha.lt
    omega
  · intro z j hj
    have := ha.le j hj
    have := z _ v1.lt
    omega
/-! ### many moves -/
/-- t moves on between i and i + 1 -/
inductive Fp (n i : Nat) : Nat → Mat → Mat → Prop
  | nil {A : Mat} : Fp n i 0 A A
  | cons {t : Nat} {A B C : Mat} : Fs n i A B → Fp n i t B C → Fp n i (t + 1) A C
/-- moves on between customers, by their numbers -/
inductive Gq (m : Nat) : List Nat → Mat → Mat → Prop
  | nil {A : Mat} : Gq m [] A A
  | cons {k : Nat} {ks : List Nat} {A B C : Mat} : Gs m k A B → Gq m ks B C → Gq m (k :: ks) A C
theorem Gq.inj {ks : List Nat} (f : Gq m ks A M) : ∀ {B}, Gq m ks B M → A = B := by
  induction f with
  | nil => intro B g; cases g; rfl
  | cons f1 f2 ih =>
    intro B g
    cases g with
    | cons g1 g2 =>
      have := ih g2
      subst this
      exact f1.inj g1
theorem Gq.one_only {ks : List Nat} (f : Gq m ks M A) : ∀ {B}, Gq m ks M B → A = B := by
  induction f with
  | nil => intro B g; cases g; rfl
  | cons f1 f2 ih =>
    intro B g
    cases g with
    | cons g1 g2 =>
      have := f1.one_only g1
      subst this
      exact ih g2
/-- one move on for one behind, by past -/
theorem fs_gq {ks : List Nat} (hi : i + 1 < m) (hk : ∀ k ∈ ks, k + 1 < n) (g : Gq m ks A A') : ∀ {B}, Fs n i A B → ∃ B', Gq m ks B B' ∧ Fs n i A' B' := by
  induction g with
  | nil => intro B f; exact ⟨B, .nil, f⟩
  | cons g1 g2 ih =>
    intro B f
    simp only [List.forall_mem_cons] at hk
    obtain ⟨C, c1, c2⟩ := past hi hk.1 f g1
    obtain ⟨B', b1, b2⟩ := ih hk.2 c2
    exact ⟨B', .cons c1 b1, b2⟩
theorem gq_fs {ks : List Nat} (hi : i + 1 < m) (hk : ∀ k ∈ ks, k + 1 < n) (g : Gq m ks B B') : ∀ {A}, Fs n i A B → ∃ A', Gq m ks A A' ∧ Fs n i A' B' := by
  induction g with
  | nil => intro A f; exact ⟨A, .nil, f⟩
  | cons g1 g2 ih =>
    intro A f
    simp only [List.forall_mem_cons] at hk
    obtain ⟨C, c1, c2⟩ := mixed hi hk.1 f g1
    obtain ⟨A', b1, b2⟩ := ih hk.2 c2
    exact ⟨A', .cons c1 b1, b2⟩
theorem fp_gq {ks : List Nat} {t : Nat} (hi : i + 1 < m) (hk : ∀ k ∈ ks, k + 1 < n) (f : Fp n i t A B) : ∀ {A'}, Gq m ks A A' → ∃ B', Gq m ks B B' ∧ Fp n i t A' B' := by
  induction f with
  | nil => intro A' g; exact ⟨A', g, .nil⟩
  | cons f1 f2 ih =>
    intro A' g
    obtain ⟨C, c1, c2⟩ := fs_gq hi hk g f1
    obtain ⟨B', b1, b2⟩ := ih c1
    exact ⟨B', b1, .cons c2 b2⟩
theorem gq_fp {ks : List Nat} {t : Nat} (hi : i + 1 < m) (hk : ∀ k ∈ ks, k + 1 < n) (f : Fp n i t A B) : ∀ {B'}, Gq m ks B B' → ∃ A', Gq m ks A A' ∧ Fp n i t A' B' := by
  induction f with
  | nil => intro B' g; exact ⟨B', g, .nil⟩
  | cons f1 f2 ih =>
    intro B' g
    obtain ⟨C, c1, c2⟩ := ih g
    obtain ⟨A', b1, b2⟩ := gq_fs hi hk c1 f1
    exact ⟨A', b1, .cons b2 c2⟩
theorem Set.gq {ks : List Nat} (hi : i + 1 < m) (hk : ∀ k ∈ ks, k + 1 < n) (g : Gq m ks A B) : Set n i A ↔ Set n i B := by
  induction g with
  | nil => exact Iff.rfl
  | cons g1 g2 ih =>
    simp only [List.forall_mem_cons] at hk
    exact (Set.past hi hk.1 g1).trans (ih hk.2)
theorem Con.fp {t : Nat} (hi : i + 1 < m) (hk : k + 1 < n) (f : Fp n i t A B) : Con m k A ↔ Con m k B := by
  induction f with
  | nil => exact Iff.rfl
  | cons f1 f2 ih => exact (Con.past hi hk f1).trans ih
theorem Gq.ok {ks : List Nat} (hk : ∀ k ∈ ks, k + 1 < n) (g : Gq m ks A B) : Ok m n A → Ok m n B := by
  induction g with
  | nil => exact id
  | cons g1 g2 ih =>
    simp only [List.forall_mem_cons] at hk
    exact fun h => ih hk.2 (Gs.ok h hk.1 g1)
theorem Fp.ok {t : Nat} (hi : i + 1 < m) (f : Fp n i t A B) : Ok m n A → Ok m n B := by
  induction f with
  | nil => exact id
  | cons f1 f2 ih => exact fun h => ih (Fs.ok h hi f1)
/-! ### all moves on between customers come to an end -/
def wt (n m : Nat) (M : Mat) : Int := ps (fun p => ps (fun q => ((n : Int) - q) * M p q) n) m
theorem ps_nn {f : Nat → Int} : ∀ {t : Nat}, (∀ q, q < t → 0 ≤ f q) → 0 ≤ ps f t
  | 0, _ => by simp [ps]
  | t + 1, h => by
    have := ps_nn (f := f) (t := t) fun q hq => h q (by omega)
    have := h t (by omega)
    simp only [ps]; omega
theorem wt_nn (h : Ok m n M) : 0 ≤ wt n m M := ps_nn fun p _ => ps_nn fun q hq => Int.mul_nonneg (by omega) (h.nn p q)
theorem wt_mvc {h : Nat} (hk : k + 1 < n) (hh : h < m) : wt n m (mvc M k h) = wt n m M - 1 := by
  have e : ∀ p, ps (fun q => ((n : Int) - q) * mvc M k h p q) n = ps (fun q => ((n : Int) - q) * M p q) n + (if p = h then -1 else 0) := fun p => by
    have e1 : (fun q : Nat => ((n : Int) - q) * mvc M k h p q) = fun q => ((n : Int) - q) * M p q + ((n : Int) - q) * dl k h q p := by
      funext q; exact Int.mul_add ..
    rw [e1, ps_add]
    congr 1
    by_cases z : p = h
    · rw [if_pos z]
      have e2 : (fun q : Nat => ((n : Int) - q) * dl k h q p) = fun q => (if q = k then (-((n : Int) - k)) else 0) + (if q = k + 1 then ((n : Int) - (k + 1)) else 0) := by
        funext q
        unfold dl
        rw [if_pos z]
        by_cases y : q = k
        · subst y; rw [if_pos rfl, if_pos rfl, if_neg (by omega)]; omega
        · rw [if_neg y, if_neg y]
          by_cases x : q = k + 1
          · subst x; rw [if_pos rfl, if_pos rfl]; push_cast; omega
          · rw [if_neg x, if_neg x]; omega
      rw [e2, ps_add, ps_one, ps_one, if_pos (by omega), if_pos hk]
      omega
    · rw [if_neg z]
      have e2 : (fun q : Nat => ((n : Int) - q) * dl k h q p) = fun _ => (0 : Int) := by
        funext q; unfold dl; rw [if_neg z, Int.mul_zero]
      rw [e2, ps_zero]
  unfold wt
  have e2 : (fun p => ps (fun q => ((n : Int) - q) * mvc M k h p q) n) = fun p => ps (fun q => ((n : Int) - q) * M p q) n + (if p = h then -1 else 0) := by funext p; exact e p
  rw [e2, ps_add, ps_one, if_pos hh]
  omega
theorem all_on (hm : 0 < m) : ∀ (s : Nat) (M : Mat), Ok m n M → wt n m M ≤ s → ∃ ks M', (∀ k ∈ ks, k + 1 < n) ∧ Gq m ks M M' ∧ Ok m n M' ∧ ∀ k, k + 1 < n → Con m k M'
  | s, M, h, hs => by
    by_cases z : ∀ k, k + 1 < n → Con m k M
    · exact ⟨[], M, by simp, .nil, h, z⟩
    · simp only [Classical.not_forall] at z
      obtain ⟨k, hk, z⟩ := z
      obtain ⟨c, hc⟩ := fa_ex (ld (tr M) k) m hm
      have c1 : 1 ≤ ld (tr M) k c := by
        by_cases y : 1 ≤ ld (tr M) k c
        · exact y
        · exact absurd (fun j hj => by have := hc.le j hj; omega) z
      have g : Gs m k M (mvc M k c) := ⟨c, hc, c1, rfl⟩
      have h' := Gs.ok h hk g
      have w := wt_mvc (M := M) hk hc.lt
      have w0 := wt_nn h'
      cases s with
      | zero => omega
      | succ s =>
        obtain ⟨ks, M', a, b, c, d⟩ := all_on hm s _ h' (by omega)
        exact ⟨k :: ks, M', by simp only [List.forall_mem_cons]; exact ⟨hk, a⟩, .cons g b, c, d⟩
end
end Dc
end
section
set_option Elab.async false
set_option linter.all false
set_option maxRecDepth 100000
set_option maxHeartbeats 1000000
namespace Dc
theorem ps_mono {f : Nat → Int} (h : ∀ q, 0 ≤ f q) {a : Nat} : ∀ {b : Nat}, a ≤ b → ps f a ≤ ps f b
  | 0, z => by have : a = 0 := by omega
               subst this; omega
  | b + 1, z => by
    by_cases y : a = b + 1
    · subst y; omega
    · have := ps_mono h (a := a) (b := b) (by omega)
      have := h b
      simp only [ps]; omega
theorem ps_flat {f : Nat → Int} {a : Nat} : ∀ {b : Nat}, a ≤ b → (∀ q, a ≤ q → q < b → f q = 0) → ps f b = ps f a
  | 0, z, _ => by have : a = 0 := by omega
                  subst this; rfl
  | b + 1, z, h => by
    by_cases y : a = b + 1
    · subst y; rfl
    · have := ps_flat (f := f) (a := a) (b := b) (by omega) fun q h1 h2 => h q h1 (by omega)
      have := h b (by omega) (by omega)
      simp only [ps]; omega
theorem ps_only {f : Nat → Int} {p0 : Nat} (h : ∀ p, p ≠ p0 → f p = 0) (t : Nat) : ps f t = if p0 < t then f p0 else 0 := by
  have e : f = fun p => if p = p0 then f p0 else 0 := by
    funext p
    by_cases z : p = p0
    · rw [if_pos z, z]
    · rw [if_neg z]; exact h p z
  rw [e, ps_one]
  simp
section
variable {m n i k : Nat} {M A B C N R S : Mat}
/-- settled between all counters, gone on between all customers: one diagonal -/
theorem anti (h : Ok m n M) (hs : ∀ i, i + 1 < m → Set n i M) (hc : ∀ k, k + 1 < n → Con m k M) : ∀ (s p : Nat), p < s → ∀ q, p + q + 1 ≠ n → M p q = 0
  | 0, p, z, _, _ => by omega
  | s + 1, p, z, q, hq => by
    have ih := anti h hs hc s
    by_cases out : p < m ∧ q < n
    · by_cases y : p + q + 1 < n
      · have c := hc q (by omega) p out.1
        have r : ps (tr M (q + 1)) p = ps (tr M (q + 1)) 0 := ps_flat (by omega) fun p' _ h2 => ih p' (by omega) (q + 1) (by omega)
        have l : 0 ≤ ps (tr M q) p := ps_nn fun p' _ => h.nn p' q
        have l2 : ps (tr M q) (p + 1) = ps (tr M q) p + M p q := rfl
        have z0 : ps (tr M (q + 1)) 0 = 0 := rfl
        have := h.nn p q
        unfold ld at c
        omega
      · have y2 : n < p + q + 1 := by omega
        obtain ⟨i, rfl⟩ : ∃ i, p = i + 1 := ⟨p - 1, by omega⟩
        have c := hs i out.1 q out.2
        have r : ps (M i) n = ps (M i) (q + 1) := ps_flat (by omega) fun q' h1 h2 => ih i (by omega) q' (by omega)
        have l := ps_mono (f := M (i + 1)) (fun q => h.nn (i + 1) q) (a := q + 1) (b := n) (by omega)
        have l2 : ps (M (i + 1)) (q + 1) = ps (M (i + 1)) q + M (i + 1) q := rfl
        have := h.nn (i + 1) q
        unfold ld at c
        omega
    · exact h.out p q out
theorem anti_same (hM : Ok m n M) (hN : Ok m n N) (h1 : ∀ p q, p + q + 1 ≠ n → M p q = 0) (h2 : ∀ p q, p + q + 1 ≠ n → N p q = 0) (e : ∀ q, ps (tr M q) m = ps (tr N q) m) : M = N := by
  funext p q
  by_cases z : p + q + 1 = n
  · by_cases y : p < m
    · have a := ps_only (f := tr M q) (p0 := p) (fun p' hp => h1 p' q (by omega)) m
      have b := ps_only (f := tr N q) (p0 := p) (fun p' hp => h2 p' q (by omega)) m
      rw [if_pos y] at a b
      have := e q
      rw [a, b] at this
      exact this
    · rw [hM.out p q (by omega), hN.out p q (by omega)]
  · rw [h1 p q z, h2 p q z]
theorem col_fs (hi : i + 1 < m) (f : Fs n i A B) (q : Nat) : ps (tr B q) m = ps (tr A q) m := by
  obtain ⟨c, a, a1, rfl⟩ := f
  exact row_mvc (M := tr A) (n := m) (k := i) hi c q
/-- moves on between counters, by their numbers -/
inductive Fq (n : Nat) : List Nat → Mat → Mat → Prop
  | nil {A : Mat} : Fq n [] A A
  | cons {i : Nat} {is : List Nat} {A B C : Mat} : Fs n i A B → Fq n is B C → Fq n (i :: is) A C
theorem Fq.app {is js : List Nat} (f : Fq n is A B) : Fq n js B C → Fq n (is ++ js) A C := by
  induction f with
  | nil => exact id
  | cons f1 f2 ih => exact fun g => .cons f1 (ih g)
theorem Fp.fq {t : Nat} (f : Fp n i t A B) : Fq n (List.replicate t i) A B := by
  induction f with
  | nil => exact .nil
  | cons f1 f2 ih => rw [List.replicate_succ]; exact .cons f1 ih
theorem Fq.ok {is : List Nat} (f : Fq n is A B) : (∀ i ∈ is, i + 1 < m) → Ok m n A → Ok m n B := by
  induction f with
  | nil => exact fun _ => id
  | cons f1 f2 ih =>
    intro hi h
    simp only [List.forall_mem_cons] at hi
    exact ih hi.2 (Fs.ok h hi.1 f1)
theorem col_fq {is : List Nat} (f : Fq n is A B) : (∀ i ∈ is, i + 1 < m) → ∀ q, ps (tr B q) m = ps (tr A q) m := by
  induction f with
  | nil => exact fun _ _ => rfl
  | cons f1 f2 ih =>
    intro hi q
    simp only [List.forall_mem_cons] at hi
    rw [ih hi.2 q, col_fs hi.1 f1 q]
theorem gq_fq {ks is : List Nat} (hk : ∀ k ∈ ks, k + 1 < n) (f : Fq n is A B) : (∀ i ∈ is, i + 1 < m) → ∀ {B'}, Gq m ks B B' → ∃ A', Gq m ks A A' ∧ Fq n is A' B' := by
  induction f with
  | nil => intro _ B' g; exact ⟨B', g, .nil⟩
  | cons f1 f2 ih =>
    intro hi B' g
    simp only [List.forall_mem_cons] at hi
    obtain ⟨C, c1, c2⟩ := ih hi.2 g
    obtain ⟨A', b1, b2⟩ := gq_fs hi.1 hk c1 f1
    exact ⟨A', b1, .cons b2 c2⟩
theorem Con.fq {is : List Nat} (hk : k + 1 < n) (f : Fq n is A B) : (∀ i ∈ is, i + 1 < m) → (Con m k A ↔ Con m k B) := by
  induction f with
  | nil => exact fun _ => Iff.rfl
  | cons f1 f2 ih =>
    intro hi
    simp only [List.forall_mem_cons] at hi
    exact (Con.past hi.1 hk f1).trans (ih hi.2)
/-- settled tables that lead to one table by moves on are one table -/
theorem root_one {is js : List Nat} (hm : 0 < m) (hA : Ok m n A) (hB : Ok m n B) (sA : ∀ i, i + 1 < m → Set n i A) (sB : ∀ i, i + 1 < m → Set n i B) (hi : ∀ i ∈ is, i + 1 < m) (hj : ∀ i ∈ js, i + 1 < m) (f : Fq n is A C) (g : Fq n js B C) : A = B := by
  have hC := f.ok hi hA
  obtain ⟨ks, C', hk, gC, oC, cC⟩ := all_on (n := n) hm (wt n m C).toNat C hC (by have := wt_nn hC; omega)
  obtain ⟨A', gA, fA⟩ := gq_fq hk f hi gC
  obtain ⟨B', gB, fB⟩ := gq_fq hk g hj gC
  have oA := gA.ok hk hA
  have oB := gB.ok hk hB
  have tA := anti oA (fun i h => (Set.gq h hk gA).mp (sA i h)) (fun k h => (Con.fq h fA hi).mpr (cC k h))
  have tB := anti oB (fun i h => (Set.gq h hk gB).mp (sB i h)) (fun k h => (Con.fq h fB hj).mpr (cC k h))
  have e : A' = B' := anti_same oA oB (fun p => tA (p + 1) p (by omega)) (fun p => tB (p + 1) p (by omega)) fun q => by rw [← col_fq fA hi q, ← col_fq fB hj q]
  subst e
  exact gA.inj gB
/-- the settled table of a table -/
def Root (m n : Nat) (R A : Mat) : Prop := Ok m n R ∧ (∀ i, i + 1 < m → Set n i R) ∧ ∃ is, (∀ i ∈ is, i + 1 < m) ∧ Fq n is R A
theorem Root.one_only (hm : 0 < m) (a : Root m n R A) (b : Root m n S A) : R = S := by
  obtain ⟨a1, a2, is, a3, a4⟩ := a
  obtain ⟨b1, b2, js, b3, b4⟩ := b
  exact root_one hm a1 b1 a2 b2 a3 b3 a4 b4
theorem Root.on (a : Root m n R A) (hi : i + 1 < m) (f : Fs n i A B) : Root m n R B := by
  obtain ⟨a1, a2, is, a3, a4⟩ := a
  refine ⟨a1, a2, is ++ [i], fun j hj => ?_, a4.app (.cons f .nil)⟩
  rcases List.mem_append.mp hj with z | z
  · exact a3 j z
  · simp at z; rw [z]; exact hi
end
end Dc
end
section
set_option Elab.async false
set_option linter.all false
set_option maxRecDepth 100000
set_option maxHeartbeats 1000000
namespace Dc
/-- v is the greatest -/
def Mx (n : Nat) (L : Nat → Int) (v : Int) : Prop := (∃ c, c < n ∧ L c = v) ∧ ∀ j, j < n → L j ≤ v
theorem mx_ex (L : Nat → Int) {n : Nat} (hn : 0 < n) : ∃ v, Mx n L v := by
  obtain ⟨c, h⟩ := fa_ex L n hn
  exact ⟨L c, ⟨c, h.lt, rfl⟩, h.le⟩
section
variable {m n i k : Nat} {M A B C N R S : Mat}
theorem mx_fs (f : Fs n i A B) {v : Int} (h : Mx n (ld A i) v) : Mx n (ld B i) (v - 1) := by
  obtain ⟨c, a, a1, rfl⟩ := f
  obtain ⟨⟨d, d1, d2⟩, h2⟩ := h
  have e : ld A i c = v := by have := a.le d d1; have := h2 c a.lt; omega
  refine ⟨⟨c, a.lt, ?_⟩, fun j hj => ?_⟩
  · rw [ld_mvd, if_neg (by omega), if_pos rfl]; omega
  · rw [ld_mvd]
    have q1 := h2 j hj
    by_cases z : j < c
    · rw [if_pos z]
      have := a.fst j z
      omega
    · rw [if_neg z]
      split <;> omega
theorem row_fs (f : Fs n i A B) : ps (B i) n = ps (A i) n - 1 ∧ ps (B (i + 1)) n = ps (A (i + 1)) n + 1 := by
  obtain ⟨c, a, a1, rfl⟩ := f
  have e : ∀ p t, ps (mvd A i c p) t = ps (A p) t + ps (dl i c p) t := fun p t => ps_add _ _ t
  rw [e, e, ps_dl, ps_dl, if_pos a.lt, if_pos a.lt, if_pos rfl, if_neg (by omega), if_pos rfl]
  omega
theorem oth_fs (f : Fs n i A B) {p : Nat} (h1 : p ≠ i) (h2 : p ≠ i + 1) : B p = A p := by
  obtain ⟨c, a, a1, rfl⟩ := f
  funext q
  show A p q + dl i c p q = A p q
  unfold dl
  rw [if_neg h1, if_neg h2]
  split <;> omega
/-- what so many moves on between two counters leave and change -/
structure Lk (m n i : Nat) (t : Int) (A B : Mat) : Prop where
  col : ∀ q, ps (tr B q) m = ps (tr A q) m
  oth : ∀ p, p ≠ i → p ≠ i + 1 → B p = A p
  row : ps (B i) n = ps (A i) n - t
  row1 : ps (B (i + 1)) n = ps (A (i + 1)) n + t
  mx : ∀ v, Mx n (ld A i) v → Mx n (ld B i) (v - t)
theorem Fp.lk {t : Nat} (hi : i + 1 < m) (f : Fp n i t A B) : Lk m n i t A B := by
  induction f with
  | nil => exact ⟨fun _ => rfl, fun _ _ _ => rfl, by omega, by omega, fun v h => by rw [show v - ((0 : Nat) : Int) = v by omega]; exact h⟩
  | cons f1 f2 ih =>
    have r := row_fs f1
    refine ⟨fun q => by rw [ih.col, col_fs hi f1], fun p h1 h2 => by rw [ih.oth p h1 h2, oth_fs f1 h1 h2], ?_, ?_, fun v h => ?_⟩
    · rw [ih.row, r.1]; push_cast; omega
    · rw [ih.row1, r.2]; push_cast; omega
    · rename_i t _ _ _
      have := ih.mx _ (mx_fs f1 h)
      rw [show v - ((t + 1 : Nat) : Int) = v - 1 - (t : Int) by push_cast; omega]
      exact this
theorem Mx.one_only {L : Nat → Int} {u v : Int} (a : Mx n L u) (b : Mx n L v) : u = v := by
  obtain ⟨⟨c, c1, c2⟩, a2⟩ := a
  obtain ⟨⟨d, d1, d2⟩, b2⟩ := b
  have := a2 d d1
  have := b2 c c1
  omega
theorem Lk.back {t : Int} (hn : 0 < n) (h : Lk m n i t A B) : Lk m n i (-t) B A := ⟨fun q => (h.col q).symm, fun p h1 h2 => (h.oth p h1 h2).symm, by rw [h.row]; omega, by rw [h.row1]; omega, fun v hv => by
  obtain ⟨u, hu⟩ := mx_ex (ld A i) hn
  have := (h.mx u hu).one_only hv
  rw [show v - -t = u by omega]; exact hu⟩
/-! ### three counters, all gone on between customers -/
/-- from the last customer -/
def en (n : Nat) (M : Mat) (p j : Nat) : Int := if j < n then M p (n - 1 - j) else 0
def tl (n : Nat) (M : Mat) (p j : Nat) : Int := ps (M p) (n - j)
theorem tl_step (M : Mat) (p j : Nat) : tl n M p j = tl n M p (j + 1) + en n M p j := by
  unfold tl en
  by_cases z : j < n
  · rw [if_pos z, show n - j = (n - (j + 1)) + 1 by omega, show n - 1 - j = n - (j + 1) by omega]; rfl
  · rw [if_neg z, show n - j = 0 by omega, show n - (j + 1) = 0 by omega]; rfl
theorem ld_tl (M : Mat) {j : Nat} (h : j < n) : ld M i (n - 1 - j) = tl n M i j - tl n M (i + 1) (j + 1) := by
  unfold ld tl
  rw [show n - 1 - j + 1 = n - j by omega, show n - (j + 1) = n - 1 - j by omega]
/-- numbers that tell the table -/
structure Gt (n : Nat) (M : Mat) (a b0 b1 c0 c1 c2 : Int) : Prop where
  e00 : en n M 0 0 = a
  e10 : en n M 1 0 = b0
  e11 : en n M 1 1 = b1
  e20 : en n M 2 0 = c0
  e21 : en n M 2 1 = c1
  e22 : en n M 2 2 = c2
  z0 : ∀ j, 1 ≤ j → en n M 0 j = 0
  z1 : ∀ j, 2 ≤ j → en n M 1 j = 0
  z2 : ∀ j, 3 ≤ j → en n M 2 j = 0
  zz : ∀ p j, 3 ≤ p → en n M p j = 0
  nn : 0 ≤ a ∧ 0 ≤ b0 ∧ 0 ≤ b1 ∧ 0 ≤ c0 ∧ 0 ≤ c1 ∧ 0 ≤ c2
  in1 : b1 ≤ a
  in2 : c2 ≤ b1
  in3 : b1 + c1 ≤ a + b0
theorem en_nn (h : Ok m n M) (p j : Nat) : 0 ≤ en n M p j := by
  unfold en
  split
  · exact h.nn ..
  · omega
theorem gt_of (hn : 0 < n) (h : Ok 3 n M) (hc : ∀ k, k + 1 < n → Con 3 k M) : Gt n M (en n M 0 0) (en n M 1 0) (en n M 1 1) (en n M 2 0) (en n M 2 1) (en n M 2 2) := by
  -- what the customers' leads say, from the last one
  have c0 : ∀ j, 1 ≤ j → en n M 0 j ≤ 0 := fun j hj => by
    unfold en
    split
    · rename_i z
      have := hc (n - 1 - j) (by omega) 0 (by omega)
      simp only [ld, ps, tr] at this
      omega
    · omega
  have c1 : ∀ j, 1 ≤ j → en n M 0 j + en n M 1 j ≤ en n M 0 (j - 1) := fun j hj => by
    have p0 := en_nn h 0 (j - 1)
    unfold en at p0 ⊢
    by_cases z : j < n
    · have := hc (n - 1 - j) (by omega) 1 (by omega)
      simp only [ld, ps, tr] at this
      rw [if_pos z, if_pos z, if_pos (by omega), show n - 1 - (j - 1) = n - 1 - j + 1 by omega]
      omega
    · rw [if_neg z, if_neg z]
      exact p0
  have c2 : ∀ j, 1 ≤ j → en n M 0 j + en n M 1 j + en n M 2 j ≤ en n M 0 (j - 1) + en n M 1 (j - 1) := fun j hj => by
    have p0 := en_nn h 0 (j - 1)
    have p1 := en_nn h 1 (j - 1)
    unfold en at p0 p1 ⊢
    by_cases z : j < n
    · have := hc (n - 1 - j) (by omega) 2 (by omega)
      simp only [ld, ps, tr] at this
      rw [if_pos z, if_pos z, if_pos z, if_pos (by omega), if_pos (by omega), show n - 1 - (j - 1) = n - 1 - j + 1 by omega]
      omega
    · rw [if_neg z, if_neg z, if_neg z]
      omega
  have nn := en_nn h
  have z0 : ∀ j, 1 ≤ j → en n M 0 j = 0 := fun j hj => by have := c0 j hj; have := nn 0 j; omega
  have z1 : ∀ j, 2 ≤ j → en n M 1 j = 0 := fun j hj => by
    have := c1 j (by omega); have := nn 1 j; have := z0 j (by omega); have := z0 (j - 1) (by omega); omega
  have z2 : ∀ j, 3 ≤ j → en n M 2 j = 0 := fun j hj => by
    have := c2 j (by omega); have := nn 2 j; have := z0 j (by omega); have := z0 (j - 1) (by omega); have := z1 j (by omega); have := z1 (j - 1) (by omega); omega
  refine ⟨rfl, rfl, rfl, rfl, rfl, rfl, z0, z1, z2, fun p j hp => ?_, ⟨nn _ _, nn _ _, nn _ _, nn _ _, nn _ _, nn _ _⟩, ?_, ?_, ?_⟩
  · unfold en
    split
    · exact h.out p _ (by omega)
    · rfl
  · have := c1 1 (by omega); have := z0 1 (by omega); simpa [this] using c1 1 (by omega)
  · have q := c2 2 (by omega); rw [z0 2 (by omega), z1 2 (by omega)] at q; have := z0 1 (by omega); simp only [Nat.reduceSub] at q; omega
  · have q := c2 1 (by omega); rw [z0 1 (by omega)] at q; simp only [Nat.sub_self] at q; omega
variable {a b0 b1 c0 c1 c2 a' b0' b1' c0' c1' c2' : Int}
theorem Gt.t0 (h : Gt n M a b0 b1 c0 c1 c2) : tl n M 0 0 = a ∧ ∀ j, 1 ≤ j → tl n M 0 j = 0 := by
  have q : ∀ (s j : Nat), n - j ≤ s → 1 ≤ j → tl n M 0 j = 0 := by
    intro s
    induction s with
    | zero => intro j hs _; unfold tl; rw [show n - j = 0 by omega]; rfl
    | succ s ih =>
      intro j hs hj
      rw [tl_step, h.z0 j hj]
      by_cases z : n ≤ j
      · unfold tl; rw [show n - (j + 1) = 0 by omega]; rfl
      · rw [ih (j + 1) (by omega) (by omega)]; rfl
  exact ⟨by rw [tl_step, q n 1 (by omega) (by omega), h.e00]; omega, fun j hj => q n j (by omega) hj⟩
theorem Gt.t1 (h : Gt n M a b0 b1 c0 c1 c2) : tl n M 1 0 = b0 + b1 ∧ tl n M 1 1 = b1 ∧ ∀ j, 2 ≤ j → tl n M 1 j = 0 := by
  have q : ∀ (s j : Nat), n - j ≤ s → 2 ≤ j → tl n M 1 j = 0 := by
    intro s
    induction s with
    | zero => intro j hs _; unfold tl; rw [show n - j = 0 by omega]; rfl
    | succ s ih =>
      intro j hs hj
      rw [tl_step, h.z1 j hj]
      by_cases z : n ≤ j
      · unfold tl; rw [show n - (j + 1) = 0 by omega]; rfl
      · rw [ih (j + 1) (by omega) (by omega)]; rfl
  have t1 : tl n M 1 1 = b1 := by rw [tl_step, q n 2 (by omega) (by omega), h.e11]; omega
  exact ⟨by rw [tl_step, t1, h.e10]; omega, t1, fun j hj => q n j (by omega) hj⟩
theorem Gt.t2 (h : Gt n M a b0 b1 c0 c1 c2) : tl n M 2 0 = c0 + c1 + c2 ∧ tl n M 2 1 = c1 + c2 ∧ tl n M 2 2 = c2 ∧ ∀ j, 3 ≤ j → tl n M 2 j = 0 := by
  have q : ∀ (s j : Nat), n - j ≤ s → 3 ≤ j → tl n M 2 j = 0 := by
    intro s
    induction s with
    | zero => intro j hs _; unfold tl; rw [show n - j = 0 by omega]; rfl
    | succ s ih =>
      intro j hs hj
      rw [tl_step, h.z2 j hj]
      by_cases z : n ≤ j
      · unfold tl; rw [show n - (j + 1) = 0 by omega]; rfl
      · rw [ih (j + 1) (by omega) (by omega)]; rfl
  have t2 : tl n M 2 2 = c2 := by rw [tl_step, q n 3 (by omega) (by omega), h.e22]; omega
  have t1 : tl n M 2 1 = c1 + c2 := by rw [tl_step, t2, h.e21]; omega
  exact ⟨by rw [tl_step, t1, h.e20]; omega, t1, t2, fun j hj => q n j (by omega) hj⟩
theorem Gt.l0 (h : Gt n M a b0 b1 c0 c1 c2) {j : Nat} (hj : j < n) : ld M 0 (n - 1 - j) = if j = 0 then a - b1 else 0 := by
  rw [ld_tl M hj]
  by_cases z : j = 0
  · subst z; rw [h.t0.1, h.t1.2.1, if_pos rfl]
  · rw [h.t0.2 j (by omega), h.t1.2.2 (j + 1) (by omega), if_neg z]; rfl
theorem Gt.l1 (h : Gt n M a b0 b1 c0 c1 c2) {j : Nat} (hj : j < n) : ld M 1 (n - 1 - j) = if j = 0 then b0 + b1 - (c1 + c2) else if j = 1 then b1 - c2 else 0 := by
  rw [ld_tl M hj]
  by_cases z : j = 0
  · subst z; rw [h.t1.1, h.t2.2.1, if_pos rfl]
  · by_cases y : j = 1
    · subst y; rw [h.t1.2.1, h.t2.2.2.1, if_neg (by omega), if_pos rfl]
    · rw [h.t1.2.2 j (by omega), h.t2.2.2.2 (j + 1) (by omega), if_neg z, if_neg y]; rfl
theorem Gt.mx0 (hn : 0 < n) (h : Gt n M a b0 b1 c0 c1 c2) : Mx n (ld M 0) (a - b1) := by
  have i1 := h.in1
  refine ⟨⟨n - 1 - 0, by omega, by rw [h.l0 hn, if_pos rfl]⟩, fun q hq => ?_⟩
  have := h.l0 (j := n - 1 - q) (by omega)
  rw [show n - 1 - (n - 1 - q) = q by omega] at this
  rw [this]
  split <;> omega
theorem small1 (hn : ¬ 1 < n) (h : Gt n M a b0 b1 c0 c1 c2) : b1 = 0 ∧ c1 = 0 ∧ c2 = 0 := by
  have x := h.e11; have y := h.e21; have z := h.e22
  unfold en at x y z
  rw [if_neg (by omega)] at x y z
  exact ⟨x.symm, y.symm, z.symm⟩
theorem Gt.mx1 (hn : 0 < n) (h : Gt n M a b0 b1 c0 c1 c2) : Mx n (ld M 1) (b0 + b1 - c2 - min b0 c1) := by
  have i2 := h.in2
  obtain ⟨n1, n2, n3, n4, n5, n6⟩ := h.nn
  refine ⟨?_, fun q hq => ?_⟩
  · by_cases z : c1 ≤ b0
    · exact ⟨n - 1 - 0, by omega, by rw [h.l1 hn, if_pos rfl]; omega⟩
    · by_cases y : 1 < n
      · exact ⟨n - 1 - 1, by omega, by rw [h.l1 y, if_neg (by omega), if_pos rfl]; omega⟩
      · have := small1 y h; omega
  · have := h.l1 (j := n - 1 - q) (by omega)
    rw [show n - 1 - (n - 1 - q) = q by omega] at this
    rw [this]
    split
    · omega
    · split <;> omega
theorem Gt.set0 (hn : 0 < n) (h : Gt n M a b0 b1 c0 c1 c2) : Set n 0 M ↔ b0 = 0 := by
  obtain ⟨n1, n2, n3, n4, n5, n6⟩ := h.nn
  have r0 := h.t0.1
  have r1 := h.t1.1
  unfold tl at r0 r1
  rw [Nat.sub_zero] at r0 r1
  unfold Set
  rw [r0, r1]
  obtain ⟨⟨c, cl, cv⟩, m2⟩ := h.mx0 hn
  constructor
  · intro z
    have := z c cl
    omega
  · intro z j hj
    have := m2 j hj
    omega
theorem Gt.set1 (hn : 0 < n) (h : Gt n M a b0 b1 c0 c1 c2) : Set n 1 M ↔ c0 = 0 ∧ c1 ≤ b0 := by
  obtain ⟨n1, n2, n3, n4, n5, n6⟩ := h.nn
  have r1 := h.t1.1
  have r2 := h.t2.1
  unfold tl at r1 r2
  rw [Nat.sub_zero] at r1 r2
  unfold Set
  rw [r1, r2]
  obtain ⟨⟨c, cl, cv⟩, m2⟩ := h.mx1 hn
  constructor
  · intro z
    have := z c cl
    omega
  · intro z j hj
    have := m2 j hj
    omega
theorem col_en (q : Nat) (h : q < n) : ps (tr M q) 3 = en n M 0 (n - 1 - q) + en n M 1 (n - 1 - q) + en n M 2 (n - 1 - q) := by
  unfold en
  rw [if_pos (by omega), if_pos (by omega), if_pos (by omega), show n - 1 - (n - 1 - q) = q by omega]
  simp only [ps, tr]; omega
/-- what a move leaves, by the numbers -/
theorem cols_of (h : Gt n A a b0 b1 c0 c1 c2) (h' : Gt n B a' b0' b1' c0' c1' c2') (hn : 0 < n) (e : ∀ q, ps (tr B q) 3 = ps (tr A q) 3) : a' + b0' + c0' = a + b0 + c0 ∧ b1' + c1' = b1 + c1 ∧ c2' = c2 := by
  have c : ∀ j, j < n → en n B 0 j + en n B 1 j + en n B 2 j = en n A 0 j + en n A 1 j + en n A 2 j := fun j hj => by
    have := e (n - 1 - j)
    rw [col_en (n := n) (M := B) (n - 1 - j) (by omega), col_en (n := n) (M := A) (n - 1 - j) (by omega), show n - 1 - (n - 1 - j) = j by omega] at this
    exact this
  refine ⟨?_, ?_, ?_⟩
  · have := c 0 hn
    rw [h.e00, h.e10, h.e20, h'.e00, h'.e10, h'.e20] at this
    exact this
  · by_cases z : 1 < n
    · have := c 1 z
      rw [h.z0 1 (by omega), h.e11, h.e21, h'.z0 1 (by omega), h'.e11, h'.e21] at this
      omega
    · have := small1 z h; have := small1 z h'; omega
  · by_cases z : 2 < n
    · have := c 2 z
      rw [h.z0 2 (by omega), h.z1 2 (by omega), h.e22, h'.z0 2 (by omega), h'.z1 2 (by omega), h'.e22] at this
      omega
    · have x := h.e22; have y := h'.e22
      unfold en at x y
      rw [if_neg z] at x y
      omega
theorem lk0 {t : Int} (hn : 0 < n) (h : Gt n A a b0 b1 c0 c1 c2) (h' : Gt n B a' b0' b1' c0' c1' c2') (l : Lk 3 n 0 t A B) : a' = a - t ∧ b0' = b0 + t ∧ b1' = b1 ∧ c0' = c0 ∧ c1' = c1 ∧ c2' = c2 := by
  have c := cols_of h h' hn l.col
  have o := l.oth 2 (by omega) (by omega)
  have x0 : c0' = c0 := by rw [← h.e20, ← h'.e20]; unfold en; rw [o]
  have x1 : c1' = c1 := by rw [← h.e21, ← h'.e21]; unfold en; rw [o]
  have r := l.row
  have r0 := h.t0.1; have r0' := h'.t0.1
  unfold tl at r0 r0'
  rw [Nat.sub_zero] at r0 r0'
  rw [r0, r0'] at r
  omega
theorem lk1 {t : Int} (hn : 0 < n) (h : Gt n A a b0 b1 c0 c1 c2) (h' : Gt n B a' b0' b1' c0' c1' c2') (l : Lk 3 n 1 t A B) : a' = a ∧ b0' + b1' = b0 + b1 - t ∧ b0' + c0' = b0 + c0 ∧ b1' + c1' = b1 + c1 ∧ c2' = c2 ∧ min b0' c1' = min b0 c1 := by
  have c := cols_of h h' hn l.col
  have o := l.oth 0 (by omega) (by omega)
  have x0 : a' = a := by rw [← h.e00, ← h'.e00]; unfold en; rw [o]
  have r := l.row
  have r1 := h.t1.1; have r1' := h'.t1.1
  unfold tl at r1 r1'
  rw [Nat.sub_zero] at r1 r1'
  rw [r1, r1'] at r
  have := (l.mx _ (h.mx1 hn)).one_only (h'.mx1 hn)
  omega
theorem gt_same (h : Gt n A a b0 b1 c0 c1 c2) (h' : Gt n B a b0 b1 c0 c1 c2) (hA : Ok 3 n A) (hB : Ok 3 n B) : A = B := by
  have e : ∀ p j, en n A p j = en n B p j := fun p j => by
    match p with
    | 0 => match j with
      | 0 => rw [h.e00, h'.e00]
      | j + 1 => rw [h.z0 _ (by omega), h'.z0 _ (by omega)]
    | 1 => match j with
      | 0 => rw [h.e10, h'.e10]
      | 1 => rw [h.e11, h'.e11]
      | j + 2 => rw [h.z1 _ (by omega), h'.z1 _ (by omega)]
    | 2 => match j with
      | 0 => rw [h.e20, h'.e20]
      | 1 => rw [h.e21, h'.e21]
      | 2 => rw [h.e22, h'.e22]
      | j + 3 => rw [h.z2 _ (by omega), h'.z2 _ (by omega)]
    | p + 3 => rw [h.zz _ _ (by omega), h'.zz _ _ (by omega)]
  funext p q
  by_cases z : q < n
  · have := e p (n - 1 - q)
    unfold en at this
    rw [if_pos (by omega), if_pos (by omega), show n - 1 - (n - 1 - q) = q by omega] at this
    exact this
  · rw [hA.out p q (by omega), hB.out p q (by omega)]
end
end Dc
end
section
set_option Elab.async false
set_option linter.all false
set_option maxRecDepth 100000
set_option maxHeartbeats 4000000
namespace Dc
section
variable {m n i k e : Nat} {M A B C D N R S : Mat}
/-- three counters of a table -/
def sub (i : Nat) (M : Mat) : Mat := fun p q => if p < 3 then M (i + p) q else 0
theorem sub_row (i : Nat) (M : Mat) {p : Nat} (h : p < 3) : sub i M p = M (i + p) := by funext q; unfold sub; rw [if_pos h]
theorem Ok.sub (h : Ok m n M) (hi : i + 2 < m) : Ok 3 n (sub i M) := ⟨fun p q => by
  unfold Dc.sub; split
  · exact h.nn ..
  · omega, fun p q z => by
  unfold Dc.sub; split
  · exact h.out _ _ (by omega)
  · rfl⟩
theorem ld_sub (he : e ≤ 1) (c : Nat) : ld (sub i M) e c = ld M (i + e) c := by
  unfold ld
  rw [sub_row i M (by omega), sub_row i M (by omega), Nat.add_assoc]
theorem Fs.sub (he : e ≤ 1) (f : Fs n (i + e) A B) : Fs n e (sub i A) (sub i B) := by
  obtain ⟨c, a, a1, rfl⟩ := f
  have q : ld (Dc.sub i A) e = ld A (i + e) := by funext c; exact ld_sub he c
  refine ⟨c, by rw [q]; exact a, by rw [q]; exact a1, ?_⟩
  funext p x
  show (if p < 3 then A (i + p) x + dl (i + e) c (i + p) x else 0) = (if p < 3 then A (i + p) x else 0) + dl e c p x
  unfold dl
  by_cases z : p < 3
  · rw [if_pos z, if_pos z]
    by_cases y : x = c
    · rw [if_pos y, if_pos y]
      by_cases w : p = e
      · rw [if_pos (by omega), if_pos w]
      · rw [if_neg (by omega), if_neg w]
        by_cases v : p = e + 1
        · rw [if_pos (by omega), if_pos v]
        · rw [if_neg (by omega), if_neg v]
    · rw [if_neg y, if_neg y]
  · rw [if_neg z, if_neg z, if_neg (show ¬ p = e by omega), if_neg (show ¬ p = e + 1 by omega)]
    split <;> rfl
theorem Fp.sub {t : Nat} (he : e ≤ 1) (f : Fp n (i + e) t A B) : Fp n e t (sub i A) (sub i B) := by
  induction f with
  | nil => exact .nil
  | cons f1 f2 ih => exact .cons (f1.sub he) ih
theorem Set.sub (he : e ≤ 1) : Set n (i + e) M ↔ Set n e (Dc.sub i M) := by
  unfold Set
  rw [sub_row i M (by omega), sub_row i M (by omega), ← Nat.add_assoc]
  constructor
  · intro h j hj; rw [ld_sub he]; exact h j hj
  · intro h j hj; have := h j hj; rw [ld_sub he] at this; exact this
theorem three0 {u t : Nat} (hn : 0 < n) (hA : Ok 3 n A) (hB : Ok 3 n B) (hC : Ok 3 n C) (f0 : Fp n 0 u A B) (f1 : Fp n 1 t B C) (s0 : Set n 0 C) (s1 : Set n 1 B) (s2 : Set n 0 A) : Set n 1 A := by
  obtain ⟨ks, C', hk, gC, oC, cC⟩ := all_on (n := n) (m := 3) (by omega) (wt n 3 C).toNat C hC (by have := wt_nn hC; omega)
  obtain ⟨B', gB, f1'⟩ := gq_fp (m := 3) (by omega) hk f1 gC
  obtain ⟨A', gA, f0'⟩ := gq_fp (m := 3) (by omega) hk f0 gB
  have cB : ∀ k, k + 1 < n → Con 3 k B' := fun k h => (Con.fp (by omega) h f1').mpr (cC k h)
  have cA : ∀ k, k + 1 < n → Con 3 k A' := fun k h => (Con.fp (by omega) h f0').mpr (cB k h)
  have q1 := (Set.gq (m := 3) (i := 0) (by omega) hk gC).mp s0
  have q2 := (Set.gq (m := 3) (i := 1) (by omega) hk gB).mp s1
  have q3 := (Set.gq (m := 3) (i := 0) (by omega) hk gA).mp s2
  refine (Set.gq (m := 3) (i := 1) (by omega) hk gA).mpr ?_
  have tA := gt_of hn (gA.ok hk hA) cA
  have tB := gt_of hn (gB.ok hk hB) cB
  have tC := gt_of hn oC cC
  rw [tC.set0 hn] at q1
  rw [tB.set1 hn] at q2
  rw [tA.set0 hn] at q3
  rw [tA.set1 hn]
  have l1 := lk1 hn tB tC (f1'.lk (by omega))
  have l0 := lk0 hn tA tB (f0'.lk (by omega))
  have := tA.nn; have := tB.nn; have := tC.nn
  omega
/-- a counter settled with the one behind stays so when the one ahead is settled with it, where the three were so settled in this order -/
theorem three {u t : Nat} (hn : 0 < n) (hi : i + 2 < m) (hA : Ok m n A) (hB : Ok m n B) (hC : Ok m n C) (f0 : Fp n i u A B) (f1 : Fp n (i + 1) t B C) (s0 : Set n i C) (s1 : Set n (i + 1) B) (s2 : Set n i A) : Set n (i + 1) A := by
  have := three0 (A := sub i A) (B := sub i B) (C := sub i C) hn (hA.sub hi) (hB.sub hi) (hC.sub hi) (Fp.sub (e := 0) (by omega) f0) (Fp.sub (e := 1) (by omega) f1) ((Set.sub (e := 0) (by omega)).mp s0) ((Set.sub (e := 1) (by omega)).mp s1) ((Set.sub (e := 0) (by omega)).mp s2)
  exact (Set.sub (e := 1) (by omega)).mpr this
/-! ### exchanges -/
structure Ex (n i : Nat) (A B : Mat) : Prop where
  way : ∃ t, Fp n i t A B ∨ Fp n i t B A
  row : ps (B i) n = ps (A (i + 1)) n
  row1 : ps (B (i + 1)) n = ps (A i) n
theorem row_gq {ks : List Nat} (hk : ∀ k ∈ ks, k + 1 < n) (g : Gq m ks A B) (p : Nat) : ps (B p) n = ps (A p) n := by
  induction g with
  | nil => rfl
  | cons g1 g2 ih =>
    simp only [List.forall_mem_cons] at hk
    obtain ⟨h, a, b, rfl⟩ := g1
    rw [ih hk.2, row_mvc hk.1]
theorem Ex.gq {ks : List Nat} (hi : i + 1 < m) (hk : ∀ k ∈ ks, k + 1 < n) (x : Ex n i A B) (g : Gq m ks A A') : ∃ B', Gq m ks B B' ∧ Ex n i A' B' := by
  obtain ⟨⟨t, f | f⟩, r, r1⟩ := x
  · obtain ⟨B', b1, b2⟩ := fp_gq hi hk f g
    exact ⟨B', b1, ⟨t, .inl b2⟩, by rw [row_gq hk b1, row_gq hk g, r], by rw [row_gq hk b1, row_gq hk g, r1]⟩
  · obtain ⟨B', b1, b2⟩ := gq_fp hi hk f g
    exact ⟨B', b1, ⟨t, .inr b2⟩, by rw [row_gq hk b1, row_gq hk g, r], by rw [row_gq hk b1, row_gq hk g, r1]⟩
theorem Ex.lk (hn : 0 < n) (hi : i + 1 < m) (x : Ex n i A B) : ∃ t : Int, Lk m n i t A B := by
  obtain ⟨⟨t, f | f⟩, r, r1⟩ := x
  · exact ⟨t, f.lk hi⟩
  · exact ⟨_, (f.lk hi).back hn⟩
theorem Ex.con (hi : i + 1 < m) (hk : k + 1 < n) (x : Ex n i A B) : Con m k A ↔ Con m k B := by
  obtain ⟨⟨t, f | f⟩, r, r1⟩ := x
  · exact Con.fp hi hk f
  · exact (Con.fp hi hk f).symm
theorem Ex.sub (he : e ≤ 1) (x : Ex n (i + e) A B) : Ex n e (sub i A) (Dc.sub i B) := by
  obtain ⟨⟨t, f⟩, r, r1⟩ := x
  refine ⟨⟨t, f.imp (Fp.sub he) (Fp.sub he)⟩, ?_, ?_⟩
  · rw [sub_row i B (by omega), sub_row i A (by omega), r, Nat.add_assoc]
  · rw [sub_row i B (by omega), sub_row i A (by omega), ← r1, Nat.add_assoc]
variable {a b0 b1 c0 c1 c2 a' b0' b1' c0' c1' c2' : Int}
theorem ex0 (hn : 0 < n) (h : Gt n A a b0 b1 c0 c1 c2) (h' : Gt n B a' b0' b1' c0' c1' c2') (x : Ex n 0 A B) : a' = b0 + b1 ∧ b0' = a - b1 ∧ b1' = b1 ∧ c0' = c0 ∧ c1' = c1 ∧ c2' = c2 := by
  obtain ⟨t, l⟩ := x.lk (m := 3) hn (by omega)
  have q := lk0 hn h h' l
  have r := x.row
  have r0 := h'.t0.1; have r1 := h.t1.1
  unfold tl at r0 r1
  rw [Nat.sub_zero] at r0 r1
  rw [r0, r1] at r
  omega
theorem ex1 (hn : 0 < n) (h : Gt n A a b0 b1 c0 c1 c2) (h' : Gt n B a' b0' b1' c0' c1' c2') (x : Ex n 1 A B) : a' = a ∧ b0' + b1' = c0 + c1 + c2 ∧ b0' + c0' = b0 + c0 ∧ b1' + c1' = b1 + c1 ∧ c2' = c2 ∧ min b0' c1' = min b0 c1 := by
  obtain ⟨t, l⟩ := x.lk (m := 3) hn (by omega)
  have q := lk1 hn h h' l
  have r := x.row
  have r0 := h'.t1.1; have r1 := h.t2.1
  unfold tl at r0 r1
  rw [Nat.sub_zero] at r0 r1
  rw [r0, r1] at r
  omega
theorem braid0 {B1 B2 B3 D1 D2 D3 : Mat} (hn : 0 < n) (hA : Ok 3 n A) (h1 : Ok 3 n B1) (h2 : Ok 3 n B2) (h3 : Ok 3 n B3) (k1 : Ok 3 n D1) (k2 : Ok 3 n D2) (k3 : Ok 3 n D3)
    (x1 : Ex n 0 A B1) (x2 : Ex n 1 B1 B2) (x3 : Ex n 0 B2 B3) (y1 : Ex n 1 A D1) (y2 : Ex n 0 D1 D2) (y3 : Ex n 1 D2 D3) : B3 = D3 := by
  obtain ⟨ks, A', hk, gA, oA, cA⟩ := all_on (n := n) (m := 3) (by omega) (wt n 3 A).toNat A hA (by have := wt_nn hA; omega)
  obtain ⟨B1', g1, x1'⟩ := x1.gq (m := 3) (by omega) hk gA
  obtain ⟨B2', g2, x2'⟩ := x2.gq (m := 3) (by omega) hk g1
  obtain ⟨B3', g3, x3'⟩ := x3.gq (m := 3) (by omega) hk g2
  obtain ⟨D1', j1, y1'⟩ := y1.gq (m := 3) (by omega) hk gA
  obtain ⟨D2', j2, y2'⟩ := y2.gq (m := 3) (by omega) hk j1
  obtain ⟨D3', j3, y3'⟩ := y3.gq (m := 3) (by omega) hk j2
  have tA := gt_of hn oA cA
  have cB1 : ∀ k, k + 1 < n → Con 3 k B1' := fun k h => (x1'.con (by omega) h).mp (cA k h)
  have cB2 : ∀ k, k + 1 < n → Con 3 k B2' := fun k h => (x2'.con (by omega) h).mp (cB1 k h)
  have cB3 : ∀ k, k + 1 < n → Con 3 k B3' := fun k h => (x3'.con (by omega) h).mp (cB2 k h)
  have cD1 : ∀ k, k + 1 < n → Con 3 k D1' := fun k h => (y1'.con (by omega) h).mp (cA k h)
  have cD2 : ∀ k, k + 1 < n → Con 3 k D2' := fun k h => (y2'.con (by omega) h).mp (cD1 k h)
  have cD3 : ∀ k, k + 1 < n → Con 3 k D3' := fun k h => (y3'.con (by omega) h).mp (cD2 k h)
  have oB3 := g3.ok hk h3
  have oD3 := j3.ok hk k3
  have t1 := gt_of hn (g1.ok hk h1) cB1
  have t2 := gt_of hn (g2.ok hk h2) cB2
  have t3 := gt_of hn oB3 cB3
  have u1 := gt_of hn (j1.ok hk k1) cD1
  have u2 := gt_of hn (j2.ok hk k2) cD2
  have u3 := gt_of hn oD3 cD3
  have e1 := ex0 hn tA t1 x1'
  have e2 := ex1 hn t1 t2 x2'
  have e3 := ex0 hn t2 t3 x3'
  have f1 := ex1 hn tA u1 y1'
  have f2 := ex0 hn u1 u2 y2'
  have f3 := ex1 hn u2 u3 y3'
  have i3 := t3.nn; have i4 := u3.nn
  have j3' := tA.in3
  have same : en n B3' 0 0 = en n D3' 0 0 ∧ en n B3' 1 0 = en n D3' 1 0 ∧ en n B3' 1 1 = en n D3' 1 1 ∧ en n B3' 2 0 = en n D3' 2 0 ∧ en n B3' 2 1 = en n D3' 2 1 ∧ en n B3' 2 2 = en n D3' 2 2 := by
    generalize en n A' 0 0 = a0 at *
    generalize en n A' 1 0 = a1 at *
    generalize en n A' 1 1 = a2 at *
    generalize en n A' 2 0 = a3 at *
    generalize en n A' 2 1 = a4 at *
    generalize en n A' 2 2 = a5 at *
    clear t1 t2 u1 u2 tA cB1 cB2 cB3 cD1 cD2 cD3
    omega
  obtain ⟨s1, s2, s3, s4, s5, s6⟩ := same
  rw [s1, s2, s3, s4, s5, s6] at t3
  have := gt_same t3 u3 oB3 oD3
  subst this
  exact g3.inj j3
theorem Ex.oth (x : Ex n i A B) {p : Nat} (h1 : p ≠ i) (h2 : p ≠ i + 1) : B p = A p := by
  obtain ⟨⟨t, f | f⟩, r, r1⟩ := x
  · exact (f.lk (m := i + 2) (by omega)).oth p h1 h2
  · exact ((f.lk (m := i + 2) (by omega)).oth p h1 h2).symm
/-- exchanges of three counters at i, i + 1, i and at i + 1, i, i + 1 -/
theorem braid {B1 B2 B3 D1 D2 D3 : Mat} (hn : 0 < n) (hi : i + 2 < m) (hA : Ok m n A) (h1 : Ok m n B1) (h2 : Ok m n B2) (h3 : Ok m n B3) (k1 : Ok m n D1) (k2 : Ok m n D2) (k3 : Ok m n D3)
    (x1 : Ex n i A B1) (x2 : Ex n (i + 1) B1 B2) (x3 : Ex n i B2 B3) (y1 : Ex n (i + 1) A D1) (y2 : Ex n i D1 D2) (y3 : Ex n (i + 1) D2 D3) : B3 = D3 := by
  have q := braid0 hn (hA.sub hi) (h1.sub hi) (h2.sub hi) (h3.sub hi) (k1.sub hi) (k2.sub hi) (k3.sub hi) (Ex.sub (e := 0) (by omega) x1) (Ex.sub (e := 1) (by omega) x2) (Ex.sub (e := 0) (by omega) x3) (Ex.sub (e := 1) (by omega) y1) (Ex.sub (e := 0) (by omega) y2) (Ex.sub (e := 1) (by omega) y3)
  funext p
  by_cases z : i ≤ p ∧ p < i + 3
  · have := congrFun q (p - i)
    rw [sub_row i B3 (by omega), sub_row i D3 (by omega), show i + (p - i) = p by omega] at this
    exact this
  · rw [x3.oth (by omega) (by omega), x2.oth (by omega) (by omega), x1.oth (by omega) (by omega), y3.oth (by omega) (by omega), y2.oth (by omega) (by omega), y1.oth (by omega) (by omega)]
end
end Dc
end
section
set_option Elab.async false
set_option linter.all false
set_option maxRecDepth 100000
set_option maxHeartbeats 2000000
namespace Pl
open PySem PySem.Spec L2 Lf Cp Ca
/-! ### waits -/
theorem cutA_init {α : Type} {xs : List α} (h : xs ≠ []) : cutA xs none (some (-1)) = xs.dropLast := by
  have hl : 0 < xs.length := List.length_pos_iff.mpr h
  unfold cutA
  have e : HT.sIx xs.length xs.length (some (-1)) = xs.length - 1 := by
    simp only [HT.sIx]
    rw [if_pos (by omega)]
    omega
  rw [e, HT.sIx_none, List.drop_zero, Nat.sub_zero, List.dropLast_eq_take]
theorem atI_map {α β : Type} {f : α → β} {xs : List α} {i : Nat} (h : i < xs.length) : atI (xs.map f) (i : Int) = some (f xs[i]) := by
  rw [atI_nat (by simpa using h)]
  simp
theorem rng0 (n : Nat) : rng 0 n = (List.range n).map fun (i : Nat) => PyData.int i := by simp [rng]
theorem atI_getD {α β : Type} {f : α → β} {xs : List α} {i : Nat} {d : α} (h : i < xs.length) : atI (xs.map f) (i : Int) = some (f (xs.getD i d)) := by
  rw [atI_map h]
  simp [List.getD_eq_getElem?_getD, h]
end Pl
end
section
set_option Elab.async false
set_option linter.all false
set_option maxRecDepth 100000
set_option maxHeartbeats 2000000
namespace Pl
open PySem PySem.Spec L2 Lf Cp Ca
local macro_rules | `(tactic| trivial) => `(tactic| first
  | exact Ev.d_ | exact Ev.nil_ | exact Ev.pno | exact Ev.nx_
  | exact Ev.var rfl | exact Ev.varp rfl | apply Ev.varo rfl
  | apply Ev.cons_ | apply Ev.lst | apply Ev.tup
  | apply Ev.ix | apply Ev.len_ | apply Ev.op2 | apply Ev.cb
  | apply Ev.cl | apply Ev.neg | apply Ev.ls | apply Ev.tp | apply Ev.rep
  | apply Ev.cat | apply Ev.rv | apply Ev.psm | apply Ev.sl_
  | apply Ev.tyIs | apply Ev.tyNot | apply Ev.tv | apply Ev.nt
  | apply Ev.app rfl | apply Ev.rev_ rfl | apply Ev.set_ | apply Ev.rt | apply Ev.ex
  | apply Ev.ixVl | apply Ev.ixVt | apply Ev.ixVo | apply Ev.catVl | apply Ev.catVt
  | apply atI_map | exact frzs_I _ | exact frzs_d _ | apply Ev.frz_own | apply Ev.frzs_cons | rfl)
/-! ### the law's own going -/
theorem ints_map : ∀ xs : List Int, ints? (xs.map .int) = some xs
  | [] => rfl
  | x :: xs => by simp [ints?, ints_map xs]
end Pl
end
section
set_option Elab.async false
set_option linter.all false
set_option maxRecDepth 100000
set_option maxHeartbeats 2000000
namespace Pl
open PySem PySem.Spec L2 Lf Cp Ca
local macro_rules | `(tactic| trivial) => `(tactic| first
  | exact Ev.d_ | exact Ev.nil_ | exact Ev.pno | exact Ev.nx_
  | exact Ev.var rfl | exact Ev.varp rfl | apply Ev.varo rfl
  | apply Ev.cons_ | apply Ev.lst | apply Ev.tup
  | apply Ev.ix | apply Ev.len_ | apply Ev.op2 | apply Ev.cb
  | apply Ev.cl | apply Ev.neg | apply Ev.ls | apply Ev.tp | apply Ev.rep
  | apply Ev.cat | apply Ev.rv | apply Ev.psm | apply Ev.sl_
  | apply Ev.tyIs | apply Ev.tyNot | apply Ev.tv | apply Ev.nt
  | apply Ev.app rfl | apply Ev.rev_ rfl | apply Ev.set_ | apply Ev.rt | apply Ev.ex
  | apply Ev.ixVl | apply Ev.ixVt | apply Ev.ixVo | apply Ev.catVl | apply Ev.catVt
  | apply atI_map | exact frzs_I _ | exact frzs_d _ | apply Ev.frz_own | apply Ev.frzs_cons | rfl)
/-- data of a depth -/
def Sh (d : Nat) (x : PyData) : Prop := PyData.canLay0 x = true ∧ PyData.depth x ≤ d
theorem sh_int {i : Int} : Sh 0 (.int i) := ⟨by simp [PyData.canLay0], by simp [PyData.depth]⟩
theorem sh_all {d : Nat} : ∀ (xs : List PyData), (∀ x ∈ xs, Sh d x) → PyData.canLayAll0 xs = true ∧ PyData.depthAll xs ≤ d
  | [], _ => by simp [PyData.canLayAll0, PyData.depthAll]
  | x :: xs, h => by
    obtain ⟨h1, h2⟩ := sh_all xs fun y hy => h y (List.mem_cons_of_mem _ hy)
    obtain ⟨k1, k2⟩ := h x (List.mem_cons_self ..)
    exact ⟨by simp [PyData.canLayAll0, h1, k1], by simp only [PyData.depthAll]; omega⟩
theorem sh_list {d : Nat} {xs : List PyData} (h : ∀ x ∈ xs, Sh d x) : Sh (d + 1) (.list xs) := by
  obtain ⟨h1, h2⟩ := sh_all xs h
  exact ⟨by simp [PyData.canLay0, h1], by simp only [PyData.depth]; omega⟩
theorem sh_map {α : Type} {f : α → PyData} {d : Nat} {xs : List α} (h : ∀ a, Sh d (f a)) : ∀ x ∈ xs.map f, Sh d x := fun x hx => by
  obtain ⟨a, _, rfl⟩ := List.mem_map.mp hx
  exact h a
theorem sh_day {r : List Int} : Sh 1 (dayP r) := sh_list (sh_map fun _ => sh_int)
theorem Sh.shaped {d : Nat} {x : PyData} (h : Sh d x) (hd : d ≤ 64) : SeqAt.shaped x = true := by
  have := h.2
  simp only [SeqAt.shaped, h.1, Bool.true_and, decide_eq_true_eq]
  omega
theorem sh_ne {d : Nat} {x : PyData} (h : Sh d x) (hd : d ≤ 64) : fNe x x = some (.bool false) := by simp [fNe, h.shaped hd, SeqAt.eqv_refl x h.1]
/-! ### the law's own going, all counters -/
abbrev DY (r : List Int) : OT := .d (dayP r)
theorem servedL_length {m c : List Int} (h : m.length = c.length) : (servedL m c).length = c.length := by
  rw [servedP_len]; simp; omega
end Pl
end
section
set_option Elab.async false
set_option linter.all false
set_option maxRecDepth 100000
set_option maxHeartbeats 2000000
namespace Pl
open PySem PySem.Spec L2 Lf Cp Ca
local macro_rules | `(tactic| trivial) => `(tactic| first
  | exact Ev.d_ | exact Ev.nil_ | exact Ev.pno | exact Ev.nx_
  | exact Ev.var rfl | exact Ev.varp rfl | apply Ev.varo rfl
  | apply Ev.cons_ | apply Ev.lst | apply Ev.tup
  | apply Ev.ix | apply Ev.len_ | apply Ev.op2 | apply Ev.cb
  | apply Ev.cl | apply Ev.neg | apply Ev.ls | apply Ev.tp | apply Ev.rep
  | apply Ev.cat | apply Ev.rv | apply Ev.psm | apply Ev.sl_
  | apply Ev.tyIs | apply Ev.tyNot | apply Ev.tv | apply Ev.nt
  | apply Ev.app rfl | apply Ev.rev_ rfl | apply Ev.set_ | apply Ev.rt | apply Ev.ex
  | apply Ev.ixVl | apply Ev.ixVt | apply Ev.ixVo | apply Ev.catVl | apply Ev.catVt
  | apply atI_map | exact frzs_I _ | exact frzs_d _ | apply Ev.frz_own | apply Ev.frzs_cons | rfl)
/-! ### bounds -/
/-! ### the law's marks -/
abbrev LL (rs : List (List Int)) : PyData := .list (rs.map dayP)
end Pl
end
section
set_option Elab.async false
set_option linter.all false
set_option maxRecDepth 100000
set_option maxHeartbeats 2000000
namespace Pl
open PySem PySem.Spec L2 Lf Cp Ca
local macro_rules | `(tactic| trivial) => `(tactic| first
  | exact Ev.d_ | exact Ev.nil_ | exact Ev.pno | exact Ev.nx_
  | exact Ev.var rfl | exact Ev.varp rfl | apply Ev.varo rfl
  | apply Ev.cons_ | apply Ev.lst | apply Ev.tup
  | apply Ev.ix | apply Ev.len_ | apply Ev.op2 | apply Ev.cb
  | apply Ev.cl | apply Ev.neg | apply Ev.ls | apply Ev.tp | apply Ev.rep
  | apply Ev.cat | apply Ev.rv | apply Ev.psm | apply Ev.sl_
  | apply Ev.tyIs | apply Ev.tyNot | apply Ev.tv | apply Ev.nt
  | apply Ev.app rfl | apply Ev.rev_ rfl | apply Ev.set_ | apply Ev.rt | apply Ev.ex
  | apply Ev.ixVl | apply Ev.ixVt | apply Ev.ixVo | apply Ev.catVl | apply Ev.catVt
  | apply atI_map | exact frzs_I _ | exact frzs_d _ | apply Ev.frz_own | apply Ev.frzs_cons | rfl)
/-! ### loops by while -/
theorem asg {da : DE} {g : DG} {en e1 e2 : En} {o : OT} {x : PyData} (h : da en = .ok (o, e1)) (f : frz o = some x) (k : g x e1 = some e2) : dAsg g da en = .ok (.nx, e2) := by simp [dAsg, h, bd, f, k]
theorem fEq_int {a b : Int} : fEq (.int a) (.int b) = some (.bool (decide (a = b))) := by
  unfold fEq
  rw [if_pos ⟨rfl, rfl⟩]
  simp [PyData.eqv]
  by_cases h : a = b <;> simp [h]
theorem fNe_int {a b : Int} : fNe (.int a) (.int b) = some (.bool (!decide (a = b))) := by
  unfold fNe
  rw [if_pos ⟨rfl, rfl⟩]
  simp [PyData.eqv]
  by_cases h : a = b <;> simp [h]
/-! ### a table of times by place -/
abbrev at2 (G : List (List Int)) (c k : Nat) : Int := (G.getD c []).getD k 0
theorem servedP_rec : ∀ (ps : List (Int × Int)) (free : Int) (k : Nat), k < ps.length → (servedP free ps).getD k 0 = max (if k = 0 then free else (servedP free ps).getD (k - 1) 0) (ps.getD k (0, 0)).2 + (ps.getD k (0, 0)).1
  | p :: ps, free, 0, _ => by simp [servedP]
  | p :: ps, free, k + 1, h => by
    have ih := servedP_rec ps (max free p.2 + p.1) k (by simpa using h)
    have e : (servedP free (p :: ps)).getD (k + 1) 0 = (servedP (max free p.2 + p.1) ps).getD k 0 := by simp [servedP]
    rw [e, ih]
    cases k with
    | zero => simp [servedP]
    | succ k => simp [servedP]
theorem served_rec {r cs : List Int} {k n : Nat} (hr : r.length = n) (hc : cs.length = n) (hk : k < n) : (servedL r cs).getD k 0 = max (if k = 0 then 0 else (servedL r cs).getD (k - 1) 0) (cs.getD k 0) + r.getD k 0 := by
  have := servedP_rec (r.zip cs) 0 k (by simp; omega)
  have e : (r.zip cs).getD k (0, 0) = (r.getD k 0, cs.getD k 0) := by
    simp [List.getD_eq_getElem?_getD, hr, hc, hk]
  rw [e] at this
  exact this
/-! ### who holds whom -/
abbrev cellP (p : Nat × Nat) : PyData := .tuple [.int p.1, .int p.2]
end Pl
end
section
set_option Elab.async false
set_option linter.all false
set_option maxRecDepth 100000
set_option maxHeartbeats 2000000
namespace Pl
open PySem PySem.Spec L2 Lf Cp Ca
/-! ### held_by -/
def hW : DS := dSq (dEx (eApp 5 (eVar 4))) (dSet 4 (eCl 3 f_cell_ahead (aCons (eVar 3) (aCons (eVar 1) (aCons (eVar 4) aNil)))))
def hC : DT := tV (eOp2 fNotN (eVar 4) (eD .none))
end Pl
end
section
set_option Elab.async false
set_option linter.all false
set_option maxRecDepth 100000
set_option maxHeartbeats 2000000
namespace Pl
open PySem PySem.Spec L2 Lf Cp Ca
local macro_rules | `(tactic| trivial) => `(tactic| first
  | exact Ev.d_ | exact Ev.nil_ | exact Ev.pno | exact Ev.nx_
  | exact Ev.var rfl | exact Ev.varp rfl | apply Ev.varo rfl
  | apply Ev.cons_ | apply Ev.lst | apply Ev.tup
  | apply Ev.ix | apply Ev.len_ | apply Ev.op2 | apply Ev.cb
  | apply Ev.cl | apply Ev.neg | apply Ev.ls | apply Ev.tp | apply Ev.rep
  | apply Ev.cat | apply Ev.rv | apply Ev.psm | apply Ev.sl_
  | apply Ev.tyIs | apply Ev.tyNot | apply Ev.tv | apply Ev.nt
  | apply Ev.app rfl | apply Ev.rev_ rfl | apply Ev.set_ | apply Ev.rt | apply Ev.ex
  | apply Ev.ixVl | apply Ev.ixVt | apply Ev.ixVo | apply Ev.catVl | apply Ev.catVt
  | apply atI_map | exact frzs_I _ | exact frzs_d _ | apply Ev.frz_own | apply Ev.frzs_cons | rfl)
end Pl
end
section
set_option Elab.async false
set_option linter.all false
set_option maxRecDepth 100000
set_option maxHeartbeats 2000000
namespace Pl
open PySem PySem.Spec L2 Lf Cp Ca
/-! ### halls cut, and put in -/
/-! ### ways through a table -/
/-- a way from (i, j) to (c, k), of this worth -/
inductive Way (a : Nat → Nat → Int) (i j : Nat) : Nat → Nat → Int → Prop
  | one : Way a i j i j (a i j)
  | down {c k : Nat} {w : Int} : Way a i j c k w → Way a i j (c + 1) k (w + a (c + 1) k)
  | right {c k : Nat} {w : Int} : Way a i j c k w → Way a i j c (k + 1) (w + a c (k + 1))
theorem Way.le {a : Nat → Nat → Int} {i j c k : Nat} {w : Int} (h : Way a i j c k w) : i ≤ c ∧ j ≤ k := by
  induction h with
  | one => simp
  | down _ ih => omega
  | right _ ih => omega
theorem Way.predown {a : Nat → Nat → Int} {i j c k : Nat} {w : Int} (h : Way a (i + 1) j c k w) : Way a i j c k (a i j + w) := by
  induction h with
  | one => exact (Way.one (i := i) (j := j)).down
  | down _ ih => rw [← Int.add_assoc]; exact ih.down
  | right _ ih => rw [← Int.add_assoc]; exact ih.right
theorem Way.preright {a : Nat → Nat → Int} {i j c k : Nat} {w : Int} (h : Way a i (j + 1) c k w) : Way a i j c k (a i j + w) := by
  induction h with
  | one => exact (Way.one (i := i) (j := j)).right
  | down _ ih => rw [← Int.add_assoc]; exact ih.down
  | right _ ih => rw [← Int.add_assoc]; exact ih.right
theorem Way.congr {a b : Nat → Nat → Int} {i j c k : Nat} {w : Int} (h : Way a i j c k w) (e : ∀ p q, p ≤ c → q ≤ k → a p q = b p q) : Way b i j c k w := by
  induction h with
  | one => rw [e i j (Nat.le_refl _) (Nat.le_refl _)]; exact .one
  | @down c k w h ih => rw [e (c + 1) k (Nat.le_refl _) (Nat.le_refl _)]; exact (ih fun p q hp hq => e p q (by omega) hq).down
  | @right c k w h ih => rw [e c (k + 1) (Nat.le_refl _) (Nat.le_refl _)]; exact (ih fun p q hp hq => e p q hp (by omega)).right
theorem Way.rev {a : Nat → Nat → Int} {M N i j c k : Nat} {w : Int} (h : Way a i j c k w) (hc : c ≤ M) (hk : k ≤ N) : Way (fun p q => a (M - p) (N - q)) (M - c) (N - k) (M - i) (N - j) w := by
  induction h with
  | one =>
    have := Way.one (a := fun p q => a (M - p) (N - q)) (i := M - i) (j := N - j)
    simp only [show M - (M - i) = i by omega, show N - (N - j) = j by omega] at this
    exact this
  | @down c k w h ih =>
    have q := ih (by omega) hk
    rw [show M - c = M - (c + 1) + 1 by omega] at q
    have := q.predown
    simp only [show M - (M - (c + 1)) = c + 1 by omega, show N - (N - k) = k by omega] at this
    rw [Int.add_comm]
    exact this
  | @right c k w h ih =>
    have q := ih hc (by omega)
    rw [show N - k = N - (k + 1) + 1 by omega] at q
    have := q.preright
    simp only [show M - (M - c) = c by omega, show N - (N - (k + 1)) = k + 1 by omega] at this
    rw [Int.add_comm]
    exact this
/-- the greatest worth -/
def Most (a : Nat → Nat → Int) (i j c k : Nat) (v : Int) : Prop := Way a i j c k v ∧ ∀ w, Way a i j c k w → w ≤ v
theorem Most.one_only {a : Nat → Nat → Int} {i j c k : Nat} {v u : Int} (h : Most a i j c k v) (h' : Most a i j c k u) : v = u := Int.le_antisymm (h'.2 _ h.1) (h.2 _ h'.1)
theorem Most.start {a : Nat → Nat → Int} {i j : Nat} : Most a i j i j (a i j) := ⟨.one, fun w h => by
  generalize hc : i = c at h
  generalize hk : j = k at h
  cases h with
  | one => exact Int.le_refl _
  | down h => have := h.le; omega
  | right h => have := h.le; omega⟩
end Pl
end
section
set_option Elab.async false
set_option linter.all false
set_option maxRecDepth 100000
set_option maxHeartbeats 2000000
namespace Pl
open PySem PySem.Spec L2 Lf Cp Ca
/-! ### halls made of halls -/
section
variable {m n s t : Nat} {wide top : Int} {rs : List (List Int)} {r : List Int}
theorem HOk.take (h : HOk m n wide rs) (h1 : 1 ≤ s) (hs : s ≤ m) : HOk s n wide (rs.take s) := ⟨by simp [h.len]; omega, h1, by have := h.m8; omega, h.n1, h.n8, fun r hr => h.rows r (List.mem_of_mem_take hr)⟩
theorem HOk.drop (h : HOk m n wide rs) (hs : s < m) : HOk (m - s) n wide (rs.drop s) := ⟨by simp [h.len], by omega, by have := h.m8; omega, h.n1, h.n8, fun r hr => h.rows r (List.mem_of_mem_drop hr)⟩
theorem HOk.trunc (h : HOk m n wide rs) (h1 : 1 ≤ t) (ht : t ≤ n) : HOk m t wide (rs.map (·.take t)) := ⟨by simp [h.len], h.m1, h.m8, h1, by have := h.n8; omega, fun q hq => by
  obtain ⟨r, hr, rfl⟩ := List.mem_map.mp hq
  have := h.rows r hr
  exact ⟨by simp [this.1]; omega, fun x hx => this.2 x (List.mem_of_mem_take hx)⟩⟩
theorem HOk.rev (h : HOk m n wide rs) : HOk m n wide (rs.reverse.map List.reverse) := ⟨by simp [h.len], h.m1, h.m8, h.n1, h.n8, fun q hq => by
  obtain ⟨r, hr, rfl⟩ := List.mem_map.mp hq
  have := h.rows r (List.mem_reverse.mp hr)
  exact ⟨by simp [this.1], fun x hx => this.2 x (List.mem_reverse.mp hx)⟩⟩
theorem TOk.trunc (h : TOk n top r) (ht : t ≤ n) : TOk t top (r.take t) := ⟨by simp [h.1]; omega, h.2.1.sublist (List.take_sublist ..), fun x hx => h.2.2 x (List.mem_of_mem_take hx)⟩
theorem TOk.same {once : Int} (h : 0 ≤ once) : TOk n once (List.replicate n once) := ⟨by simp, by simp [List.pairwise_replicate], fun x hx => by rw [List.eq_of_mem_replicate hx]; omega⟩
theorem at2_rev (h : HOk m n wide rs) {c k : Nat} (hc : c ≤ m - 1) (hk : k ≤ n - 1) : at2 (rs.reverse.map List.reverse) c k = at2 rs (m - 1 - c) (n - 1 - k) := by
  have hl := h.len
  have := h.m1
  have := h.n1
  have hr := h.rows rs[m - 1 - c] (List.getElem_mem (by omega))
  unfold at2
  have e1 : (rs.reverse.map List.reverse).getD c [] = (rs[m - 1 - c]).reverse := by
    rw [List.getD_eq_getElem?_getD, List.getElem?_map, List.getElem?_reverse (by omega), List.getElem?_eq_getElem (by omega)]
    simp [hl]
  have e2 : rs.getD (m - 1 - c) [] = rs[m - 1 - c] := by
    rw [List.getD_eq_getElem?_getD, List.getElem?_eq_getElem (by omega)]
    rfl
  rw [e1, e2, List.getD_eq_getElem?_getD, List.getElem?_reverse (by rw [hr.1]; omega), hr.1, List.getD_eq_getElem?_getD]
theorem at2_nn (h : HOk m n wide rs) (c k : Nat) : 0 ≤ at2 rs c k := by
  unfold at2
  by_cases hc : c < rs.length
  · have hr := h.rows rs[c] (List.getElem_mem hc)
    have e : rs.getD c [] = rs[c] := by rw [List.getD_eq_getElem?_getD, List.getElem?_eq_getElem hc]; rfl
    rw [e]
    by_cases hk : k < rs[c].length
    · rw [List.getD_eq_getElem?_getD, List.getElem?_eq_getElem hk]
      exact (hr.2 _ (List.getElem_mem _)).1
    · rw [List.getD_eq_getElem?_getD, List.getElem?_eq_none (Nat.le_of_not_lt hk)]
      exact Int.le_refl _
  · have e : rs.getD c [] = [] := by rw [List.getD_eq_getElem?_getD, List.getElem?_eq_none (by omega)]; rfl
    rw [e]
    simp
end
/-! ### who holds whom, in a hall cut -/
end Pl
end
section
set_option Elab.async false
set_option linter.all false
set_option maxRecDepth 100000
set_option maxHeartbeats 2000000
namespace Pl
open PySem PySem.Spec L2 Lf Cp Ca
local macro_rules | `(tactic| trivial) => `(tactic| first
  | exact Ev.d_ | exact Ev.nil_ | exact Ev.pno | exact Ev.nx_
  | exact Ev.var rfl | exact Ev.varp rfl | apply Ev.varo rfl
  | apply Ev.cons_ | apply Ev.lst | apply Ev.tup
  | apply Ev.ix | apply Ev.len_ | apply Ev.op2 | apply Ev.cb
  | apply Ev.cl | apply Ev.neg | apply Ev.ls | apply Ev.tp | apply Ev.rep
  | apply Ev.cat | apply Ev.rv | apply Ev.psm | apply Ev.sl_
  | apply Ev.tyIs | apply Ev.tyNot | apply Ev.tv | apply Ev.nt
  | apply Ev.app rfl | apply Ev.rev_ rfl | apply Ev.set_ | apply Ev.rt | apply Ev.ex
  | apply Ev.ixVl | apply Ev.ixVt | apply Ev.ixVo | apply Ev.catVl | apply Ev.catVt
  | apply atI_map | exact frzs_I _ | exact frzs_d _ | apply Ev.frz_own | apply Ev.frzs_cons | rfl)
/-! ### slices by places -/
theorem cutA_take {α : Type} {xs : List α} {s : Nat} {z : Int} (hz : z = s) : cutA xs none (some z) = xs.take s := by
  subst hz
  unfold cutA
  rw [HT.sIx_none, HT.sIx_nat, List.drop_zero, Nat.sub_zero]
  by_cases h : s ≤ xs.length
  · rw [Nat.min_eq_left h]
  · rw [Nat.min_eq_right (by omega), List.take_of_length_le (Nat.le_refl _), List.take_of_length_le (by omega)]
theorem cutA_drop {α : Type} {xs : List α} {s : Nat} {z : Int} (hz : z = s) : cutA xs (some z) none = xs.drop s := by
  subst hz
  unfold cutA
  rw [HT.sIx_none, HT.sIx_nat]
  by_cases h : s ≤ xs.length
  · rw [Nat.min_eq_left h, List.take_of_length_le (by simp)]
  · rw [Nat.min_eq_right (by omega), List.drop_of_length_le (Nat.le_refl _), List.drop_of_length_le (by omega)]
    simp
theorem sl_takeT {α : Type} {f : α → PyData} {xs : List α} {s : Nat} {z : Int} (hz : z = s) : Ev.slV (.tuple (xs.map f)) none (some z) = some (.d (.tuple ((xs.take s).map f))) := by
  simp only [Ev.slV]; rw [cutA_take hz, List.map_take]
theorem sl_dropT {α : Type} {f : α → PyData} {xs : List α} {s : Nat} {z : Int} (hz : z = s) : Ev.slV (.tuple (xs.map f)) (some z) none = some (.d (.tuple ((xs.drop s).map f))) := by
  simp only [Ev.slV]; rw [cutA_drop hz, List.map_drop]
theorem frzs_fn {α : Type} (f : α → PyData) (xs : List α) : frzs (xs.map fun x => OT.d (f x)) = some (xs.map f) := by
  have := frzs_d (xs.map f)
  rwa [List.map_map] at this
theorem sh_LL {L : List (List Int)} : Sh 2 (LL L) := sh_list (sh_map fun _ => sh_day)
theorem ne_LL {L L' : List (List Int)} (h : L = L') : fNe (LL L) (LL L') = some (.bool false) := by subst h; exact sh_ne sh_LL (by omega)
end Pl
end
section
set_option Elab.async false
set_option linter.all false
set_option maxRecDepth 100000
set_option maxHeartbeats 1000000
/-! Minutes moved between two neighbours: why nothing of it is seen behind them. Plain lists of integers only. -/
namespace Pl
open PySem PySem.Spec L2 Lf Cp Ca
/-- two counters behind one another, the first free from a on, the second from b on -/
def two (a b : Int) (rs ss cs : List Int) : List Int := servedP b (ss.zip (servedP a (rs.zip cs)))
theorem two_cons {a b r s c : Int} {rs ss cs : List Int} : two a b (r :: rs) (s :: ss) (c :: cs) = (max b (max a c + r) + s) :: two (max a c + r) (max b (max a c + r) + s) rs ss cs := by simp [two, servedP]
theorem two_nil {a b : Int} {rs ss : List Int} : two a b rs ss [] = [] := by simp [two, servedP]
theorem two_nilr {a b : Int} {ss cs : List Int} : two a b [] ss cs = [] := by simp [two, servedP]
theorem two_nils {a b : Int} {rs cs : List Int} : two a b rs [] cs = [] := by simp [two, servedP]
/-- the leads, from a lead on -/
def leadsL : Int → List Int → List Int → List Int
  | l, r :: rs, s :: ss => (l + r) :: leadsL (l + r - s) rs ss
  | _, _, _ => []
/-- what is moved on: the growth of the greatest lead -/
def onL : Int → List Int → List Int
  | p, t :: ts => max (t - p) 0 :: onL (max p t) ts
  | _, [] => []
/-- the greatest from here to the end, at least p -/
def sgm (p : Int) : List Int → Int
  | t :: ts => max (sgm p ts) t
  | [] => p
/-- what is moved back -/
def bkL (p : Int) : List Int → List Int
  | t :: ts => (sgm p (t :: ts) - sgm p ts) :: bkL p ts
  | [] => []
def addL : List Int → List Int → List Int := List.zipWith (· + ·)
def subL : List Int → List Int → List Int := List.zipWith (· - ·)
theorem leadsL_len : ∀ {l : Int} {rs ss : List Int}, (leadsL l rs ss).length = min rs.length ss.length
  | _, [], _ => by simp [leadsL]
  | _, _ :: _, [] => by simp [leadsL]
  | _, _ :: _, _ :: _ => by simp [leadsL, leadsL_len]
theorem onL_len : ∀ {p : Int} {ts : List Int}, (onL p ts).length = ts.length
  | _, [] => rfl
  | _, _ :: _ => by simp [onL, onL_len]
theorem bkL_len : ∀ {p : Int} {ts : List Int}, (bkL p ts).length = ts.length
  | _, [] => rfl
  | _, _ :: _ => by simp [bkL, bkL_len]
/-- moved on: unseen -/
theorem on_unseen : ∀ (rs ss cs : List Int) (a a' b l p : Int), a = max a' (b + l - p) → two a' b (subL rs (onL p (leadsL l rs ss))) (addL ss (onL p (leadsL l rs ss))) cs = two a b rs ss cs
  | [], ss, cs, a, a', b, l, p, _ => by simp [leadsL, onL, subL, addL, two_nilr, two_nils]
  | r :: rs, [], cs, a, a', b, l, p, _ => by simp [leadsL, onL, subL, addL, two_nilr, two_nils]
  | r :: rs, s :: ss, [], a, a', b, l, p, _ => by rw [two_nil, two_nil]
  | r :: rs, s :: ss, c :: cs, a, a', b, l, p, h => by
    simp only [leadsL, onL, subL, addL, List.zipWith_cons_cons, two_cons]
    have e1 : max b (max a' c + (r - max (l + r - p) 0)) + (s + max (l + r - p) 0) = max b (max a c + r) + s := by omega
    rw [e1]
    congr 1
    exact on_unseen rs ss cs _ _ _ _ _ (by omega)
/-- moved back: unseen -/
theorem bk_unseen (p : Int) : ∀ (rs ss cs : List Int) (a a' b l : Int), a' = max a (b + l - sgm p (leadsL l rs ss)) → two a' b (addL rs (bkL p (leadsL l rs ss))) (subL ss (bkL p (leadsL l rs ss))) cs = two a b rs ss cs
  | [], ss, cs, a, a', b, l, _ => by simp [leadsL, bkL, subL, addL, two_nilr, two_nils]
  | r :: rs, [], cs, a, a', b, l, _ => by simp [leadsL, bkL, subL, addL, two_nilr, two_nils]
  | r :: rs, s :: ss, [], a, a', b, l, _ => by rw [two_nil, two_nil]
  | r :: rs, s :: ss, c :: cs, a, a', b, l, h => by
    simp only [leadsL, bkL, subL, addL, List.zipWith_cons_cons, two_cons, sgm] at h ⊢
    generalize hq : sgm p (leadsL (l + r - s) rs ss) = q at *
    have e1 : max b (max a' c + (r + (max q (l + r) - q))) + (s - (max q (l + r) - q)) = max b (max a c + r) + s := by omega
    rw [e1]
    congr 1
    exact bk_unseen p rs ss cs _ _ _ _ (by rw [hq]; omega)
/-! ### what is moved is there -/
theorem on_le : ∀ (rs ss : List Int) (l p : Int), l ≤ p → (∀ x ∈ rs, 0 ≤ x) → (∀ x ∈ ss, 0 ≤ x) → (∀ x ∈ subL rs (onL p (leadsL l rs ss)), 0 ≤ x) ∧ ∀ x ∈ addL ss (onL p (leadsL l rs ss)), 0 ≤ x
  | [], ss, l, p, _, _, _ => by simp [leadsL, onL, subL, addL]
  | _ :: _, [], l, p, _, _, _ => by simp [leadsL, onL, subL, addL]
  | r :: rs, s :: ss, l, p, h, hr, hs => by
    simp only [List.forall_mem_cons] at hr hs
    have ih := on_le rs ss (l + r - s) (max p (l + r)) (by omega) hr.2 hs.2
    simp only [leadsL, onL, subL, addL, List.zipWith_cons_cons, List.forall_mem_cons] at ih ⊢
    exact ⟨⟨by omega, ih.1⟩, ⟨by omega, ih.2⟩⟩
/-- the lead after the last -/
def leadE : Int → List Int → List Int → Int
  | l, r :: rs, s :: ss => leadE (l + r - s) rs ss
  | l, _, _ => l
theorem leadE_sum : ∀ (rs ss : List Int) (l : Int), rs.length = ss.length → leadE l rs ss = l + rs.sum - ss.sum
  | [], [], l, _ => by simp [leadE]
  | r :: rs, s :: ss, l, h => by
    simp only [leadE, List.sum_cons]
    rw [leadE_sum rs ss _ (by simpa using h)]
    omega
theorem le_sgm (p : Int) : ∀ (rs ss : List Int) (l : Int), rs.length = ss.length → (∀ x ∈ rs, 0 ≤ x) → leadE l rs ss ≤ p → l ≤ sgm p (leadsL l rs ss)
  | [], [], l, _, _, h => by simpa [leadsL, sgm, leadE] using h
  | r :: rs, s :: ss, l, _, hr, h => by
    simp only [List.forall_mem_cons] at hr
    simp only [leadsL, sgm]
    omega
theorem bk_le (p : Int) : ∀ (rs ss : List Int) (l : Int), rs.length = ss.length → (∀ x ∈ rs, 0 ≤ x) → (∀ x ∈ ss, 0 ≤ x) → leadE l rs ss ≤ p → (∀ x ∈ addL rs (bkL p (leadsL l rs ss)), 0 ≤ x) ∧ ∀ x ∈ subL ss (bkL p (leadsL l rs ss)), 0 ≤ x
  | [], [], l, _, _, _, _ => by simp [leadsL, bkL, subL, addL]
  | r :: rs, s :: ss, l, hl, hr, hs, h => by
    simp only [List.forall_mem_cons] at hr hs
    have ih := bk_le p rs ss (l + r - s) (by simpa using hl) hr.2 hs.2 (by simpa [leadE] using h)
    have k := le_sgm p rs ss (l + r - s) (by simpa using hl) hr.2 (by simpa [leadE] using h)
    simp only [leadsL, bkL, subL, addL, List.zipWith_cons_cons, List.forall_mem_cons, sgm] at ih ⊢
    exact ⟨⟨by omega, ih.1⟩, ⟨by omega, ih.2⟩⟩
/-! ### from the end -/
def reach (p : Int) (ts : List Int) : Int := ts.foldl max p
theorem onL_app : ∀ (ts us : List Int) (p : Int), onL p (ts ++ us) = onL p ts ++ onL (reach p ts) us
  | [], us, p => by simp [onL, reach]
  | t :: ts, us, p => by simp only [List.cons_append, onL, onL_app ts us]; rfl
theorem reach_rev (p : Int) : ∀ ts : List Int, reach p ts.reverse = sgm p ts
  | [] => rfl
  | t :: ts => by
    have := reach_rev p ts
    simp only [reach, List.reverse_cons, List.foldl_append, List.foldl_cons, List.foldl_nil, sgm] at this ⊢
    rw [this]
theorem onL_rev (p : Int) : ∀ ts : List Int, (onL p ts.reverse).reverse = bkL p ts
  | [] => rfl
  | t :: ts => by
    rw [List.reverse_cons, onL_app, reach_rev, List.reverse_append, onL_rev p ts]
    simp only [onL, bkL, sgm, List.reverse_cons, List.reverse_nil, List.nil_append, List.singleton_append, List.cons.injEq, and_true]
    omega
theorem onL_shift (k : Int) : ∀ (ts : List Int) (p : Int), onL (p + k) (ts.map (· + k)) = onL p ts
  | [], _ => rfl
  | t :: ts, p => by
    simp only [List.map_cons, onL]
    rw [show max (p + k) (t + k) = max p t + k by omega, onL_shift k ts]
    congr 1
    omega
theorem leadsL_app : ∀ (rs ss rs' ss' : List Int) (l : Int), rs.length = ss.length → leadsL l (rs ++ rs') (ss ++ ss') = leadsL l rs ss ++ leadsL (leadE l rs ss) rs' ss'
  | [], [], rs', ss', l, _ => by simp [leadsL, leadE]
  | r :: rs, s :: ss, rs', ss', l, h => by
    simp only [List.cons_append, leadsL, leadE]
    rw [leadsL_app rs ss rs' ss' _ (by simpa using h)]
theorem leads_rev : ∀ (rs ss : List Int) (l : Int), rs.length = ss.length → leadsL 0 ss.reverse rs.reverse = ((leadsL l rs ss).map (· + (ss.sum - rs.sum - l))).reverse
  | [], [], l, _ => by simp [leadsL]
  | r :: rs, s :: ss, l, h => by
    have h' : rs.length = ss.length := by simpa using h
    rw [List.reverse_cons, List.reverse_cons, leadsL_app _ _ _ _ _ (by simp [h']), leads_rev rs ss (l + r - s) h', leadE_sum _ _ _ (by simp [h'])]
    simp only [leadsL, List.map_cons, List.reverse_cons, List.sum_cons, List.sum_reverse]
    congr 1
    · congr 1
      apply List.map_congr_left
      intro x _
      omega
    · simp only [List.cons.injEq, and_true]
      omega
end Pl
end
section
set_option Elab.async false
set_option linter.all false
set_option maxRecDepth 100000
set_option maxHeartbeats 1000000
/-! Halls alike: what all their customers' last counters say, also of some customers only. -/
namespace Pl
open PySem PySem.Spec L2 Lf Cp Ca
theorem two_take : ∀ (rs ss cs : List Int) (a b : Int) (k : Nat), two a b (rs.take k) (ss.take k) cs = (two a b rs ss cs).take k
  | [], ss, cs, a, b, k => by simp [two_nilr]
  | r :: rs, [], cs, a, b, k => by simp [two_nils]
  | r :: rs, s :: ss, [], a, b, k => by simp [two_nil]
  | r :: rs, s :: ss, c :: cs, a, b, 0 => by simp [two_nilr]
  | r :: rs, s :: ss, c :: cs, a, b, k + 1 => by simp only [List.take_succ_cons, two_cons, two_take rs]
/-- some of the customers -/
def cutR (f k : Nat) (r : List Int) : List Int := (r.drop f).take k
theorem on_drop : ∀ (f : Nat) (rs ss : List Int) (l p : Int), l ≤ p → (∀ x ∈ ss, 0 ≤ x) → ∃ l' p', l' ≤ p' ∧ (subL rs (onL p (leadsL l rs ss))).drop f = subL (rs.drop f) (onL p' (leadsL l' (rs.drop f) (ss.drop f))) ∧ (addL ss (onL p (leadsL l rs ss))).drop f = addL (ss.drop f) (onL p' (leadsL l' (rs.drop f) (ss.drop f)))
  | 0, rs, ss, l, p, h, _ => ⟨l, p, h, rfl, rfl⟩
  | f + 1, [], ss, l, p, h, _ => ⟨l, p, h, by simp [leadsL, onL, subL], by simp [leadsL, onL, addL]⟩
  | f + 1, _ :: _, [], l, p, h, _ => ⟨l, p, h, by simp [leadsL, onL, subL], by simp [leadsL, onL, addL]⟩
  | f + 1, r :: rs, s :: ss, l, p, h, hs => by
    simp only [List.forall_mem_cons] at hs
    obtain ⟨l', p', q1, q2, q3⟩ := on_drop f rs ss (l + r - s) (max p (l + r)) (by omega) hs.2
    exact ⟨l', p', q1, by simpa [leadsL, onL, subL] using q2, by simpa [leadsL, onL, addL] using q3⟩
theorem bk_drop (p : Int) : ∀ (f : Nat) (rs ss : List Int) (l : Int), rs.length = ss.length → (∀ x ∈ rs, 0 ≤ x) → leadE l rs ss ≤ p → ∃ l', leadE l' (rs.drop f) (ss.drop f) ≤ p ∧ (addL rs (bkL p (leadsL l rs ss))).drop f = addL (rs.drop f) (bkL p (leadsL l' (rs.drop f) (ss.drop f))) ∧ (subL ss (bkL p (leadsL l rs ss))).drop f = subL (ss.drop f) (bkL p (leadsL l' (rs.drop f) (ss.drop f)))
  | 0, rs, ss, l, _, _, h => ⟨l, h, rfl, rfl⟩
  | f + 1, [], [], l, _, _, h => ⟨l, by simpa [leadE] using h, by simp [leadsL, bkL, addL], by simp [leadsL, bkL, subL]⟩
  | f + 1, r :: rs, s :: ss, l, hl, hr, h => by
    simp only [List.forall_mem_cons] at hr
    obtain ⟨l', q1, q2, q3⟩ := bk_drop p f rs ss (l + r - s) (by simpa using hl) hr.2 (by simpa [leadE] using h)
    exact ⟨l', by simpa using q1, by simpa [leadsL, bkL, addL] using q2, by simpa [leadsL, bkL, subL] using q3⟩
/-- two rows in place of two: nothing of it is seen -/
structure Unseen (n : Nat) (r s r' s' : List Int) : Prop where
  lr : r'.length = n
  ls : s'.length = n
  nr : ∀ x ∈ r', 0 ≤ x
  ns : ∀ x ∈ s', 0 ≤ x
  col : ∀ i, r'.getD i 0 + s'.getD i 0 = r.getD i 0 + s.getD i 0
  cut : ∀ f k c, servedL (cutR f k s') (servedL (cutR f k r') c) = servedL (cutR f k s) (servedL (cutR f k r) c)
theorem on_col : ∀ (rs ss g : List Int) (i : Nat), rs.length = ss.length → g.length = rs.length → (subL rs g).getD i 0 + (addL ss g).getD i 0 = rs.getD i 0 + ss.getD i 0
  | [], [], _, i, _, _ => by simp [subL, addL]
  | r :: rs, s :: ss, x :: g, 0, _, _ => by simp [subL, addL]; omega
  | r :: rs, s :: ss, x :: g, i + 1, h, h' => by
    have := on_col rs ss g i (by simpa using h) (by simpa using h')
    simpa [subL, addL] using this
theorem on_ok {n : Nat} {r s : List Int} {p : Int} (hr : r.length = n) (hs : s.length = n) (nr : ∀ x ∈ r, 0 ≤ x) (ns : ∀ x ∈ s, 0 ≤ x) (hp : 0 ≤ p) : Unseen n r s (subL r (onL p (leadsL 0 r s))) (addL s (onL p (leadsL 0 r s))) := by
  have hl : (onL p (leadsL 0 r s)).length = n := by rw [onL_len, leadsL_len]; omega
  have h0 := on_le r s 0 p hp nr ns
  refine ⟨by simp [subL, hl, hr], by simp [addL, hl, hs], h0.1, h0.2, fun i => on_col r s _ i (by omega) (by omega), fun f k c => ?_⟩
  obtain ⟨l', p', q1, q2, q3⟩ := on_drop f r s 0 p hp ns
  unfold cutR
  rw [q2, q3]
  have e := on_unseen (r.drop f) (s.drop f) c 0 0 0 l' p' (by omega)
  have e2 := congrArg (List.take k) e
  rw [← two_take, ← two_take] at e2
  exact e2
theorem bk_ok {n : Nat} {r s : List Int} {p : Int} (hr : r.length = n) (hs : s.length = n) (nr : ∀ x ∈ r, 0 ≤ x) (ns : ∀ x ∈ s, 0 ≤ x) (hp : r.sum - s.sum ≤ p) : Unseen n r s (addL r (bkL p (leadsL 0 r s))) (subL s (bkL p (leadsL 0 r s))) := by
  have hl : (bkL p (leadsL 0 r s)).length = n := by rw [bkL_len, leadsL_len]; omega
  have hE : leadE 0 r s ≤ p := by rw [leadE_sum _ _ _ (by omega)]; omega
  have h0 := bk_le p r s 0 (by omega) nr ns hE
  refine ⟨by simp [addL, hl, hr], by simp [subL, hl, hs], h0.1, h0.2, fun i => ?_, fun f k c => ?_⟩
  · have := on_col s r (bkL p (leadsL 0 r s)) i (by omega) (by omega)
    omega
  · obtain ⟨l', q1, q2, q3⟩ := bk_drop p f r s 0 (by omega) nr hE
    unfold cutR
    rw [q2, q3]
    have k1 := le_sgm p (r.drop f) (s.drop f) l' (by simp; omega) (fun x hx => nr x (List.mem_of_mem_drop hx)) q1
    have e := bk_unseen p (r.drop f) (s.drop f) c 0 0 0 l' (by omega)
    have e2 := congrArg (List.take k) e
    rw [← two_take, ← two_take] at e2
    exact e2
/-! ### through all counters -/
def thru (H : List (List Int)) (c : List Int) : List Int := H.foldl (fun c r => servedL r c) c
theorem thru_app (A B : List (List Int)) (c : List Int) : thru (A ++ B) c = thru B (thru A c) := by simp [thru]
structure Alike (H H' : List (List Int)) : Prop where
  len : H'.length = H.length
  cut : ∀ f k c, thru (H'.map (cutR f k)) c = thru (H.map (cutR f k)) c
  col : ∀ i, (H'.map (·.getD i 0)).sum = (H.map (·.getD i 0)).sum
theorem Alike.refl (H : List (List Int)) : Alike H H := ⟨rfl, fun _ _ _ => rfl, fun _ => rfl⟩
theorem Alike.trans {H J K : List (List Int)} (h : Alike H J) (k : Alike J K) : Alike H K := ⟨k.len.trans h.len, fun f n c => (k.cut f n c).trans (h.cut f n c), fun i => (k.col i).trans (h.col i)⟩
theorem Unseen.alike {n : Nat} {r s r' s' : List Int} (u : Unseen n r s r' s') (A B : List (List Int)) : Alike (A ++ r :: s :: B) (A ++ r' :: s' :: B) where
  len := by simp
  cut := fun f k c => by
    simp only [List.map_append, List.map_cons, thru_app]
    have e := u.cut f k (thru (A.map (cutR f k)) c)
    exact congrArg (thru (B.map (cutR f k))) e
  col := fun i => by
    have := u.col i
    simp only [List.map_append, List.map_cons, List.sum_append, List.sum_cons]
    omega
/-- a hall of nought or more minutes, each customer with less than W in all -/
structure Few (m n : Nat) (W : Int) (H : List (List Int)) : Prop where
  len : H.length = m
  rows : ∀ r ∈ H, r.length = n ∧ ∀ x ∈ r, 0 ≤ x
  col : ∀ i, (H.map (·.getD i 0)).sum < W
theorem sum_ge : ∀ {L : List Int}, (∀ x ∈ L, 0 ≤ x) → 0 ≤ L.sum ∧ ∀ x ∈ L, x ≤ L.sum
  | [], _ => by simp
  | a :: L, h => by
    simp only [List.forall_mem_cons] at h
    obtain ⟨h1, h2⟩ := sum_ge h.2
    simp only [List.sum_cons, List.forall_mem_cons]
    exact ⟨by omega, by omega, fun x hx => by have := h2 x hx; omega⟩
theorem Few.hok {m n : Nat} {W : Int} {H : List (List Int)} (h : Few m n W H) (m1 : 1 ≤ m) (m8 : m ≤ 8) (n1 : 1 ≤ n) (n8 : n ≤ 8) : HOk m n W H := ⟨h.len, m1, m8, n1, n8, fun r hr => ⟨(h.rows r hr).1, fun x hx => ⟨(h.rows r hr).2 x hx, by
  obtain ⟨i, hi, rfl⟩ := List.mem_iff_getElem.mp hx
  have e : r.getD i 0 = r[i] := by simp [List.getD_eq_getElem?_getD, hi]
  have h1 := (sum_ge (L := H.map (·.getD i 0)) (fun y hy => by
    obtain ⟨q, hq, rfl⟩ := List.mem_map.mp hy
    by_cases hk : i < q.length
    · have : q.getD i 0 = q[i] := by simp [List.getD_eq_getElem?_getD, hk]
      rw [this]
      exact (h.rows q hq).2 _ (List.getElem_mem hk)
    · simp [List.getD_eq_getElem?_getD, List.getElem?_eq_none (Nat.le_of_not_lt hk)])).2 (r.getD i 0) (List.mem_map.mpr ⟨r, hr, rfl⟩)
  have := h.col i
  omega⟩⟩⟩
theorem Unseen.few {m n : Nat} {W : Int} {r s r' s' : List Int} {A B : List (List Int)} (u : Unseen n r s r' s') (h : Few m n W (A ++ r :: s :: B)) : Few m n W (A ++ r' :: s' :: B) where
  len := by have := h.len; simp at this ⊢; omega
  rows := fun q hq => by
    simp only [List.mem_append, List.mem_cons] at hq
    rcases hq with hq | rfl | rfl | hq
    · exact h.rows q (by simp [hq])
    · exact ⟨u.lr, u.nr⟩
    · exact ⟨u.ls, u.ns⟩
    · exact h.rows q (by simp [hq])
  col := fun i => by rw [(u.alike A B).col i]; exact h.col i
/-! ### how many can be moved -/
theorem foldMaxS : ∀ (r : List Int) (i : Int), (r.foldl max i ∈ i :: r) ∧ ∀ y ∈ i :: r, y ≤ r.foldl max i
  | [], i => ⟨by simp, by simp⟩
  | j :: r, i => by
    obtain ⟨h1, h2⟩ := foldMaxS r (max i j)
    rw [List.foldl_cons]
    refine ⟨?_, fun y hy => ?_⟩
    · rcases List.mem_cons.mp h1 with e | e
      · rw [e]
        by_cases c : i ≤ j
        · rw [Int.max_eq_right c]; simp
        · rw [Int.max_eq_left (by omega)]; simp
      · exact List.mem_cons_of_mem _ (List.mem_cons_of_mem _ e)
    · have hm := h2 (max i j) List.mem_cons_self
      rcases List.mem_cons.mp hy with rfl | hy
      · omega
      · rcases List.mem_cons.mp hy with rfl | hy
        · omega
        · exact h2 y (List.mem_cons_of_mem _ hy)
theorem maxL_ge {l : Int} {rs ss : List Int} {M : Int} (h : foldMax (leadsL l rs ss) = some M) : ∀ x ∈ leadsL l rs ss, x ≤ M := by
  cases q : leadsL l rs ss with
  | nil => simp
  | cons t ts =>
    rw [q] at h
    simp only [foldMax, Option.some.injEq] at h
    rw [← h]
    exact (foldMaxS ts t).2
theorem on_nn {r s : Int} {rs ss : List Int} {M : Int} (hr : 0 ≤ r) (h : foldMax (leadsL 0 (r :: rs) (s :: ss)) = some M) : 0 ≤ M := by
  have := maxL_ge h r (by simp [leadsL])
  omega
theorem off_nn : ∀ {rs ss : List Int} {l M : Int}, rs.length = ss.length → rs ≠ [] → (∀ x ∈ ss, 0 ≤ x) → (∀ x ∈ leadsL l rs ss, x ≤ M) → leadE l rs ss ≤ M
  | [r], [s], l, M, _, _, hs, h => by
    simp only [List.forall_mem_cons, leadsL] at hs h
    simp only [leadE]
    omega
  | r :: r2 :: rs, s :: s2 :: ss, l, M, hl, _, hs, h => by
    simp only [leadE]
    have := off_nn (rs := r2 :: rs) (ss := s2 :: ss) (l := l + r - s) (M := M) (by simpa using hl) (by simp) (fun x hx => hs x (List.mem_cons_of_mem _ hx)) (fun x hx => h x (by simp only [leadsL, List.mem_cons] at hx ⊢; exact .inr hx))
    simpa [leadE] using this
theorem foldMax_iff {L : List Int} {M : Int} : foldMax L = some M ↔ M ∈ L ∧ ∀ x ∈ L, x ≤ M := by
  cases L with
  | nil => simp [foldMax]
  | cons t ts =>
    obtain ⟨h1, h2⟩ := foldMaxS ts t
    simp only [foldMax, Option.some.injEq]
    constructor
    · rintro rfl; exact ⟨h1, h2⟩
    · rintro ⟨k1, k2⟩
      have a := h2 M k1
      have b := k2 _ h1
      omega
/-- from the end: as many as can be moved back, and what is moved -/
theorem max_rev {rs ss : List Int} {M : Int} (hl : rs.length = ss.length) (h : foldMax (leadsL 0 rs ss) = some M) : foldMax (leadsL 0 ss.reverse rs.reverse) = some (M + (ss.sum - rs.sum)) := by
  rw [leads_rev rs ss 0 hl]
  obtain ⟨h1, h2⟩ := foldMax_iff.mp h
  refine foldMax_iff.mpr ⟨?_, fun x hx => ?_⟩
  · simp only [List.mem_reverse, List.mem_map]
    exact ⟨M, h1, by omega⟩
  · simp only [List.mem_reverse, List.mem_map] at hx
    obtain ⟨y, hy, rfl⟩ := hx
    have := h2 y hy
    omega
theorem back_eq {rs ss : List Int} {p : Int} (hl : rs.length = ss.length) : (onL (p + (ss.sum - rs.sum)) (leadsL 0 ss.reverse rs.reverse)).reverse = bkL p (leadsL 0 rs ss) := by
  rw [leads_rev rs ss 0 hl, ← List.map_reverse]
  rw [show ss.sum - rs.sum - 0 = ss.sum - rs.sum by omega, onL_shift, onL_rev]
end Pl
end
section
set_option Elab.async false
set_option linter.all false
set_option maxRecDepth 100000
set_option maxHeartbeats 2000000
/-! The bag: a list of one's own of three numbers that sides are drawn from. -/
namespace Pl
open PySem PySem.Spec L2 Lf Cp Ca
open Cb (f__law_draw D__law_draw f__law_bag D__law_bag f__law_cell_at D__law_cell_at f__law_minutes D__law_minutes)
theorem pow_ok5 {i : Int} (h : i.natAbs < 2 ^ 200) : (Builtin.Int.intBits i : Int) * 5 ≤ 2 ^ 27 := by
  have := bits_le h
  omega
def BOk (t : Int) (o : OT) : Prop := ∃ a b c, o = W a b c ∧ 0 ≤ a ∧ (0 ≤ b ∧ b < 10 ^ 41) ∧ 0 ≤ c ∧ c ≤ t
theorem BOk.mono {t u : Int} {o : OT} (h : BOk t o) (hu : t ≤ u) : BOk u o := by
  obtain ⟨a, b, c, e, h1, h2, h3, h4⟩ := h
  exact ⟨a, b, c, e, h1, h2, h3, by omega⟩
theorem BOk.noFr {t : Int} {o : OT} (h : BOk t o) : noFr o = true := by
  obtain ⟨a, b, c, rfl, _⟩ := h
  simp [Lf.noFr, noFrs]
theorem cell_at {ns : List Int} {k : Nat} : f__law_cell_at [.d (.list (ns.map .int)), I k] = .ok (I (ns.getD k 0), [.hole, .hole]) := by
  by_cases h : k < ns.length
  · have hx : (ns.map PyData.int)[k]? = some (.int ns[k]) := by simp [h]
    simp [f__law_cell_at, D__law_cell_at, dFn, mkEn, dSq, dIf, tV, eOp2, eVar, eLen, dlen, fLt, fI, frz, eIx, atI, ixN, h, hx, dRt, bd, outs, fin, noFr, noFrs, dNx, List.getD_eq_getElem?_getD]
  · simp [f__law_cell_at, D__law_cell_at, dFn, mkEn, dSq, dIf, tV, eOp2, eVar, eLen, dlen, fLt, fI, frz, eIx, atI, ixN, h, dRt, bd, outs, fin, noFr, noFrs, dNx, List.getD_eq_getElem?_getD, List.getElem?_eq_none (Nat.le_of_not_lt h), eD]
end Pl
end
section
set_option Elab.async false
set_option linter.all false
set_option maxRecDepth 100000
set_option maxHeartbeats 2000000
namespace Pl
open PySem PySem.Spec L2 Lf Cp Ca
open Cb (f__law_draw D__law_draw f__law_bag D__law_bag f__law_cell_at D__law_cell_at f__law_minutes D__law_minutes f__law_hall D__law_hall)
theorem lcD_ex {α β : Type} {item : α → PyData} {vs : List Nat} {g : DG} {te : DE} (out : β → OT) (P : Nat → En → Prop) (Q : β → Prop) : ∀ (as : List α) (i : Nat) (en : En) (acc : List OT), acc.length + as.length ≤ 100000 → (∀ a ∈ as, ∀ j en, j < i + as.length → P j en → ∃ e2 e3 e4 b, g (item a) en = some e2 ∧ te e2 = .ok (out b, e3) ∧ wipeE vs e3 = some e4 ∧ Q b ∧ P (j + 1) e4) → P i en → ∃ (bs : List β) (en' : En), lcD vs g tYs te (as.map item) en acc = .ok (.own (acc ++ bs.map out), en') ∧ bs.length = as.length ∧ (∀ b ∈ bs, Q b) ∧ P (i + as.length) en'
  | [], i, en, acc, _, _, h => ⟨[], en, by simp [lcD], rfl, by simp, h⟩
  | a :: as, i, en, acc, hl, h, hp => by
    obtain ⟨e2, e3, e4, b, h1, h2, h3, hQ, h4⟩ := h a (List.mem_cons_self ..) i en (by simp) hp
    have hf : few acc.length = true := few_of (by simp at hl; omega)
    obtain ⟨bs, en', h5, h6, h7, h8⟩ := lcD_ex (te := te) out P Q as (i + 1) e4 (acc ++ [out b]) (by simp at hl ⊢; omega) (fun x hx j en hj => h x (List.mem_cons_of_mem _ hx) j en (by simp only [List.length_cons]; omega)) h4
    refine ⟨b :: bs, en', ?_, by simp [h6], by simpa using ⟨hQ, h7⟩, by rw [show i + (a :: as).length = i + 1 + as.length by simp; omega]; exact h8⟩
    simp only [List.map_cons, lcD, h1, tYs, bd, nx, h2, h3, hf, if_true]
    simp [tYs] at h5 ⊢
    rw [h5]
end Pl
end
section
set_option Elab.async false
set_option linter.all false
set_option maxRecDepth 100000
set_option maxHeartbeats 2000000
namespace Pl
open PySem PySem.Spec L2 Lf Cp
open Cb (f__law_draw D__law_draw f__law_minutes D__law_minutes f__law_hall D__law_hall)
theorem frz_I (r : List Int) : (frz (.own (r.map I))).bind dItems = some (r.map .int) := by rw [Ev.frz_own (frzs_I r)]; rfl
end Pl
end
section
set_option Elab.async false
set_option linter.all false
set_option maxRecDepth 100000
set_option maxHeartbeats 2000000
namespace Pl
open PySem PySem.Spec L2 Lf Cp
open Cm (f_leads D_leads f_most_moves D_most_moves f_going_on D_going_on f_going_back D_going_back f_check_counter D_check_counter f_check_neighbours D_check_neighbours f_can_move D_can_move f_carried D_carried f_moved D_moved)
theorem nfW (L : List Int) : noFr (OW L) = true := by
  show noFrs (L.map I) = true
  have := noFrs_d (L.map .int)
  rwa [List.map_map] at this
theorem noFr_hole : noFr .hole = true := rfl
theorem max2 {i j : Int} : fMax2 [.int i, .int j] = some (.int (max i j)) := by simp only [fMax2, gt_iff_lt, if_max]
def leadsP : Int → List (Int × Int) → List Int
  | l, p :: ps => (l + p.1) :: leadsP (l + p.1 - p.2) ps
  | _, [] => []
theorem leadsP_zip : ∀ (rs ss : List Int) (l : Int), leadsP l (rs.zip ss) = leadsL l rs ss
  | [], _, _ => by simp [leadsP, leadsL]
  | _ :: _, [], _ => by simp [leadsP, leadsL]
  | r :: rs, s :: ss, l => by simp only [List.zip_cons_cons, leadsP, leadsL, leadsP_zip rs]
def ldB : DS := dSq (dAug 2 fAdd (eVar 4)) (dSq (dEx (eApp 3 (eVar 2))) (dAug 2 fSub (eVar 5)))
theorem leads_step {A B : OT} {m c l : Int} {told : List Int} (hl : told.length ≤ 1000) : ldB [.v A, .v B, .v (I l), .v (.own (told.map I)), .v (I m), .v (I c)] = .ok (.nx, [.v A, .v B, .v (I (l + m - c)), .v (.own ((told ++ [l + m]).map I)), .v (I m), .v (I c)]) := by
  have b1 : dAug 2 fAdd (eVar 4) [.v A, .v B, .v (I l), .v (.own (told.map I)), .v (I m), .v (I c)] = .ok (.nx, [.v A, .v B, .v (I (l + m)), .v (.own (told.map I)), .v (I m), .v (I c)]) := Ev.aug rfl (Ev.var rfl) rfl rfl rfl
  have b2 : dEx (eApp 3 (eVar 2)) [.v A, .v B, .v (I (l + m)), .v (.own (told.map I)), .v (I m), .v (I c)] = .ok (.nx, [.v A, .v B, .v (I (l + m)), .v (.own ((told ++ [l + m]).map I)), .v (I m), .v (I c)]) := Ev.ex (Ev.app (b := false) rfl (Ev.var rfl) rfl (few_of (by simp; omega)) (by simp [mkS]))
  exact Ev.sq b1 (Ev.sq b2 (Ev.aug rfl (Ev.var rfl) rfl rfl rfl))
theorem leads {r s : List Int} (hl : r.length ≤ 1000) : f_leads [.d (rowP r), .d (rowP s)] = .ok (OW (leadsL 0 r s), [.hole, .hole]) := by
  obtain ⟨e, h1, l, told, s4, s5, rfl, _, _, h2, _⟩ := forD_rest (item := fun p : Int × Int => .tuple [.int p.1, .int p.2]) (g := gTp [4, 5]) (body := ldB)
    (fun rest en => ∃ l told s4 s5, en = [.v (.d (rowP r)), .v (.d (rowP s)), .v (I l), .v (.own (told.map I)), s4, s5] ∧ np s4 = true ∧ np s5 = true ∧ told ++ leadsP l rest = leadsL 0 r s ∧ told.length + rest.length ≤ 1000)
    (by
      rintro ⟨m, c⟩ rest en ⟨l, told, s4, s5, rfl, n4, n5, h, hl⟩
      simp only [List.length_cons] at hl
      exact ⟨[.v (.d (rowP r)), .v (.d (rowP s)), .v (I l), .v (.own (told.map I)), .v (I m), .v (I c)], _, by simp [gTp, gNms, stor_eq, n4, n5], leads_step (by omega), _, _, _, _, rfl, rfl, rfl, by simpa [leadsP] using h, by simp; omega⟩)
    (r.zip s) _ ⟨0, [], .un, .un, rfl, rfl, rfl, by simp [leadsP_zip], by simp; omega⟩
  have hz : iZ2 (aCons (eVar 0) (aCons (eVar 1) aNil)) [.v (.d (rowP r)), .v (.d (rowP s)), .v (I 0), .v (.own []), .un, .un] = .ok ((r.zip s).map fun p => .tuple [.int p.1, .int p.2], [.v (.d (rowP r)), .v (.d (rowP s)), .v (I 0), .v (.own []), .un, .un]) := by
    simp [iZ2, aCons, aNil, eVar, bd, frzs, frz, dItems, zip2_map]
  have he : told = leadsL 0 r s := by simpa [leadsP] using h2
  rw [he] at h1
  have b : D_leads [.v (.d (rowP r)), .v (.d (rowP s)), .un, .un, .un, .un] = .ok (.rt (OW (leadsL 0 r s)), _) := Ev.sq (Ev.set_ Ev.d_ rfl) (Ev.sq (Ev.set_ (Ev.lst Ev.nil_ rfl) rfl) (Ev.sq (Ev.for_ hz h1) (Ev.rt (Ev.mov rfl rfl))))
  exact fn_ok (fl := [false, false]) (k := 4) (B := D_leads) (os := [.d (rowP r), .d (rowP s)]) rfl b (by simp [outs, noFrs, nfW, noFr_hole])
theorem maxA_L {L : List Int} {M : Int} (h : foldMax L = some M) : fMaxA [.list (L.map .int)] = some (.int M) := by simp only [fMaxA, seqInts, ints_map, Option.bind_some, h, Option.map_some]
theorem sumA_T {L : List Int} : fSumA [.tuple (L.map .int)] = some (.int L.sum) := by simp only [fSumA, seqInts, ints_map, Option.map_some]
theorem most_moves {r s : List Int} {M : Int} (hl : r.length ≤ 1000) (h : foldMax (leadsL 0 r s) = some M) : f_most_moves [.d (rowP r), .d (rowP s)] = .ok (.d (.tuple [.int M, .int (M + s.sum - r.sum)]), [.hole, .hole]) := by
  have e1 := leads (r := r) (s := s) hl
  have b : D_most_moves [.v (.d (rowP r)), .v (.d (rowP s)), .un] = .ok (.rt (.d (.tuple [.int M, .int (M + s.sum - r.sum)])), [.v (.d (rowP r)), .v (.d (rowP s)), .v (I M)]) :=
    Ev.sq (Ev.set_ (Ev.cb (Ev.cons_ (Ev.cl (Ev.cons_ (Ev.var rfl) (Ev.cons_ (Ev.var rfl) Ev.nil_)) rfl rfl e1) Ev.nil_) (Ev.frzs_cons (Ev.frz_own (frzs_I _)) rfl) (maxA_L h)) rfl) (Ev.rt (Ev.tup (os := [I M, I (M + s.sum - r.sum)]) (Ev.cons_ (Ev.var rfl) (Ev.cons_ (Ev.op2 (Ev.op2 (Ev.var rfl) (Ev.cb (Ev.cons_ (Ev.var rfl) Ev.nil_) rfl sumA_T) rfl rfl rfl) (Ev.cb (Ev.cons_ (Ev.var rfl) Ev.nil_) rfl sumA_T) rfl rfl rfl) Ev.nil_)) rfl rfl))
  exact fn_ok (fl := [false, false]) (k := 1) (B := D_most_moves) (os := [.d (rowP r), .d (rowP s)]) rfl b rfl
def goB : DS := dSq (dEx (eApp 5 (eCb fMax2 (aCons (eOp2 fSub (eVar 6) (eVar 4)) (aCons (eD (.int 0)) aNil))))) (dSet 4 (eCb fMax2 (aCons (eVar 4) (aCons (eVar 6) aNil))))
theorem go_step {A B C D : OT} {p t : Int} {ms : List Int} (hl : ms.length ≤ 1000) : goB [.v A, .v B, .v C, .v D, .v (I p), .v (.own (ms.map I)), .v (I t)] = .ok (.nx, [.v A, .v B, .v C, .v D, .v (I (max p t)), .v (.own ((ms ++ [max (t - p) 0]).map I)), .v (I t)]) := by
  have b1 : dEx (eApp 5 (eCb fMax2 (aCons (eOp2 fSub (eVar 6) (eVar 4)) (aCons (eD (.int 0)) aNil)))) [.v A, .v B, .v C, .v D, .v (I p), .v (.own (ms.map I)), .v (I t)] = .ok (.nx, [.v A, .v B, .v C, .v D, .v (I p), .v (.own ((ms ++ [max (t - p) 0]).map I)), .v (I t)]) :=
    Ev.ex (Ev.app (b := false) rfl (Ev.cb (Ev.cons_ (Ev.op2 (Ev.var rfl) (Ev.var rfl) rfl rfl rfl) (Ev.cons_ Ev.d_ Ev.nil_)) rfl max2) rfl (few_of (by simp; omega)) (by simp [mkS]))
  exact Ev.sq b1 (Ev.set_ (Ev.cb (Ev.cons_ (Ev.var rfl) (Ev.cons_ (Ev.var rfl) Ev.nil_)) rfl max2) rfl)
theorem going_on {r s : List Int} {M many : Int} (hl : r.length ≤ 1000) (h : foldMax (leadsL 0 r s) = some M) : f_going_on [.d (rowP r), .d (rowP s), I many] = .ok (OW (onL (M - many) (leadsL 0 r s)), [.hole, .hole, .hole]) := by
  have e1 := leads (r := r) (s := s) hl
  have hL : (leadsL 0 r s).length ≤ 1000 := by rw [leadsL_len]; omega
  generalize leadsL 0 r s = L at *
  obtain ⟨e, h1, p, ms, s6, rfl, _, h2, _⟩ := forD_rest (item := fun t : Int => .int t) (g := gNm 6) (body := goB)
    (fun rest en => ∃ p ms s6, en = [.v (.d (rowP r)), .v (.d (rowP s)), .v (I many), .v (.d (.list (L.map .int))), .v (I p), .v (.own (ms.map I)), s6] ∧ np s6 = true ∧ ms ++ onL p rest = onL (M - many) L ∧ ms.length + rest.length ≤ 1000)
    (by
      rintro t rest en ⟨p, ms, s6, rfl, n6, h, hl⟩
      simp only [List.length_cons] at hl
      exact ⟨[.v (.d (rowP r)), .v (.d (rowP s)), .v (I many), .v (.d (.list (L.map .int))), .v (I p), .v (.own (ms.map I)), .v (I t)], _, by simp [gNm, stor_eq, n6], go_step (by omega), _, _, _, rfl, rfl, by simpa [onL] using h, by simp; omega⟩)
    L _ ⟨M - many, [], .un, rfl, rfl, by simp, by simp; omega⟩
  have he : ms = onL (M - many) L := by simpa [onL] using h2
  rw [he] at h1
  have b3 : dSet 3 (eCl 2 f_leads (aCons (eVar 0) (aCons (eVar 1) aNil))) [.v (.d (rowP r)), .v (.d (rowP s)), .v (I many), .un, .un, .un, .un] = .ok (.nx, [.v (.d (rowP r)), .v (.d (rowP s)), .v (I many), .v (OW L), .un, .un, .un]) := Ev.set_ (Ev.cl (Ev.cons_ (Ev.var rfl) (Ev.cons_ (Ev.var rfl) Ev.nil_)) rfl rfl e1) rfl
  have b4 : dSet 4 (eOp2 fSub (eCb fMaxA (aCons (eVar 3) aNil)) (eVar 2)) [.v (.d (rowP r)), .v (.d (rowP s)), .v (I many), .v (OW L), .un, .un, .un] = .ok (.nx, [.v (.d (rowP r)), .v (.d (rowP s)), .v (I many), .v (.d (.list (L.map .int))), .v (I (M - many)), .un, .un]) := Ev.set_ (Ev.op2 (Ev.cb (Ev.cons_ (Ev.varo (os := L.map I) rfl (frzs_I _) rfl) Ev.nil_) rfl (maxA_L h)) (Ev.var rfl) rfl rfl rfl) rfl
  have b : D_going_on [.v (.d (rowP r)), .v (.d (rowP s)), .v (I many), .un, .un, .un, .un] = .ok (.rt (OW (onL (M - many) L)), _) := Ev.sq b3 (Ev.sq b4 (Ev.sq (Ev.set_ (Ev.lst Ev.nil_ rfl) rfl) (Ev.sq (Ev.for_ (Ev.iSq_ (Ev.var rfl) rfl) h1) (Ev.rt (Ev.mov rfl rfl)))))
  exact fn_ok (fl := [false, false, false]) (k := 4) (B := D_going_on) (os := [.d (rowP r), .d (rowP s), I many]) rfl b (by simp [outs, noFrs, nfW, noFr_hole])
theorem going_back {r s : List Int} {M many : Int} (hl : r.length ≤ 1000) (hs : r.length = s.length) (h : foldMax (leadsL 0 r s) = some M) : f_going_back [.d (rowP r), .d (rowP s), I many] = .ok (OW (bkL (M - many) (leadsL 0 r s)), [.hole, .hole, .hole]) := by
  have e1 := going_on (r := s.reverse) (s := r.reverse) (many := many) (by simp; omega) (max_rev hs h)
  have e2 : (onL (M + (s.sum - r.sum) - many) (leadsL 0 s.reverse r.reverse)).reverse = bkL (M - many) (leadsL 0 r s) := by
    rw [← back_eq hs]
    congr 2
    omega
  have rr : ∀ q : List Int, (q.map PyData.int).reverse = q.reverse.map .int := fun q => by rw [List.map_reverse]
  have b : D_going_back [.v (.d (rowP r)), .v (.d (rowP s)), .v (I many)] = .ok (.rt (OW (bkL (M - many) (leadsL 0 r s))), [.v (.d (rowP r)), .v (.d (rowP s)), .v (I many)]) :=
    Ev.rt (Ev.rv (Ev.cl (Ev.cons_ (Ev.rvT (Ev.var rfl) rfl (rr s)) (Ev.cons_ (Ev.rvT (Ev.var rfl) rfl (rr r)) (Ev.cons_ (Ev.var rfl) Ev.nil_))) rfl rfl e1) (Ev.frz_own (frzs_I _)) (by rw [rr, e2, List.map_map]; rfl))
  exact fn_ok (fl := [false, false, false]) (k := 0) (B := D_going_back) (os := [.d (rowP r), .d (rowP s), I many]) rfl b (by simp [outs, noFrs, nfW, noFr_hole])
end Pl
end
section
set_option Elab.async false
set_option linter.all false
set_option maxRecDepth 100000
set_option maxHeartbeats 2000000
namespace Pl
open PySem PySem.Spec L2 Lf Cp
open Cm (f_leads D_leads f_most_moves D_most_moves f_going_on D_going_on f_going_back D_going_back f_check_counter D_check_counter f_check_neighbours D_check_neighbours f_can_move D_can_move f_carried D_carried f_moved D_moved)
theorem catT {α : Type} {f : α → PyData} {xs ys : List α} (h : xs.length + ys.length ≤ 1000) : Ev.catV (.tuple (xs.map f)) (.tuple (ys.map f)) = some (.d (.tuple ((xs ++ ys).map f))) := by
  rw [Ev.catVt (few_of (by simp; omega)), List.map_append]
theorem fn_ok0 {fl : List Bool} {k : Nat} {B : DS} {os : List OT} {en : En} (hl : os.length = fl.length) (h : B (mkEn fl os ++ List.replicate k .un) = .ok (.nx, en)) (hf : noFrs (.d .none :: outs fl en) = true) : dFn fl k B os = .ok (.d .none, outs fl en) := by
  unfold dFn fin
  simp only [hl, if_true, h, hf]
theorem check_counter {xs : List PyData} {c : Nat} (h : c < xs.length) : f_check_counter [.d (.tuple xs), I c] = .ok (.d .none, [.hole, .hole]) := by
  have e1 := is_whole (i := (c : Int)) (by omega)
  have hge : fGe (.int c) (.int xs.length) = some (.bool false) := by
    have : decide ((xs.length : Int) ≤ c) = false := by simp; omega
    simp only [fGe, fI, ge_iff_le, this]
  have b : D_check_counter [.v (.d (.tuple xs)), .v (I c)] = .ok (.nx, [.v (.d (.tuple xs)), .v (I c)]) :=
    Ev.difN (Ev.orN (Ev.nt (b := true) (Ev.tv (Ev.cl (Ev.cons_ (Ev.var rfl) Ev.nil_) rfl rfl e1))) (Ev.tv (Ev.op2 (Ev.var rfl) (Ev.len_ (n := xs.length) (Ev.var rfl) rfl) rfl rfl hge))) Ev.nx_
  exact fn_ok0 (fl := [false, false]) (k := 0) (B := D_check_counter) (os := [.d (.tuple xs), I c]) rfl b rfl
theorem check_neighbours {m n c : Nat} {wide : Int} {H : List (List Int)} (h : HOk m n wide H) (hc : c + 1 < m) : f_check_neighbours [.d (hallP H), I c] = .ok (.d .none, [.hole, .hole]) := by
  have e1 := check_hall h
  have hl := h.len
  have e2 := check_counter (xs := (H.map rowP).take ((H.map rowP).length - 1)) (c := c) (by simp; omega)
  have hs : Ev.slV (hallP H) none (some (-1)) = some (.d (.tuple ((H.map rowP).take ((H.map rowP).length - 1)))) := by
    simp only [Ev.slV]
    rw [cutA_init (by intro q; have := congrArg List.length q; simp at this; simp [this] at hl; omega), List.dropLast_eq_take]
  have b : D_check_neighbours [.v (.d (hallP H)), .v (I c)] = .ok (.nx, [.v (.d (hallP H)), .v (I c)]) :=
    Ev.sq (Ev.ex (Ev.cl (Ev.cons_ (Ev.var rfl) Ev.nil_) rfl rfl e1)) (Ev.ex (Ev.cl (Ev.cons_ (Ev.sl_ (Ev.var rfl) Ev.pno (Ev.psm (Ev.neg Ev.d_)) rfl hs) (Ev.cons_ (Ev.var rfl) Ev.nil_)) rfl rfl e2))
  exact fn_ok0 (fl := [false, false]) (k := 0) (B := D_check_neighbours) (os := [.d (hallP H), I c]) rfl b rfl
section
variable {m n c : Nat} {wide M : Int} {A B : List (List Int)} {r s : List Int}
theorem at_c (hc : A.length = c) : atI ((A ++ r :: s :: B).map rowP) (c : Int) = some (rowP r) := by
  subst hc
  have : atI ((A ++ r :: s :: B).map rowP) (A.length : Int) = some (rowP ((A ++ r :: s :: B).getD A.length [])) := atI_getD (by simp)
  rw [this]
  simp
theorem at_c1 (hc : A.length = c) : atI ((A ++ r :: s :: B).map rowP) ((c : Int) + 1) = some (rowP s) := by
  subst hc
  have : atI ((A ++ r :: s :: B).map rowP) ((A.length + 1 : Nat) : Int) = some (rowP ((A ++ r :: s :: B).getD (A.length + 1) [])) := atI_getD (by simp)
  rw [show (A.length : Int) + 1 = ((A.length + 1 : Nat) : Int) by omega, this]
  simp [List.getD_eq_getElem?_getD]
/-- the rest, once it is known what is moved -/
def crR : DS := dSq (dSet 6 (eTp (eLc [8, 9] (iZ2 (aCons (eVar 3) (aCons (eVar 5) aNil))) (gTp [8, 9]) tYs (eOp2 fSub (eVar 8) (eVar 9))))) (dSq (dSet 7 (eTp (eLc [8, 9] (iZ2 (aCons (eVar 4) (aCons (eVar 5) aNil))) (gTp [8, 9]) tYs (eOp2 fAdd (eVar 8) (eVar 9))))) (dRt (eCat (eCat (eSl (eVar 0) pNo (pSm (eVar 1))) (eTup (aCons (eVar 6) (aCons (eVar 7) aNil)))) (eSl (eVar 0) (pSm (eOp2 fAdd (eVar 1) (eD (.int 2)))) pNo))))
theorem zipRow {op : Int → Int → Int} {f : PyData → PyData → Option PyData} (hf : ∀ a b, f (.int a) (.int b) = some (.int (op a b))) {i : Nat} {en e1 : En} {q g : List Int} (hq : q.length ≤ 1000) (h10 : en.length = 10) (h1 : aCons (eVar i) (aCons (eVar 5) aNil) en = .ok ([.d (rowP q), .d (dayP g)], e1)) (hw : wipeE [8, 9] e1 = some e1) (st : ∀ a b, gTp [8, 9] (.tuple [.int a, .int b]) e1 = some ((e1.set 8 (.v (I a))).set 9 (.v (I b)))) (hl : e1.length = 10) (hw2 : ∀ a b, wipeE [8, 9] ((e1.set 8 (.v (I a))).set 9 (.v (I b))) = some e1) :
    eTp (eLc [8, 9] (iZ2 (aCons (eVar i) (aCons (eVar 5) aNil))) (gTp [8, 9]) tYs (eOp2 f (eVar 8) (eVar 9))) en = .ok (.d (rowP (List.zipWith op q g)), e1) := by
  have e := lcD_map (vs := [8, 9]) (g := gTp [8, 9]) (te := eOp2 f (eVar 8) (eVar 9)) (en := e1) (item := fun p : Int × Int => .tuple [.int p.1, .int p.2]) (fun p => I (op p.1 p.2)) (q.zip g) [] (by simp; omega) (by
    rintro ⟨a, b⟩ _
    refine ⟨_, _, st a b, Ev.op2 (Ev.var ?_) (Ev.var ?_) rfl rfl (hf a b), hw2 a b⟩
    · rw [List.getElem?_set_ne (by omega), List.getElem?_set_self (by omega)]
    · rw [List.getElem?_set_self (by simp; omega)])
  have hz : iZ2 (aCons (eVar i) (aCons (eVar 5) aNil)) en = .ok ((q.zip g).map fun p => .tuple [.int p.1, .int p.2], e1) := by
    simp only [iZ2, h1, bd]
    simp [frzs, frz, dItems, zip2_map]
  have hm : (q.zip g).map (fun p => I (op p.1 p.2)) = (List.zipWith op q g).map I := by simp [List.zip, List.map_zipWith]
  refine Ev.tp (o := OW (List.zipWith op q g)) (e1 := e1) ?_ (frz_I _)
  unfold eLc
  rw [hz]
  simp only [bd, hw]
  rw [e, hm]
  rfl
theorem crR_ok {k : Int} {g : List Int} (h : HOk m n wide (A ++ r :: s :: B)) (hc : A.length = c) : ∃ s0 s1 s2 e, crR [.v (.d (hallP (A ++ r :: s :: B))), .v (I c), .v (I k), .v (.d (rowP r)), .v (.d (rowP s)), .v (OW g), .un, .un, .un, .un] = .ok (.rt (.d (hallP (A ++ subL r g :: addL s g :: B))), s0 :: s1 :: s2 :: e) := by
  have hl := h.len
  have hm8 := h.m8
  have hn8 := h.n8
  have hr := (h.rows r (by simp)).1
  have hs := (h.rows s (by simp)).1
  simp only [List.length_append, List.length_cons] at hl
  have z1 := zipRow (op := (· - ·)) (f := fSub) (fun a b => rfl) (i := 3) (q := r) (g := g) (en := [.v (.d (hallP (A ++ r :: s :: B))), .v (I c), .v (I k), .v (.d (rowP r)), .v (.d (rowP s)), .v (OW g), .un, .un, .un, .un]) (e1 := [.v (.d (hallP (A ++ r :: s :: B))), .v (I c), .v (I k), .v (.d (rowP r)), .v (.d (rowP s)), .v (.d (dayP g)), .un, .un, .un, .un]) (by omega) rfl (Ev.cons_ (Ev.var rfl) (Ev.cons_ (Ev.varo (os := g.map I) rfl (frzs_I _) rfl) Ev.nil_)) rfl (fun a b => rfl) rfl (fun a b => rfl)
  have z2 := zipRow (op := (· + ·)) (f := fAdd) (fun a b => rfl) (i := 4) (q := s) (g := g) (en := [.v (.d (hallP (A ++ r :: s :: B))), .v (I c), .v (I k), .v (.d (rowP r)), .v (.d (rowP s)), .v (.d (dayP g)), .v (.d (rowP (subL r g))), .un, .un, .un]) (e1 := [.v (.d (hallP (A ++ r :: s :: B))), .v (I c), .v (I k), .v (.d (rowP r)), .v (.d (rowP s)), .v (.d (dayP g)), .v (.d (rowP (subL r g))), .un, .un, .un]) (by omega) rfl (Ev.cons_ (Ev.var rfl) (Ev.cons_ (Ev.var rfl) Ev.nil_)) rfl (fun a b => rfl) rfl (fun a b => rfl)
  have tk : (A ++ r :: s :: B).take c = A := by subst hc; simp
  have dr : (A ++ r :: s :: B).drop (c + 2) = B := by
    subst hc
    rw [List.drop_append, List.drop_eq_nil_of_le (by omega), show A.length + 2 - A.length = 2 by omega]
    rfl
  have c1 : Ev.catV (.tuple (((A ++ r :: s :: B).take c).map rowP)) (.tuple ([subL r g, addL s g].map rowP)) = some (.d (.tuple ((A ++ [subL r g, addL s g]).map rowP))) := by
    rw [tk, catT (by simp; omega)]
  have c2 : Ev.catV (.tuple ((A ++ [subL r g, addL s g]).map rowP)) (.tuple (((A ++ r :: s :: B).drop (c + 2)).map rowP)) = some (.d (hallP (A ++ subL r g :: addL s g :: B))) := by
    rw [dr, catT (by simp; omega)]
    simp
  exact ⟨_, _, _, _, Ev.sq (Ev.set_ z1 rfl) (Ev.sq (Ev.set_ z2 rfl) (Ev.rt (Ev.cat (Ev.cat (Ev.sl_ (Ev.var rfl) Ev.pno (Ev.psm (Ev.var rfl)) rfl (sl_takeT rfl)) (Ev.tup (os := [.d (rowP (subL r g)), .d (rowP (addL s g))]) (Ev.cons_ (Ev.var rfl) (Ev.cons_ (Ev.var rfl) Ev.nil_)) rfl rfl) rfl rfl c1) (Ev.sl_ (Ev.var rfl) (Ev.psm (Ev.op2 (Ev.var rfl) Ev.d_ rfl rfl rfl)) Ev.pno rfl (sl_dropT (s := c + 2) (by omega))) rfl rfl c2)))⟩
theorem sub_neg : ∀ (r g : List Int), subL r (g.map (- ·)) = addL r g
  | [], _ => by simp [subL, addL]
  | _ :: _, [] => by simp [subL, addL]
  | a :: r, b :: g => by
    have := sub_neg r g
    simp only [subL, addL, List.map_cons, List.zipWith_cons_cons] at this ⊢
    rw [this]
    congr 1
    omega
theorem add_neg : ∀ (r g : List Int), addL r (g.map (- ·)) = subL r g
  | [], _ => by simp [subL, addL]
  | _ :: _, [] => by simp [subL, addL]
  | a :: r, b :: g => by
    have := add_neg r g
    simp only [subL, addL, List.map_cons, List.zipWith_cons_cons] at this ⊢
    rw [this]
    congr 1
/-- what is left, and what the next has, after so many minutes are moved -/
def lft (M k : Int) (r s : List Int) : List Int := if 0 ≤ k then subL r (onL (M - k) (leadsL 0 r s)) else addL r (bkL (M + k) (leadsL 0 r s))
def nxt (M k : Int) (r s : List Int) : List Int := if 0 ≤ k then addL s (onL (M - k) (leadsL 0 r s)) else subL s (bkL (M + k) (leadsL 0 r s))
theorem carried {k : Int} (h : HOk m n wide (A ++ r :: s :: B)) (hc : A.length = c) (hM : foldMax (leadsL 0 r s) = some M) : f_carried [.d (hallP (A ++ r :: s :: B)), I c, I k] = .ok (.d (hallP (A ++ lft M k r s :: nxt M k r s :: B)), [.hole, .hole, .hole]) := by
  have hr := (h.rows r (by simp)).1
  have hs := (h.rows s (by simp)).1
  have hn8 := h.n8
  have b3 : dSet 3 (eIx (eVar 0) (eVar 1)) [.v (.d (hallP (A ++ r :: s :: B))), .v (I c), .v (I k), .un, .un, .un, .un, .un, .un, .un] = .ok (.nx, [.v (.d (hallP (A ++ r :: s :: B))), .v (I c), .v (I k), .v (.d (rowP r)), .un, .un, .un, .un, .un, .un]) := Ev.set_ (Ev.ix (Ev.var rfl) (Ev.var rfl) (Ev.ixVt (at_c hc))) rfl
  have b4 : dSet 4 (eIx (eVar 0) (eOp2 fAdd (eVar 1) (eD (.int 1)))) [.v (.d (hallP (A ++ r :: s :: B))), .v (I c), .v (I k), .v (.d (rowP r)), .un, .un, .un, .un, .un, .un] = .ok (.nx, [.v (.d (hallP (A ++ r :: s :: B))), .v (I c), .v (I k), .v (.d (rowP r)), .v (.d (rowP s)), .un, .un, .un, .un, .un]) := Ev.set_ (Ev.ix (Ev.var rfl) (Ev.op2 (Ev.var rfl) Ev.d_ rfl rfl rfl) (Ev.ixVt (at_c1 hc))) rfl
  have t5 : tV (eOp2 fGe (eVar 2) (eD (.int 0))) [.v (.d (hallP (A ++ r :: s :: B))), .v (I c), .v (I k), .v (.d (rowP r)), .v (.d (rowP s)), .un, .un, .un, .un, .un] = .ok (decide (0 ≤ k), [.v (.d (hallP (A ++ r :: s :: B))), .v (I c), .v (I k), .v (.d (rowP r)), .v (.d (rowP s)), .un, .un, .un, .un, .un]) := Ev.tv (Ev.op2 (Ev.var rfl) Ev.d_ rfl rfl rfl)
  have fin : ∀ s0 s1 s2 e, D_carried [.v (.d (hallP (A ++ r :: s :: B))), .v (I c), .v (I k), .un, .un, .un, .un, .un, .un, .un] = .ok (.rt (.d (hallP (A ++ lft M k r s :: nxt M k r s :: B))), s0 :: s1 :: s2 :: e) → f_carried [.d (hallP (A ++ r :: s :: B)), I c, I k] = .ok (.d (hallP (A ++ lft M k r s :: nxt M k r s :: B)), [.hole, .hole, .hole]) := fun s0 s1 s2 e he =>
    fn_ok (fl := [false, false, false]) (k := 7) (B := D_carried) (os := [.d (hallP (A ++ r :: s :: B)), I c, I k]) rfl he rfl
  by_cases hk : 0 ≤ k
  · rw [show decide (0 ≤ k) = true by simpa using hk] at t5
    have e5 := going_on (many := k) (by omega) hM
    have b5 := Ev.difY (e := dSet 5 (eLc [8] (iSq (eCl 3 f_going_back (aCons (eVar 3) (aCons (eVar 4) (aCons (eNeg (eVar 2)) aNil))))) (gNm 8) tYs (eNeg (eVar 8)))) t5 (Ev.set_ (i := 5) (Ev.cl (n := 3) (f := f_going_on) (dr := aCons (eVar 3) (aCons (eVar 4) (aCons (eVar 2) aNil))) (Ev.cons_ (Ev.var rfl) (Ev.cons_ (Ev.var rfl) (Ev.cons_ (Ev.var rfl) Ev.nil_))) rfl rfl e5) rfl)
    obtain ⟨s0, s1, s2, e, b6⟩ := crR_ok (k := k) (g := onL (M - k) (leadsL 0 r s)) h hc
    refine fin s0 s1 s2 e ?_
    simp only [lft, nxt, if_pos hk]
    exact Ev.sq b3 (Ev.sq b4 (Ev.sq b5 b6))
  · rw [show decide (0 ≤ k) = false by simpa using hk] at t5
    have e5 := going_back (many := -k) (by omega) (by omega) hM
    rw [show M - -k = M + k by omega] at e5
    have hbl : (bkL (M + k) (leadsL 0 r s)).length ≤ 1000 := by rw [bkL_len, leadsL_len]; omega
    have e := lcD_map (vs := [8]) (g := gNm 8) (te := eNeg (eVar 8)) (en := [.v (.d (hallP (A ++ r :: s :: B))), .v (I c), .v (I k), .v (.d (rowP r)), .v (.d (rowP s)), .un, .un, .un, .un, .un]) (item := fun t : Int => .int t) (fun t => I (-t)) (bkL (M + k) (leadsL 0 r s)) [] (by simp; omega) (fun t _ => ⟨[.v (.d (hallP (A ++ r :: s :: B))), .v (I c), .v (I k), .v (.d (rowP r)), .v (.d (rowP s)), .un, .un, .un, .v (I t), .un], _, rfl, Ev.neg (Ev.var rfl), rfl⟩)
    have hL : eLc [8] (iSq (eCl 3 f_going_back (aCons (eVar 3) (aCons (eVar 4) (aCons (eNeg (eVar 2)) aNil))))) (gNm 8) tYs (eNeg (eVar 8)) [.v (.d (hallP (A ++ r :: s :: B))), .v (I c), .v (I k), .v (.d (rowP r)), .v (.d (rowP s)), .un, .un, .un, .un, .un] = .ok (OW ((bkL (M + k) (leadsL 0 r s)).map (- ·)), [.v (.d (hallP (A ++ r :: s :: B))), .v (I c), .v (I k), .v (.d (rowP r)), .v (.d (rowP s)), .un, .un, .un, .un, .un]) := by
      unfold eLc
      have hi : iSq (eCl 3 f_going_back (aCons (eVar 3) (aCons (eVar 4) (aCons (eNeg (eVar 2)) aNil)))) [.v (.d (hallP (A ++ r :: s :: B))), .v (I c), .v (I k), .v (.d (rowP r)), .v (.d (rowP s)), .un, .un, .un, .un, .un] = .ok ((bkL (M + k) (leadsL 0 r s)).map PyData.int, [.v (.d (hallP (A ++ r :: s :: B))), .v (I c), .v (I k), .v (.d (rowP r)), .v (.d (rowP s)), .un, .un, .un, .un, .un]) :=
        Ev.iSq_ (Ev.cl (Ev.cons_ (Ev.var rfl) (Ev.cons_ (Ev.var rfl) (Ev.cons_ (Ev.neg (Ev.var rfl)) Ev.nil_))) rfl rfl e5) (frz_I _)
      rw [hi]
      refine Eq.trans e ?_
      simp [List.map_map, Function.comp_def]
    have b5 := Ev.difN (d := dSet 5 (eCl 3 f_going_on (aCons (eVar 3) (aCons (eVar 4) (aCons (eVar 2) aNil))))) t5 (Ev.set_ (i := 5) hL rfl)
    obtain ⟨s0, s1, s2, e, b6⟩ := crR_ok (k := k) (g := (bkL (M + k) (leadsL 0 r s)).map (- ·)) h hc
    refine fin s0 s1 s2 e ?_
    simp only [lft, nxt, if_neg hk]
    rw [sub_neg, add_neg] at b6
    exact Ev.sq b3 (Ev.sq b4 (Ev.sq b5 b6))
theorem moved {k : Int} (h : HOk m n wide (A ++ r :: s :: B)) (hc : A.length = c) (hM : foldMax (leadsL 0 r s) = some M) (h1 : k ≤ M) (h2 : -k ≤ M + s.sum - r.sum) : f_moved [.d (hallP (A ++ r :: s :: B)), I c, I k] = .ok (.d (hallP (A ++ lft M k r s :: nxt M k r s :: B)), [.hole, .hole, .hole]) := by
  have hl := h.len
  have hr := (h.rows r (by simp)).1
  have hn8 := h.n8
  have e1 := check_neighbours h (c := c) (by simp at hl; omega)
  have e2 := most_moves (by omega) hM
  have e3 := carried (k := k) h hc hM
  have g1 : fGt (.int k) (.int M) = some (.bool false) := by
    have : decide (k > M) = false := by simp; omega
    simp only [fGt, fI, this]
  have g2 : fGt (.int (-k)) (.int (M + s.sum - r.sum)) = some (.bool false) := by
    have : decide (-k > M + s.sum - r.sum) = false := by simp; omega
    simp only [fGt, fI, this]
  have b : D_moved [.v (.d (hallP (A ++ r :: s :: B))), .v (I c), .v (I k), .un, .un] = .ok (.rt (.d (hallP (A ++ lft M k r s :: nxt M k r s :: B))), [.v (.d (hallP (A ++ r :: s :: B))), .v (I c), .v (I k), .v (I M), .v (I (M + s.sum - r.sum))]) :=
    Ev.sq (Ev.ex (Ev.cl (Ev.cons_ (Ev.var rfl) (Ev.cons_ (Ev.var rfl) Ev.nil_)) rfl rfl e1))
    (Ev.sq (Ev.difN (Ev.tv (b := false) (Ev.tyNot (T := "int") (t := "int") (Ev.var rfl) rfl)) Ev.nx_)
    (Ev.sq (Ev.asg (Ev.cl (Ev.cons_ (Ev.ix (Ev.var rfl) (Ev.var rfl) (Ev.ixVt (at_c hc))) (Ev.cons_ (Ev.ix (Ev.var rfl) (Ev.op2 (Ev.var rfl) Ev.d_ rfl rfl rfl) (Ev.ixVt (at_c1 hc))) Ev.nil_)) rfl rfl e2) rfl rfl)
    (Ev.sq (Ev.difN (Ev.orN (Ev.tv (Ev.op2 (Ev.var rfl) (Ev.var rfl) rfl rfl g1)) (Ev.tv (Ev.op2 (Ev.neg (Ev.var rfl)) (Ev.var rfl) rfl rfl g2))) Ev.nx_)
    (Ev.rt (Ev.cl (Ev.cons_ (Ev.var rfl) (Ev.cons_ (Ev.var rfl) (Ev.cons_ (Ev.var rfl) Ev.nil_))) rfl rfl e3)))))
  exact fn_ok (fl := [false, false, false]) (k := 2) (B := D_moved) (os := [.d (hallP (A ++ r :: s :: B)), I c, I k]) rfl b rfl
end
end Pl
end
section
set_option Elab.async false
set_option linter.all false
set_option maxRecDepth 100000
set_option maxHeartbeats 2000000
/-! ### displays as terms -/
namespace Pl
open PySem PySem.Spec L2 Lf
end Pl
namespace Ev
open PySem PySem.Spec L2 Lf Pl
/-- [te for g in L] -/
theorem lcm {α : Type} {item : α → PyData} {vs : List Nat} {di : DI} {g : DG} {te : DE} {en e1 e2 : En} {os : List OT} (o : α → OT) (L : List α) (hi : di en = .ok (L.map item, e1)) (hw : wipeE vs e1 = some e2) (hl : L.length ≤ 100000)
    (h : ∀ a ∈ L, ∃ e3 e4, g (item a) e2 = some e3 ∧ te e3 = .ok (o a, e4) ∧ wipeE vs e4 = some e2) (he : L.map o = os) : eLc vs di g tYs te en = .ok (.own os, e2) := by
  subst he
  unfold eLc
  simp only [hi, bd, hw]
  simpa using lcD_map (vs := vs) (g := g) (te := te) (en := e2) (item := item) o L [] (by simpa using hl) h
end Ev
namespace Pl
open PySem PySem.Spec L2 Lf
theorem noFrs_DY (rs : List (List Int)) : noFrs (rs.map DY) = true := by induction rs <;> simp_all [noFrs, noFr]
theorem lt_no {i j : Int} (h : j ≤ i) : fLt (.int i) (.int j) = some (.bool false) := by simp only [fLt, fI, show ¬ i < j by omega, decide_false]
theorem lt_yes {i j : Int} (h : i < j) : fLt (.int i) (.int j) = some (.bool true) := by simp only [fLt, fI, h, decide_true]
theorem gt_no {i j : Int} (h : i ≤ j) : fGt (.int i) (.int j) = some (.bool false) := by simp only [fGt, fI, show ¬ j < i by omega, decide_false]
theorem gt_yes {i j : Int} (h : j < i) : fGt (.int i) (.int j) = some (.bool true) := by simp only [fGt, fI, h, decide_true]
theorem eq_no {i j : Int} (h : i ≠ j) : fEq (.int i) (.int j) = some (.bool false) := by rw [fEq_int, decide_eq_false h]
theorem eq_yes {i j : Int} (h : i = j) : fEq (.int i) (.int j) = some (.bool true) := by rw [fEq_int, decide_eq_true h]
theorem ne_no {i j : Int} (h : i = j) : fNe (.int i) (.int j) = some (.bool false) := by rw [fNe_int, decide_eq_true h]; rfl
theorem pow10_11 : fPow (.int 10) (.int 11) = some (.int (10 ^ 11)) := by
  have h2 : (0 : Int) ≤ 11 ∧ (Builtin.Int.intBits 10 : Int) * 11 ≤ 2 ^ 27 := by decide
  unfold fPow fI
  simp only [if_pos h2]
  rfl
end Pl
namespace Ev
open PySem PySem.Spec L2 Lf Pl
/-- range(1, n) -/
theorem r2w {da : DA} {en e1 : En} {lo n : Nat} (h : da en = .ok ([I lo, I n], e1)) (h1 : lo ≤ 1000) (hn : n ≤ 1000) : iR2 da en = .ok ((List.range (n - lo)).map (fun i : Nat => .int (lo + i)), e1) := by
  have a := inR_nat h1
  have b := inR_nat hn
  have e : ((n : Int) - lo).toNat = n - lo := by omega
  simp only [iR2, h, bd, a, b, rng, e]
  simp
end Ev
end
section
set_option Elab.async false
set_option linter.all false
set_option maxRecDepth 100000
set_option maxHeartbeats 2000000
namespace Ev
open PySem PySem.Spec L2 Lf Pl
section
variable {en e1 : En} {i j k q r : Nat} {b : Bool} {os rs : List OT} {a c : Int} {x : PyData}
theorem row_ (h : ownAt en i = some (b, os)) (h2 : sVar j en = some (.int a)) (h3 : ixN os.length a = some q) (h4 : os[q]? = some (.own rs)) : rowAt en i j = some (b, os, q, rs) := by simp only [rowAt, h, h2, h3, h4]
theorem ix3 (h : rowAt en i j = some (b, os, q, rs)) (hk : sVar k en = some (.int c)) (f : ixN rs.length c = some r) (g : rs[r]? = some (.d x)) : eIx3 i j k en = .ok (.d x, en) := by simp only [eIx3, h, hk, f, g]
theorem appAt (h : rowAt en i j = some (b, os, q, rs)) (hk : dVar k en = some x) (f : few rs.length = true) (hr : en.set i (mkS b (.own (os.set q (.own (rs ++ [.d x]))))) = e1) : eAppAt i j k en = .ok (.d .none, e1) := by simp only [eAppAt, h, hk, f, if_true, hr]
end
/-- range(n) -/
theorem r1w {da : DA} {en e1 : En} {n : Nat} {j : Int} (h : da en = .ok ([I j], e1)) (hj : j = n) (hn : n ≤ 1000) : iR1 da en = .ok ((List.range n).map (fun i : Nat => .int i), e1) := by
  subst hj
  have b := inR_nat hn
  simp only [iR1, h, bd, b, Int.toNat_natCast, if_true, rng0]
end Ev
namespace Pl
open PySem PySem.Spec L2 Lf
end Pl
end
section
set_option Elab.async false
set_option linter.all false
set_option maxRecDepth 100000
set_option maxHeartbeats 2000000
/-! ### dicts as terms -/
namespace Pl
open PySem PySem.Spec L2 Lf
end Pl
end
section
set_option Elab.async false
set_option linter.all false
set_option maxRecDepth 100000
set_option maxHeartbeats 2000000
namespace Ev
open PySem PySem.Spec L2 Lf Pl
/-- reversed(range(n)) of a natural n -/
theorem rev1 {da : DE} {en e1 : En} {n : Nat} {j : Int} (h : da en = .ok (.d (.int j), e1)) (hj : j = n) (hn : n ≤ 1000) : iRev1 da en = .ok ((List.range n).reverse.map (fun i : Nat => .int i), e1) := by
  subst hj
  have a := inR_nat hn
  have e : (((n : Nat) : Int) - 0).toNat = n := by omega
  simp only [iRev1, h, bd, a, rng, e, if_true]
  simp
end Ev
end
section
set_option Elab.async false
set_option linter.all false
set_option maxRecDepth 100000
set_option maxHeartbeats 1000000
/-! Days later, and the later of two days (for k05). Plain lists of integers only. -/
namespace Pl
open PySem PySem.Spec L2 Lf Cp
/-! ### all later by k -/
/-! ### the later of two days -/
/-! ### from one to the next -/
/-! ### a little later: not before, and no later than that -/
/-- d stands to c: nowhere before, nowhere later than by k -/
def Late (k : Int) : List Int → List Int → Prop
  | c :: cs, d :: ds => (c ≤ d ∧ d ≤ c + k) ∧ Late k cs ds
  | [], [] => True
  | _, _ => False
theorem Late.refl {k : Int} (hk : 0 ≤ k) : ∀ c : List Int, Late k c c
  | [] => trivial
  | c :: cs => ⟨by omega, Late.refl hk cs⟩
/-- row by row -/
def LateR (k : Int) : List (List Int) → List (List Int) → Prop
  | c :: cs, d :: ds => Late k c d ∧ LateR k cs ds
  | [], [] => True
  | _, _ => False
end Pl
end
section
set_option Elab.async false
set_option linter.all false
set_option maxRecDepth 100000
set_option maxHeartbeats 1000000
/-! k05: what the later rows are, put together. Plain. -/
namespace Pl
open PySem PySem.Spec L2 Lf Cp
/-! ### those ahead -/
/-! ### one row otherwise -/
theorem LateR.refl {k : Int} (hk : 0 ≤ k) : ∀ A, LateR k A A
  | [] => trivial
  | _ :: A => ⟨Late.refl hk _, LateR.refl hk A⟩
theorem LateR.app {k : Int} : ∀ {A A' B B' : List (List Int)}, LateR k A A' → LateR k B B' → LateR k (A ++ B) (A' ++ B')
  | [], [], _, _, _, h => h
  | _ :: _, _ :: _, _, _, h, h' => ⟨h.1, LateR.app h.2 h'⟩
  | [], _ :: _, _, _, h, _ => h.elim
  | _ :: _, [], _, _, h, _ => h.elim
theorem split_at {α : Type} {L : List α} {i : Nat} (h : i < L.length) : L = L.take i ++ L[i] :: L.drop (i + 1) := by
  rw [← List.drop_eq_getElem_cons h, List.take_append_drop]
/-! ### the day with one who comes later -/
theorem Late.app {k : Int} : ∀ {a b c d : List Int}, Late k a b → Late k c d → Late k (a ++ c) (b ++ d)
  | [], [], _, _, _, h => h
  | _ :: _, _ :: _, _, _, h, h' => ⟨h.1, Late.app h.2 h'⟩
  | [], _ :: _, _, _, h, _ => h.elim
  | _ :: _, [], _, _, h, _ => h.elim
/-! ### two days -/
theorem TOk.max {n : Nat} {t1 t2 : Int} {r s : List Int} (h : TOk n t1 r) (k : TOk n t2 s) : TOk n (max t1 t2) (List.zipWith max r s) := by
  obtain ⟨h1, h2, h3⟩ := h
  obtain ⟨k1, k2, k3⟩ := k
  refine ⟨by simp [h1, k1], ?_, fun x hx => ?_⟩
  · rw [List.pairwise_iff_getElem] at *
    intro i j hi hj hij
    simp only [List.getElem_zipWith]
    have := h2 i j (by simp at hi; omega) (by simp at hj; omega) hij
    have := k2 i j (by simp at hi; omega) (by simp at hj; omega) hij
    omega
  · obtain ⟨i, hi, rfl⟩ := List.mem_iff_getElem.mp hx
    simp only [List.getElem_zipWith]
    have := h3 _ (List.getElem_mem (by simp at hi; omega : i < r.length))
    have := k3 _ (List.getElem_mem (by simp at hi; omega : i < s.length))
    omega
end Pl
namespace Pl
open PySem PySem.Spec L2 Lf Cp
end Pl
end
section
set_option Elab.async false
set_option linter.all false
set_option maxRecDepth 100000
set_option maxHeartbeats 1000000
/-! rooms: the table of times, told by its equation. Plain. -/
namespace Pl
open PySem PySem.Spec L2 Lf Cp
def cameT (day : List Int) (G : List (List Int)) (i k : Nat) : Int := if i = 0 then day.getD k 0 else at2 G (i - 1) k
def prevB (G : List (List Int)) (i k : Nat) : Int := if k = 0 then 0 else at2 G i (k - 1)
def freeT (m p : Nat) (G : List (List Int)) (i k : Nat) : Int := if i + 1 < m ∧ p < k then at2 G (i + 1) (k - p - 1) else 0
def rhsT (m : Nat) (rs : List (List Int)) (day : List Int) (p : Nat) (G : List (List Int)) (i k : Nat) : Int := max (max (cameT day G i k) (prevB G i k) + at2 rs i k) (freeT m p G i k)
structure Tab (m n : Nat) (G : List (List Int)) : Prop where
  len : G.length = m
  row : ∀ r ∈ G, r.length = n
structure Blk (m n : Nat) (rs : List (List Int)) (day : List Int) (p : Nat) (G : List (List Int)) : Prop where
  tab : Tab m n G
  eq : ∀ i k, i < m → k < n → at2 G i k = rhsT m rs day p G i k
theorem tab_ind {m n : Nat} (P : Nat → Nat → Prop) (h : ∀ i k, i < m → k < n → (∀ i' k', k' < k → i' < m → P i' k') → (∀ i', i' < i → P i' k) → P i k) : ∀ k i, i < m → k < n → P i k := by
  intro k
  induction k using Nat.strongRecOn with
  | _ k ihk =>
    intro i
    induction i using Nat.strongRecOn with
    | _ i ihi => exact fun hi hk => h i k hi hk (fun i' k' h1 h2 => ihk k' h1 i' h2 (by omega)) (fun i' h1 => ihi i' h1 (by omega) hk)
theorem Tab.get {m n : Nat} {G : List (List Int)} (h : Tab m n G) {i : Nat} (hi : i < m) : (G.getD i []).length = n := by
  have := h.len
  exact h.row _ (getD_mem3 (by omega))
where
  getD_mem3 {G : List (List Int)} {i : Nat} (hi : i < G.length) : G.getD i [] ∈ G := by simp [List.getD_eq_getElem?_getD, hi]
theorem Blk.nn {m n p : Nat} {rs : List (List Int)} {day : List Int} {G : List (List Int)} (h : Blk m n rs day p G) (hr : ∀ i k, 0 ≤ at2 rs i k) (hd : ∀ k, 0 ≤ day.getD k 0) : ∀ k i, i < m → k < n → 0 ≤ at2 G i k :=
  tab_ind _ fun i k hi hk ih1 ih2 => by
    rw [h.eq i k hi hk]
    unfold rhsT cameT
    have := hr i k
    have := hd k
    have : 0 ≤ if i = 0 then day.getD k 0 else at2 G (i - 1) k := by
      split
      · assumption
      · exact ih2 _ (by omega)
    omega
theorem Blk.mono {m n p : Nat} {rs : List (List Int)} {day : List Int} {G : List (List Int)} (h : Blk m n rs day p G) (hr : ∀ i k, 0 ≤ at2 rs i k) {i k : Nat} (hi : i < m) (hk : k + 1 < n) : at2 G i k ≤ at2 G i (k + 1) := by
  rw [h.eq i (k + 1) hi hk]
  unfold rhsT prevB
  have := hr i (k + 1)
  simp only [Nat.add_sub_cancel, Nat.add_eq_zero_iff, Nat.succ_ne_zero, and_false, if_false]
  omega
theorem mx1 {a a' b b' f f' r : Int} : Max.max (Max.max (Max.max a b + r) f) (Max.max (Max.max a' b' + r) f') = Max.max (Max.max (Max.max a a') (Max.max b b') + r) (Max.max f f') := by omega
theorem mx0 {a a' r : Int} : Max.max (Max.max (Max.max a 0 + r) 0) (Max.max (Max.max a' 0 + r) 0) = Max.max (Max.max (Max.max a a') 0 + r) 0 := by omega
theorem mx2 {a a' b b' r : Int} : Max.max (Max.max (Max.max a b + r) 0) (Max.max (Max.max a' b' + r) 0) = Max.max (Max.max (Max.max a a') (Max.max b b') + r) 0 := by omega
theorem Tab.map {m n : Nat} {G : List (List Int)} (h : Tab m n G) (f : Int → Int) : Tab m n (G.map (·.map f)) := ⟨by simp [h.len], fun r hr => by
  obtain ⟨q, hq, rfl⟩ := List.mem_map.mp hr
  simp [h.row q hq]⟩
theorem at2_zip {m n : Nat} {G G' : List (List Int)} (h : Tab m n G) (h' : Tab m n G') (f : Int → Int → Int) {i k : Nat} (hi : i < m) (hk : k < n) : at2 (List.zipWith (List.zipWith f) G G') i k = f (at2 G i k) (at2 G' i k) := by
  have l := h.len
  have l' := h'.len
  have r := h.row _ (List.getElem_mem (show i < G.length by omega))
  have r' := h'.row _ (List.getElem_mem (show i < G'.length by omega))
  simp only [at2, List.getD_eq_getElem?_getD, List.getElem?_zipWith, List.getElem?_eq_getElem (show i < G.length by omega), List.getElem?_eq_getElem (show i < G'.length by omega), Option.getD_some, List.getElem?_eq_getElem (show k < (G[i]'(by omega)).length by omega), List.getElem?_eq_getElem (show k < (G'[i]'(by omega)).length by omega)]
theorem Tab.zip {m n : Nat} {G G' : List (List Int)} (h : Tab m n G) (h' : Tab m n G') (f : Int → Int → Int) : Tab m n (List.zipWith (List.zipWith f) G G') := ⟨by simp [h.len, h'.len], fun r hr => by
  obtain ⟨i, hi, rfl⟩ := List.mem_iff_getElem.mp hr
  simp only [List.length_zipWith] at hi
  simp only [List.getElem_zipWith, List.length_zipWith]
  rw [h.row _ (List.getElem_mem _), h'.row _ (List.getElem_mem _), Nat.min_self]⟩
/-- the later of two days -/
theorem Blk.max {m n p : Nat} {rs : List (List Int)} {day day' : List Int} {G G' : List (List Int)} (h : Blk m n rs day p G) (h' : Blk m n rs day' p G') (hd : day.length = n) (hd' : day'.length = n) : Blk m n rs (List.zipWith max day day') p (List.zipWith (List.zipWith max) G G') := by
  refine ⟨h.tab.zip h'.tab _, fun i k hi hk => ?_⟩
  have a : ∀ i' k', i' < m → k' < n → at2 (List.zipWith (List.zipWith Max.max) G G') i' k' = Max.max (at2 G i' k') (at2 G' i' k') := fun i' k' h1 h2 => at2_zip h.tab h'.tab Max.max h1 h2
  rw [a i k hi hk, h.eq i k hi hk, h'.eq i k hi hk]
  unfold rhsT cameT prevB freeT
  have e1 : (if i = 0 then (List.zipWith Max.max day day').getD k 0 else at2 (List.zipWith (List.zipWith Max.max) G G') (i - 1) k) = Max.max (if i = 0 then day.getD k 0 else at2 G (i - 1) k) (if i = 0 then day'.getD k 0 else at2 G' (i - 1) k) := by
    split
    · simp [List.getD_eq_getElem?_getD, List.getElem?_zipWith, show k < day.length by omega, show k < day'.length by omega]
    · exact a _ _ (by omega) hk
  rw [e1]
  by_cases hk0 : k = 0
  · simp only [hk0, if_true, Nat.not_lt_zero, and_false, if_false]
    exact mx0
  · simp only [hk0, if_false]
    rw [a i (k - 1) hi (by omega)]
    by_cases c : i + 1 < m ∧ p < k
    · simp only [if_pos c]
      rw [a (i + 1) (k - p - 1) c.1 (by omega)]
      exact mx1
    · simp only [if_neg c]
      exact mx2
end Pl
end
section
set_option Elab.async false
set_option linter.all false
set_option maxRecDepth 100000
set_option maxHeartbeats 2000000
namespace Pl
open PySem PySem.Spec L2 Lf Cp Cr
theorem ixN_nat {n i : Nat} (h : i < n) : ixN n (i : Int) = some i := by
  unfold ixN
  simp
  omega
theorem rowAt_L {L : List (List Int)} {i : Nat} (h : i < L.length) : (L.map OW)[i]? = some (.own ((L.getD i []).map I)) := by
  simp [List.getD_eq_getElem?_getD, h]
theorem set_row {L : List (List Int)} {i : Nat} {y : Int} (h : i < L.length) : (L.map OW).set i (.own ((L.getD i []).map I ++ [I y])) = (L.set i (L.getD i [] ++ [y])).map OW := by
  rw [List.map_set]
  show _ = (L.map OW).set i (.own ((L.getD i [] ++ [y]).map I))
  rw [List.map_append]
  rfl
theorem time_left {L : List (List Int)} {c : Nat} {k v : Int} (hL : L.length ≤ 1000) (h : (c = L.length ∧ v = 0) ∨ (c < L.length ∧ k < 0 ∧ v = 0) ∨ ∃ q : Nat, k = q ∧ c < L.length ∧ q < (L.getD c []).length ∧ v = at2 L c q) :
    f_time_left [.own (L.map OW), I c, I k] = .ok (I v, [.own (L.map OW), .hole, .hole]) := by
  have b : D_time_left [.p (.own (L.map OW)), .v (I c), .v (I k)] = .ok (.rt (I v), [.p (.own (L.map OW)), .v (I c), .v (I k)]) := by
    have e1 : eOp2 fEq (eVar 1) (eLenS 0) [.p (.own (L.map OW)), .v (I c), .v (I k)] = .ok (.d (.bool (decide ((c : Int) = ((L.map OW).length : Int)))), [.p (.own (L.map OW)), .v (I c), .v (I k)]) := Ev.op2 (Ev.var rfl) (Ev.lenS rfl) rfl rfl fEq_int
    rcases h with ⟨h1, h2⟩ | ⟨h1, h2, h3⟩ | ⟨q, h1, h2, h3, h4⟩
    · subst h2
      have : decide ((c : Int) = ((L.map OW).length : Int)) = true := by simp; omega
      rw [this] at e1
      exact Ev.sqR (Ev.difY (Ev.orY (Ev.tv e1)) (Ev.rt Ev.d_))
    · subst h3
      have : decide ((c : Int) = ((L.map OW).length : Int)) = false := by simp; omega
      rw [this] at e1
      exact Ev.sqR (Ev.difY (Ev.orN (Ev.tv e1) (Ev.tv (Ev.op2 (Ev.var rfl) Ev.d_ rfl rfl (lt_yes h2)))) (Ev.rt Ev.d_))
    · subst h4
      subst h1
      have : decide ((c : Int) = ((L.map OW).length : Int)) = false := by simp; omega
      rw [this] at e1
      have g : ((L.getD c []).map I)[q]? = some (I (at2 L c q)) := by
        unfold at2
        generalize L.getD c [] = R at h3 ⊢
        simp [List.getD_eq_getElem?_getD, h3]
      exact Ev.sq (Ev.difN (Ev.orN (Ev.tv e1) (Ev.tv (Ev.op2 (Ev.var rfl) Ev.d_ rfl rfl (lt_no (by omega))))) Ev.nx_) (Ev.rt (Ev.ix3 (Ev.row_ rfl rfl (ixN_nat (by simpa using h2)) (rowAt_L h2)) rfl (ixN_nat (by simpa using h3)) g))
  exact fn_ok (fl := [true, false, false]) (k := 0) (B := D_time_left) (os := [.own (L.map OW), I c, I k]) rfl b (by simp [outs, fin, noFrs, noFr, noFrs_OW])
/-- the table as far as it stands -/
structure Part (m : Nat) (rs : List (List Int)) (day : List Int) (p : Nat) (i k : Nat) (L : List (List Int)) : Prop where
  len : L.length = m
  rows : ∀ c, c < m → (L.getD c []).length = if c < i then k + 1 else k
  eq : ∀ c q, c < m → q < (L.getD c []).length → at2 L c q = rhsT m rs day p L c q
theorem Part.step {m p i k : Nat} {rs : List (List Int)} {day : List Int} {L : List (List Int)} {y : Int} (h : Part m rs day p i k L) (hi : i < m) (hy : y = rhsT m rs day p L i k) : Part m rs day p (i + 1) k (L.set i (L.getD i [] ++ [y])) ∧ at2 (L.set i (L.getD i [] ++ [y])) i k = y := by
  have hl := h.len
  have hli := h.rows i hi
  simp only [Nat.lt_irrefl, if_false] at hli
  have same : ∀ c, c ≠ i → (L.set i (L.getD i [] ++ [y])).getD c [] = L.getD c [] := fun c hc => by
    simp [List.getD_eq_getElem?_getD, List.getElem?_set_ne (Ne.symm hc)]
  have here : (L.set i (L.getD i [] ++ [y])).getD i [] = L.getD i [] ++ [y] := by
    rw [List.getD_eq_getElem?_getD, List.getElem?_set_self (by omega)]; rfl
  have old : ∀ c q, c < m → (c ≠ i ∨ q < k) → at2 (L.set i (L.getD i [] ++ [y])) c q = at2 L c q := fun c q hc hq => by
    by_cases e : c = i
    · subst e
      have hq : q < k := by rcases hq with z | z; exact absurd rfl z; exact z
      unfold at2
      rw [here, List.getD_eq_getElem?_getD, List.getElem?_append_left (by omega), ← List.getD_eq_getElem?_getD]
    · unfold at2; rw [same c e]
  have new : at2 (L.set i (L.getD i [] ++ [y])) i k = y := by
    unfold at2
    rw [here, List.getD_eq_getElem?_getD, List.getElem?_append_right (by omega), hli, Nat.sub_self]
    rfl
  have rh : ∀ c q, c < m → q ≤ k → (i < c → q < k) → rhsT m rs day p (L.set i (L.getD i [] ++ [y])) c q = rhsT m rs day p L c q := fun c q hc hq hcq => by
    unfold rhsT cameT prevB freeT
    have e1 : (if c = 0 then day.getD q 0 else at2 (L.set i (L.getD i [] ++ [y])) (c - 1) q) = if c = 0 then day.getD q 0 else at2 L (c - 1) q := by
      split
      · rfl
      · exact old _ _ (by omega) (by omega)
    have e2 : (if q = 0 then 0 else at2 (L.set i (L.getD i [] ++ [y])) c (q - 1)) = if q = 0 then 0 else at2 L c (q - 1) := by
      split
      · rfl
      · exact old _ _ hc (by omega)
    have e3 : (if c + 1 < m ∧ p < q then at2 (L.set i (L.getD i [] ++ [y])) (c + 1) (q - p - 1) else 0) = if c + 1 < m ∧ p < q then at2 L (c + 1) (q - p - 1) else 0 := by
      split
      · exact old _ _ (by omega) (by omega)
      · rfl
    rw [e1, e2, e3]
  refine ⟨⟨by simp [hl], fun c hc => ?_, fun c q hc hq => ?_⟩, new⟩
  · by_cases e : c = i
    · subst e
      rw [here, List.length_append, hli, if_pos (by omega)]
      rfl
    · rw [same c e, h.rows c hc]
      by_cases z : c < i
      · rw [if_pos z, if_pos (by omega)]
      · rw [if_neg z, if_neg (by omega)]
  · by_cases e : c = i
    · subst e
      rw [here, List.length_append, hli] at hq
      have hq : q < k + 1 := hq
      rw [rh c q hc (by omega) (by omega)]
      by_cases z : q = k
      · subst z; rw [new, hy]
      · rw [old c q hc (by omega)]
        exact h.eq c q hc (by omega)
    · rw [same c e] at hq
      have hrc := h.rows c hc
      rw [old c q hc (.inl e), rh c q hc (by split at hrc <;> omega) (fun z => by rw [if_neg (by omega)] at hrc; omega)]
      exact h.eq c q hc hq
theorem Part.next {m p k : Nat} {rs : List (List Int)} {day : List Int} {L : List (List Int)} (h : Part m rs day p m k L) : Part m rs day p 0 (k + 1) L := ⟨h.len, fun c hc => by
  have := h.rows c hc
  rw [if_pos hc] at this
  rw [this]
  rfl, h.eq⟩
theorem Part.blk {m n p : Nat} {rs : List (List Int)} {day : List Int} {L : List (List Int)} (h : Part m rs day p 0 n L) : Blk m n rs day p L := by
  have hr : ∀ c, c < m → (L.getD c []).length = n := fun c hc => h.rows c hc
  exact ⟨⟨h.len, fun r hr' => by
    obtain ⟨i, hi, rfl⟩ := List.mem_iff_getElem.mp hr'
    have := hr i (by have := h.len; omega)
    simpa [List.getD_eq_getElem?_getD, hi] using this⟩, fun i k hi hk => h.eq i k hi (by rw [hr i hi]; exact hk)⟩
theorem Part.zero {m p : Nat} {rs : List (List Int)} {day : List Int} : Part m rs day p 0 0 (List.replicate m []) := ⟨by simp, fun c hc => by simp [List.getD_eq_getElem?_getD, hc], fun c q hc hq => by simp [List.getD_eq_getElem?_getD, hc] at hq⟩
def inB : DS := (dSq (dSet 7 (eClB 3 f_time_left 3 (aCons (eVar 6) (aCons (eOp2 fSub (eVar 4) (eD (.int 1))) aNil)))) (dSq (dSet 8 (eOp2 fAdd (eCb fMax2 (aCons (eVar 5) (aCons (eVar 7) aNil))) (eIx (eIx (eVar 0) (eVar 6)) (eVar 4)))) (dSq (dSet 5 (eCb fMax2 (aCons (eVar 8) (aCons (eClB 3 f_time_left 3 (aCons (eOp2 fAdd (eVar 6) (eD (.int 1))) (aCons (eOp2 fSub (eOp2 fSub (eVar 4) (eVar 2)) (eD (.int 1))) aNil))) aNil)))) (dEx (eAppAt 3 6 5)))))
def ouB : DS := (dSq (dSet 5 (eIx (eVar 1) (eVar 4))) (dFor (iR1 (aCons (eLen (eVar 0)) aNil)) (gNm 6) inB))
theorem in_step {m n p i k : Nat} {rs : List (List Int)} {day : List Int} {L : List (List Int)} {s7 s8 : Slot} (n7 : np s7 = true) (n8 : np s8 = true) (hm : rs.length = m) (m8 : m ≤ 8) (hr : ∀ r ∈ rs, r.length = n) (hn8 : n ≤ 8) (h : Part m rs day p i k L) (hi : i < m) (hk : k < n) :
    ∃ s7x s8x, inB [.v (.d (hallP rs)), .v (DY day), .v (I p), .v (.own (L.map OW)), .v (I k), .v (I (cameT day L i k)), .v (I i), s7, s8, .un] = .ok (.nx, [.v (.d (hallP rs)), .v (DY day), .v (I p), .v (.own ((L.set i (L.getD i [] ++ [rhsT m rs day p L i k])).map OW)), .v (I k), .v (I (rhsT m rs day p L i k)), .v (I i), s7x, s8x, .un]) ∧ np s7x = true ∧ np s8x = true := by
  have hlen := h.len
  have hL1 : L.length ≤ 1000 := by omega
  have hiL : i < L.length := by omega
  have hli := h.rows i hi
  simp only [Nat.lt_irrefl, if_false] at hli
  have hrow : k < (rs.getD i []).length := by
    have : rs.getD i [] ∈ rs := by simp [List.getD_eq_getElem?_getD, show i < rs.length by omega]
    rw [hr _ this]; exact hk
  have hprev : (i = L.length ∧ prevB L i k = 0) ∨ (i < L.length ∧ ((k : Int) - 1) < 0 ∧ prevB L i k = 0) ∨ ∃ q : Nat, ((k : Int) - 1) = q ∧ i < L.length ∧ q < (L.getD i []).length ∧ prevB L i k = at2 L i q := by
    unfold prevB
    by_cases z : k = 0
    · exact .inr (.inl ⟨hiL, by omega, by rw [if_pos z]⟩)
    · exact .inr (.inr ⟨k - 1, by omega, hiL, by omega, by rw [if_neg z]⟩)
  have hfree : (i + 1 = L.length ∧ freeT m p L i k = 0) ∨ (i + 1 < L.length ∧ ((k : Int) - (p : Int) - 1) < 0 ∧ freeT m p L i k = 0) ∨ ∃ q : Nat, ((k : Int) - (p : Int) - 1) = q ∧ i + 1 < L.length ∧ q < (L.getD (i + 1) []).length ∧ freeT m p L i k = at2 L (i + 1) q := by
    unfold freeT
    by_cases z : i + 1 < m
    · have h2 := h.rows (i + 1) z
      rw [if_neg (by omega)] at h2
      by_cases w : p < k
      · exact .inr (.inr ⟨k - p - 1, by omega, by omega, by omega, by rw [if_pos ⟨z, w⟩]⟩)
      · exact .inr (.inl ⟨by omega, by omega, by rw [if_neg (by omega)]⟩)
    · exact .inl ⟨by omega, by rw [if_neg (by omega)]⟩
  have b1 : (dSet 7 (eClB 3 f_time_left 3 (aCons (eVar 6) (aCons (eOp2 fSub (eVar 4) (eD (.int 1))) aNil)))) [.v (.d (hallP rs)), .v (.d (dayP day)), .v (I (p : Int)), .v (.own (L.map OW)), .v (I (k : Int)), .v (I (cameT day L i k)), .v (I (i : Int)), s7, s8, .un] = .ok (.nx, [.v (.d (hallP rs)), .v (.d (dayP day)), .v (I (p : Int)), .v (.own (L.map OW)), .v (I (k : Int)), .v (I (cameT day L i k)), .v (I (i : Int)), .v (I (prevB L i k)), s8, .un]) := (Ev.set_ (Ev.clB (b := false) (q := (.own (L.map OW))) (p := (.own (L.map OW))) rfl (Ev.cons_ (Ev.var rfl) (Ev.cons_ (Ev.op2 (Ev.var rfl) Ev.d_ rfl rfl rfl) Ev.nil_)) rfl rfl (by simp only [noFrs, noFr, noFrs_I, noFrs_OW, noFrs_DY, Bool.and_true, Bool.and_self]) (time_left hL1 hprev) rfl) (Ev.stor_np rfl n7 rfl))
  have b2 : (dSet 8 (eOp2 fAdd (eCb fMax2 (aCons (eVar 5) (aCons (eVar 7) aNil))) (eIx (eIx (eVar 0) (eVar 6)) (eVar 4)))) [.v (.d (hallP rs)), .v (.d (dayP day)), .v (I (p : Int)), .v (.own (L.map OW)), .v (I (k : Int)), .v (I (cameT day L i k)), .v (I (i : Int)), .v (I (prevB L i k)), s8, .un] = .ok (.nx, [.v (.d (hallP rs)), .v (.d (dayP day)), .v (I (p : Int)), .v (.own (L.map OW)), .v (I (k : Int)), .v (I (cameT day L i k)), .v (I (i : Int)), .v (I (prevB L i k)), .v (I ((max (cameT day L i k) (prevB L i k)) + (at2 rs i k))), .un]) := (Ev.set_ (Ev.op2 (Ev.cb (Ev.cons_ (Ev.var rfl) (Ev.cons_ (Ev.var rfl) Ev.nil_)) rfl max2) (Ev.ix (o := (I (at2 rs i k))) (Ev.ix (o := (.d (rowP (rs.getD i [])))) (Ev.var rfl) (Ev.var rfl) (Ev.ixVt (atI_getD (by omega)))) (Ev.var rfl) (Ev.ixVt (atI_getD (d := 0) hrow))) rfl rfl rfl) (Ev.stor_np rfl n8 rfl))
  have b3 : (dSet 5 (eCb fMax2 (aCons (eVar 8) (aCons (eClB 3 f_time_left 3 (aCons (eOp2 fAdd (eVar 6) (eD (.int 1))) (aCons (eOp2 fSub (eOp2 fSub (eVar 4) (eVar 2)) (eD (.int 1))) aNil))) aNil)))) [.v (.d (hallP rs)), .v (.d (dayP day)), .v (I (p : Int)), .v (.own (L.map OW)), .v (I (k : Int)), .v (I (cameT day L i k)), .v (I (i : Int)), .v (I (prevB L i k)), .v (I ((max (cameT day L i k) (prevB L i k)) + (at2 rs i k))), .un] = .ok (.nx, [.v (.d (hallP rs)), .v (.d (dayP day)), .v (I (p : Int)), .v (.own (L.map OW)), .v (I (k : Int)), .v (I (max ((max (cameT day L i k) (prevB L i k)) + (at2 rs i k)) (freeT m p L i k))), .v (I (i : Int)), .v (I (prevB L i k)), .v (I ((max (cameT day L i k) (prevB L i k)) + (at2 rs i k))), .un]) := (Ev.set_ (Ev.cb (Ev.cons_ (Ev.var rfl) (Ev.cons_ (Ev.clB (b := false) (q := (.own (L.map OW))) (p := (.own (L.map OW))) rfl (Ev.cons_ (Ev.op2 (Ev.var rfl) Ev.d_ rfl rfl rfl) (Ev.cons_ (Ev.op2 (Ev.op2 (Ev.var rfl) (Ev.var rfl) rfl rfl rfl) Ev.d_ rfl rfl rfl) Ev.nil_)) rfl rfl (by simp only [noFrs, noFr, noFrs_I, noFrs_OW, noFrs_DY, Bool.and_true, Bool.and_self]) (time_left (c := i + 1) hL1 hfree) rfl) Ev.nil_)) rfl max2) rfl)
  have b4 : (dEx (eAppAt 3 6 5)) [.v (.d (hallP rs)), .v (.d (dayP day)), .v (I (p : Int)), .v (.own (L.map OW)), .v (I (k : Int)), .v (I (max ((max (cameT day L i k) (prevB L i k)) + (at2 rs i k)) (freeT m p L i k))), .v (I (i : Int)), .v (I (prevB L i k)), .v (I ((max (cameT day L i k) (prevB L i k)) + (at2 rs i k))), .un] = .ok (.nx, [.v (.d (hallP rs)), .v (.d (dayP day)), .v (I (p : Int)), .v (.own ((L.set i (L.getD i [] ++ [rhsT m rs day p L i k])).map OW)), .v (I (k : Int)), .v (I (max ((max (cameT day L i k) (prevB L i k)) + (at2 rs i k)) (freeT m p L i k))), .v (I (i : Int)), .v (I (prevB L i k)), .v (I ((max (cameT day L i k) (prevB L i k)) + (at2 rs i k))), .un]) := (Ev.ex (Ev.appAt (Ev.row_ rfl rfl (ixN_nat (by simpa using hiL)) (rowAt_L hiL)) rfl (few_of (by rw [List.length_map, hli]; omega)) (by rw [set_row hiL]; rfl)))
  exact ⟨.v (I (prevB L i k)), .v (I (max (cameT day L i k) (prevB L i k) + at2 rs i k)), (Ev.sq b1 (Ev.sq b2 (Ev.sq b3 b4))), rfl, rfl⟩
theorem inner {m n p k : Nat} {rs : List (List Int)} {day : List Int} {L : List (List Int)} {s6 s7 s8 : Slot} (n6 : np s6 = true) (n7 : np s7 = true) (n8 : np s8 = true) (hm : rs.length = m) (m8 : m ≤ 8) (hr : ∀ r ∈ rs, r.length = n) (hn8 : n ≤ 8) (h : Part m rs day p 0 k L) (hk : k < n) :
    ∃ L' s5x s6x s7x s8x, forD (gNm 6) inB (rng 0 m) [.v (.d (hallP rs)), .v (DY day), .v (I p), .v (.own (L.map OW)), .v (I k), .v (I (day.getD k 0)), s6, s7, s8, .un] = .ok (.nx, [.v (.d (hallP rs)), .v (DY day), .v (I p), .v (.own (L'.map OW)), .v (I k), s5x, s6x, s7x, s8x, .un]) ∧ Part m rs day p m k L' ∧ np s5x = true ∧ np s6x = true ∧ np s7x = true ∧ np s8x = true := by
  obtain ⟨e, h1, L', s6x, s7x, s8x, rfl, h2, n6x, n7x, n8x⟩ := forR (g := gNm 6) (body := inB) (en := [.v (.d (hallP rs)), .v (DY day), .v (I p), .v (.own (L.map OW)), .v (I k), .v (I (day.getD k 0)), s6, s7, s8, .un])
    (fun i e => ∃ L s6 s7 s8, e = [.v (.d (hallP rs)), .v (DY day), .v (I p), .v (.own (L.map OW)), .v (I k), .v (I (cameT day L i k)), s6, s7, s8, .un] ∧ Part m rs day p i k L ∧ np s6 = true ∧ np s7 = true ∧ np s8 = true) m
    ⟨L, s6, s7, s8, rfl, h, n6, n7, n8⟩ (by
      rintro i e hi ⟨L, s6, s7, s8, rfl, h, n6, n7, n8⟩
      obtain ⟨s7x, s8x, e2, n7x, n8x⟩ := in_step n7 n8 hm m8 hr hn8 h hi hk
      obtain ⟨hp, hat⟩ := h.step hi rfl
      refine ⟨[.v (.d (hallP rs)), .v (DY day), .v (I p), .v (.own (L.map OW)), .v (I k), .v (I (cameT day L i k)), .v (I i), s7, s8, .un], _, by simp [gNm, stor_eq, n6], e2, _, .v (I i), s7x, s8x, ?_, hp, rfl, n7x, n8x⟩
      have : cameT day (L.set i (L.getD i [] ++ [rhsT m rs day p L i k])) (i + 1) k = rhsT m rs day p L i k := by
        unfold cameT
        rw [if_neg (by omega), Nat.add_sub_cancel, hat]
      rw [this])
  exact ⟨L', .v (I (cameT day L' m k)), s6x, s7x, s8x, h1, h2, rfl, n6x, n7x, n8x⟩
theorem outer {m n p : Nat} {rs : List (List Int)} {day : List Int} (hm : rs.length = m) (m8 : m ≤ 8) (hr : ∀ r ∈ rs, r.length = n) (hn8 : n ≤ 8) (hd : day.length = n) :
    ∃ L s4 s5 s6 s7 s8, forD (gNm 4) ouB (rng 0 n) [.v (.d (hallP rs)), .v (DY day), .v (I p), .v (.own ((List.replicate m []).map OW)), .un, .un, .un, .un, .un, .un] = .ok (.nx, [.v (.d (hallP rs)), .v (DY day), .v (I p), .v (.own (L.map OW)), s4, s5, s6, s7, s8, .un]) ∧ Blk m n rs day p L := by
  obtain ⟨e, h1, L, s4, s5, s6, s7, s8, rfl, h2, _⟩ := forR (g := gNm 4) (body := ouB) (en := [.v (.d (hallP rs)), .v (DY day), .v (I p), .v (.own ((List.replicate m []).map OW)), .un, .un, .un, .un, .un, .un])
    (fun k e => ∃ L s4 s5 s6 s7 s8, e = [.v (.d (hallP rs)), .v (DY day), .v (I p), .v (.own (L.map OW)), s4, s5, s6, s7, s8, .un] ∧ Part m rs day p 0 k L ∧ np s4 = true ∧ np s5 = true ∧ np s6 = true ∧ np s7 = true ∧ np s8 = true) n
    ⟨_, .un, .un, .un, .un, .un, rfl, Part.zero, rfl, rfl, rfl, rfl, rfl⟩ (by
      rintro k e hk ⟨L, s4, s5, s6, s7, s8, rfl, h, n4, n5, n6, n7, n8⟩
      obtain ⟨L', s5x, s6x, s7x, s8x, e2, hp, n5x, n6x, n7x, n8x⟩ := inner (s6 := s6) (s7 := s7) (s8 := s8) n6 n7 n8 hm m8 hr hn8 h hk
      refine ⟨[.v (.d (hallP rs)), .v (DY day), .v (I p), .v (.own (L.map OW)), .v (I k), s5, s6, s7, s8, .un], _, by simp [gNm, stor_eq, n4], ?_, L', .v (I k), s5x, s6x, s7x, s8x, rfl, hp.next, rfl, n5x, n6x, n7x, n8x⟩
      exact Ev.sq (Ev.set_ (Ev.ix (o := I (day.getD k 0)) (Ev.var rfl) (Ev.var rfl) (Ev.ixVl (atI_getD (by omega)))) (Ev.stor_np rfl n5 rfl)) (Ev.forN (n := m) (Ev.cons_ (Ev.len_ (Ev.var rfl) (by simp [dlen, hm])) Ev.nil_) (by omega) e2))
  exact ⟨L, s4, s5, s6, s7, s8, h1, h2.blk⟩
end Pl
end
section
set_option Elab.async false
set_option linter.all false
set_option maxRecDepth 100000
set_option maxHeartbeats 2000000
/-! moves and rooms: what one move does to the times of a hall with room. Plain. -/
namespace Mr
open PySem PySem.Spec L2 Lf Cp Pl
theorem sum_le : ∀ {L : List Int} {W : Int}, (∀ x ∈ L, x < W) → L.sum ≤ L.length * W
  | [], _, _ => by simp
  | a :: L, W, h => by
    simp only [List.forall_mem_cons] at h
    have := sum_le h.2
    simp only [List.sum_cons, List.length_cons, Int.natCast_add, Int.add_mul]
    omega
theorem leads_le : ∀ (rs ss : List Int) (l : Int), (∀ x ∈ rs, 0 ≤ x) → (∀ x ∈ ss, 0 ≤ x) → ∀ x ∈ leadsL l rs ss, x ≤ l + rs.sum
  | [], _, _, _, _ => by simp [leadsL]
  | _ :: _, [], _, _, _ => by simp [leadsL]
  | r :: rs, s :: ss, l, hr, hs => by
    simp only [List.forall_mem_cons] at hr hs
    have h0 := (sum_ge hr.2).1
    have ih := leads_le rs ss (l + r - s) hr.2 hs.2
    simp only [leadsL, List.forall_mem_cons, List.sum_cons]
    exact ⟨by omega, fun x hx => by have := ih x hx; omega⟩
/-- how many can be moved: on and back, and that it is unseen -/
theorem moves {m n c : Nat} {W : Int} {A B : List (List Int)} {r s : List Int} (h : HOk m n W (A ++ r :: s :: B)) (hW : 0 ≤ W) : ∃ M, foldMax (leadsL 0 r s) = some M ∧ 0 ≤ M ∧ 0 ≤ M + s.sum - r.sum ∧ M + (M + s.sum - r.sum) ≤ 16 * W ∧ ∀ k, k ≤ M → -k ≤ M + s.sum - r.sum → Unseen n r s (lft M k r s) (nxt M k r s) := by
  obtain ⟨hr, hrx⟩ := h.rows r (by simp)
  obtain ⟨hs, hsx⟩ := h.rows s (by simp)
  have n1 := h.n1
  have n8 := h.n8
  have nr : ∀ x ∈ r, 0 ≤ x := fun x hx => (hrx x hx).1
  have ns : ∀ x ∈ s, 0 ≤ x := fun x hx => (hsx x hx).1
  have sr := sum_le fun x hx => (hrx x hx).2
  have ss := sum_le fun x hx => (hsx x hx).2
  obtain ⟨M, hM⟩ : ∃ M, foldMax (leadsL 0 r s) = some M := by
    have hl : (leadsL 0 r s).length = n := by rw [leadsL_len]; omega
    cases q : leadsL 0 r s with
    | nil => rw [q] at hl; simp at hl; omega
    | cons t ts => exact ⟨_, rfl⟩
  have hge := maxL_ge hM
  have hmem := (foldMax_iff.mp hM).1
  have hle := leads_le r s 0 nr ns M hmem
  have hoff := off_nn (rs := r) (ss := s) (l := 0) (M := M) (by omega) (by intro q; simp [q] at hr; omega) ns hge
  rw [leadE_sum _ _ _ (by omega)] at hoff
  have hon : 0 ≤ M := by
    cases r with
    | nil => simp at hr; omega
    | cons a r =>
      cases s with
      | nil => simp at hs; omega
      | cons b s => exact on_nn (nr a (by simp)) hM
  have nW : (n : Int) * W ≤ 8 * W := Int.mul_le_mul_of_nonneg_right (by omega) hW
  rw [hr] at sr
  rw [hs] at ss
  refine ⟨M, hM, hon, by omega, by omega, fun k k1 k2 => ?_⟩
  unfold lft nxt
  by_cases hk : 0 ≤ k
  · simp only [if_pos hk]
    exact on_ok hr hs nr ns (by omega)
  · simp only [if_neg hk]
    exact bk_ok hr hs nr ns (by omega)
theorem split_at {m c : Nat} {H : List (List Int)} (hl : H.length = m) (hc : c + 1 < m) : ∃ A r s B, H = A ++ r :: s :: B ∧ A.length = c := by
  refine ⟨H.take c, H[c], H[c + 1], H.drop (c + 2), ?_, by simp; omega⟩
  rw [← List.drop_eq_getElem_cons, ← List.drop_eq_getElem_cons, List.take_append_drop]
/-- only the first customer of the greatest lead goes on -/
theorem on_zero : ∀ (L : List Int) (M : Int), (∀ x ∈ L, x ≤ M) → ∀ k, (onL M L).getD k 0 = 0
  | [], _, _, k => by simp [onL]
  | x :: L, M, h, k => by
    simp only [List.forall_mem_cons] at h
    have e : max M x = M := by omega
    have z : max (x - M) 0 = 0 := by omega
    cases k with
    | zero => simp only [onL, List.getD_cons_zero]; omega
    | succ k =>
      simp only [onL, List.getD_cons_succ]
      rw [show max M x = M by omega]
      exact on_zero L M h.2 k
theorem a1 {c b r f c' b' f' : Int} (h1 : c' ≤ c + 1) (h2 : b' ≤ b + 1) (h3 : f' ≤ f + 1) : Max.max (Max.max c' b' + r) f' ≤ Max.max (Max.max c b + r) f + 1 := by omega
theorem a2 {c b r f c' b' f' : Int} (h1 : c ≤ c' + 1) (h2 : b ≤ b' + 1) (h3 : f ≤ f' + 1) : Max.max (Max.max c b + r) f - 1 ≤ Max.max (Max.max c' b' + r) f' := by omega
theorem a3 {c b r f : Int} : Max.max (Max.max c b + (r - 1)) f ≤ Max.max (Max.max c b + r) f ∧ Max.max (Max.max c b + r) f - 1 ≤ Max.max (Max.max c b + (r - 1)) f := by omega
theorem a4 {c b r f c' : Int} (h : c' ≤ c) (h' : c ≤ c' + 1) : Max.max (Max.max c' b + (r + 1)) f ≤ Max.max (Max.max c b + r) f + 1 ∧ Max.max (Max.max c b + r) f - 1 ≤ Max.max (Max.max c' b + (r + 1)) f := by omega
theorem get_at {A B : List (List Int)} {r s : List Int} {c i : Nat} (hc : A.length = c) : (A ++ r :: s :: B).getD i [] = if i < c then A.getD i [] else if i = c then r else if i = c + 1 then s else B.getD (i - c - 2) [] := by
  subst hc
  by_cases h : i < A.length
  · rw [if_pos h]
    simp [List.getD_eq_getElem?_getD, List.getElem?_append_left h]
  · rw [if_neg h]
    simp only [List.getD_eq_getElem?_getD]
    rw [List.getElem?_append_right (by omega)]
    by_cases h1 : i = A.length
    · rw [if_pos h1]; subst h1; simp
    · rw [if_neg h1]
      by_cases h2 : i = A.length + 1
      · rw [if_pos h2]; subst h2; simp
      · rw [if_neg h2]
        obtain ⟨q, rfl⟩ : ∃ q, i = A.length + 2 + q := ⟨i - A.length - 2, by omega⟩
        rw [show A.length + 2 + q - A.length = q + 2 by omega]
        rfl
theorem sub_at {r g : List Int} {k : Nat} (h : k < r.length) (h1 : k < g.length) : (subL r g).getD k 0 = r.getD k 0 - g.getD k 0 := by
  simp [subL, List.getD_eq_getElem?_getD, List.getElem?_zipWith, h, h1]
theorem add_at {r g : List Int} {k : Nat} (h : k < r.length) (h1 : k < g.length) : (addL r g).getD k 0 = r.getD k 0 + g.getD k 0 := by
  simp [addL, List.getD_eq_getElem?_getD, List.getElem?_zipWith, h, h1]
theorem cells {A B : List (List Int)} {r s g : List Int} {c n j : Nat} (hc : A.length = c) (hr : r.length = n) (hs : s.length = n) (hg : g.length = n) (hj : ∀ k, g.getD k 0 = if k = j then 1 else 0) (i k : Nat) (hk : k < n) :
    at2 (A ++ subL r g :: addL s g :: B) i k = at2 (A ++ r :: s :: B) i k + (if i = c + 1 ∧ k = j then 1 else 0) - (if i = c ∧ k = j then 1 else 0) := by
  unfold at2
  rw [get_at hc, get_at hc]
  by_cases h : i < c
  · rw [if_pos h, if_pos h, if_neg (by omega), if_neg (by omega)]; omega
  · rw [if_neg h, if_neg h]
    by_cases h1 : i = c
    · rw [if_pos h1, if_pos h1, if_neg (by omega), sub_at (by omega) (by omega), hj k]
      by_cases q : k = j
      · rw [if_pos q, if_pos ⟨h1, q⟩]; omega
      · rw [if_neg q, if_neg (by omega)]; omega
    · rw [if_neg h1, if_neg h1]
      by_cases h2 : i = c + 1
      · rw [if_pos h2, if_pos h2, add_at (by omega) (by omega), hj k]
        by_cases q : k = j
        · rw [if_pos q, if_pos ⟨h2, q⟩, if_neg (by omega)]; omega
        · rw [if_neg q, if_neg (by omega), if_neg (by omega)]; omega
      · rw [if_neg h2, if_neg h2, if_neg (by omega), if_neg (by omega)]; omega
end Mr
end
section
set_option Elab.async false
set_option linter.all false
set_option maxRecDepth 100000
set_option maxHeartbeats 2000000
/-! one move and rooms: the program -/
namespace Pl
open PySem PySem.Spec L2 Lf Cp Cs Mr
def apart (a b : List Int) : Bool := !PyData.eqv (dayP a) (dayP b)
theorem with_one_gone {m n c : Nat} {W M : Int} {A B : List (List Int)} {r s : List Int} (h : HOk m n W (A ++ r :: s :: B)) (hc : A.length = c) (hM : foldMax (leadsL 0 r s) = some M) (h1 : 1 ≤ M) (h2 : 0 ≤ M + s.sum - r.sum) :
    f_with_one_gone [.d (hallP (A ++ r :: s :: B)), I c] = .ok (.d (hallP (A ++ lft M 1 r s :: nxt M 1 r s :: B)), [.hole, .hole]) ∧ f_move [.d (hallP (A ++ r :: s :: B)), I c] = .ok (.d (hallP (A ++ lft M 1 r s :: nxt M 1 r s :: B)), [.hole, .hole]) := by
  have e : f_move [.d (hallP (A ++ r :: s :: B)), I c] = .ok (.d (hallP (A ++ lft M 1 r s :: nxt M 1 r s :: B)), [.hole, .hole]) :=
    fn_ok (fl := [false, false]) (k := 0) (B := D_move) (os := [.d (hallP (A ++ r :: s :: B)), I c]) rfl (Ev.rt (Ev.cl (Ev.cons_ (Ev.var rfl) (Ev.cons_ (Ev.var rfl) (Ev.cons_ Ev.d_ Ev.nil_))) rfl rfl (moved h hc hM h1 (by omega)))) rfl
  refine ⟨?_, e⟩
  have b1 : dSet 2 (eCl 2 f_move (aCons (eVar 0) (aCons (eVar 1) aNil))) [.v (.d (hallP (A ++ r :: s :: B))), .v (I c), .un] = .ok (.nx, [.v (.d (hallP (A ++ r :: s :: B))), .v (I c), .v (.d (hallP (A ++ lft M 1 r s :: nxt M 1 r s :: B)))]) := Ev.set_ (Ev.cl (Ev.cons_ (Ev.var rfl) (Ev.cons_ (Ev.var rfl) Ev.nil_)) rfl rfl e) rfl
  have b : D_with_one_gone [.v (.d (hallP (A ++ r :: s :: B))), .v (I c), .un] = .ok (.rt (.d (hallP (A ++ lft M 1 r s :: nxt M 1 r s :: B))), [.v (.d (hallP (A ++ r :: s :: B))), .v (I c), .un]) :=
    Ev.sq b1 (Ev.sq (Ev.difN (Ev.tv (b := false) (Ev.op2 (z := .bool false) (Ev.var rfl) Ev.d_ rfl rfl rfl)) Ev.nx_) (Ev.rt (Ev.mov rfl rfl)))
  exact fn_ok (fl := [false, false]) (k := 1) (B := D_with_one_gone) (os := [.d (hallP (A ++ r :: s :: B)), I c]) rfl b rfl
end Pl
end
section
set_option Elab.async false
set_option linter.all false
set_option maxRecDepth 100000
set_option maxHeartbeats 2000000
namespace Ct
open PySem PySem.Spec L2 Lf
end Ct
end
section
set_option Elab.async false
set_option linter.all false
set_option maxRecDepth 100000
set_option maxHeartbeats 2000000
/-! seen_day whose day is handed back as one's own -/
namespace Pl
open PySem PySem.Spec L2 Lf Cp Ct Mr
open Cs (f_is_told_apart f_with_one_gone)
end Pl
end
section
set_option Elab.async false
set_option linter.all false
set_option maxRecDepth 100000
set_option maxHeartbeats 2000000
/-! halls whose numbers are drawn below a small number, too -/
namespace Pl
open PySem PySem.Spec L2 Lf Cp Ca
end Pl
end
section
set_option Elab.async false
set_option linter.all false
set_option maxRecDepth 100000
set_option maxHeartbeats 2000000
/-! one move, the hall of it; the least of the late days -/
namespace Mt
open PySem PySem.Spec L2 Lf Cp Ca Pl Mr
open Cs (f_is_told_apart f_with_one_gone f_move)
theorem bound : ∀ H : List (List Int), ∃ W : Int, ∀ r ∈ H, ∀ x ∈ r, x < W
  | [] => ⟨0, by simp⟩
  | r :: H => by
    obtain ⟨W, h⟩ := bound H
    have : ∀ r : List Int, ∃ V : Int, ∀ x ∈ r, x < V := fun r => by
      induction r with
      | nil => exact ⟨0, by simp⟩
      | cons x r ih =>
        obtain ⟨V, hV⟩ := ih
        refine ⟨max V (x + 1), fun y hy => ?_⟩
        rcases List.mem_cons.mp hy with rfl | hy
        · omega
        · have := hV y hy; omega
    obtain ⟨V, hV⟩ := this r
    refine ⟨max V W, fun q hq x hx => ?_⟩
    rcases List.mem_cons.mp hq with rfl | hq
    · have := hV x hx; omega
    · have := h q hq x hx; omega
theorem unseen_ok {m n : Nat} {W : Int} {A B : List (List Int)} {r s r' s' : List Int} (h : HOk m n W (A ++ r :: s :: B)) (u : Unseen n r s r' s') : ∃ W1, HOk m n W1 (A ++ r' :: s' :: B) := by
  obtain ⟨W1, hW⟩ := bound (A ++ r' :: s' :: B)
  refine ⟨W1, by have := h.len; simp at this ⊢; omega, h.m1, h.m8, h.n1, h.n8, fun q hq => ?_⟩
  have hx : q.length = n ∧ ∀ x ∈ q, 0 ≤ x := by
    simp only [List.mem_append, List.mem_cons] at hq
    rcases hq with a | rfl | rfl | a
    · exact ⟨(h.rows q (by simp [a])).1, fun x hx => ((h.rows q (by simp [a])).2 x hx).1⟩
    · exact ⟨u.lr, u.nr⟩
    · exact ⟨u.ls, u.ns⟩
    · exact ⟨(h.rows q (by simp [a])).1, fun x hx => ((h.rows q (by simp [a])).2 x hx).1⟩
  exact ⟨hx.1, fun x hm => ⟨hx.2 x hm, hW q hq x hm⟩⟩
structure Two (m n c : Nat) (W W1 S : Int) (H H1 : List (List Int)) : Prop where
  h : HOk m n W H
  h1 : HOk m n W1 H1
  hc : c + 1 < m
  gone : f_with_one_gone [.d (hallP H), I c] = .ok (.d (hallP H1), [.hole, .hole])
  mv : f_move [.d (hallP H), I c] = .ok (.d (hallP H1), [.hole, .hole])
  sum : (H.map List.sum).sum + 1 = S
  s0 : 0 < S
/-- one move: None, or the hall of it -/
theorem one {m n c : Nat} {W : Int} {H : List (List Int)} (h : HOk m n W H) (hW : 0 ≤ W) (hc : c + 1 < m) :
    f_move [.d (hallP H), I c] = .ok (.d .none, [.hole, .hole]) ∨ ∃ W1 S H1, Two m n c W W1 S H H1 := by
  obtain ⟨A, r, s, B, rfl, hA⟩ := split_at h.len hc
  obtain ⟨M, hM, M0, N0, MN, hu⟩ := moves (c := c) h hW
  by_cases z : M = 0
  · have hl := h.len
    have hr := (h.rows r (by simp)).1
    have hn8 := h.n8
    have e1 := check_neighbours h (c := c) (by simp at hl; omega)
    have e2 := most_moves (by omega) hM
    have g1 : fGt (.int 1) (.int M) = some (.bool true) := gt_yes (by omega)
    have b : Cm.D_moved [.v (.d (hallP (A ++ r :: s :: B))), .v (I c), .v (I 1), .un, .un] = .ok (.rt (.d .none), [.v (.d (hallP (A ++ r :: s :: B))), .v (I c), .v (I 1), .v (I M), .v (I (M + s.sum - r.sum))]) :=
      Ev.sq (Ev.ex (Ev.cl (Ev.cons_ (Ev.var rfl) (Ev.cons_ (Ev.var rfl) Ev.nil_)) rfl rfl e1))
      (Ev.sq (Ev.difN (Ev.tv (b := false) (Ev.tyNot (T := "int") (t := "int") (Ev.var rfl) rfl)) Ev.nx_)
      (Ev.sq (Ev.asg (Ev.cl (Ev.cons_ (Ev.ix (Ev.var rfl) (Ev.var rfl) (Ev.ixVt (at_c hA))) (Ev.cons_ (Ev.ix (Ev.var rfl) (Ev.op2 (Ev.var rfl) Ev.d_ rfl rfl rfl) (Ev.ixVt (at_c1 hA))) Ev.nil_)) rfl rfl e2) rfl rfl)
      (Ev.sqR (Ev.difY (Ev.orY (Ev.tv (Ev.op2 (Ev.var rfl) (Ev.var rfl) rfl rfl g1))) (Ev.rt Ev.d_)))))
    have em : Cm.f_moved [.d (hallP (A ++ r :: s :: B)), I c, I 1] = .ok (.d .none, [.hole, .hole, .hole]) := fn_ok (fl := [false, false, false]) (k := 2) (B := Cm.D_moved) (os := [.d (hallP (A ++ r :: s :: B)), I c, I 1]) rfl b rfl
    exact .inl (fn_ok (fl := [false, false]) (k := 0) (B := Cs.D_move) (os := [.d (hallP (A ++ r :: s :: B)), I c]) rfl (Ev.rt (Ev.cl (Ev.cons_ (Ev.var rfl) (Ev.cons_ (Ev.var rfl) (Ev.cons_ Ev.d_ Ev.nil_))) rfl rfl em)) rfl)
  · have u := hu 1 (by omega) (by omega)
    obtain ⟨W1, hW1⟩ := unseen_ok h u
    have w := with_one_gone h hA hM (by omega) N0
    have s0 : 0 ≤ ((A ++ r :: s :: B).map List.sum).sum := (sum_ge fun x hx => by
      obtain ⟨q, hq, rfl⟩ := List.mem_map.mp hx
      exact (sum_ge fun y hy => ((h.rows q hq).2 y hy).1).1).1
    exact .inr ⟨W1, _, _, ⟨h, hW1, hc, w.1, w.2, rfl, by omega⟩⟩
/-! the least of the late days -/
end Mt
end
section
set_option Elab.async false
set_option linter.all false
set_option maxRecDepth 100000
set_option maxHeartbeats 2000000
namespace Ev
open PySem PySem.Spec L2 Lf Pl
section
variable {en e1 e2 e3 : En} {o p q : OT} {os ps qs : List OT} {x y z : PyData} {xs ys : List PyData} {i j : Nat} {k v c : Int} {da db dc dk : DE} {dr : DA} {b b0 t0 : Bool} {kvs kvs0 : List (List Int × Int)} {ks : List Int} {w : Bool × Bool × List (List Int × Int)}
theorem isi2 {T1 T2 t : String} (h : da en = .ok (o, e1)) (f : (frz o).bind tyOf = some t) (hb : kit2 t T1 T2 = some b) : eIsi2 T1 T2 da en = .ok (.d (.bool b), e1) := by
  simp only [eIsi2, h, bd, f, hb]
theorem isi {T t : String} (h : da en = .ok (o, e1)) (f : (frz o).bind tyOf = some t) (hb : kitB t T = some b) : eIsi T da en = .ok (.d (.bool b), e1) := by
  simp only [eIsi, h, bd, f, hb]
end
end Ev
namespace Pl
open PySem PySem.Spec L2 Lf
theorem forRI {g : DG} {body : DS} {en : En} {item : Nat → PyData} (P : Nat → En → Prop) (n : Nat) (h0 : P 0 en) (st : ∀ (i : Nat) (e : En), i < n → P i e → ∃ e1 e2, g (item i) e = some e1 ∧ body e1 = .ok (.nx, e2) ∧ P (i + 1) e2) : ∃ e', forD g body ((List.range n).map item) en = .ok (.nx, e') ∧ P n e' := by
  obtain ⟨e', h1, h2⟩ := forD_inv P ((List.range n).map item) 0 en h0 fun i x e hx hp => by
    obtain ⟨hi, rfl⟩ : i < n ∧ item i = x := by
      obtain ⟨hj, rfl⟩ := List.getElem?_eq_some_iff.mp hx
      have hn : i < n := by simpa using hj
      exact ⟨hn, by simp⟩
    rw [Nat.zero_add] at hp ⊢
    exact st i e hi hp
  refine ⟨e', h1, ?_⟩
  simpa using h2
/-! ### dicts by places -/
end Pl
end
section
set_option Elab.async false
set_option linter.all false
set_option maxRecDepth 100000
set_option maxHeartbeats 1000000
/-! two neighbours: moves add up, are undone, and are moves back from behind. Plain lists of integers only. -/
namespace Pl
open PySem PySem.Spec L2 Lf Cp Ca
/-- two counters, the greatest lead -/
structure TR (n : Nat) (M : Int) (r s : List Int) : Prop where
  lr : r.length = n
  ls : s.length = n
  mx : foldMax (leadsL 0 r s) = some M
theorem onL_sum : ∀ (ts : List Int) (p : Int), (onL p ts).sum = reach p ts - p
  | [], p => by simp [onL, reach]
  | t :: ts, p => by
    simp only [onL, List.sum_cons, onL_sum ts]
    show _ = reach (max p t) ts - p
    omega
theorem reach_ge : ∀ (ts : List Int) (p : Int), p ≤ reach p ts ∧ ∀ x ∈ ts, x ≤ reach p ts
  | [], p => by simp [reach]
  | t :: ts, p => by
    have ih := reach_ge ts (max p t)
    show p ≤ reach (max p t) ts ∧ ∀ x ∈ t :: ts, x ≤ reach (max p t) ts
    refine ⟨by omega, fun x hx => ?_⟩
    rcases List.mem_cons.mp hx with rfl | hx
    · omega
    · exact ih.2 x hx
theorem reach_le : ∀ (ts : List Int) (p b : Int), p ≤ b → (∀ x ∈ ts, x ≤ b) → reach p ts ≤ b
  | [], p, b, h, _ => h
  | t :: ts, p, b, h, k => by
    simp only [List.forall_mem_cons] at k
    exact reach_le ts (max p t) b (by omega) k.2
theorem sub_sum : ∀ (r g : List Int), r.length = g.length → (subL r g).sum = r.sum - g.sum
  | [], [], _ => by simp [subL]
  | a :: r, b :: g, h => by
    have := sub_sum r g (by simpa using h)
    simp only [subL, List.zipWith_cons_cons, List.sum_cons] at this ⊢
    omega
  | [], _ :: _, h => by simp at h
  | _ :: _, [], h => by simp at h
theorem add_sum : ∀ (r g : List Int), r.length = g.length → (addL r g).sum = r.sum + g.sum
  | [], [], _ => by simp [addL]
  | a :: r, b :: g, h => by
    have := add_sum r g (by simpa using h)
    simp only [addL, List.zipWith_cons_cons, List.sum_cons] at this ⊢
    omega
  | [], _ :: _, h => by simp at h
  | _ :: _, [], h => by simp at h
theorem sub_rev {r g : List Int} (h : r.length = g.length) : (subL r g).reverse = subL r.reverse g.reverse := by
  unfold subL; exact List.reverse_zipWith h
theorem add_rev {r g : List Int} (h : r.length = g.length) : (addL r g).reverse = addL r.reverse g.reverse := by
  unfold addL; exact List.reverse_zipWith h
/-- moved on: no lead is above what was reached -/
theorem on_leads_le (p : Int) : ∀ (rs ss : List Int) (l q : Int), p ≤ q → ∀ x ∈ leadsL (l - 2 * (q - p)) (subL rs (onL q (leadsL l rs ss))) (addL ss (onL q (leadsL l rs ss))), x ≤ p
  | [], ss, l, q, _ => by simp [leadsL, onL, subL]
  | r :: rs, [], l, q, _ => by simp [leadsL, onL, subL]
  | r :: rs, s :: ss, l, q, h => by
    have ih := on_leads_le p rs ss (l + r - s) (max q (l + r)) (by omega)
    simp only [leadsL, onL, subL, addL, List.zipWith_cons_cons, List.forall_mem_cons] at ih ⊢
    refine ⟨by omega, ?_⟩
    have e : l - 2 * (q - p) + (r - max (l + r - q) 0) - (s + max (l + r - q) 0) = l + r - s - 2 * (max q (l + r) - p) := by omega
    rw [e]
    exact ih
/-- .. and just that is reached -/
theorem on_leads_mem (p : Int) : ∀ (rs ss : List Int) (l : Int), (∃ x ∈ leadsL l rs ss, p ≤ x) → p ∈ leadsL l (subL rs (onL p (leadsL l rs ss))) (addL ss (onL p (leadsL l rs ss)))
  | [], ss, l, h => by simp [leadsL] at h
  | r :: rs, [], l, h => by simp [leadsL] at h
  | r :: rs, s :: ss, l, h => by
    simp only [leadsL, onL, subL, addL, List.zipWith_cons_cons]
    by_cases c : p ≤ l + r
    · have : l + (r - max (l + r - p) 0) = p := by omega
      rw [this]; exact List.mem_cons_self
    · have h2 : ∃ x ∈ leadsL (l + r - s) rs ss, p ≤ x := by
        obtain ⟨x, hx, hp⟩ := h
        simp only [leadsL, List.mem_cons] at hx
        rcases hx with rfl | hx
        · exact absurd hp c
        · exact ⟨x, hx, hp⟩
      have ih := on_leads_mem p rs ss (l + r - s) h2
      have e1 : max (l + r - p) 0 = 0 := by omega
      have e2 : max p (l + r) = p := by omega
      have e3 : l + (r - 0) - (s + 0) = l + r - s := by omega
      rw [e1, e2, e3]
      exact List.mem_cons_of_mem _ ih
/-- moves on add up -/
theorem on_on (p : Int) : ∀ (rs ss : List Int) (l q1 q2 : Int), p ≤ q1 → q2 ≤ q1 → (q2 = q1 ∨ q1 = p) →
    subL (subL rs (onL q1 (leadsL l rs ss))) (onL (q2 - (q1 - p)) (leadsL (l - 2 * (q1 - p)) (subL rs (onL q1 (leadsL l rs ss))) (addL ss (onL q1 (leadsL l rs ss))))) = subL rs (onL q2 (leadsL l rs ss)) ∧
    addL (addL ss (onL q1 (leadsL l rs ss))) (onL (q2 - (q1 - p)) (leadsL (l - 2 * (q1 - p)) (subL rs (onL q1 (leadsL l rs ss))) (addL ss (onL q1 (leadsL l rs ss))))) = addL ss (onL q2 (leadsL l rs ss))
  | [], ss, l, q1, q2, _, _, _ => by simp [leadsL, onL, subL, addL]
  | r :: rs, [], l, q1, q2, _, _, _ => by simp [leadsL, onL, subL, addL]
  | r :: rs, s :: ss, l, q1, q2, h1, h2, h3 => by
    have ih := on_on p rs ss (l + r - s) (max q1 (l + r)) (max q2 (l + r)) (by omega) (by omega) (by omega)
    simp only [leadsL, onL, subL, addL, List.zipWith_cons_cons] at ih ⊢
    have e : l - 2 * (q1 - p) + (r - max (l + r - q1) 0) - (s + max (l + r - q1) 0) = l + r - s - 2 * (max q1 (l + r) - p) := by omega
    have e2 : max (q2 - (q1 - p)) (l - 2 * (q1 - p) + (r - max (l + r - q1) 0)) = max q2 (l + r) - (max q1 (l + r) - p) := by omega
    rw [e, e2]
    refine ⟨?_, ?_⟩
    · rw [ih.1]; congr 1; omega
    · rw [ih.2]; congr 1; omega
/-- moves on, undone -/
theorem on_bk (p : Int) : ∀ (rs ss : List Int) (l q : Int), p ≤ q →
    sgm (2 * p - reach q (leadsL l rs ss)) (leadsL (l - 2 * (q - p)) (subL rs (onL q (leadsL l rs ss))) (addL ss (onL q (leadsL l rs ss)))) = 2 * p - q ∧
    addL (subL rs (onL q (leadsL l rs ss))) (bkL (2 * p - reach q (leadsL l rs ss)) (leadsL (l - 2 * (q - p)) (subL rs (onL q (leadsL l rs ss))) (addL ss (onL q (leadsL l rs ss))))) = rs.take (min rs.length ss.length) ∧
    subL (addL ss (onL q (leadsL l rs ss))) (bkL (2 * p - reach q (leadsL l rs ss)) (leadsL (l - 2 * (q - p)) (subL rs (onL q (leadsL l rs ss))) (addL ss (onL q (leadsL l rs ss))))) = ss.take (min rs.length ss.length)
  | [], ss, l, q, _ => by simp [leadsL, onL, subL, addL, reach, sgm]
  | r :: rs, [], l, q, _ => by simp [leadsL, onL, subL, addL, reach, sgm]
  | r :: rs, s :: ss, l, q, h => by
    obtain ⟨i1, i2, i3⟩ := on_bk p rs ss (l + r - s) (max q (l + r)) (by omega)
    have er : reach q (leadsL l (r :: rs) (s :: ss)) = reach (max q (l + r)) (leadsL (l + r - s) rs ss) := rfl
    rw [er]
    simp only [leadsL, onL, subL, addL, List.zipWith_cons_cons, sgm, bkL] at i1 i2 i3 ⊢
    have e : l - 2 * (q - p) + (r - max (l + r - q) 0) - (s + max (l + r - q) 0) = l + r - s - 2 * (max q (l + r) - p) := by omega
    rw [e, i1]
    have em : min (rs.length + 1) (ss.length + 1) = min rs.length ss.length + 1 := by omega
    refine ⟨by omega, ?_, ?_⟩
    · rw [i2, List.length_cons, List.length_cons, em, List.take_succ_cons]; congr 1; omega
    · rw [i3, List.length_cons, List.length_cons, em, List.take_succ_cons]; congr 1; omega
section
variable {n : Nat} {M k j : Int} {r s : List Int}
theorem TR.leads_ne (h : TR n M r s) : 1 ≤ n := by
  have := (foldMax_iff.mp h.mx).1
  have h2 := List.length_pos_of_mem this
  rw [leadsL_len, h.lr, h.ls] at h2
  omega
/-- from behind -/
theorem TR.mir (h : TR n M r s) : TR n (M + s.sum - r.sum) s.reverse r.reverse := ⟨by simp [h.ls], by simp [h.lr], by
  have := max_rev (by rw [h.lr, h.ls]) h.mx
  rw [this]; congr 1; omega⟩
theorem lft_len (h : TR n M r s) : (lft M k r s).length = n := by
  unfold lft; split <;> simp [subL, addL, onL_len, bkL_len, leadsL_len, h.lr, h.ls]
theorem nxt_len (h : TR n M r s) : (nxt M k r s).length = n := by
  unfold nxt; split <;> simp [subL, addL, onL_len, bkL_len, leadsL_len, h.lr, h.ls]
theorem mv_zero (h : TR n M r s) : lft M 0 r s = r ∧ nxt M 0 r s = s := by
  unfold lft nxt
  simp only [Int.le_refl, if_true, Int.sub_zero]
  have hz := Mr.on_zero (leadsL 0 r s) M fun x hx => (foldMax_iff.mp h.mx).2 x hx
  have lz : (onL M (leadsL 0 r s)).length = n := by rw [onL_len, leadsL_len, h.lr, h.ls]; omega
  constructor
  · apply List.ext_getElem
    · simp [subL, lz, h.lr]
    · intro i h1 h2
      have := hz i
      rw [List.getD_eq_getElem?_getD, List.getElem?_eq_getElem (by rw [lz]; rw [h.lr] at h2; exact h2)] at this
      simp only [Option.getD_some] at this
      simp [subL, this]
  · apply List.ext_getElem
    · simp [addL, lz, h.ls]
    · intro i h1 h2
      have := hz i
      rw [List.getD_eq_getElem?_getD, List.getElem?_eq_getElem (by rw [lz]; rw [h.ls] at h2; exact h2)] at this
      simp only [Option.getD_some] at this
      simp [addL, this]
/-- from behind a move is a move back -/
theorem mv_mir (h : TR n M r s) (k0 : k ≤ 0) : lft (M + s.sum - r.sum) (-k) s.reverse r.reverse = (nxt M k r s).reverse ∧ nxt (M + s.sum - r.sum) (-k) s.reverse r.reverse = (lft M k r s).reverse := by
  by_cases e : k = 0
  · subst e
    rw [(mv_zero h).1, (mv_zero h).2]
    exact mv_zero h.mir
  · have hk : ¬ 0 ≤ k := by omega
    have hk2 : 0 ≤ -k := by omega
    unfold lft nxt
    simp only [if_neg hk, if_pos hk2]
    have be := back_eq (rs := r) (ss := s) (p := M + k) (by rw [h.lr, h.ls])
    have e2 : M + s.sum - r.sum - -k = M + k + (s.sum - r.sum) := by omega
    rw [e2]
    generalize hg : onL (M + k + (s.sum - r.sum)) (leadsL 0 s.reverse r.reverse) = g at *
    have gl : g.length = n := by rw [← hg, onL_len, leadsL_len]; simp [h.lr, h.ls]
    rw [← be]
    constructor
    · rw [sub_rev (by simp [h.ls, gl]), List.reverse_reverse]
    · rw [add_rev (by simp [h.lr, gl]), List.reverse_reverse]
theorem on_sum (h : TR n M r s) (k0 : 0 ≤ k) : (onL (M - k) (leadsL 0 r s)).sum = k := by
  obtain ⟨hm, hx⟩ := foldMax_iff.mp h.mx
  have h1 := (reach_ge (leadsL 0 r s) (M - k)).2 M hm
  have h2 := reach_le (leadsL 0 r s) (M - k) M (by omega) hx
  rw [onL_sum]; omega
theorem lft_sum0 (h : TR n M r s) (k0 : 0 ≤ k) : (lft M k r s).sum = r.sum - k ∧ (nxt M k r s).sum = s.sum + k := by
  have lz : (onL (M - k) (leadsL 0 r s)).length = n := by rw [onL_len, leadsL_len, h.lr, h.ls]; omega
  unfold lft nxt
  simp only [if_pos k0]
  rw [sub_sum _ _ (by rw [h.lr, lz]), add_sum _ _ (by rw [h.ls, lz]), on_sum h k0]
  exact ⟨rfl, rfl⟩
theorem lft_sum (h : TR n M r s) : (lft M k r s).sum = r.sum - k ∧ (nxt M k r s).sum = s.sum + k := by
  by_cases k0 : 0 ≤ k
  · exact lft_sum0 h k0
  · obtain ⟨e1, e2⟩ := mv_mir (k := k) h (by omega)
    obtain ⟨q1, q2⟩ := lft_sum0 (k := -k) h.mir (by omega)
    rw [e1, List.sum_reverse, List.sum_reverse] at q1
    rw [e2, List.sum_reverse, List.sum_reverse] at q2
    omega
theorem mv_tr0 (h : TR n M r s) (k0 : 0 ≤ k) : TR n (M - k) (lft M k r s) (nxt M k r s) := by
  refine ⟨lft_len h, nxt_len h, foldMax_iff.mpr ?_⟩
  unfold lft nxt
  simp only [if_pos k0]
  constructor
  · exact on_leads_mem (M - k) r s 0 ⟨M, (foldMax_iff.mp h.mx).1, by omega⟩
  · have := on_leads_le (M - k) r s 0 (M - k) (Int.le_refl _)
    rwa [show (0 : Int) - 2 * (M - k - (M - k)) = 0 by omega] at this
/-- behind moves: the greatest lead is less by as many -/
theorem mv_tr (h : TR n M r s) : TR n (M - k) (lft M k r s) (nxt M k r s) := by
  by_cases k0 : 0 ≤ k
  · exact mv_tr0 h k0
  · obtain ⟨e1, e2⟩ := mv_mir (k := k) h (by omega)
    have q := (mv_tr0 (k := -k) h.mir (by omega)).mir
    obtain ⟨z1, z2⟩ := lft_sum (k := k) h
    rw [e1, e2, List.reverse_reverse, List.reverse_reverse, List.sum_reverse, List.sum_reverse, z1, z2] at q
    have : M + s.sum - r.sum - -k + (r.sum - k) - (s.sum + k) = M - k := by omega
    rwa [this] at q
theorem mv_on_on (h : TR n M r s) (k0 : 0 ≤ k) (j0 : 0 ≤ j) : lft (M - k) j (lft M k r s) (nxt M k r s) = lft M (k + j) r s ∧ nxt (M - k) j (lft M k r s) (nxt M k r s) = nxt M (k + j) r s := by
  have q := on_on (M - k) r s 0 (M - k) (M - (k + j)) (Int.le_refl _) (by omega) (.inr rfl)
  rw [show (0 : Int) - 2 * (M - k - (M - k)) = 0 by omega, show M - (k + j) - (M - k - (M - k)) = M - k - j by omega] at q
  unfold lft nxt
  simp only [if_pos k0, if_pos j0, if_pos (show 0 ≤ k + j by omega)]
  exact q
theorem mv_bk_on (h : TR n M r s) (k0 : 0 ≤ k) : lft (M - k) (-k) (lft M k r s) (nxt M k r s) = r ∧ nxt (M - k) (-k) (lft M k r s) (nxt M k r s) = s := by
  by_cases e : k = 0
  · subst e
    have := mv_zero (mv_tr0 (k := 0) h (by omega))
    rw [show (-0 : Int) = 0 by omega, this.1, this.2]
    exact mv_zero h
  · obtain ⟨hm, hx⟩ := foldMax_iff.mp h.mx
    have h1 := (reach_ge (leadsL 0 r s) (M - k)).2 M hm
    have h2 := reach_le (leadsL 0 r s) (M - k) M (by omega) hx
    have hr : reach (M - k) (leadsL 0 r s) = M := by omega
    have q := (on_bk (M - k) r s 0 (M - k) (Int.le_refl _)).2
    rw [hr, show (0 : Int) - 2 * (M - k - (M - k)) = 0 by omega, show 2 * (M - k) - M = M - k + -k by omega, h.lr, h.ls, Nat.min_self, List.take_of_length_le (by rw [h.lr]; omega), List.take_of_length_le (by rw [h.ls]; omega)] at q
    unfold lft nxt
    simp only [if_pos k0, if_neg (show ¬ 0 ≤ -k by omega)]
    exact q
theorem mv_up (h : TR n M r s) (k0 : 0 ≤ k) : lft (M - k) j (lft M k r s) (nxt M k r s) = lft M (k + j) r s ∧ nxt (M - k) j (lft M k r s) (nxt M k r s) = nxt M (k + j) r s := by
  by_cases j0 : 0 ≤ j
  · exact mv_on_on h k0 j0
  · by_cases c : -j ≤ k
    · -- k = (k + j) and then -j; undone
      have e := mv_on_on (k := k + j) (j := -j) h (by omega) (by omega)
      have t := mv_tr (k := k + j) h
      have u := mv_bk_on (k := -j) t (by omega)
      rw [e.1, e.2] at u
      rw [show k + j + -j = k by omega, show M - (k + j) - -j = M - k by omega, show - -j = j by omega] at u
      exact u
    · -- j = -k and then k + j, both back: seen from behind
      have t := mv_tr (k := k) h
      have u := mv_bk_on h k0
      have e := mv_on_on (k := k) (j := -(k + j)) t.mir k0 (by omega)
      obtain ⟨m1, m2⟩ := mv_mir (k := -k) t (by omega)
      obtain ⟨z1, z2⟩ := lft_sum (k := k) h
      rw [show - -k = k by omega] at m1 m2
      rw [m1, m2, u.1, u.2] at e
      obtain ⟨w1, w2⟩ := mv_mir (k := j) t (by omega)
      rw [show k + -(k + j) = -j by omega, w1, w2] at e
      obtain ⟨v1, v2⟩ := mv_mir (k := k + j) h (by omega)
      rw [z1, z2, show M - k + (s.sum + k) - (r.sum - k) - k = M + s.sum - r.sum by omega, v1, v2] at e
      exact ⟨List.reverse_inj.mp e.2.symm, List.reverse_inj.mp e.1.symm⟩
/-- MOVES ADD UP -/
theorem mv_mv (h : TR n M r s) : lft (M - k) j (lft M k r s) (nxt M k r s) = lft M (k + j) r s ∧ nxt (M - k) j (lft M k r s) (nxt M k r s) = nxt M (k + j) r s := by
  by_cases k0 : 0 ≤ k
  · exact mv_up h k0
  · have t := mv_tr (k := k) h
    obtain ⟨z1, z2⟩ := lft_sum (k := k) h
    obtain ⟨m1, m2⟩ := mv_mir (k := k) h (by omega)
    have e := mv_up (k := -k) (j := -j) h.mir (by omega)
    rw [m1, m2, show M + s.sum - r.sum - -k = M - k + (s.sum + k) - (r.sum - k) by omega, ← z1, ← z2] at e
    -- both sides turned again
    have back : ∀ {n : Nat} {M i : Int} {r s : List Int}, TR n M r s → lft (M + s.sum - r.sum) (-i) s.reverse r.reverse = (nxt M i r s).reverse ∧ nxt (M + s.sum - r.sum) (-i) s.reverse r.reverse = (lft M i r s).reverse := by
      intro n M i r s h
      by_cases i0 : i ≤ 0
      · exact mv_mir h i0
      · have q := mv_mir (k := -i) h.mir (by omega)
        rw [List.reverse_reverse, List.reverse_reverse, List.sum_reverse, List.sum_reverse, show - -i = i by omega, show M + s.sum - r.sum + r.sum - s.sum = M by omega] at q
        rw [q.1, q.2, List.reverse_reverse, List.reverse_reverse]
        exact ⟨rfl, rfl⟩
    obtain ⟨b1, b2⟩ := back (i := j) t
    obtain ⟨c1, c2⟩ := back (i := k + j) h
    rw [b1, b2, show -k + -j = -(k + j) by omega, c1, c2] at e
    exact ⟨List.reverse_inj.mp e.2, List.reverse_inj.mp e.1⟩
end
end Pl
end
section
set_option Elab.async false
set_option linter.all false
set_option maxRecDepth 100000
set_option maxHeartbeats 2000000
/-! the law's own greatest worths, as a dict -/
namespace Pl
open PySem PySem.Spec L2 Lf Cp Cv
/-- the greatest worths from the customer f to each one from there on -/
def cumL (n f : Nat) (H : List (List Int)) : List Int := thru (H.map (·.drop f)) (List.replicate (n - f) 0)
end Pl
end
section
set_option Elab.async false
set_option linter.all false
set_option maxRecDepth 100000
set_option maxHeartbeats 2000000
/-! the third bag: take, house -/
namespace Pl
open PySem PySem.Spec L2 Lf Cp Ce
/-- a third bag -/
def KOk (t : Int) (o : OT) : Prop := ∃ a b c, o = W a b c ∧ 0 ≤ a ∧ (0 ≤ b ∧ b < 10 ^ 40) ∧ 0 ≤ c ∧ c ≤ t
theorem KOk.mono {t u : Int} {o : OT} (h : KOk t o) (hu : t ≤ u) : KOk u o := by
  obtain ⟨a, b, c, e, h1, h2, h3, h4⟩ := h
  exact ⟨a, b, c, e, h1, h2, h3, by omega⟩
theorem KOk.noFr {t : Int} {o : OT} (h : KOk t o) : noFr o = true := by
  obtain ⟨a, b, c, rfl, _⟩ := h
  rfl
end Pl
end
section
set_option Elab.async false
set_option linter.all false
set_option maxRecDepth 100000
set_option maxHeartbeats 2000000
/-! moves tried by a law: leads, the worth of two counters, halls seen from behind -/
namespace Pl
open PySem PySem.Spec L2 Lf Cp Cv
theorem lead_at : ∀ (rs ss : List Int) (l : Int) (k : Nat), k < rs.length → rs.length = ss.length → (leadsL l rs ss).getD k 0 = l + (rs.take (k + 1)).sum - (ss.take k).sum
  | [], ss, l, k, h, _ => by simp at h
  | r :: rs, [], l, k, _, h => by simp at h
  | r :: rs, s :: ss, l, 0, _, _ => by simp [leadsL]
  | r :: rs, s :: ss, l, k + 1, h, e => by
    have ih := lead_at rs ss (l + r - s) k (by simpa using h) (by simpa using e)
    simp only [leadsL, List.getD_cons_succ, List.take_succ_cons, List.sum_cons] at ih ⊢
    rw [ih]; omega
/-- the hall from behind -/
def mirL (H : List (List Int)) : List (List Int) := H.reverse.map List.reverse
/-- a hall of nought or more minutes of so many counters and customers -/
structure Hl (m n : Nat) (W : Int) (H : List (List Int)) : Prop where
  few : Few m n W H
  m2 : 2 ≤ m
  m8 : m ≤ 8
  n1 : 1 ≤ n
  n8 : n ≤ 8
theorem Hl.ok {m n : Nat} {W : Int} {H : List (List Int)} (h : Hl m n W H) : HOk m n W H := h.few.hok (by have := h.m2; omega) h.m8 h.n1 h.n8
theorem Hl.mir {m n : Nat} {W : Int} {H : List (List Int)} (h : Hl m n W H) (hW : 0 < W) : HOk m n W (mirL H) := h.ok.rev
end Pl
end
section
set_option Elab.async false
set_option linter.all false
set_option maxRecDepth 100000
set_option maxHeartbeats 2000000
namespace Cz
open PySem PySem.Spec L2 Lf
end Cz
end
section
set_option Elab.async false
set_option linter.all false
set_option maxRecDepth 100000
set_option maxHeartbeats 2000000
/-! one minute moved, by the law's own looking: mathematics -/
namespace Pl
open PySem PySem.Spec L2 Lf Cp
theorem on_first {M : Int} : ∀ (L : List Int) (j : Nat), (∀ x ∈ L, x ≤ M) → j < L.length → L.getD j 0 = M → (∀ k, k < j → L.getD k 0 < M) → ∀ k, (onL (M - 1) L).getD k 0 = if k = j then 1 else 0
  | [], j, _, h, _, _ => by simp at h
  | t :: ts, 0, hx, _, hm, _ => by
    simp only [List.forall_mem_cons] at hx
    simp at hm
    subst hm
    intro k
    simp only [onL]
    rw [show max (t - 1) t = t by omega]
    cases k with
    | zero => simp; omega
    | succ k => rw [List.getD_cons_succ, Mr.on_zero ts t hx.2 k]; simp
  | t :: ts, j + 1, hx, hj, hm, hb => by
    simp only [List.forall_mem_cons] at hx
    have ht : t < M := by simpa using hb 0 (by omega)
    have ih := on_first ts j hx.2 (by simpa using hj) (by simpa using hm) (fun k hk => by simpa using hb (k + 1) (by omega))
    intro k
    simp only [onL]
    rw [show max (M - 1) t = M - 1 by omega]
    cases k with
    | zero => simp; omega
    | succ k => rw [List.getD_cons_succ, ih k]; simp
theorem first_max {L : List Int} {M : Int} : (M ∈ L) → (∀ x ∈ L, x ≤ M) → ∃ j, j < L.length ∧ L.getD j 0 = M ∧ ∀ k, k < j → L.getD k 0 < M := by
  induction L with
  | nil => intro h; simp at h
  | cons t ts ih =>
    intro hm hx
    simp only [List.forall_mem_cons] at hx
    by_cases e : t = M
    · exact ⟨0, by simp, by simpa using e, fun k hk => by omega⟩
    · have : M ∈ ts := by
        rcases List.mem_cons.mp hm with h | h
        · exact absurd h.symm e
        · exact h
      obtain ⟨j, h1, h2, h3⟩ := ih this hx.2
      refine ⟨j + 1, by simpa using h1, by simpa using h2, fun k hk => ?_⟩
      cases k with
      | zero => simp; omega
      | succ k => simpa using h3 k (by omega)
theorem sub_unit {r g : List Int} {j : Nat} {n : Nat} (hr : r.length = n) (hg : g.length = n) (hk : ∀ k, g.getD k 0 = if k = j then 1 else 0) : subL r g = r.set j (r.getD j 0 - 1) := by
  apply List.ext_getElem
  · simp [subL, hr, hg]
  · intro i h1 h2
    have hi : i < n := by simpa [hr] using h2
    have := hk i
    rw [List.getD_eq_getElem?_getD, List.getElem?_eq_getElem (by omega)] at this
    simp only [Option.getD_some] at this
    simp only [subL, List.getElem_zipWith, this, List.getElem_set]
    by_cases e : i = j
    · subst e; simp [List.getD_eq_getElem?_getD, hr, hi]
    · simp [e, Ne.symm e]
theorem add_unit {r g : List Int} {j : Nat} {n : Nat} (hr : r.length = n) (hg : g.length = n) (hk : ∀ k, g.getD k 0 = if k = j then 1 else 0) : addL r g = r.set j (r.getD j 0 + 1) := by
  apply List.ext_getElem
  · simp [addL, hr, hg]
  · intro i h1 h2
    have hi : i < n := by simpa [hr] using h2
    have := hk i
    rw [List.getD_eq_getElem?_getD, List.getElem?_eq_getElem (by omega)] at this
    simp only [Option.getD_some] at this
    simp only [addL, List.getElem_zipWith, this, List.getElem_set]
    by_cases e : i = j
    · subst e; simp [List.getD_eq_getElem?_getD, hr, hi]
    · simp [e, Ne.symm e]
theorem take_succ_sum {L : List Int} {k : Nat} (h : k < L.length) : (L.take (k + 1)).sum = (L.take k).sum + L.getD k 0 := by
  rw [List.take_succ, List.getElem?_eq_getElem h, List.sum_append, List.getD_eq_getElem?_getD, List.getElem?_eq_getElem h]
  simp
theorem nn_get {L : List Int} (h : ∀ x ∈ L, 0 ≤ x) (k : Nat) : 0 ≤ L.getD k 0 := by
  by_cases hk : k < L.length
  · rw [List.getD_eq_getElem?_getD, List.getElem?_eq_getElem hk]; exact h _ (List.getElem_mem hk)
  · rw [List.getD_eq_getElem?_getD, List.getElem?_eq_none (by omega)]; simp
section
variable {n : Nat} {M : Int} {r s : List Int}
/-- the first of the greatest leads: who gives a minute -/
theorem one_on (h : TR n M r s) (hr : ∀ x ∈ r, 0 ≤ x) (hs : ∀ x ∈ s, 0 ≤ x) (m0 : 0 ≤ M) : ∃ j, j < n ∧ (leadsL 0 r s).getD j 0 = M ∧ (∀ k, k < j → (leadsL 0 r s).getD k 0 < M) ∧ (1 ≤ M ↔ r.getD j 0 ≠ 0) ∧ (1 ≤ M → lft M 1 r s = r.set j (r.getD j 0 - 1) ∧ nxt M 1 r s = s.set j (s.getD j 0 + 1)) := by
  obtain ⟨hm, hx⟩ := foldMax_iff.mp h.mx
  have n1 := h.leads_ne
  have ll : (leadsL 0 r s).length = n := by rw [leadsL_len, h.lr, h.ls]; omega
  obtain ⟨j, h1, h2, h3⟩ := first_max hm hx
  rw [ll] at h1
  have la := fun k (hk : k < n) => lead_at r s 0 k (by rw [h.lr]; exact hk) (by rw [h.lr, h.ls])
  have g0 := nn_get hr j
  refine ⟨j, h1, h2, h3, ?_, fun _ => ?_⟩
  · cases j with
    | zero =>
      have q := la 0 h1
      rw [h2, take_succ_sum (by rw [h.lr]; exact h1)] at q
      simp only [List.take_zero, List.sum_nil] at q
      omega
    | succ j =>
      have q1 := la (j + 1) h1
      have q2 := la j (by omega)
      have q3 := h3 j (by omega)
      have q4 := h3 0 (by omega)
      have q5 := la 0 (by omega)
      rw [take_succ_sum (by rw [h.lr]; omega)] at q5
      simp only [List.take_zero, List.sum_nil] at q5
      rw [h2, take_succ_sum (by rw [h.lr]; exact h1), take_succ_sum (L := s) (by rw [h.ls]; omega)] at q1
      have := nn_get hs j
      have := nn_get hr 0
      omega
  · have u := on_first (leadsL 0 r s) j hx (by omega) h2 h3
    have gl : (onL (M - 1) (leadsL 0 r s)).length = n := by rw [onL_len, ll]
    unfold lft nxt
    simp only [show (0 : Int) ≤ 1 by omega, if_true]
    exact ⟨sub_unit h.lr gl u, add_unit h.ls gl u⟩
end
/-! ### the worths of halls that are alike -/
theorem cum_alike {n f : Nat} {H H' : List (List Int)} (h : Alike H H') (hH : ∀ r ∈ H, r.length = n) (hH' : ∀ r ∈ H', r.length = n) : cumL n f H' = cumL n f H := by
  have e : ∀ {H : List (List Int)}, (∀ r ∈ H, r.length = n) → H.map (cutR f (n - f)) = H.map (·.drop f) := fun hH => List.map_congr_left fun r hr => by
    unfold cutR
    exact List.take_of_length_le (by rw [List.length_drop, hH r hr]; omega)
  have := h.cut f (n - f) (List.replicate (n - f) 0)
  rw [e hH, e hH'] at this
  exact this
end Pl
end
section
set_option Elab.async false
set_option linter.all false
set_option maxRecDepth 100000
set_option maxHeartbeats 2000000
/-! halls as tables: what the program's moves are there -/
namespace Dc
open PySem PySem.Spec L2 Lf Cp Pl
abbrev fl (L : List Int) : Nat → Int := fun q => L.getD q 0
theorem ps_shift (f : Nat → Int) : ∀ t, ps f (t + 1) = f 0 + ps (fun q => f (q + 1)) t
  | 0 => by simp only [ps]; omega
  | t + 1 => by
    have := ps_shift f t
    rw [show ps f (t + 1 + 1) = ps f (t + 1) + f (t + 1) from rfl, this]
    simp only [ps]; omega
theorem lead_get : ∀ (r s : List Int) (l : Int) (j : Nat), r.length = s.length → j < r.length → (leadsL l r s).getD j 0 = l + ps (fl r) (j + 1) - ps (fl s) j
  | [], _, _, _, _, h => by simp at h
  | _ :: _, [], _, _, h, _ => by simp at h
  | x :: r, y :: s, l, j, h, hj => by
    rw [leadsL]
    cases j with
    | zero => simp [ps]
    | succ j =>
      have ih := lead_get r s (l + x - y) j (by simpa using h) (by simpa using hj)
      have e1 := ps_shift (fl (x :: r)) (j + 1)
      have e2 := ps_shift (fl (y :: s)) j
      have f1 : (fun q => fl (x :: r) (q + 1)) = fl r := by funext q; simp [fl]
      have f2 : (fun q => fl (y :: s) (q + 1)) = fl s := by funext q; simp [fl]
      rw [f1] at e1
      rw [f2] at e2
      rw [e1, e2]
      have g0 : fl (x :: r) 0 = x := by simp [fl]
      have g1 : fl (y :: s) 0 = y := by simp [fl]
      rw [g0, g1]
      have : ((l + x) :: leadsL (l + x - y) r s).getD (j + 1) 0 = (leadsL (l + x - y) r s).getD j 0 := by simp
      rw [this, ih]
      omega
theorem sum_ps : ∀ (r : List Int), ps (fl r) r.length = r.sum
  | [] => rfl
  | x :: r => by
    rw [List.length_cons, ps_shift]
    have f1 : (fun q => fl (x :: r) (q + 1)) = fl r := by funext q; simp [fl]
    rw [f1, sum_ps r]
    simp [fl]
section
variable {m n c : Nat} {W M : Int} {A B H H' : List (List Int)} {r s : List Int}
theorem at_row (H : List (List Int)) (p : Nat) : at2 H p = fl (H.getD p []) := rfl
theorem at_r (hA : A.length = c) : at2 (A ++ r :: s :: B) c = fl r := by
  rw [at_row]; congr 1
  rw [List.getD_eq_getElem?_getD, List.getElem?_append_right (by omega), hA, Nat.sub_self]; rfl
theorem at_s (hA : A.length = c) : at2 (A ++ r :: s :: B) (c + 1) = fl s := by
  rw [at_row]; congr 1
  rw [List.getD_eq_getElem?_getD, List.getElem?_append_right (by omega), show c + 1 - A.length = 1 by omega]; rfl
theorem at_o {r' s' : List Int} (hA : A.length = c) {p : Nat} (h1 : p ≠ c) (h2 : p ≠ c + 1) : at2 (A ++ r' :: s' :: B) p = at2 (A ++ r :: s :: B) p := by
  rw [at_row, at_row]; congr 1
  rw [List.getD_eq_getElem?_getD, List.getD_eq_getElem?_getD]
  by_cases z : p < c
  · rw [List.getElem?_append_left (by omega), List.getElem?_append_left (by omega)]
  · rw [List.getElem?_append_right (by omega), List.getElem?_append_right (by omega)]
    obtain ⟨t, ht⟩ : ∃ t, p - A.length = t + 2 := ⟨p - A.length - 2, by omega⟩
    rw [ht]; rfl
theorem ok_at (h : HOk m n W H) : Ok m n (at2 H) := ⟨fun p q => at2_nn h p q, fun p q z => by
  have hl := h.len
  by_cases y : p < m
  · have : (H.getD p []).length = n := (h.rows _ (by rw [List.getD_eq_getElem?_getD, List.getElem?_eq_getElem (by omega)]; exact List.getElem_mem _)).1
    show (H.getD p []).getD q 0 = 0
    rw [List.getD_eq_getElem?_getD, List.getElem?_eq_none (by omega)]; rfl
  · show (H.getD p []).getD q 0 = 0
    rw [List.getD_eq_getElem?_getD (l := H), List.getElem?_eq_none (by omega)]; rfl⟩
theorem at_inj {W' : Int} (h : HOk m n W H) (h' : HOk m n W' H') (e : at2 H = at2 H') : H = H' := by
  have hl := h.len
  have hl' := h'.len
  apply List.ext_getElem (by omega)
  intro p h1 h2
  have r1 := (h.rows _ (List.getElem_mem h1)).1
  have r2 := (h'.rows _ (List.getElem_mem h2)).1
  apply List.ext_getElem (by omega)
  intro q h3 h4
  have := congrFun (congrFun e p) q
  simpa [at2, List.getD_eq_getElem?_getD, h1, h2, h3, h4] using this
theorem ld_at (hA : A.length = c) (t : TR n M r s) {j : Nat} (hj : j < n) : ld (at2 (A ++ r :: s :: B)) c j = (leadsL 0 r s).getD j 0 := by
  unfold ld
  rw [at_r hA, at_s hA, lead_get r s 0 j (by rw [t.lr, t.ls]) (by rw [t.lr]; exact hj)]
  omega
theorem leads_le (t : TR n M r s) {j : Nat} (hj : j < n) : (leadsL 0 r s).getD j 0 ≤ M := by
  have ll : (leadsL 0 r s).length = n := by rw [leadsL_len, t.lr, t.ls]; omega
  refine (foldMax_iff.mp t.mx).2 _ ?_
  rw [List.getD_eq_getElem?_getD, List.getElem?_eq_getElem (by omega)]
  exact List.getElem_mem _
theorem fs_at (hA : A.length = c) (t : TR n M r s) (hr : ∀ x ∈ r, 0 ≤ x) (hs : ∀ x ∈ s, 0 ≤ x) (m1 : 1 ≤ M) : Fs n c (at2 (A ++ r :: s :: B)) (at2 (A ++ lft M 1 r s :: nxt M 1 r s :: B)) ∧ (∀ x ∈ lft M 1 r s, 0 ≤ x) ∧ ∀ x ∈ nxt M 1 r s, 0 ≤ x := by
  obtain ⟨j, hj, h1, h2, h3, h4⟩ := one_on t hr hs (by omega)
  obtain ⟨e1, e2⟩ := h4 m1
  have lr := t.lr
  have ls := t.ls
  have rj := h3.mp m1
  have rn : 0 ≤ r.getD j 0 := nn_get hr j
  have sn : 0 ≤ s.getD j 0 := nn_get hs j
  rw [e1, e2]
  refine ⟨⟨j, ⟨hj, fun i hi => ?_, fun i hi => ?_⟩, ?_, ?_⟩, fun x hx => ?_, fun x hx => ?_⟩
  · rw [ld_at hA t hi, ld_at hA t hj, h1]; exact leads_le t hi
  · rw [ld_at hA t (by omega), ld_at hA t hj, h1]; exact h2 i hi
  · rw [ld_at hA t hj, h1]; exact m1
  · funext p q
    show _ = at2 (A ++ r :: s :: B) p q + dl c j p q
    unfold dl
    by_cases z1 : p = c
    · subst z1
      rw [at_r hA, at_r hA, if_pos rfl]
      by_cases z2 : q = j
      · subst z2
        rw [if_pos rfl]
        show (r.set q _).getD q 0 = r.getD q 0 + -1
        rw [List.getD_eq_getElem?_getD, List.getElem?_set_self (by omega)]
        show r.getD q 0 - 1 = _
        omega
      · rw [if_neg z2]
        show (r.set j _).getD q 0 = r.getD q 0 + 0
        rw [List.getD_eq_getElem?_getD, List.getElem?_set_ne (Ne.symm z2), ← List.getD_eq_getElem?_getD]; omega
    · by_cases z3 : p = c + 1
      · subst z3
        rw [at_s hA, at_s hA, if_neg (show ¬ (c + 1 = c) by omega), if_pos rfl]
        by_cases z2 : q = j
        · subst z2
          rw [if_pos rfl]
          show (s.set q _).getD q 0 = s.getD q 0 + 1
          rw [List.getD_eq_getElem?_getD, List.getElem?_set_self (by omega)]
          rfl
        · rw [if_neg z2]
          show (s.set j _).getD q 0 = s.getD q 0 + 0
          rw [List.getD_eq_getElem?_getD, List.getElem?_set_ne (Ne.symm z2), ← List.getD_eq_getElem?_getD]; omega
      · rw [if_neg z1, if_neg z3, at_o (r := r) (s := s) hA z1 z3]
        split <;> omega
  · rcases List.mem_or_eq_of_mem_set hx with y | y
    · exact hr x y
    · omega
  · rcases List.mem_or_eq_of_mem_set hx with y | y
    · exact hs x y
    · omega
theorem Fp.snoc {i t : Nat} {X Y Z : Mat} (f : Fp n i t X Y) : Fs n i Y Z → Fp n i (t + 1) X Z := by
  induction f with
  | nil => exact fun g => .cons g .nil
  | cons f1 f2 ih => exact fun g => .cons f1 (ih g)
theorem fp_at (hA : A.length = c) (t : TR n M r s) (hr : ∀ x ∈ r, 0 ≤ x) (hs : ∀ x ∈ s, 0 ≤ x) : ∀ k : Nat, (k : Int) ≤ M → Fp n c k (at2 (A ++ r :: s :: B)) (at2 (A ++ lft M k r s :: nxt M k r s :: B)) ∧ (∀ x ∈ lft M k r s, 0 ≤ x) ∧ ∀ x ∈ nxt M k r s, 0 ≤ x
  | 0, _ => by
    have z := mv_zero t
    rw [show ((0 : Nat) : Int) = 0 from rfl, z.1, z.2]
    exact ⟨.nil, hr, hs⟩
  | k + 1, h => by
    obtain ⟨f, a, b⟩ := fp_at hA t hr hs k (by omega)
    have t' := mv_tr (k := k) t
    obtain ⟨g, a', b'⟩ := fs_at (B := B) hA t' a b (by omega)
    obtain ⟨e1, e2⟩ := mv_mv (k := k) (j := 1) t
    rw [e1, e2] at g
    rw [e1] at a'
    rw [e2] at b'
    exact ⟨f.snoc g, a', b'⟩
/-- many moves, on or back -/
def Mv (n i : Nat) (k : Int) (X Y : Mat) : Prop := (0 ≤ k ∧ Fp n i k.toNat X Y) ∨ (k ≤ 0 ∧ Fp n i (-k).toNat Y X)
theorem mv_at {k : Int} (hA : A.length = c) (t : TR n M r s) (hr : ∀ x ∈ r, 0 ≤ x) (hs : ∀ x ∈ s, 0 ≤ x) (m0 : 0 ≤ M) (nn : (∀ x ∈ lft M k r s, 0 ≤ x) ∧ ∀ x ∈ nxt M k r s, 0 ≤ x) (h : k ≤ M) : Mv n c k (at2 (A ++ r :: s :: B)) (at2 (A ++ lft M k r s :: nxt M k r s :: B)) := by
  by_cases z : 0 ≤ k
  · obtain ⟨j, rfl⟩ : ∃ j : Nat, (j : Int) = k := ⟨k.toNat, by omega⟩
    have := (fp_at (B := B) hA t hr hs j h).1
    exact .inl ⟨z, by rw [Int.toNat_natCast]; exact this⟩
  · obtain ⟨j, hj⟩ : ∃ j : Nat, (j : Int) = -k := ⟨(-k).toNat, by omega⟩
    have t' := mv_tr (k := k) t
    have := (fp_at (B := B) hA t' nn.1 nn.2 j (by omega)).1
    obtain ⟨e1, e2⟩ := mv_mv (k := k) (j := -k) t
    rw [hj, e1, e2, show k + -k = 0 by omega] at this
    have q := mv_zero t
    rw [q.1, q.2] at this
    exact .inr ⟨by omega, by rw [← hj, Int.toNat_natCast]; exact this⟩
theorem Mv.ex {k : Int} {X Y : Mat} (h : Mv n c k X Y) (hk : k = ps (X c) n - ps (X (c + 1)) n) : Ex n c X Y := by
  rcases h with ⟨z, f⟩ | ⟨z, f⟩
  · have l := f.lk (m := c + 2) (by omega)
    refine ⟨⟨_, .inl f⟩, ?_, ?_⟩
    · rw [l.row]; omega
    · rw [l.row1]; omega
  · have l := f.lk (m := c + 2) (by omega)
    have a := l.row
    have b := l.row1
    exact ⟨⟨_, .inr f⟩, by omega, by omega⟩
end
end Dc
end
section
set_option Elab.async false
set_option linter.all false
set_option maxRecDepth 100000
set_option maxHeartbeats 2000000
/-! the settling: one counter after another, each led past all ahead -/
namespace Dc
section
variable {m n i c b : Nat} {X Y Z A B C R : Mat}
theorem Set.congr (h1 : X i = Y i) (h2 : X (i + 1) = Y (i + 1)) : Set n i X ↔ Set n i Y := by
  unfold Set ld
  rw [h1, h2]
/-- Y is X with all moves back between i and i + 1 done -/
structure St (m n i : Nat) (X Y : Mat) : Prop where
  ok : Ok m n Y
  way : ∃ t, Fp n i t Y X
  set : Set n i Y
/-- counters c - 1, .., 0 one after another -/
inductive Ps (m n : Nat) : Nat → Mat → Mat → Prop
  | nil {X : Mat} : Ps m n 0 X X
  | cons {c : Nat} {X Y Z : Mat} : St m n c X Y → Ps m n c Y Z → Ps m n (c + 1) X Z
theorem Fp.oth {t : Nat} (f : Fp n i t A B) {p : Nat} (h1 : p ≠ i) (h2 : p ≠ i + 1) : B p = A p := (f.lk (m := i + 2) (by omega)).oth p h1 h2
theorem pass_lem (hn : 0 < n) (hb : b < m) : ∀ (c : Nat) (B : Mat), c < b → Ok m n B → (∃ C t, Ok m n C ∧ Fp n c t B C ∧ Set n c B ∧ ∀ i, i + 1 ≤ c → Set n i C) → (∀ i, c ≤ i → i < b → Set n i B) → ∀ Z, Ps m n c B Z → Ok m n Z ∧ ∀ i, i < b → Set n i Z
  | 0, B, _, oB, _, h3, Z, p => by
    cases p
    exact ⟨oB, fun i hi => h3 i (by omega) hi⟩
  | c + 1, B, hc, oB, ⟨C, t, oC, f, s1, h2⟩, h3, Z, p => by
    cases p with
    | cons q p =>
      rename_i Y
      obtain ⟨oY, ⟨u, g⟩, sY⟩ := q
      have s2 := three (i := c) hn (by omega) oY oB oC g f (h2 c (by omega)) s1 sY
      refine pass_lem hn hb c Y (by omega) oY ⟨B, u, oB, g, sY, fun i hi => ?_⟩ (fun i h1 hi => ?_) Z p
      · exact (Set.congr (f.oth (by omega) (by omega)) (f.oth (by omega) (by omega))).mp (h2 i (by omega))
      · by_cases z1 : i = c
        · rw [z1]; exact sY
        · by_cases z2 : i = c + 1
          · rw [z2]; exact s2
          · exact (Set.congr (g.oth (by omega) (by omega)) (g.oth (by omega) (by omega))).mp (h3 i (by omega) hi)
/-- one pass settles the counter at b with all ahead -/
theorem pass_ok (hn : 0 < n) (hb : b < m) (oX : Ok m n X) (h : ∀ i, i + 1 < b → Set n i X) (p : Ps m n b X Z) : Ok m n Z ∧ ∀ i, i < b → Set n i Z := by
  cases p with
  | nil => exact ⟨oX, fun i hi => by omega⟩
  | cons q p =>
    rename_i c Y
    obtain ⟨oY, ⟨u, g⟩, sY⟩ := q
    exact pass_lem hn hb c Y (by omega) oY ⟨X, u, oX, g, sY, fun i hi => h i (by omega)⟩ (fun i h1 hi => by
      have : i = c := by omega
      rw [this]; exact sY) Z p
theorem Ps.fq (p : Ps m n b X Z) : b < m → ∃ is, (∀ i ∈ is, i + 1 < m) ∧ Fq n is Z X := by
  induction p with
  | nil => exact fun _ => ⟨[], by simp, .nil⟩
  | cons q p ih =>
    intro hb
    obtain ⟨is, h1, h2⟩ := ih (by omega)
    obtain ⟨_, ⟨u, g⟩, _⟩ := q
    refine ⟨is ++ List.replicate u _, fun i hi => ?_, h2.app g.fq⟩
    rcases List.mem_append.mp hi with z | z
    · exact h1 i z
    · rw [List.eq_of_mem_replicate z]; omega
/-- passes for 1, .., b -/
inductive Al (m n : Nat) : Nat → Mat → Mat → Prop
  | nil {X : Mat} : Al m n 0 X X
  | snoc {b : Nat} {X Y Z : Mat} : Al m n b X Y → Ps m n (b + 1) Y Z → Al m n (b + 1) X Z
theorem Al.ok (hn : 0 < n) (oX : Ok m n X) (a : Al m n b X Z) : b < m → Ok m n Z ∧ (∀ i, i < b → Set n i Z) ∧ ∃ is, (∀ i ∈ is, i + 1 < m) ∧ Fq n is Z X := by
  induction a with
  | nil => exact fun _ => ⟨oX, fun i hi => by omega, [], by simp, .nil⟩
  | snoc a p ih =>
    intro hb
    obtain ⟨o1, s1, is, h1, f1⟩ := ih oX (by omega)
    obtain ⟨o2, s2⟩ := pass_ok hn hb o1 (fun i hi => s1 i (by omega)) p
    obtain ⟨js, h2, f2⟩ := p.fq hb
    exact ⟨o2, s2, js ++ is, fun i hi => (List.mem_append.mp hi).elim (h2 i) (h1 i), f2.app f1⟩
/-- all passes: the settled table -/
theorem Al.root (hn : 0 < n) (hm : 0 < m) (oX : Ok m n X) (a : Al m n (m - 1) X Z) : Root m n Z X := by
  obtain ⟨o, s, w⟩ := a.ok hn oX (by omega)
  exact ⟨o, fun i hi => s i (by omega), w⟩
end
end Dc
end
section
set_option Elab.async false
set_option linter.all false
set_option maxRecDepth 100000
set_option maxHeartbeats 2000000
/-! some customers of a hall -/
namespace Dc
section
variable {m n i a b : Nat} {X Y Z R : Mat}
/-- the customers from a on, before b -/
def cutM (a b : Nat) (M : Mat) : Mat := fun p q => if a + q < b then M p (a + q) else 0
theorem ps_cut (f : Nat → Int) : ∀ t, a + t ≤ b → ps (fun q => if a + q < b then f (a + q) else 0) t = ps f (a + t) - ps f a
  | 0, _ => by simp [ps]
  | t + 1, h => by
    have e : ps f (a + (t + 1)) = ps f (a + t) + f (a + t) := rfl
    have g : ps (fun q => if a + q < b then f (a + q) else 0) (t + 1) = ps (fun q => if a + q < b then f (a + q) else 0) t + (if a + t < b then f (a + t) else 0) := rfl
    rw [g, ps_cut f t (by omega), e, if_pos (by omega)]
    omega
theorem ld_cut {j : Nat} (h : a + j < b) : ld (cutM a b X) i j = ld X i (a + j) - (ps (X i) a - ps (X (i + 1)) a) := by
  have e1 := ps_cut (a := a) (b := b) (X i) (j + 1) (by omega)
  have e2 := ps_cut (a := a) (b := b) (X (i + 1)) j (by omega)
  show ps (fun q => if a + q < b then X i (a + q) else 0) (j + 1) - ps (fun q => if a + q < b then X (i + 1) (a + q) else 0) j = _
  rw [e1, e2]
  unfold ld
  rw [show a + (j + 1) = a + j + 1 by omega]
  omega
theorem Ok.cut (h : Ok m n X) (hb : b ≤ n) : Ok m (b - a) (cutM a b X) := ⟨fun p q => by
  unfold cutM; split
  · exact h.nn ..
  · omega, fun p q z => by
  unfold cutM; split
  · exact h.out _ _ (by omega)
  · rfl⟩
theorem Fs.cut (h : Ok m n X) (hb : b ≤ n) (f : Fs n i X Y) : cutM a b X = cutM a b Y ∨ Fs (b - a) i (cutM a b X) (cutM a b Y) := by
  obtain ⟨c, fa, f1, rfl⟩ := f
  by_cases z : a ≤ c ∧ c < b
  · right
    obtain ⟨j, rfl⟩ : ∃ j, c = a + j := ⟨c - a, by omega⟩
    have v : 1 ≤ ld X i (a + j) - (ps (X i) a - ps (X (i + 1)) a) := by
      by_cases y : a = 0
      · subst y; simp only [ps]; omega
      · have q := fa.fst (a - 1) (by omega)
        have e : ld X i (a - 1) = ps (X i) a - ps (X (i + 1)) (a - 1) := by unfold ld; rw [show a - 1 + 1 = a by omega]
        have e2 : ps (X (i + 1)) a = ps (X (i + 1)) (a - 1) + X (i + 1) (a - 1) := by
          obtain ⟨k, rfl⟩ : ∃ k, a = k + 1 := ⟨a - 1, by omega⟩
          rfl
        have := h.nn (i + 1) (a - 1)
        omega
    refine ⟨j, ⟨by omega, fun k hk => ?_, fun k hk => ?_⟩, ?_, ?_⟩
    · rw [ld_cut (by omega), ld_cut (by omega)]
      have := fa.le (a + k) (by omega)
      omega
    · rw [ld_cut (by omega), ld_cut (by omega)]
      have := fa.fst (a + k) (by omega)
      omega
    · rw [ld_cut (by omega)]; exact v
    · funext p q
      show (if a + q < b then X p (a + q) + dl i (a + j) p (a + q) else 0) = (if a + q < b then X p (a + q) else 0) + dl i j p q
      unfold dl
      by_cases y : q = j
      · subst y; rw [if_pos z.2, if_pos z.2, if_pos rfl, if_pos rfl]
      · rw [if_neg (show ¬ a + q = a + j by omega), if_neg y]
        split <;> omega
  · left
    funext p q
    show (if a + q < b then X p (a + q) else 0) = if a + q < b then X p (a + q) + dl i c p (a + q) else 0
    unfold dl
    by_cases y : a + q < b
    · rw [if_pos y, if_pos y, if_neg (by omega)]; omega
    · rw [if_neg y, if_neg y]
theorem Fp.cut {t : Nat} (hi : i + 1 < m) (hb : b ≤ n) (f : Fp n i t X Y) : Ok m n X → ∃ is, (∀ j ∈ is, j + 1 < m) ∧ Fq (b - a) is (cutM a b X) (cutM a b Y) := by
  induction f with
  | nil => exact fun _ => ⟨[], by simp, .nil⟩
  | cons f1 f2 ih =>
    intro h
    obtain ⟨is, h1, h2⟩ := ih (Fs.ok h hi f1)
    rcases f1.cut (a := a) h hb with e | g
    · exact ⟨is, h1, by rw [e]; exact h2⟩
    · exact ⟨i :: is, by simp only [List.forall_mem_cons]; exact ⟨hi, h1⟩, .cons g h2⟩
/-- a way of moves, this way or that -/
def Lw (m n : Nat) (X Y : Mat) : Prop := ∃ is, (∀ i ∈ is, i + 1 < m) ∧ (Fq n is X Y ∨ Fq n is Y X)
theorem Lw.symm (l : Lw m n X Y) : Lw m n Y X := by
  obtain ⟨is, h, f⟩ := l
  exact ⟨is, h, f.symm⟩
theorem Mv.cut {k : Int} (hi : i + 1 < m) (hb : b ≤ n) (hX : Ok m n X) (hY : Ok m n Y) (f : Mv n i k X Y) : Lw m (b - a) (cutM a b X) (cutM a b Y) := by
  rcases f with ⟨_, f⟩ | ⟨_, f⟩
  · obtain ⟨is, h, g⟩ := f.cut (a := a) hi hb hX
    exact ⟨is, h, .inl g⟩
  · obtain ⟨is, h, g⟩ := f.cut (a := a) hi hb hY
    exact ⟨is, h, .inr g⟩
theorem Root.fq {is : List Nat} (f : Fq n is X Y) : (∀ i ∈ is, i + 1 < m) → Root m n R X → Root m n R Y := by
  induction f with
  | nil => exact fun _ => id
  | cons f1 f2 ih =>
    intro h a
    simp only [List.forall_mem_cons] at h
    exact ih h.2 (a.on h.1 f1)
/-- tables of one way have one settled table -/
theorem Lw.root (hm : 0 < m) (l : Lw m n X Y) (a : Root m n R X) (b : Root m n Z Y) : R = Z := by
  obtain ⟨is, h, f | f⟩ := l
  · exact (Root.fq f h a).one_only hm b
  · exact a.one_only hm (Root.fq f h b)
end
end Dc
end
section
set_option Elab.async false
set_option linter.all false
set_option maxRecDepth 100000
set_option maxHeartbeats 2000000
/-! all minutes so many times; an idle counter behind; a customer who needs nothing; the customers ahead: mathematics only -/
namespace Dc
section
variable {m n i a b s t u : Nat} {X Y Z R S A B C M : Mat} {w : Int}
theorem Fp.app (f : Fp n i t A B) : Fp n i u B C → Fp n i (t + u) A C := by
  induction f with
  | nil => intro g; rw [Nat.zero_add]; exact g
  | cons f1 f2 ih => intro g; have := Fp.cons f1 (ih g); rw [show ∀ k, k + u + 1 = k + 1 + u from fun k => by omega] at this; exact this
/-! ### so many times -/
/-! ### an idle counter behind -/
/-! ### a customer who needs nothing -/
/-! ### the customers ahead -/
theorem Gq.row {ks : List Nat} (g : Gq m ks A B) : (∀ k ∈ ks, k + 1 < n) → ∀ p, ps (B p) n = ps (A p) n := by
  induction g with
  | nil => exact fun _ _ => rfl
  | cons g1 g2 ih =>
    intro hk p
    simp only [List.forall_mem_cons] at hk
    obtain ⟨h, _, _, rfl⟩ := g1
    rw [ih hk.2 p, row_mvc hk.1]
theorem Fq.cut {is : List Nat} (f : Fq n is X Y) (hb : b ≤ n) : (∀ i ∈ is, i + 1 < m) → Ok m n X → ∃ js, (∀ j ∈ js, j + 1 < m) ∧ Fq (b - a) js (cutM a b X) (cutM a b Y) := by
  induction f with
  | nil => exact fun _ _ => ⟨[], by simp, .nil⟩
  | cons f1 f2 ih =>
    intro hi h
    simp only [List.forall_mem_cons] at hi
    obtain ⟨js, h1, h2⟩ := ih hi.2 (f1.ok h hi.1)
    rcases f1.cut (a := a) h hb with e | e
    · rw [e]; exact ⟨js, h1, h2⟩
    · exact ⟨_ :: js, by simp only [List.forall_mem_cons]; exact ⟨hi.1, h1⟩, .cons e h2⟩
end
end Dc
end
section
set_option Elab.async false
set_option linter.all false
set_option maxRecDepth 100000
set_option maxHeartbeats 2000000
/-! tables read from the end; all to one corner; the totals are the same all ways: mathematics only -/
namespace Dc
section
variable {m n i j k a b s t u : Nat} {X Y Z R S A B C D M : Mat}
/-! ### read from the end -/
def mirM (m n : Nat) (M : Mat) : Mat := fun p q => if p < m ∧ q < n then M (m - 1 - p) (n - 1 - q) else 0
theorem ps_rev (f : Nat → Int) : ∀ t, t ≤ n → ps (fun q => if q < n then f (n - 1 - q) else 0) t = ps f n - ps f (n - t)
  | 0, _ => by simp [ps]
  | t + 1, h => by
    show ps (fun q => if q < n then f (n - 1 - q) else 0) t + (if t < n then f (n - 1 - t) else 0) = _
    rw [ps_rev f t (by omega), if_pos (by omega)]
    obtain ⟨d, hd⟩ : ∃ d, n = d + (t + 1) := ⟨n - (t + 1), by omega⟩
    subst hd
    rw [show d + (t + 1) - t = d + 1 by omega, show d + (t + 1) - (t + 1) = d by omega, show d + (t + 1) - 1 - t = d by omega]
    have : ps f (d + 1) = ps f d + f d := rfl
    omega
theorem mir_row {p : Nat} (hp : p < m) : mirM m n M p = fun q => if q < n then M (m - 1 - p) (n - 1 - q) else 0 := by
  funext q
  unfold mirM
  by_cases z : q < n
  · rw [if_pos ⟨hp, z⟩, if_pos z]
  · rw [if_neg (fun h => z h.2), if_neg z]
theorem row_mir {p t : Nat} (hp : p < m) (ht : t ≤ n) : ps (mirM m n M p) t = ps (M (m - 1 - p)) n - ps (M (m - 1 - p)) (n - t) := by
  rw [mir_row hp, ps_rev (M (m - 1 - p)) t ht]
theorem ld_mir (hi : i + 1 < m) (hj : j < n) : ld (mirM m n M) (m - 2 - i) (n - 1 - j) = ld M i j + ps (M (i + 1)) n - ps (M i) n := by
  unfold ld
  rw [row_mir (by omega) (by omega), row_mir (by omega) (by omega), show m - 1 - (m - 2 - i) = i + 1 by omega, show m - 1 - (m - 2 - i + 1) = i by omega, show n - (n - 1 - j + 1) = j by omega, show n - (n - 1 - j) = j + 1 by omega]
  omega
theorem Ok.mir (h : Ok m n M) : Ok m n (mirM m n M) := ⟨fun p q => by
  unfold mirM; split
  · exact h.nn ..
  · omega, fun p q z => by unfold mirM; rw [if_neg z]⟩
theorem mir_mirM (h : Ok m n M) : mirM m n (mirM m n M) = M := by
  funext p q
  unfold mirM
  by_cases z : p < m ∧ q < n
  · rw [if_pos z, if_pos (by omega), show m - 1 - (m - 1 - p) = p by omega, show n - 1 - (n - 1 - q) = q by omega]
  · rw [if_neg z, h.out p q z]
theorem mir_tr : mirM n m (tr M) = tr (mirM m n M) := by
  funext p q
  show (if p < n ∧ q < m then M (m - 1 - q) (n - 1 - p) else 0) = if q < m ∧ p < n then M (m - 1 - q) (n - 1 - p) else 0
  by_cases z : p < n ∧ q < m
  · rw [if_pos z, if_pos ⟨z.2, z.1⟩]
  · rw [if_neg z, if_neg (fun h => z ⟨h.2, h.1⟩)]
/-- a move on, read from the end, is a move on the other way -/
theorem Fs.mir (h : Ok m n X) (hi : i + 1 < m) (f : Fs n i X Y) : Fs n (m - 2 - i) (mirM m n Y) (mirM m n X) := by
  have oY := f.ok h hi
  obtain ⟨c, fa, f1, rfl⟩ := f
  have hc := fa.lt
  have l : ∀ q, ld (mvd X i c) i q = ld X i q - (if q < c then 0 else if q = c then 1 else 2) := fun q => ld_mvd X i c q
  have lc := l c
  rw [if_neg (by omega), if_pos rfl] at lc
  have t1 : ps (mvd X i c (i + 1)) n = ps (X (i + 1)) n + 1 := by
    have e : ps (mvd X i c (i + 1)) n = ps (X (i + 1)) n + ps (dl i c (i + 1)) n := ps_add _ _ n
    rw [e, ps_dl, if_pos hc, if_neg (by omega), if_pos rfl]
  have t0 : ps (mvd X i c i) n = ps (X i) n - 1 := by
    have e : ps (mvd X i c i) n = ps (X i) n + ps (dl i c i) n := ps_add _ _ n
    rw [e, ps_dl, if_pos hc, if_pos rfl]; omega
  have val : ∀ q, q < n → ld (mirM m n (mvd X i c)) (m - 2 - i) q = ld (mvd X i c) i (n - 1 - q) + ps (mvd X i c (i + 1)) n - ps (mvd X i c i) n := fun q hq => by
    have := ld_mir (M := mvd X i c) hi (show n - 1 - q < n by omega)
    rw [show n - 1 - (n - 1 - q) = q by omega] at this
    exact this
  have ec : n - 1 - (n - 1 - c) = c := by omega
  have vc := val (n - 1 - c) (by omega)
  rw [ec, lc, t0, t1] at vc
  have last : ld X i (n - 1) ≥ ps (X i) n - ps (X (i + 1)) n := by
    unfold ld
    obtain ⟨d, hd⟩ : ∃ d, n = d + 1 := ⟨n - 1, by omega⟩
    subst hd
    have := h.nn (i + 1) d
    have e : ps (X (i + 1)) (d + 1) = ps (X (i + 1)) d + X (i + 1) d := rfl
    rw [Nat.add_sub_cancel]
    omega
  have top := fa.le (n - 1) (by omega)
  refine ⟨n - 1 - c, ⟨by omega, fun q hq => ?_, fun q hq => ?_⟩, ?_, ?_⟩
  · rw [vc, val q hq, t0, t1, l]
    split
    · have := fa.fst (n - 1 - q) (by assumption); omega
    · split
      · have := fa.le (n - 1 - q) (by omega); omega
      · have := fa.le (n - 1 - q) (by omega); omega
  · rw [vc, val q (by omega), t0, t1, l, if_neg (by omega), if_neg (by omega)]
    have := fa.le (n - 1 - q) (by omega)
    omega
  · rw [vc]; omega
  · funext p q
    show (if p < m ∧ q < n then X (m - 1 - p) (n - 1 - q) else 0) = (if p < m ∧ q < n then X (m - 1 - p) (n - 1 - q) + dl i c (m - 1 - p) (n - 1 - q) else 0) + dl (m - 2 - i) (n - 1 - c) p q
    unfold dl
    by_cases z : p < m ∧ q < n
    · rw [if_pos z, if_pos z]
      by_cases y : q = n - 1 - c
      · rw [if_pos (show n - 1 - q = c by omega), if_pos y]
        by_cases w1 : p = m - 2 - i
        · rw [if_neg (by omega), if_pos (by omega), if_pos w1]; omega
        · by_cases w2 : p = m - 2 - i + 1
          · rw [if_pos (by omega), if_neg w1, if_pos w2]; omega
          · rw [if_neg (by omega), if_neg (by omega), if_neg w1, if_neg w2]; omega
      · rw [if_neg (show ¬ n - 1 - q = c by omega), if_neg y]; omega
    · rw [if_neg z, if_neg z]
      by_cases y : q = n - 1 - c
      · rw [if_pos y, if_neg (by omega), if_neg (by omega)]; rfl
      · rw [if_neg y]; rfl
theorem Fq.snoc {is : List Nat} (f : Fq n is X Y) (g : Fs n i Y Z) : Fq n (is ++ [i]) X Z := f.app (.cons g .nil)
theorem Fq.mir {is : List Nat} (f : Fq n is X Y) : Ok m n X → (∀ i ∈ is, i + 1 < m) → ∃ js, (∀ j ∈ js, j + 1 < m) ∧ Fq n js (mirM m n Y) (mirM m n X) := by
  induction f with
  | nil => exact fun _ _ => ⟨[], by simp, .nil⟩
  | cons f1 f2 ih =>
    rename_i i is A B C
    intro h hi
    simp only [List.forall_mem_cons] at hi
    obtain ⟨js, h1, h2⟩ := ih (f1.ok h hi.1) hi.2
    refine ⟨js ++ [m - 2 - i], fun j hj => ?_, h2.snoc (f1.mir h hi.1)⟩
    rcases List.mem_append.mp hj with z | z
    · exact h1 j z
    · simp at z; omega
/-- a settled table, read from the end, has no move on -/
theorem Set.con (st : ∀ i, i + 1 < m → Set n i Y) (hi : i + 1 < m) (hj : j < n) : ld (mirM m n Y) i j ≤ 0 := by
  have s := st (m - 2 - i) (by omega) (n - 1 - j) (by omega)
  have e := ld_mir (M := Y) (m := m) (n := n) (i := m - 2 - i) (j := n - 1 - j) (by omega) (by omega)
  rw [show m - 2 - (m - 2 - i) = i by omega, show n - 1 - (n - 1 - j) = j by omega, show m - 2 - i + 1 = m - 2 - i + 1 from rfl] at e
  rw [e]
  omega
/-! ### the totals -/
theorem Fq.gq {ks : List Nat} (f : Fq m ks X Y) : Gq m ks (tr X) (tr Y) := by
  induction f with
  | nil => exact .nil
  | cons f1 f2 ih => exact .cons (Gs_tr.mpr f1) ih
theorem Gq.fq {ks : List Nat} (g : Gq m ks X Y) : Fq m ks (tr X) (tr Y) := by
  induction g with
  | nil => exact .nil
  | cons g1 g2 ih => exact .cons (Gs_tr.mp g1) ih
/-! ### one corner -/
end
end Dc
end
section
set_option Elab.async false
set_option linter.all false
set_option maxRecDepth 100000
set_option maxHeartbeats 2000000
/-! one move between counters, seen in the table with all customers gone on; cuts. Plain. -/
namespace Dc
end Dc
end
section
set_option Elab.async false
set_option linter.all false
set_option maxRecDepth 100000
set_option maxHeartbeats 1000000
/-! patterns: the numbers of a tower, row on row; the table they tell, where nothing can go on between customers; and how moves between counters lead from one to any other with the same last row -/
namespace Dc
abbrev Pat := Nat → Nat → Int
/-- the table that a pattern tells -/
def CT (m n : Nat) (S : Pat) : Mat := fun i q => if i < m ∧ q < n then S (i + 1) (n - 1 - q) - S i (n - 1 - q) else 0
structure Il (m n : Nat) (S : Pat) : Prop where
  nn : ∀ c p, 0 ≤ S c p
  out : ∀ c p, n ≤ p ∨ c ≤ p → S c p = 0
  up : ∀ c p, c < m → S c p ≤ S (c + 1) p
  dn : ∀ c p, c < m → S (c + 1) (p + 1) ≤ S c p
section
variable {m n i k P : Nat} {S T : Pat} {A B C D : Mat} {ks : List Nat}
theorem Il.z0 (h : Il m n S) (p : Nat) : S 0 p = 0 := h.out 0 p (.inr (Nat.zero_le p))
theorem ct_in {q : Nat} (hi : i < m) (hq : q < n) : CT m n S i q = S (i + 1) (n - 1 - q) - S i (n - 1 - q) := if_pos ⟨hi, hq⟩
/-! ### one move -/
def dec (S : Pat) (c P : Nat) : Pat := fun c' p => if c' = c ∧ p = P then S c' p - 1 else S c' p
theorem ld_up (M : Mat) (i q : Nat) : ld M i (q + 1) - ld M i q = M i (q + 1) - M (i + 1) q := by simp only [ld, ps]; omega
theorem lp_step (hi : i + 1 < m) {p : Nat} (hp : p + 1 < n) : ld (CT m n S) i (n - 1 - p) - ld (CT m n S) i (n - 1 - (p + 1)) = (S (i + 1) p - S i p) - (S (i + 2) (p + 1) - S (i + 1) (p + 1)) := by
  have e := ld_up (CT m n S) i (n - 1 - (p + 1))
  rw [show n - 1 - (p + 1) + 1 = n - 1 - p by omega, ct_in (by omega) (by omega), ct_in hi (by omega), show n - 1 - (n - 1 - p) = p by omega, show n - 1 - (n - 1 - (p + 1)) = p + 1 by omega] at e
  exact e
theorem lp_last (hi : i + 1 < m) (hn : 0 < n) : ld (CT m n S) i (n - 1 - (n - 1)) = S (i + 1) (n - 1) - S i (n - 1) := by
  rw [Nat.sub_self]
  show ps (CT m n S i) 1 - 0 = _
  show 0 + CT m n S i 0 - 0 = _
  rw [ct_in (by omega) hn, Nat.sub_zero]
  omega
/-- what is wanted of the row that is to come -/
structure Go (m n i : Nat) (S : Pat) (b : Nat → Int) : Prop where
  il : Il m n S
  hi : i + 1 < m
  hb : ∀ p, p < i → S i p = b p
  bl : ∀ p, p ≤ i → S (i + 2) (p + 1) ≤ b p
  bu : ∀ p, p ≤ i → b p ≤ S (i + 1) p
  ch : ∀ p p', p < p' → p' ≤ i → S (i + 1) p = b p ∨ S (i + 1) p' = S (i + 2) p'
  bn : ∀ p, n ≤ p → b p = 0
  b0 : ∀ p, 0 ≤ b p
theorem Go.step {b : Nat → Int} (g : Go m n i S b) (hP : P ≤ i) (lo : ∀ p, p < P → S (i + 1) p = b p) (gt : b P < S (i + 1) P) : P < n ∧ Fs n i (CT m n S) (CT m n (dec S (i + 1) P)) := by
  have h := g.il
  have hi := g.hi
  have hPn : P < n := by
    by_cases z : P < n
    · exact z
    · have := h.out (i + 1) P (.inl (by omega))
      have := g.b0 P
      omega
  have hiP : ∀ p, P < p → p ≤ i → S (i + 1) p = S (i + 2) p := fun p h1 h2 => by
    rcases g.ch P p h1 h2 with z | z
    · omega
    · exact z
  have U : ∀ p, P ≤ p → p + 1 < n → ld (CT m n S) i (n - 1 - (p + 1)) ≤ ld (CT m n S) i (n - 1 - p) ∧ (p = P → ld (CT m n S) i (n - 1 - (p + 1)) < ld (CT m n S) i (n - 1 - p)) := fun p h1 h2 => by
    have e := lp_step (S := S) hi h2
    have u := h.up i p (by omega)
    have d := h.dn (i + 1) p hi
    rw [show i + 1 + 1 = i + 2 by omega] at d
    by_cases y : p + 1 ≤ i
    · have x := hiP (p + 1) (by omega) y
      have w := g.hb p (by omega)
      refine ⟨by omega, fun z => ?_⟩
      subst z
      omega
    · have x := h.out (i + 1) (p + 1) (.inr (by omega))
      have w := h.out i p (.inr (by omega))
      refine ⟨by omega, fun z => ?_⟩
      subst z
      have := g.bl p hP
      omega
  have V : ∀ d p, P ≤ p → p + d < n → ld (CT m n S) i (n - 1 - (p + d)) ≤ ld (CT m n S) i (n - 1 - p) := fun d => by
    induction d with
    | zero => intro p _ _; exact Int.le_refl _
    | succ d ih =>
      intro p h1 h2
      have h9 := ih (p + 1) (by omega) (by omega)
      rw [show p + 1 + d = p + (d + 1) by omega] at h9
      have h8 := (U p h1 (by omega)).1
      omega
  have Wd : ∀ d p, p + d = P → ld (CT m n S) i (n - 1 - p) ≤ ld (CT m n S) i (n - 1 - P) := fun d => by
    induction d with
    | zero => intro p e; rw [show p = P by omega]; exact Int.le_refl _
    | succ d ih =>
      intro p e
      have h9 := ih (p + 1) (by omega)
      have s := lp_step (n := n) (S := S) hi (p := p) (by omega)
      have a1 := lo p (by omega)
      have a2 := g.hb p (by omega)
      have a3 := h.up (i + 1) (p + 1) hi
      rw [show i + 1 + 1 = i + 2 by omega] at a3
      omega
  have L1 : 1 ≤ ld (CT m n S) i (n - 1 - P) := by
    have l := lp_last (S := S) hi (show 0 < n by omega)
    have u := h.up i (n - 1) (by omega)
    by_cases z : P + 1 < n
    · have a := (U P (Nat.le_refl P) z).2 rfl
      have b := V (n - 1 - (P + 1)) (P + 1) (by omega) (by omega)
      rw [show P + 1 + (n - 1 - (P + 1)) = n - 1 by omega] at b
      omega
    · have e : n - 1 = P := by omega
      rw [e] at l u ⊢
      rw [Nat.sub_self] at l ⊢
      rw [l]
      have bb := g.b0 P
      by_cases y : P < i
      · have := g.hb P y; omega
      · have := h.out i P (.inr (by omega)); omega
  refine ⟨hPn, n - 1 - P, ?_, L1, ?_⟩
  · exact ⟨by omega, fun j hj => by
      by_cases z : n - 1 - j ≤ P
      · have := Wd (P - (n - 1 - j)) (n - 1 - j) (by omega)
        rw [show n - 1 - (n - 1 - j) = j by omega] at this
        exact this
      · have := V (n - 1 - j - P) P (Nat.le_refl P) (by omega)
        rw [show n - 1 - (P + (n - 1 - j - P)) = j by omega] at this
        exact this, fun j hj => by
      have a := (U P (Nat.le_refl P) (by omega)).2 rfl
      have := V (n - 1 - j - (P + 1)) (P + 1) (by omega) (by omega)
      rw [show n - 1 - (P + 1 + (n - 1 - j - (P + 1))) = j by omega] at this
      omega⟩
  · funext p q
    show CT m n (dec S (i + 1) P) p q = CT m n S p q + dl i (n - 1 - P) p q
    unfold CT dl dec
    by_cases z : p < m ∧ q < n
    · rw [if_pos z, if_pos z]
      by_cases y : q = n - 1 - P
      · have e : n - 1 - q = P := by omega
        rw [if_pos y, e]
        by_cases x : p = i
        · subst x
          rw [if_pos ⟨rfl, rfl⟩, if_neg (by omega), if_pos rfl]
          omega
        · rw [if_neg (by omega), if_neg x]
          by_cases w : p = i + 1
          · rw [if_pos ⟨w, rfl⟩, if_pos w]
            omega
          · rw [if_neg (by omega), if_neg w]
            omega
      · rw [if_neg y, if_neg (by omega), if_neg (by omega)]
        omega
    · rw [if_neg z, if_neg z]
      by_cases y : q = n - 1 - P
      · rw [if_pos y, if_neg (by omega), if_neg (by omega)]
        omega
      · rw [if_neg y]
        omega
theorem Go.less {b : Nat → Int} (g : Go m n i S b) (hP : P ≤ i) (lo : ∀ p, p < P → S (i + 1) p = b p) (gt : b P < S (i + 1) P) : Go m n i (dec S (i + 1) P) b := by
  have h := g.il
  have hi := g.hi
  have hPn := (g.step hP lo gt).1
  have b0 := g.b0 P
  have ei : ∀ c p, c ≠ i + 1 → dec S (i + 1) P c p = S c p := fun c p hc => by unfold Dc.dec; rw [if_neg (by omega)]
  have ep : ∀ p, p ≠ P → dec S (i + 1) P (i + 1) p = S (i + 1) p := fun p hp => by unfold Dc.dec; rw [if_neg (by omega)]
  have eP : dec S (i + 1) P (i + 1) P = S (i + 1) P - 1 := by unfold Dc.dec; rw [if_pos ⟨rfl, rfl⟩]
  have le : ∀ c p, dec S (i + 1) P c p ≤ S c p := fun c p => by unfold Dc.dec; split <;> omega
  have iP : S i P ≤ b P := by
    by_cases y : P < i
    · rw [g.hb P y]; exact Int.le_refl _
    · rw [h.out i P (.inr (by omega))]; exact b0
  refine ⟨⟨fun c p => ?_, fun c p z => ?_, fun c p hc => ?_, fun c p hc => ?_⟩, hi, fun p hp => ?_, fun p hp => ?_, fun p hp => ?_, fun p p' h1 h2 => ?_, g.bn, g.b0⟩
  · have := h.nn c p
    unfold Dc.dec
    split
    · rename_i z
      obtain ⟨rfl, rfl⟩ := z
      omega
    · exact this
  · have := h.out c p z
    unfold Dc.dec
    split
    · rename_i y
      obtain ⟨rfl, rfl⟩ := y
      omega
    · exact this
  · by_cases y : c = i + 1
    · subst y
      have a := le (i + 1) p
      have b := h.up (i + 1) p hc
      rw [ei (i + 1 + 1) p (by omega)]
      omega
    · rw [ei c p y]
      by_cases x : c = i
      · subst x
        by_cases w : p = P
        · subst w
          rw [eP]
          omega
        · rw [ep p w]
          exact h.up c p hc
      · rw [ei (c + 1) p (by omega)]
        exact h.up c p hc
  · by_cases y : c = i + 1
    · subst y
      rw [ei (i + 1 + 1) (p + 1) (by omega)]
      by_cases w : p = P
      · subst w
        rw [eP]
        have := g.bl p hP
        rw [show i + 1 + 1 = i + 2 by omega]
        omega
      · rw [ep p w]
        exact h.dn (i + 1) p hc
    · rw [ei c p y]
      have a := le (c + 1) (p + 1)
      have b := h.dn c p hc
      omega
  · rw [ei i p (by omega)]
    exact g.hb p hp
  · rw [ei (i + 2) _ (by omega)]
    exact g.bl p hp
  · by_cases w : p = P
    · subst w
      rw [eP]
      omega
    · rw [ep p w]
      exact g.bu p hp
  · rw [ei (i + 2) _ (by omega)]
    by_cases x : P < p'
    · rw [ep p' (by omega)]
      right
      rcases g.ch P p' x h2 with z | z
      · omega
      · exact z
    · left
      rw [ep p (by omega)]
      exact lo p (by omega)
theorem ps_dec {f : Nat → Int} {P : Nat} : ∀ {t : Nat}, P < t → ps (fun p => if p = P then f p - 1 else f p) t = ps f t - 1
  | 0, h => by omega
  | t + 1, h => by
    simp only [ps]
    by_cases z : P < t
    · rw [ps_dec z, if_neg (by omega)]; omega
    · have : P = t := by omega
      subst this
      rw [if_pos rfl, ps_congr (g := f) fun q hq => by rw [if_neg (by omega)]]
      omega
theorem least_gt {f b : Nat → Int} (h : ∀ p, p ≤ i → b p ≤ f p) : ∀ t, t ≤ i + 1 → (∀ p, p < t → f p = b p) ∨ ∃ P, P ≤ i ∧ (∀ p, p < P → f p = b p) ∧ b P < f P
  | 0, _ => .inl fun p hp => by omega
  | t + 1, ht => by
    rcases least_gt h t (by omega) with z | z
    · by_cases y : b t < f t
      · exact .inr ⟨t, by omega, z, y⟩
      · refine .inl fun p hp => ?_
        by_cases x : p < t
        · exact z p x
        · obtain rfl : p = t := by omega
          have := h p (by omega)
          omega
    · exact .inr z
/-- the row that is wanted, in the place of the row -/
def put (S : Pat) (i : Nat) (b : Nat → Int) : Pat := fun c p => if c = i + 1 then (if p ≤ i then b p else 0) else S c p
theorem Go.run {b : Nat → Int} : ∀ (x : Nat) (S : Pat), Go m n i S b → ps (S (i + 1)) (i + 1) = ps b (i + 1) + x → Fp n i x (CT m n S) (CT m n (put S i b))
  | x, S, g, e => by
    rcases least_gt g.bu (i + 1) (Nat.le_refl _) with z | ⟨P, h1, h2, h3⟩
    · have e2 := ps_congr (t := i + 1) fun q hq => z q hq
      have : x = 0 := by omega
      subst this
      have : put S i b = S := by
        funext c p
        unfold put
        by_cases y : c = i + 1
        · rw [if_pos y]
          subst y
          by_cases w : p ≤ i
          · rw [if_pos w, z p (by omega)]
          · rw [if_neg w, g.il.out (i + 1) p (.inr (by omega))]
        · rw [if_neg y]
      rw [this]
      exact .nil
    · have g2 := g.less h1 h2 h3
      have es : ps (dec S (i + 1) P (i + 1)) (i + 1) = ps (S (i + 1)) (i + 1) - 1 := by
        have : dec S (i + 1) P (i + 1) = fun p => if p = P then S (i + 1) p - 1 else S (i + 1) p := by
          funext p
          unfold dec
          by_cases w : p = P
          · rw [if_pos ⟨rfl, w⟩, if_pos w]
          · rw [if_neg (by omega), if_neg w]
        rw [this, ps_dec (by omega)]
      cases x with
      | zero =>
        have le : ∀ t, t ≤ i + 1 → ps b t ≤ ps (dec S (i + 1) P (i + 1)) t := fun t => by
          induction t with
          | zero => intro _; exact Int.le_refl _
          | succ t ih =>
            intro ht
            have a := ih (by omega)
            have c := g2.bu t (by omega)
            simp only [ps]
            omega
        have := le (i + 1) (Nat.le_refl _)
        omega
      | succ x =>
        have r := Go.run x _ g2 (by rw [es, e]; push_cast; omega)
        have : put (dec S (i + 1) P) i b = put S i b := by
          funext c p
          unfold put dec
          by_cases y : c = i + 1
          · rw [if_pos y, if_pos y]
          · rw [if_neg y, if_neg y, if_neg (by omega)]
        rw [this] at r
        exact .cons (g.step h1 h2 h3).2 r
end
end Dc
end
section
set_option Elab.async false
set_option linter.all false
set_option maxRecDepth 100000
set_option maxHeartbeats 1000000
/-! from the settled table to any tower by counters, row after row; a table is told by its two towers -/
namespace Dc
section
variable {m n i k P : Nat} {S T : Pat} {A B C D X Y Z : Mat} {ks ks' is js : List Nat}
theorem Il.mono (h : Il m n T) {c : Nat} (hc : c ≤ m) (p : Nat) : T c (p + 1) ≤ T c p := by
  cases c with
  | zero => rw [h.z0, h.z0]; exact Int.le_refl _
  | succ c =>
    have a := h.dn c p (by omega)
    have b := h.up c p (by omega)
    omega
/-- the rows ahead of a stage's step -/
def Sg (T : Pat) (k i : Nat) : Pat := fun c p => if k + 1 ≤ c then T c p else if p < c then (if c ≤ i then T k p else T (k + 1) p) else 0
theorem sg_hi {c p : Nat} (h : k + 1 ≤ c) : Sg T k i c p = T c p := if_pos h
theorem sg_lo {c p : Nat} (h : c ≤ k) (hp : p < c) (hi : c ≤ i) : Sg T k i c p = T k p := by unfold Sg; rw [if_neg (by omega), if_pos hp, if_pos hi]
theorem sg_mid {c p : Nat} (h : c ≤ k) (hp : p < c) (hi : i < c) : Sg T k i c p = T (k + 1) p := by unfold Sg; rw [if_neg (by omega), if_pos hp, if_neg (by omega)]
theorem sg_out {c p : Nat} (h : c ≤ k) (hp : c ≤ p) : Sg T k i c p = 0 := by unfold Sg; rw [if_neg (by omega), if_neg (by omega)]
theorem Sg.il (h : Il m n T) (hk : k + 1 ≤ m) (hi : i ≤ k) : Il m n (Sg T k i) := by
  refine ⟨fun c p => ?_, fun c p z => ?_, fun c p hc => ?_, fun c p hc => ?_⟩
  · unfold Sg
    (repeat' split) <;> first | exact h.nn _ _ | omega
  · by_cases a : k + 1 ≤ c
    · rw [sg_hi a]; exact h.out c p z
    · by_cases b : p < c
      · by_cases d : c ≤ i
        · rw [sg_lo (by omega) b d]; exact h.out k p (by omega)
        · rw [sg_mid (by omega) b (by omega)]; exact h.out (k + 1) p (by omega)
      · exact sg_out (by omega) (by omega)
  · by_cases a : k + 1 ≤ c
    · rw [sg_hi a, sg_hi (by omega)]; exact h.up c p hc
    · by_cases b : p < c
      · by_cases a2 : k + 1 ≤ c + 1
        · obtain rfl : c = k := by omega
          rw [sg_hi a2]
          by_cases d : c ≤ i
          · rw [sg_lo (Nat.le_refl c) b d]; exact h.up c p hc
          · rw [sg_mid (Nat.le_refl c) b (by omega)]; exact Int.le_refl _
        · by_cases d : c ≤ i
          · rw [sg_lo (by omega) b d]
            by_cases d2 : c + 1 ≤ i
            · rw [sg_lo (by omega) (by omega) d2]; exact Int.le_refl _
            · rw [sg_mid (by omega) (by omega) (by omega)]; exact h.up k p (by omega)
          · rw [sg_mid (by omega) b (by omega), sg_mid (by omega) (by omega) (by omega)]; exact Int.le_refl _
      · rw [sg_out (by omega) (by omega)]
        unfold Sg
        (repeat' split) <;> first | exact h.nn _ _ | omega
  · by_cases b : p < c
    · by_cases a : k + 1 ≤ c
      · rw [sg_hi a, sg_hi (by omega)]; exact h.dn c p hc
      · by_cases a2 : k + 1 ≤ c + 1
        · obtain rfl : c = k := by omega
          rw [sg_hi a2]
          by_cases d : c ≤ i
          · rw [sg_lo (Nat.le_refl c) b d]; exact h.dn c p hc
          · rw [sg_mid (Nat.le_refl c) b (by omega)]; exact h.mono (by omega) p
        · by_cases d : c ≤ i
          · rw [sg_lo (by omega) b d]
            by_cases d2 : c + 1 ≤ i
            · rw [sg_lo (by omega) (by omega) d2]; exact h.mono (by omega) p
            · rw [sg_mid (by omega) (by omega) (by omega)]; exact h.dn k p (by omega)
          · rw [sg_mid (by omega) b (by omega), sg_mid (by omega) (by omega) (by omega)]; exact h.mono (by omega) p
    · by_cases a : k + 1 ≤ c
      · rw [sg_hi a, sg_hi (by omega)]; exact h.dn c p hc
      · rw [sg_out (c := c) (by omega) (by omega)]
        by_cases a2 : k + 1 ≤ c + 1
        · rw [sg_hi a2, h.out (c + 1) (p + 1) (.inr (by omega))]; exact Int.le_refl _
        · rw [sg_out (by omega) (by omega)]; exact Int.le_refl _
theorem Sg.go (h : Il m n T) (hk : k + 1 ≤ m) (hi : i < k) : Go m n i (Sg T k i) (T k) := by
  have r2 : ∀ p, p ≤ i + 1 → Sg T k i (i + 2) p = T (k + 1) p := fun p hp => by
    by_cases z : k + 1 ≤ i + 2
    · obtain rfl : k = i + 1 := by omega
      exact sg_hi z
    · exact sg_mid (by omega) (by omega) (by omega)
  have r1 : ∀ p, p ≤ i → Sg T k i (i + 1) p = T (k + 1) p := fun p hp => sg_mid (by omega) (by omega) (by omega)
  refine ⟨Sg.il h hk (by omega), by omega, fun p hp => sg_lo (by omega) hp (Nat.le_refl i), fun p hp => ?_, fun p hp => ?_, fun p p' h1 h2 => .inr ?_, fun p hp => h.out k p (.inl hp), fun p => h.nn k p⟩
  · rw [r2 (p + 1) (by omega)]; exact h.dn k p (by omega)
  · rw [r1 p hp]; exact h.up k p (by omega)
  · rw [r1 p' h2, r2 p' (by omega)]
theorem Sg.next (h : Il m n T) : Sg T (k + 1) (k + 1) = Sg T k 0 := by
  funext c p
  by_cases a : k + 1 + 1 ≤ c
  · rw [sg_hi a, sg_hi (by omega)]
  · by_cases b : p < c
    · rw [sg_lo (by omega) b (by omega)]
      by_cases e : k + 1 ≤ c
      · obtain rfl : c = k + 1 := by omega
        rw [sg_hi e]
      · rw [sg_mid (by omega) b (by omega)]
    · rw [sg_out (by omega) (by omega)]
      by_cases e : k + 1 ≤ c
      · rw [sg_hi e, h.out c p (.inr (by omega))]
      · rw [sg_out (by omega) (by omega)]
/-! ### past moves between customers -/
theorem mixed2 (hi : i + 1 < m) (hk : k + 1 < n) (g : Gs m k A C) (f : Fs n i C D) : ∃ B, Fs n i A B ∧ Gs m k B D := by
  have f' : Gs n i (tr C) (tr D) := Gs_tr.mpr f
  obtain ⟨A', h1, h2⟩ := mixed hk hi (Gs_tr.mp g) f'
  exact ⟨tr A', Gs_tr.mp h1, Gs_tr.mpr h2⟩
theorem Fq.one_only (f : Fq n is A B) : ∀ {C}, Fq n is A C → B = C := by
  induction f with
  | nil => intro C g; cases g; rfl
  | cons f1 f2 ih =>
    intro C g
    cases g with
    | cons g1 g2 =>
      have := f1.one_only g1
      subst this
      exact ih g2
/-! ### the start and the end -/
theorem start (m1 : 1 ≤ m) (oZ : Ok m n Z) (sZ : ∀ i, i + 1 < m → Set n i Z) (h : Il m n T) (e : ∀ p, p < m → ps (Z p) n = T m p) : ∃ ks, (∀ k ∈ ks, k + 1 < n) ∧ Gq m ks Z (CT m n (Sg T (m - 1) 0)) := by
  obtain ⟨ks, C, hk, g, oC, cC⟩ := all_on (by omega) _ Z oZ (Int.self_le_toNat (wt n m Z))
  refine ⟨ks, hk, ?_⟩
  have sC : ∀ i, i + 1 < m → Set n i C := fun i hi => (Set.gq hi hk g).mp (sZ i hi)
  have an := anti oC sC cC
  have sg : ∀ c j, c ≤ m → Sg T (m - 1) 0 c j = if j < c then T m j else 0 := fun c j hc => by
    by_cases a : m - 1 + 1 ≤ c
    · obtain rfl : c = m := by omega
      rw [sg_hi a]
      by_cases b : j < c
      · rw [if_pos b]
      · rw [if_neg b, h.out c j (.inr (by omega))]
    · by_cases b : j < c
      · rw [if_pos b, sg_mid (by omega) b (by omega), show m - 1 + 1 = m by omega]
      · rw [if_neg b, sg_out (by omega) (by omega)]
  have : C = CT m n (Sg T (m - 1) 0) := by
    funext p q
    by_cases z : p < m ∧ q < n
    · rw [ct_in z.1 z.2, sg _ _ (by omega), sg _ _ (by omega)]
      by_cases y : p + q + 1 = n
      · have ej : n - 1 - q = p := by omega
        rw [ej, if_pos (by omega), if_neg (by omega)]
        have only := ps_only (f := C p) (p0 := q) (fun q' hq' => an (p + 1) p (by omega) q' (by omega)) n
        rw [if_pos z.2] at only
        rw [← e p z.1, ← row_gq hk g p, only]
        omega
      · rw [an (p + 1) p (by omega) q y]
        by_cases b : n - 1 - q < p
        · rw [if_pos (by omega), if_pos b]; omega
        · rw [if_neg (by omega), if_neg b]; omega
    · rw [oC.out p q z]
      exact (if_neg z).symm
  rw [← this]
  exact g
end
end Dc
end
section
set_option Elab.async false
set_option linter.all false
set_option maxRecDepth 100000
set_option maxHeartbeats 2000000
/-! moves and exchanges of counters and of customers go past one another, on and back -/
namespace Dc
section
variable {m n i k c t : Nat} {A B C X Y M N : Mat} {ks : List Nat}
theorem Gs.mir (h : Ok m n X) (hk : k + 1 < n) (g : Gs m k X Y) : Gs m (n - 2 - k) (mirM m n Y) (mirM m n X) := by
  have f := (Gs_tr.mp g).mir h.tr hk
  rw [mir_tr, mir_tr] at f
  exact Gs_tr.mpr f
/-- two moves that lead to one table come from one -/
theorem copast (hi : i + 1 < m) (hk : k + 1 < n) (oA : Ok m n A) (oB : Ok m n B) (f : Fs n i A M) (g : Gs m k B M) : ∃ C, Ok m n C ∧ Gs m k C A ∧ Fs n i C B := by
  obtain ⟨C', c1, c2⟩ := past (m := m) (n := n) (i := m - 2 - i) (k := n - 2 - k) (by omega) (by omega) (f.mir oA hi) (g.mir oB hk)
  have oC : Ok m n C' := c2.ok oB.mir (by omega)
  refine ⟨mirM m n C', oC.mir, ?_, ?_⟩
  · have := c1.mir oA.mir (by omega)
    rw [mir_mirM oA, show n - 2 - (n - 2 - k) = k by omega] at this
    exact this
  · have := c2.mir oB.mir (by omega)
    rw [mir_mirM oB, show m - 2 - (m - 2 - i) = i by omega] at this
    exact this
def Rf (b : Bool) (n i : Nat) (X Y : Mat) : Prop := match b with | true => Fs n i X Y | false => Fs n i Y X
def Rg (b : Bool) (m k : Nat) (X Y : Mat) : Prop := match b with | true => Gs m k X Y | false => Gs m k Y X
theorem Rf.one_only {b : Bool} (f : Rf b n i X A) (g : Rf b n i X B) : A = B := by
  cases b with
  | true => exact Fs.one_only f g
  | false => exact Fs.inj f g
theorem Rg.one_only {b : Bool} (f : Rg b m k X A) (g : Rg b m k X B) : A = B := by
  cases b with
  | true => exact Gs.one_only f g
  | false => exact Gs.inj f g
theorem dic {b1 b2 : Bool} (hi : i + 1 < m) (hk : k + 1 < n) (oX : Ok m n X) (oC : Ok m n C) (g : Rg b2 m k X B) (f : Rf b1 n i B C) : ∃ A, Ok m n A ∧ Rf b1 n i X A ∧ Rg b2 m k A C := by
  cases b1 with
  | true =>
    cases b2 with
    | true =>
      obtain ⟨A, c1, c2⟩ := mixed2 hi hk g f
      exact ⟨A, c1.ok oX hi, c1, c2⟩
    | false =>
      obtain ⟨A, c1, c2⟩ := past hi hk f g
      exact ⟨A, c1.ok oC hk, c2, c1⟩
  | false =>
    cases b2 with
    | true =>
      obtain ⟨A, oA, c1, c2⟩ := copast hi hk oC oX f g
      exact ⟨A, oA, c2, c1⟩
    | false =>
      obtain ⟨A, c1, c2⟩ := mixed hi hk f g
      exact ⟨A, c1.ok oC hk, c2, c1⟩
/-! ### powers and exchanges -/
theorem Ex.col (hi : i + 1 < m) (x : Ex n i A B) (q : Nat) : ps (tr B q) m = ps (tr A q) m := by
  obtain ⟨⟨t, f | f⟩, _, _⟩ := x
  · exact col_fq f.fq (fun j hj => by rw [List.eq_of_mem_replicate hj]; exact hi) q
  · exact (col_fq f.fq (fun j hj => by rw [List.eq_of_mem_replicate hj]; exact hi) q).symm
theorem Ex.ok (hi : i + 1 < m) (x : Ex n i A B) (oA : Ok m n A) (oB : Ok m n B) : True := trivial
theorem Fp.one_only (f : Fp n i t A B) : ∀ {C}, Fp n i t A C → B = C := by
  induction f with
  | nil => intro C g; cases g; rfl
  | cons f1 f2 ih =>
    intro C g
    cases g with
    | cons g1 g2 =>
      have := f1.one_only g1
      subst this
      exact ih g2
theorem Fp.inj (f : Fp n i t A M) : ∀ {B}, Fp n i t B M → A = B := by
  induction f with
  | nil => intro B g; cases g; rfl
  | cons f1 f2 ih =>
    intro B g
    cases g with
    | cons g1 g2 =>
      have := ih g2
      subst this
      exact f1.inj g1
theorem Fp.row (f : Fp n i t A B) : ps (B i) n = ps (A i) n - t := by
  induction f with
  | nil => simp
  | cons f1 f2 ih =>
    rw [ih, (row_fs f1).1]
    push_cast
    omega
theorem Fp.nil_of (f : Fp n i 0 A B) : A = B := by cases f; rfl
theorem Ex.one_only (x : Ex n i X A) (y : Ex n i X B) : A = B := by
  obtain ⟨⟨t, f⟩, r, _⟩ := x
  obtain ⟨⟨u, g⟩, s, _⟩ := y
  rcases f with f | f <;> rcases g with g | g
  · have a := f.row
    have b := g.row
    have : t = u := by omega
    subst this
    exact f.one_only g
  · have a := f.row
    have b := g.row
    have : t = 0 := by omega
    have : u = 0 := by omega
    subst_vars
    rw [← f.nil_of, g.nil_of]
  · have a := f.row
    have b := g.row
    have : t = 0 := by omega
    have : u = 0 := by omega
    subst_vars
    rw [f.nil_of, ← g.nil_of]
  · have a := f.row
    have b := g.row
    have : t = u := by omega
    subst this
    exact f.inj g
end
end Dc
end
section
set_option Elab.async false
set_option linter.all false
set_option maxRecDepth 100000
set_option maxHeartbeats 2000000
/-! the law's own move of a minute, what is alike: evaluated -/
namespace Ev
open PySem PySem.Spec L2 Lf Pl
section
variable {en e1 e2 e3 : En} {o p q r : OT} {os : List OT} {xs : List PyData} {i j : Nat} {l u : Option Int} {b b0 : Bool} {dl dh : DP} {f : DF} {bq : Bool × List OT}
theorem slS (h0 : ownAt en i = some bq) (h1 : dl en = .ok (l, e1)) (h2 : dh e1 = .ok (u, e2)) (h3 : ownAt e2 i = some (b, os)) (hx : frzs os = some xs) (ho : (cutA xs l u).map .d = ps) (hr : e2.set i (mkS b (.own (xs.map .d))) = e3) : eSlS i dl dh en = .ok (.own ps, e3) := by
  subst ho; subst hr
  simp only [eSlS, h0, h1, bd, h2, h3, hx]
end
end Ev
namespace Pl
open PySem PySem.Spec L2 Lf Cp Cz
theorem ixN_at {l j : Nat} (h : j < l) : ixN l (j : Int) = some j := by
  have : ¬ ((j : Int) < 0) := by omega
  simp [ixN, this]; omega
end Pl
end
section
set_option Elab.async false
set_option linter.all false
set_option maxRecDepth 100000
set_option maxHeartbeats 2000000
/-! what is alike, moves that can't be done -/
namespace Pl
open PySem PySem.Spec L2 Lf Cp Cy
theorem all_yes (L : List PyData) (n : Nat) : fAll [.list ((List.range n).map fun _ => PyData.bool true)] = some (.bool true) := by
  have : ∀ n : Nat, bools? ((List.range n).map fun _ => PyData.bool true) = some ((List.range n).map fun _ => true) := by
    intro n
    have : ∀ M : List Nat, bools? (M.map fun _ => PyData.bool true) = some (M.map fun _ => true) := by
      intro M
      induction M with
      | nil => rfl
      | cons a M ih => simp [bools?, ih]
    exact this _
  simp [fAll, this]
theorem fAll_own {n : Nat} : frzs ((List.range n).map fun _ => yes) = some ((List.range n).map fun _ => PyData.bool true) := by
  have : ∀ M : List Nat, frzs (M.map fun _ => yes) = some (M.map fun _ => PyData.bool true) := by
    intro M
    induction M with
    | nil => rfl
    | cons a M ih => simp [frzs, frz, ih]
  exact this _
theorem kit_l (t : String) (h : t = "list" ∨ t = "tuple") : kit2 t "list" "tuple" = some true := by
  rcases h with rfl | rfl <;> decide +kernel
theorem kit_int : kit2 "int" "list" "tuple" = some false := by decide +kernel
theorem kit_ex (t T : String) (h : (t = "list" ∨ t = "tuple" ∨ t = "int") ∧ (T = "list" ∨ T = "tuple" ∨ T = "bool")) : ∃ b, kitB t T = some b := by
  obtain ⟨h1, h2⟩ := h
  rcases h1 with rfl | rfl | rfl <;> rcases h2 with rfl | rfl | rfl
  · exact ⟨true, by decide +kernel⟩
  · exact ⟨false, by decide +kernel⟩
  · exact ⟨false, by decide +kernel⟩
  · exact ⟨false, by decide +kernel⟩
  · exact ⟨true, by decide +kernel⟩
  · exact ⟨false, by decide +kernel⟩
  · exact ⟨false, by decide +kernel⟩
  · exact ⟨false, by decide +kernel⟩
  · exact ⟨false, by decide +kernel⟩
theorem ne_b {b : Bool} : fNe (.bool b) (.bool b) = some (.bool false) := sh_ne (d := 0) ⟨by simp [PyData.canLay0], by simp [PyData.depth]⟩ (by omega)
end Pl
end
section
set_option Elab.async false
set_option linter.all false
set_option maxRecDepth 100000
set_option maxHeartbeats 2000000
/-! the fourth bag: take, minutes, hall; what is alike -/
namespace Pl
open PySem PySem.Spec L2 Lf Cp Cq
def mix4 (b c size : Int) : Int := (((b + 1299709 * c) ^ 3 % 162259276829213363391578010288127) + 15485863 * c) ^ 5 % 618970019642690137449562111 / 1048576 % size
theorem take4_pos {a b c size : Int} (ha : 1 < a) (hw : 0 < size) (hl : size.natAbs.log2 < 9000) : f__law_take [W a b c, I size] = .ok (I (a % size), [W (a / size) b c, .hole]) := by
  simp [f__law_take, D__law_take, dFn, mkEn, dSq, dIf, tV, eOp2, eIxS, ownAt, ownS, bd, eD, eVar, fGt, fI, frz, ixN, mkS, dSet, stor, dStI, dRt, eMov, fMod, fDiv, outs, fin, noFr, noFrs, ha, hw, hl]
theorem take4_nul {a b c size : Int} (ha : ¬ 1 < a) (hb : 0 ≤ b ∧ b < 10 ^ 40) (hc : 0 ≤ c ∧ c < 10 ^ 9) (hw : 0 < size) : f__law_take [W a b c, I size] = .ok (I (mix4 b (c + 1) size), [W a b (c + 1), .hole]) := by
  have h1 : (1299709 : Int).natAbs.log2 + (c + 1).natAbs.log2 < 1000000 := by
    have e1 : (1299709 : Int).natAbs.log2 ≤ 21 := log_le (by decide)
    have e2 : (c + 1).natAbs.log2 ≤ 30 := log_le (by omega)
    omega
  have h2 : (Builtin.Int.intBits (b + 1299709 * (c + 1)) : Int) * 3 ≤ 2 ^ 27 := pow_ok (by omega)
  have h3 : (15485863 : Int).natAbs.log2 + (c + 1).natAbs.log2 < 1000000 := by
    have e1 : (15485863 : Int).natAbs.log2 ≤ 24 := log_le (by decide)
    have e2 : (c + 1).natAbs.log2 ≤ 30 := log_le (by omega)
    omega
  have h4 : (Builtin.Int.intBits ((b + 1299709 * (c + 1)) ^ 3 % 162259276829213363391578010288127 + 15485863 * (c + 1)) : Int) * 5 ≤ 2 ^ 27 := by
    refine pow_ok5 ?_
    generalize (b + 1299709 * (c + 1)) ^ 3 = z
    omega
  have h7 : (1048576 : Int).natAbs.log2 < 9000 := by
    have := log_le (i := 1048576) (k := 21) (by decide)
    omega
  simp at h1 h2 h3 h4 h7
  simp [f__law_take, D__law_take, dFn, mkEn, dSq, dIf, tV, eOp2, eIxS, ownAt, ownS, bd, eD, eVar, fGt, fI, frz, ixN, mkS, dSet, stor, dStI, dRt, eMov, fMod, fDiv, fMul, fAdd, fPow, outs, fin, noFr, noFrs, dNx, h1, h2, h3, h4, h7, hw, ha, mix4]
/-- a third bag -/
def QOk (t : Int) (o : OT) : Prop := ∃ a b c, o = W a b c ∧ 0 ≤ a ∧ (0 ≤ b ∧ b < 10 ^ 40) ∧ 0 ≤ c ∧ c ≤ t
theorem QOk.mono {t u : Int} {o : OT} (h : QOk t o) (hu : t ≤ u) : QOk u o := by
  obtain ⟨a, b, c, e, h1, h2, h3, h4⟩ := h
  exact ⟨a, b, c, e, h1, h2, h3, by omega⟩
theorem QOk.noFr {t : Int} {o : OT} (h : QOk t o) : noFr o = true := by
  obtain ⟨a, b, c, rfl, _⟩ := h
  rfl
theorem take4 {t size : Int} {o : OT} (h : QOk t o) (ht : t < 10 ^ 8) (hw : 0 < size) (hl : size < 10 ^ 20) : ∃ v o', f__law_take [o, I size] = .ok (I v, [o', .hole]) ∧ 0 ≤ v ∧ v < size ∧ QOk (t + 1) o' := by
  obtain ⟨a, b, c, rfl, h1, h2, h3, h4⟩ := h
  by_cases ha : 1 < a
  · refine ⟨_, _, take4_pos ha hw ?_, Int.emod_nonneg _ (by omega), Int.emod_lt_of_pos _ hw, a / size, b, c, rfl, Int.ediv_nonneg h1 (by omega), h2, h3, by omega⟩
    have := log_le (i := size) (k := 70) (by omega)
    omega
  · exact ⟨_, _, take4_nul ha h2 ⟨h3, by omega⟩ hw, Int.emod_nonneg _ (by omega), Int.emod_lt_of_pos _ hw, a, b, c + 1, rfl, h1, h2, by omega, by omega⟩
theorem bag4 {cell : Int} {k : Nat} (hk : k ≤ 8) : ∃ o, f__law_bag [I cell, I k] = .ok (o, [.hole, .hole]) ∧ QOk 0 o := by
  have c1 : (Builtin.Int.intBits 10 : Int) * 18 ≤ 2 ^ 27 := by decide
  have c3 : (7919 : Int).natAbs.log2 + ((k : Int) + 1).natAbs.log2 < 1000000 := by
    have e1 : (7919 : Int).natAbs.log2 ≤ 13 := log_le (by decide)
    have e2 : ((k : Int) + 1).natAbs.log2 ≤ 4 := log_le (by omega)
    omega
  have m1 := Int.emod_nonneg cell (b := 162259276829213363391578010288127) (by decide)
  have m2 := Int.emod_lt_of_pos cell (b := 162259276829213363391578010288127) (by decide)
  refine ⟨W (max 0 (cell - 10 ^ 18)) (cell % 162259276829213363391578010288127 + 7919 * (k + 1)) 0, ?_, _, _, _, rfl, by omega, by omega, by omega, by omega⟩
  simp at c1 c3
  simp [f__law_bag, D__law_bag, dFn, mkEn, dRt, eLst, aCons, aNil, eCb, eOp2, eD, eVar, bd, fPow, fSub, fMul, fAdd, fMod, fI, frz, frzs, fMax2, few, outs, fin, noFr, noFrs, c1, c3]
  split <;> omega
theorem pick_m {a b c k top : Int} (h0 : 0 ≤ k) (h5 : k < 5) (ha : 0 ≤ a ∧ a < top) (hb : 0 ≤ b ∧ b < top) (hc : 0 ≤ c ∧ c < top) : ∃ L : Int, Ev.ixV (.own [I 0, I 0, I a, I b, I c]) k = some (I L) ∧ 0 ≤ L ∧ L < top := by
  have hz : k = 0 ∨ k = 1 ∨ k = 2 ∨ k = 3 ∨ k = 4 := by omega
  rcases hz with rfl | rfl | rfl | rfl | rfl
  · exact ⟨0, rfl, by omega, by omega⟩
  · exact ⟨0, rfl, by omega, by omega⟩
  · exact ⟨a, rfl, ha⟩
  · exact ⟨b, rfl, hb⟩
  · exact ⟨c, rfl, hc⟩
theorem minutes4 {t size : Int} {o : OT} (h : QOk t o) (ht : t < 10 ^ 7) (h0 : 0 ≤ size) (hs : size ≤ 10 ^ 11) : ∃ v o', f__law_minutes [o, I size] = .ok (I v, [o', .hole]) ∧ 0 ≤ v ∧ v < 10 ^ 12 ∧ QOk (t + 4) o' := by
  obtain ⟨k, o1, e1, a1, c1, w1⟩ := take4 (size := 5) h (by omega) (by decide) (by decide)
  obtain ⟨x, o2, e2, a2, c2, w2⟩ := take4 (size := 4) w1 (by omega) (by decide) (by decide)
  obtain ⟨y, o3, e3, a3, c3, w3⟩ := take4 (size := 10) w2 (by omega) (by decide) (by decide)
  obtain ⟨z, o4, e4, a4, c4, w4⟩ := take4 (size := size + 1) w3 (by omega) (by omega) (by omega)
  obtain ⟨v, hv, v0, v1⟩ := pick_m (a := x) (b := y) (c := z) (top := 10 ^ 12) a1 c1 (by omega) (by omega) (by omega)
  have n0 := h.noFr
  have n1 := w1.noFr
  have n2 := w2.noFr
  have n3 := w3.noFr
  have n4 := w4.noFr
  have b1 : (dSet 2 (eClB 2 f__law_take 0 (aCons (eD (.int 5)) aNil))) [.p o, .v (I size), .un] = .ok (.nx, [.p o1, .v (I size), .v (I k)]) := Ev.set_ (Ev.clB (b := true) (q := o) (p := o) rfl (Ev.cons_ Ev.d_ Ev.nil_) rfl rfl (by simp [noFrs, n0, noFr]) e1 rfl) rfl
  have b2 : (dRt (eIx (eLst (aCons (eD (.int 0)) (aCons (eD (.int 0)) (aCons (eClB 2 f__law_take 0 (aCons (eD (.int 4)) aNil)) (aCons (eClB 2 f__law_take 0 (aCons (eD (.int 10)) aNil)) (aCons (eClB 2 f__law_take 0 (aCons (eOp2 fAdd (eVar 1) (eD (.int 1))) aNil)) aNil)))))) (eVar 2))) [.p o1, .v (I size), .v (I k)] = .ok (.rt (I v), [.p o4, .v (I size), .v (I k)]) :=
    Ev.rt (Ev.ix (Ev.lst (os := [I 0, I 0, I x, I y, I z]) (Ev.cons_ Ev.d_ (Ev.cons_ Ev.d_ (Ev.cons_ (Ev.clB (b := true) (q := o1) (p := o1) rfl (Ev.cons_ Ev.d_ Ev.nil_) rfl rfl (by simp [noFrs, n1, noFr]) e2 rfl) (Ev.cons_ (Ev.clB (b := true) (q := o2) (p := o2) rfl (Ev.cons_ Ev.d_ Ev.nil_) rfl rfl (by simp [noFrs, n2, noFr]) e3 rfl) (Ev.cons_ (Ev.clB (b := true) (q := o3) (p := o3) rfl (Ev.cons_ (Ev.op2 (Ev.var rfl) Ev.d_ rfl rfl rfl) Ev.nil_) rfl rfl (by simp [noFrs, n3, noFr]) e4 rfl) Ev.nil_))))) rfl) (Ev.var rfl) hv)
  exact ⟨v, o4, fn_ok (fl := [true, false]) (k := 1) (B := D__law_minutes) (os := [o, I size]) rfl (Ev.sq b1 b2) (by simp [outs, fin, noFrs, noFr, n4]), v0, v1, w4.mono (by omega)⟩
theorem pick_s {v : Int} (h0 : 0 ≤ v) (h5 : v < 5) : ∃ L : Int, Ev.ixV (.own [I 3, I 9, I (10 ^ 11)]) (v / 2) = some (I L) ∧ 0 ≤ L ∧ L ≤ 10 ^ 11 := by
  have hz : v / 2 = 0 ∨ v / 2 = 1 ∨ v / 2 = 2 := by omega
  rcases hz with z | z | z <;> rw [z]
  · exact ⟨3, rfl, by decide, by decide⟩
  · exact ⟨9, rfl, by decide, by decide⟩
  · exact ⟨10 ^ 11, rfl, by decide, by decide⟩
theorem div2 {v : Int} : fDiv (.int v) (.int 2) = some (.int (v / 2)) := by
  have e : (2 : Int).natAbs.log2 ≤ 3 := log_le (by decide)
  have e' : (2 : Int).natAbs.log2 < 9000 := by omega
  simp at e'
  simp [fDiv, fI, e']
theorem hall4 {t : Int} {m n : Nat} {o : OT} (h : QOk t o) (ht : t < 10 ^ 5) (hm : m ≤ 8) (hn : n ≤ 8) :
    ∃ o' rs, f__law_hall [o, I m, I n] = .ok (.d (hallP rs), [o', .hole, .hole]) ∧ rs.length = m ∧ (∀ r ∈ rs, ROk n (10 ^ 12) r) ∧ QOk (t + 300) o' := by
  obtain ⟨k, o1, e1, a1, c1, w1⟩ := take4 (size := 5) h (by omega) (by decide) (by decide)
  obtain ⟨size, hz, z0, z9⟩ := pick_s a1 c1
  have n0 := h.noFr
  have b1 : (dSet 3 (eIx (eLst (aCons (eD (.int 3)) (aCons (eD (.int 9)) (aCons (eOp2 fPow (eD (.int 10)) (eD (.int 11))) aNil)))) (eOp2 fDiv (eClB 2 f__law_take 0 (aCons (eD (.int 5)) aNil)) (eD (.int 2))))) [.p o, .v (I (m : Int)), .v (I (n : Int)), .un, .un, .un] = .ok (.nx, [.p o1, .v (I (m : Int)), .v (I (n : Int)), .v (I size), .un, .un]) := Ev.set_ (Ev.ix (Ev.lst (os := [I 3, I 9, I (10 ^ 11)]) (Ev.cons_ Ev.d_ (Ev.cons_ Ev.d_ (Ev.cons_ (Ev.op2 Ev.d_ Ev.d_ rfl rfl pow10_11) Ev.nil_))) rfl) (Ev.op2 (z := .int (k / 2)) (Ev.clB (b := true) (q := o) (p := o) rfl (Ev.cons_ Ev.d_ Ev.nil_) rfl rfl (by simp [noFrs, n0, noFr]) e1 rfl) Ev.d_ rfl rfl div2) hz) rfl
  have row : ∀ {u : Int} {p : OT} (j : Int), QOk u p → u < 10 ^ 6 → ∃ q r, (eTp (eLc [5] (iR1 (aCons (eVar 2) aNil)) (gNm 5) tYs (eClB 2 f__law_minutes 0 (aCons (eVar 3) aNil)))) [.p p, .v (I (m : Int)), .v (I (n : Int)), .v (I size), .v (I j), .un] = .ok (.d (rowP r), [.p q, .v (I (m : Int)), .v (I (n : Int)), .v (I size), .v (I j), .un]) ∧ ROk n (10 ^ 12) r ∧ QOk (u + 4 * n) q := fun {u p} j w hu => by
    obtain ⟨bs, en', h5, h6, h7, q, rfl, h8⟩ := lcD_ex (item := fun i : Nat => .int (i : Int)) (vs := [5]) (g := gNm 5) (te := (eClB 2 f__law_minutes 0 (aCons (eVar 3) aNil))) I
      (fun i en => ∃ q, en = [.p q, .v (I (m : Int)), .v (I (n : Int)), .v (I size), .v (I j), .un] ∧ QOk (u + 4 * i) q) (fun v : Int => 0 ≤ v ∧ v < 10 ^ 12) (List.range n) 0 [.p p, .v (I (m : Int)), .v (I (n : Int)), .v (I size), .v (I j), .un] [] (by simp; omega) (by
        rintro a ha i en hi ⟨q, rfl, wq⟩
        simp at hi
        obtain ⟨v, q', e, v0, v1, wq'⟩ := minutes4 wq (by omega) z0 z9
        have nq := wq.noFr
        exact ⟨[.p q, .v (I (m : Int)), .v (I (n : Int)), .v (I size), .v (I j), .v (I (a : Int))], [.p q', .v (I (m : Int)), .v (I (n : Int)), .v (I size), .v (I j), .v (I (a : Int))], [.p q', .v (I (m : Int)), .v (I (n : Int)), .v (I size), .v (I j), .un], v, rfl, Ev.clB (b := true) (q := q) (p := q) rfl (Ev.cons_ (Ev.var rfl) Ev.nil_) rfl rfl (by simp [noFrs, nq, noFr]) e rfl, rfl, ⟨v0, v1⟩, q', rfl, wq'.mono (by push_cast; omega)⟩) ⟨p, rfl, w.mono (by omega)⟩
    refine ⟨q, bs, Ev.tp (o := OW bs) (xs := bs.map .int) ?_ (by simp [frz, frzs_I, dItems]), ⟨by simpa using h6, h7⟩, by simpa using h8⟩
    have hi : (iR1 (aCons (eVar 2) aNil)) [.p p, .v (I (m : Int)), .v (I (n : Int)), .v (I size), .v (I j), .un] = .ok ((List.range n).map (fun i : Nat => .int (i : Int)), [.p p, .v (I (m : Int)), .v (I (n : Int)), .v (I size), .v (I j), .un]) := Ev.r1w (n := n) (Ev.cons_ (Ev.var rfl) Ev.nil_) rfl (by omega)
    unfold eLc
    rw [hi]
    exact h5
  obtain ⟨rs, en', h5, h6, h7, q, rfl, h8⟩ := lcD_ex (item := fun i : Nat => .int (i : Int)) (vs := [4]) (g := gNm 4) (te := (eTp (eLc [5] (iR1 (aCons (eVar 2) aNil)) (gNm 5) tYs (eClB 2 f__law_minutes 0 (aCons (eVar 3) aNil))))) (fun r : List Int => .d (rowP r))
    (fun i en => ∃ q, en = [.p q, .v (I (m : Int)), .v (I (n : Int)), .v (I size), .un, .un] ∧ QOk (t + 1 + 32 * i) q) (fun r => ROk n (10 ^ 12) r) (List.range m) 0 [.p o1, .v (I (m : Int)), .v (I (n : Int)), .v (I size), .un, .un] [] (by simp; omega) (by
      rintro a ha i en hi ⟨q, rfl, wq⟩
      simp at hi
      obtain ⟨q', r, e, hr, wq'⟩ := row a wq (by omega)
      exact ⟨[.p q, .v (I (m : Int)), .v (I (n : Int)), .v (I size), .v (I (a : Int)), .un], [.p q', .v (I (m : Int)), .v (I (n : Int)), .v (I size), .v (I (a : Int)), .un], [.p q', .v (I (m : Int)), .v (I (n : Int)), .v (I size), .un, .un], r, rfl, e, rfl, hr, q', rfl, wq'.mono (by push_cast; omega)⟩) ⟨o1, rfl, w1.mono (by omega)⟩
  have nq := h8.noFr
  have b2 : (dRt (eTp (eLc [4] (iR1 (aCons (eVar 1) aNil)) (gNm 4) tYs (eTp (eLc [5] (iR1 (aCons (eVar 2) aNil)) (gNm 5) tYs (eClB 2 f__law_minutes 0 (aCons (eVar 3) aNil))))))) [.p o1, .v (I (m : Int)), .v (I (n : Int)), .v (I size), .un, .un] = .ok (.rt (.d (hallP rs)), [.p q, .v (I (m : Int)), .v (I (n : Int)), .v (I size), .un, .un]) := by
    refine Ev.rt (Ev.tp (o := .own (rs.map fun r => .d (rowP r))) (xs := rs.map rowP) ?_ (by simp [frz, frzs_fn, dItems]))
    have hi : (iR1 (aCons (eVar 1) aNil)) [.p o1, .v (I (m : Int)), .v (I (n : Int)), .v (I size), .un, .un] = .ok ((List.range m).map (fun i : Nat => .int (i : Int)), [.p o1, .v (I (m : Int)), .v (I (n : Int)), .v (I size), .un, .un]) := Ev.r1w (n := m) (Ev.cons_ (Ev.var rfl) Ev.nil_) rfl (by omega)
    unfold eLc
    rw [hi]
    exact h5
  exact ⟨q, rs, fn_ok (fl := [true, false, false]) (k := 3) (B := D__law_hall) (os := [o, I m, I n]) rfl (Ev.sq b1 b2) (by simp [outs, fin, noFrs, noFr, nq]), by simpa using h6, h7, h8.mono (by simp; omega)⟩
theorem alike4_seq {d n : Nat} {x : PyData} {xs : List PyData} (hx : x = .tuple xs ∨ x = .list xs) (hl : xs.length ≤ 1000) (ih : ∀ y ∈ xs, Cq.f__law_alike n [.d y, .d y] = .ok (yes, [.hole, .hole])) : Cq.f__law_alike (n + 1) [.d x, .d x] = .ok (yes, [.hole, .hole]) := by
  obtain ⟨t, ht, hk⟩ : ∃ t, tyOf x = some t ∧ (t = "list" ∨ t = "tuple") := by
    rcases hx with rfl | rfl
    · exact ⟨_, rfl, .inr rfl⟩
    · exact ⟨_, rfl, .inl rfl⟩
  have ft : ((frz (.d x)).bind tyOf) = some t := ht
  obtain ⟨b1, k1⟩ := kit_ex t "list" ⟨by rcases hk with h | h <;> simp [h], by simp⟩
  obtain ⟨b2, k2⟩ := kit_ex t "tuple" ⟨by rcases hk with h | h <;> simp [h], by simp⟩
  have dl : dlen (.d x) = some xs.length := by rcases hx with rfl | rfl <;> rfl
  have ix : ∀ k, k < xs.length → Ev.ixV (.d x) (k : Int) = some (.d (xs.getD k .none)) := fun k hk' => by
    have a : atI xs (k : Int) = some (xs.getD k .none) := by
      have := atI_getD (f := id) (xs := xs) (d := .none) (i := k) hk'
      simpa using this
    rcases hx with rfl | rfl
    · exact Ev.ixVt a
    · exact Ev.ixVl a
  have mem : ∀ k, k < xs.length → xs.getD k .none ∈ xs := fun k hk' => by
    rw [List.getD_eq_getElem?_getD, List.getElem?_eq_getElem hk']; exact List.getElem_mem hk'
  have hd : eLc [2] (iR1 (aCons (eLen (eVar 1)) aNil)) (gNm 2) tYs (eCl 2 (Cq.f__law_alike n) (aCons (eIx (eVar 0) (eVar 2)) (aCons (eIx (eVar 1) (eVar 2)) aNil))) [.v (.d x), .v (.d x), .un] = .ok (.own ((List.range xs.length).map fun _ => yes), [.v (.d x), .v (.d x), .un]) :=
    Ev.lcm (item := fun i : Nat => .int i) (fun _ => yes) (List.range xs.length) (Ev.r1w (n := xs.length) (Ev.cons_ (Ev.len_ (Ev.var rfl) dl) Ev.nil_) rfl hl) rfl (by simp; omega)
      (fun k hk' => by
        have hk' := List.mem_range.mp hk'
        exact ⟨[.v (.d x), .v (.d x), .v (I (k : Int))], _, rfl, Ev.cl (Ev.cons_ (Ev.ix (Ev.var rfl) (Ev.var rfl) (ix k hk')) (Ev.cons_ (Ev.ix (Ev.var rfl) (Ev.var rfl) (ix k hk')) Ev.nil_)) rfl rfl (ih _ (mem k hk')), rfl⟩) rfl
  refine fn_ok (fl := [false, false]) (k := 1) (B := Cq.D__law_alike (Cq.f__law_alike n)) (os := [.d x, .d x]) (o := yes) (en := [.v (.d x), .v (.d x), .un]) rfl ?_ rfl
  refine Ev.sqR (Ev.difY (Ev.tv (b := true) (Ev.isi2 (Ev.var rfl) ft (kit_l t hk))) ?_)
  refine Ev.sq (Ev.difN (Ev.orN (Ev.tv (b := false) (Ev.op2 (Ev.isi (Ev.var rfl) ft k1) (Ev.isi (Ev.var rfl) ft k1) rfl rfl ne_b)) (Ev.nt (b := true) (Ev.tv (b := true) (Ev.isi2 (Ev.var rfl) ft (kit_l t hk))))) Ev.nx_) ?_
  refine Ev.sq (Ev.difN (Ev.tv (b := false) (Ev.op2 (Ev.len_ (Ev.var rfl) dl) (Ev.len_ (Ev.var rfl) dl) rfl rfl (ne_no rfl))) Ev.nx_) ?_
  exact Ev.rt (Ev.cb (Ev.cons_ hd Ev.nil_) (Ev.frzs_cons (Ev.frz_own fAll_own) rfl) (all_yes [] _))
theorem kit_ib : kitB "int" "bool" = some false := by decide +kernel
theorem alike4_int {n : Nat} {i : Int} : Cq.f__law_alike (n + 1) [I i, I i] = .ok (yes, [.hole, .hole]) := by
  refine fn_ok (fl := [false, false]) (k := 1) (B := Cq.D__law_alike (Cq.f__law_alike n)) (os := [I i, I i]) (o := yes) (en := [.v (I i), .v (I i), .un]) rfl ?_ rfl
  refine Ev.sq (Ev.difN (Ev.tv (b := false) (Ev.isi2 (t := "int") (Ev.var rfl) rfl kit_int)) Ev.nx_) ?_
  refine Ev.sq (Ev.difN (Ev.orN (Ev.tv (b := false) (Ev.isi (t := "int") (Ev.var rfl) rfl kit_ib)) (Ev.tv (b := false) (Ev.isi (t := "int") (Ev.var rfl) rfl kit_ib))) Ev.nx_) ?_
  exact Ev.rt (Ev.op2 (Ev.var rfl) (Ev.var rfl) rfl rfl (eq_yes rfl))
/-- data of numbers, lists and tuples, not too deep -/
def okI : Nat → PyData → Prop
  | _, .int _ => True
  | d + 1, .tuple xs => xs.length ≤ 1000 ∧ ∀ x ∈ xs, okI d x
  | d + 1, .list xs => xs.length ≤ 1000 ∧ ∀ x ∈ xs, okI d x
  | _, _ => False
theorem alike4 : ∀ (d : Nat) (x : PyData), okI d x → Cq.f__law_alike (d + 1) [.d x, .d x] = .ok (yes, [.hole, .hole])
  | _, .int _, _ => alike4_int
  | d + 1, .tuple xs, h => alike4_seq (d := d) (.inl rfl) h.1 fun y hy => alike4 d y (h.2 y hy)
  | d + 1, .list xs, h => alike4_seq (d := d) (.inr rfl) h.1 fun y hy => alike4 d y (h.2 y hy)
  | 0, .tuple xs, h => by simp [okI] at h
  | 0, .list xs, h => by simp [okI] at h
  | 0, .none, h => by simp [okI] at h
  | 0, .bool _, h => by simp [okI] at h
  | 0, .str _, h => by simp [okI] at h
  | 0, .dict _, h => by simp [okI] at h
  | d + 1, .none, h => by simp [okI] at h
  | d + 1, .bool _, h => by simp [okI] at h
  | d + 1, .str _, h => by simp [okI] at h
  | d + 1, .dict _, h => by simp [okI] at h
end Pl
end
section
set_option Elab.async false
set_option linter.all false
set_option maxRecDepth 100000
set_option maxHeartbeats 2000000
/-! exchanges, totals, greatest worths: the program and the law's own -/
namespace Pl
open PySem PySem.Spec L2 Lf Cp Cq
/-! ### exchanges of halls -/
def mxL (r s : List Int) : Int := (foldMax (leadsL 0 r s)).getD 0
def exL (H : List (List Int)) (c : Nat) : List (List Int) :=
  let r := H.getD c []
  let s := H.getD (c + 1) []
  (H.set c (lft (mxL r s) (r.sum - s.sum) r s)).set (c + 1) (nxt (mxL r s) (r.sum - s.sum) r s)
section
variable {m n c : Nat} {W M : Int} {A B H : List (List Int)} {r s : List Int}
theorem TR.mxL (t : TR n M r s) : mxL r s = M := by unfold Pl.mxL; rw [t.mx]; rfl
theorem get_r (hA : A.length = c) : (A ++ r :: s :: B).getD c [] = r := by rw [List.getD_eq_getElem?_getD, List.getElem?_append_right (by omega), hA, Nat.sub_self]; rfl
theorem get_s (hA : A.length = c) : (A ++ r :: s :: B).getD (c + 1) [] = s := by rw [List.getD_eq_getElem?_getD, List.getElem?_append_right (by omega), show c + 1 - A.length = 1 by omega]; rfl
theorem exL_at (hA : A.length = c) (t : TR n M r s) : exL (A ++ r :: s :: B) c = A ++ lft M (r.sum - s.sum) r s :: nxt M (r.sum - s.sum) r s :: B := by
  unfold exL
  simp only
  rw [get_r hA, get_s hA, t.mxL, List.set_append_right _ _ (by omega), List.set_append_right _ _ (by omega), hA, Nat.sub_self, show c + 1 - c = 1 by omega]
  rfl
/-- a hall cut at two neighbours -/
structure Tw (m n c : Nat) (W M : Int) (A B : List (List Int)) (r s : List Int) : Prop where
  hl : Hl m n W (A ++ r :: s :: B)
  hA : A.length = c
  tr : TR n M r s
  m0 : 0 ≤ M
  f0 : 0 ≤ M + s.sum - r.sum
  bd : M + (M + s.sum - r.sum) ≤ 16 * W
  hu : ∀ k, k ≤ M → -k ≤ M + s.sum - r.sum → Unseen n r s (lft M k r s) (nxt M k r s)
  nr : ∀ x ∈ r, 0 ≤ x
  ns : ∀ x ∈ s, 0 ≤ x
theorem tw_of (h : Hl m n W H) (hW : 0 < W) (hc : c + 1 < m) : ∃ A r s B M, H = A ++ r :: s :: B ∧ Tw m n c W M A B r s := by
  obtain ⟨A, r, s, B, rfl, hA⟩ := Mr.split_at (c := c) h.few.len hc
  obtain ⟨M, hM, m0, f0, hb, hu⟩ := Mr.moves (c := c) h.ok (by omega)
  have rr := h.ok.rows r (by simp)
  have rs := h.ok.rows s (by simp)
  exact ⟨A, r, s, B, M, rfl, ⟨h, hA, ⟨rr.1, rs.1, hM⟩, m0, f0, hb, hu, fun x hx => (rr.2 x hx).1, fun x hx => (rs.2 x hx).1⟩⟩
theorem lead_last (t : TR n M r s) (hs : ∀ x ∈ s, 0 ≤ x) : r.sum - s.sum ≤ M := by
  have n1 := t.leads_ne
  have q := Dc.leads_le t (j := n - 1) (by omega)
  rw [Dc.lead_get r s 0 (n - 1) (by rw [t.lr, t.ls]) (by rw [t.lr]; omega)] at q
  have a := Dc.sum_ps r
  have b := Dc.sum_ps s
  rw [t.lr] at a
  rw [t.ls] at b
  rw [show n - 1 + 1 = n by omega] at q
  have e : Dc.ps (Dc.fl s) n = Dc.ps (Dc.fl s) (n - 1) + Dc.fl s (n - 1) := by
    obtain ⟨k, hk⟩ : ∃ k, n = k + 1 := ⟨n - 1, by omega⟩
    rw [hk]; rfl
  have : 0 ≤ Dc.fl s (n - 1) := nn_get hs (n - 1)
  omega
theorem Tw.rng (x : Tw m n c W M A B r s) : r.sum - s.sum ≤ M ∧ -(r.sum - s.sum) ≤ M + s.sum - r.sum := ⟨lead_last x.tr x.ns, by have := x.m0; omega⟩
theorem Tw.at (x : Tw m n c W M A B r s) {k : Int} (h1 : k ≤ M) (h2 : -k ≤ M + s.sum - r.sum) : Tw m n c W (M - k) A B (lft M k r s) (nxt M k r s) := by
  have u := x.hu k h1 h2
  have hl : Hl m n W (A ++ lft M k r s :: nxt M k r s :: B) := ⟨u.few x.hl.few, x.hl.m2, x.hl.m8, x.hl.n1, x.hl.n8⟩
  have z := lft_sum (k := k) x.tr
  obtain ⟨M', hM, m0, f0, hb, hu⟩ := Mr.moves (c := c) (A := A) (B := B) (r := lft M k r s) (s := nxt M k r s) hl.ok (by have := x.bd; have := x.m0; have := x.f0; omega)
  have t := mv_tr (k := k) x.tr
  have e : M' = M - k := by have := t.mx; rw [hM] at this; exact Option.some.inj this
  subst e
  exact ⟨hl, x.hA, t, m0, f0, hb, hu, u.nr, u.ns⟩
theorem Tw.mv (x : Tw m n c W M A B r s) {k : Int} (h1 : k ≤ M) (h2 : -k ≤ M + s.sum - r.sum) : Dc.Mv n c k (at2 (A ++ r :: s :: B)) (at2 (A ++ lft M k r s :: nxt M k r s :: B)) := Dc.mv_at x.hA x.tr x.nr x.ns x.m0 ⟨(x.hu k h1 h2).nr, (x.hu k h1 h2).ns⟩ h1
theorem exL_hl (h : Hl m n W H) (hW : 0 < W) (hc : c + 1 < m) : Hl m n W (exL H c) := by
  obtain ⟨A, r, s, B, M, rfl, x⟩ := tw_of h hW hc
  rw [exL_at x.hA x.tr]
  exact (x.at x.rng.1 x.rng.2).hl
theorem exL_ex (h : Hl m n W H) (hW : 0 < W) (hc : c + 1 < m) : Dc.Ex n c (at2 H) (at2 (exL H c)) := by
  obtain ⟨A, r, s, B, M, rfl, x⟩ := tw_of h hW hc
  rw [exL_at x.hA x.tr]
  refine (x.mv x.rng.1 x.rng.2).ex ?_
  have a := Dc.sum_ps r
  have b := Dc.sum_ps s
  rw [x.tr.lr] at a
  rw [x.tr.ls] at b
  rw [Dc.at_r x.hA, Dc.at_s x.hA, a, b]
theorem exL_len : (exL H c).length = H.length := by simp [exL]
theorem exL_get (p : Nat) (h : c + 1 < H.length) : (exL H c).getD p [] = if p = c then lft (mxL (H.getD c []) (H.getD (c + 1) [])) ((H.getD c []).sum - (H.getD (c + 1) []).sum) (H.getD c []) (H.getD (c + 1) []) else if p = c + 1 then nxt (mxL (H.getD c []) (H.getD (c + 1) [])) ((H.getD c []).sum - (H.getD (c + 1) []).sum) (H.getD c []) (H.getD (c + 1) []) else H.getD p [] := by
  unfold exL
  simp only
  rw [List.getD_eq_getElem?_getD (l := List.set _ _ _), List.getElem?_set, List.getElem?_set]
  by_cases z1 : p = c
  · subst z1
    rw [if_neg (by omega), if_pos rfl, if_pos rfl, if_pos (by omega)]; rfl
  · by_cases z2 : p = c + 1
    · subst z2
      rw [if_pos rfl, if_pos (by rw [List.length_set]; exact h), if_neg z1, if_pos rfl]; rfl
    · rw [if_neg (by omega), if_neg (by omega), if_neg z1, if_neg z2, List.getD_eq_getElem?_getD]
theorem hall_ext {K : List (List Int)} (hl : H.length = K.length) (h : ∀ p, p < H.length → H.getD p [] = K.getD p []) : H = K := by
  apply List.ext_getElem hl
  intro p h1 h2
  have := h p h1
  simpa [List.getD_eq_getElem?_getD, h1, h2] using this
/-- twice is the hall -/
theorem exL_twice (h : Hl m n W H) (hW : 0 < W) (hc : c + 1 < m) : exL (exL H c) c = H := by
  obtain ⟨A, r, s, B, M, rfl, x⟩ := tw_of h hW hc
  rw [exL_at x.hA x.tr]
  have y := x.at x.rng.1 x.rng.2
  rw [exL_at y.hA y.tr]
  have z := lft_sum (k := r.sum - s.sum) x.tr
  obtain ⟨e1, e2⟩ := mv_mv (k := r.sum - s.sum) (j := (lft M (r.sum - s.sum) r s).sum - (nxt M (r.sum - s.sum) r s).sum) x.tr
  have q := mv_zero x.tr
  rw [e1, e2, z.1, z.2, show r.sum - s.sum + (r.sum - (r.sum - s.sum) - (s.sum + (r.sum - s.sum))) = 0 by omega, q.1, q.2]
theorem exL_same (h : Hl m n W H) (hW : 0 < W) (hc : c + 1 < m) (e : (H.getD c []).sum = (H.getD (c + 1) []).sum) : exL H c = H := by
  obtain ⟨A, r, s, B, M, rfl, x⟩ := tw_of h hW hc
  rw [get_r x.hA, get_s x.hA] at e
  have q := mv_zero x.tr
  rw [exL_at x.hA x.tr, e, Int.sub_self, q.1, q.2]
theorem exL_alike (h : Hl m n W H) (hW : 0 < W) (hc : c + 1 < m) : Alike H (exL H c) := by
  obtain ⟨A, r, s, B, M, rfl, x⟩ := tw_of h hW hc
  rw [exL_at x.hA x.tr]
  exact (x.hu _ x.rng.1 x.rng.2).alike A B
theorem exL_far {d : Nat} (h : H.length = m) (hc : c + 1 < m) (hd : d + 1 < m) (hf : c + 1 < d ∨ d + 1 < c) : exL (exL H c) d = exL (exL H d) c := by
  refine hall_ext (by simp [exL_len]) fun p hp => ?_
  have l1 : (exL H c).length = m := by rw [exL_len, h]
  have l2 : (exL H d).length = m := by rw [exL_len, h]
  rw [exL_get (c := d) (H := exL H c) p (by omega), exL_get (c := c) (H := exL H d) p (by omega)]
  rw [exL_get (c := c) (H := H) d (by omega), exL_get (c := c) (H := H) (d + 1) (by omega), exL_get (c := c) (H := H) p (by omega)]
  rw [exL_get (c := d) (H := H) c (by omega), exL_get (c := d) (H := H) (c + 1) (by omega), exL_get (c := d) (H := H) p (by omega)]
  rw [if_neg (show ¬ d = c by omega), if_neg (show ¬ d = c + 1 by omega), if_neg (show ¬ d + 1 = c by omega), if_neg (show ¬ d + 1 = c + 1 by omega)]
  rw [if_neg (show ¬ c = d by omega), if_neg (show ¬ c = d + 1 by omega), if_neg (show ¬ c + 1 = d by omega), if_neg (show ¬ c + 1 = d + 1 by omega)]
  by_cases p1 : p = c
  · rw [if_pos p1, if_neg (by omega), if_neg (by omega), if_pos p1]
  · by_cases p2 : p = c + 1
    · rw [if_neg p1, if_pos p2, if_neg (by omega), if_neg (by omega), if_neg p1, if_pos p2]
    · rw [if_neg p1, if_neg p2, if_neg p1, if_neg p2]
theorem exL_braid (h : Hl m n W H) (hW : 0 < W) (hc : c + 2 < m) : exL (exL (exL H c) (c + 1)) c = exL (exL (exL H (c + 1)) c) (c + 1) := by
  have h1 := exL_hl h hW (c := c) (by omega)
  have h2 := exL_hl h1 hW (c := c + 1) (by omega)
  have h3 := exL_hl h2 hW (c := c) (by omega)
  have k1 := exL_hl h hW (c := c + 1) (by omega)
  have k2 := exL_hl k1 hW (c := c) (by omega)
  have k3 := exL_hl k2 hW (c := c + 1) (by omega)
  exact Dc.at_inj h3.ok k3.ok (Dc.braid (by have := h.n1; omega) hc (Dc.ok_at h.ok) (Dc.ok_at h1.ok) (Dc.ok_at h2.ok) (Dc.ok_at h3.ok) (Dc.ok_at k1.ok) (Dc.ok_at k2.ok) (Dc.ok_at k3.ok)
    (exL_ex h hW (by omega)) (exL_ex h1 hW (by omega)) (exL_ex h2 hW (by omega)) (exL_ex h hW (by omega)) (exL_ex k1 hW (by omega)) (exL_ex k2 hW (by omega)))
/-! ### the program's -/
theorem exchanged (h : Hl m n W H) (hW : 0 < W) (hc : c + 1 < m) : f_exchanged [.d (hallP H), I c] = .ok (.d (hallP (exL H c)), [.hole, .hole]) := by
  obtain ⟨A, r, s, B, M, rfl, x⟩ := tw_of h hW hc
  have hA := x.hA
  rw [exL_at x.hA x.tr]
  have b1 : (dEx (eCl 2 Cm.f_check_neighbours (aCons (eVar 0) (aCons (eVar 1) aNil)))) [.v (.d (hallP (A ++ r :: s :: B))), .v (I (c : Int))] = .ok (.nx, [.v (.d (hallP (A ++ r :: s :: B))), .v (I (c : Int))]) := Ev.ex (Ev.cl (Ev.cons_ (Ev.var rfl) (Ev.cons_ (Ev.var rfl) Ev.nil_)) rfl rfl (check_neighbours h.ok hc))
  have b2 : (dRt (eCl 3 Cm.f_carried (aCons (eVar 0) (aCons (eVar 1) (aCons (eOp2 fSub (eCb fSumA (aCons (eIx (eVar 0) (eVar 1)) aNil)) (eCb fSumA (aCons (eIx (eVar 0) (eOp2 fAdd (eVar 1) (eD (.int 1)))) aNil))) aNil))))) [.v (.d (hallP (A ++ r :: s :: B))), .v (I (c : Int))] = .ok (.rt (.d (hallP (A ++ lft M (r.sum - s.sum) r s :: nxt M (r.sum - s.sum) r s :: B))), [.v (.d (hallP (A ++ r :: s :: B))), .v (I (c : Int))]) := Ev.rt (Ev.cl (Ev.cons_ (Ev.var rfl) (Ev.cons_ (Ev.var rfl) (Ev.cons_ (Ev.op2 (z := .int (r.sum - s.sum)) (Ev.cb (z := .int r.sum) (Ev.cons_ (Ev.ix (o := .d (rowP r)) (Ev.var rfl) (Ev.var rfl) (Ev.ixVt (at_c hA))) Ev.nil_) rfl sumA_T) (Ev.cb (z := .int s.sum) (Ev.cons_ (Ev.ix (o := .d (rowP s)) (Ev.var rfl) (Ev.op2 (Ev.var rfl) Ev.d_ rfl rfl rfl) (Ev.ixVt (at_c1 hA))) Ev.nil_) rfl sumA_T) rfl rfl rfl) Ev.nil_))) rfl rfl (carried h.ok hA x.tr.mx))
  exact fn_ok (fl := [false, false]) (k := 0) (B := D_exchanged) (os := [.d (hallP (A ++ r :: s :: B)), I c]) rfl (Ev.sq b1 b2) rfl
def sumsL (H : List (List Int)) : List Int := H.map List.sum
theorem totals {wide : Int} (h : HOk m n wide H) : f_totals [.d (hallP H)] = .ok (.d (rowP (sumsL H)), [.hole]) := by
  have m8 := h.m8
  have hl := h.len
  have b1 : (dEx (eCl 1 Cp.f_check_hall (aCons (eVar 0) aNil))) [.v (.d (hallP H)), .un] = .ok (.nx, [.v (.d (hallP H)), .un]) := Ev.ex (Ev.cl (Ev.cons_ (Ev.var rfl) Ev.nil_) rfl rfl (check_hall h))
  have b2 : (dRt (eTp (eLc [1] (iSq (eVar 0)) (gNm 1) tYs (eCb fSumA (aCons (eVar 1) aNil))))) [.v (.d (hallP H)), .un] = .ok (.rt (.d (rowP (sumsL H))), [.v (.d (hallP H)), .un]) :=
    Ev.rt (Ev.tp (o := OW (sumsL H)) (xs := (sumsL H).map .int) (Ev.lcm (item := fun q : List Int => rowP q) (fun q => I q.sum) H (Ev.iSq_ (xs := H.map rowP) (Ev.var rfl) rfl) rfl (by omega) (fun q hq => ⟨[.v (.d (hallP H)), .v (.d (rowP q))], _, rfl, Ev.cb (z := .int q.sum) (Ev.cons_ (Ev.var rfl) Ev.nil_) rfl sumA_T, rfl⟩) (by unfold sumsL; rw [List.map_map]; rfl)) (by simp [frz, frzs_I, dItems]))
  exact fn_ok (fl := [false]) (k := 1) (B := D_totals) (os := [.d (hallP H)]) rfl (Ev.sq b1 b2) rfl
def woK : DS := (dSq (dSet 6 (eOp2 fAdd (eCb fMax2 (aCons (eVar 6) (aCons (eIxS 4 (eVar 7)) aNil))) (eIx (eVar 5) (eVar 7)))) (dStI 4 (eVar 6) (eVar 7)))
def woR : DS := (dSq (dSet 6 (eD (.int 0))) (dFor (iR2 (aCons (eVar 3) (aCons (eVar 1) aNil))) (gNm 7) woK))
def woF : DS := (dSq (dSet 4 (eMul0 (eLst (aCons (eD (.int 0)) aNil)) (eVar 1))) (dSq (dFor (iSq (eVar 0)) (gNm 5) woR) (dEx (eApp 2 (eSlS 4 (pSm (eVar 3)) pNo)))))
theorem mixz_len {Z S cs : List Int} {f l j : Nat} (hZ : Z.length = f) (hS : S.length = l) (hc : cs.length = l) (hj : j ≤ l) : (Z ++ (S.take j ++ cs.drop j)).length = f + l := by simp; omega
theorem mixz_get {Z S cs : List Int} {f l j : Nat} (hZ : Z.length = f) (hS : S.length = l) (hc : cs.length = l) (hj : j < l) : (Z ++ (S.take j ++ cs.drop j))[f + j]? = some (cs.getD j 0) := by
  rw [List.getElem?_append_right (by omega), hZ, show f + j - f = j by omega, List.getElem?_append_right (by simp; omega), List.getElem?_drop]
  simp [hS, List.getD_eq_getElem?_getD, show j + (j - min j l) = j by omega, show j < cs.length by omega]
theorem mixz_set {Z S cs : List Int} {f l j : Nat} (hZ : Z.length = f) (hS : S.length = l) (hc : cs.length = l) (hj : j < l) : (Z ++ (S.take j ++ cs.drop j)).set (f + j) (S.getD j 0) = Z ++ (S.take (j + 1) ++ cs.drop (j + 1)) := by
  rw [List.set_append_right _ _ (by omega), hZ, show f + j - f = j by omega]
  congr 1
  have e : j < S.length := by omega
  have e2 : j < cs.length := by omega
  rw [List.set_append_right _ _ (by simp; omega), List.take_succ_eq_append_getElem e, List.append_assoc]
  congr 1
  have e3 : j - (S.take j).length = 0 := by simp; omega
  rw [e3, List.drop_eq_getElem_cons e2, List.set_cons_zero]
  show _ = S[j] :: _
  rw [List.getD_eq_getElem?_getD, List.getElem?_eq_getElem e]
  rfl
theorem wo_step {F : List OT} {Z S cs q : List Int} {f l j : Nat} (hS : S = servedL (q.drop f) cs) (hZ : Z.length = f) (hq : q.length = f + l) (hc : cs.length = l) (hj : j < l) :
    woK [.v (.d (hallP H)), .v (I (n : Int)), .v (.own F), .v (I (f : Int)), .v (.own ((Z ++ (S.take j ++ cs.drop j)).map I)), .v (.d (rowP q)), .v (I (if j = 0 then 0 else S.getD (j - 1) 0)), .v (I ((f : Int) + j))] = .ok (.nx, [.v (.d (hallP H)), .v (I (n : Int)), .v (.own F), .v (I (f : Int)), .v (.own ((Z ++ (S.take (j + 1) ++ cs.drop (j + 1))).map I)), .v (.d (rowP q)), .v (I (if (j + 1) = 0 then 0 else S.getD ((j + 1) - 1) 0)), .v (I ((f : Int) + j))]) := by
  have hd : (q.drop f).length = l := by rw [List.length_drop, hq]; omega
  have rc := served_rec hd hc hj
  rw [← hS] at rc
  have hl : S.length = l := by rw [hS, servedL_length (hd.trans hc.symm), hc]
  have ml := mixz_len hZ hl hc (show j ≤ l by omega)
  have kk : (f : Int) + j = ((f + j : Nat) : Int) := by omega
  have qd : (q.drop f).getD j 0 = q.getD (f + j) 0 := by rw [List.getD_eq_getElem?_getD, List.getElem?_drop, ← List.getD_eq_getElem?_getD]
  have b1 : (dSet 6 (eOp2 fAdd (eCb fMax2 (aCons (eVar 6) (aCons (eIxS 4 (eVar 7)) aNil))) (eIx (eVar 5) (eVar 7)))) [.v (.d (hallP H)), .v (I (n : Int)), .v (.own F), .v (I (f : Int)), .v (.own ((Z ++ (S.take j ++ cs.drop j)).map I)), .v (.d (rowP q)), .v (I (if j = 0 then 0 else S.getD (j - 1) 0)), .v (I ((f : Int) + j))] = .ok (.nx, [.v (.d (hallP H)), .v (I (n : Int)), .v (.own F), .v (I (f : Int)), .v (.own ((Z ++ (S.take j ++ cs.drop j)).map I)), .v (.d (rowP q)), .v (I (S.getD j 0)), .v (I ((f : Int) + j))]) := by
    rw [kk]
    exact Ev.set_ (Ev.op2 (z := .int (S.getD j 0)) (Ev.cb (z := .int (max (if j = 0 then 0 else S.getD (j - 1) 0) (cs.getD j 0))) (Ev.cons_ (Ev.var rfl) (Ev.cons_ (Ev.ixS (k := ((f + j : Nat) : Int)) (j := f + j) (x := .int (cs.getD j 0)) (os := (Z ++ (S.take j ++ cs.drop j)).map I) (ps := (Z ++ (S.take j ++ cs.drop j)).map I) (b := false) rfl (Ev.var rfl) rfl (ixN_at (by rw [List.length_map, ml]; omega)) (by rw [List.getElem?_map, mixz_get hZ hl hc hj]; rfl) (by
      have : ((Z ++ (S.take j ++ cs.drop j)).map I).set (f + j) (I (cs.getD j 0)) = (Z ++ (S.take j ++ cs.drop j)).map I := by
        apply List.ext_getElem?
        intro i
        rw [List.getElem?_set]
        by_cases z : f + j = i
        · subst z
          have := mixz_get hZ hl hc hj
          rw [if_pos rfl, List.getElem?_map, this, if_pos (by rw [List.length_map, ml]; omega)]
          rfl
        · rw [if_neg z]
      rw [this] <;> rfl)) Ev.nil_)) rfl (by simp only [fMax2, gt_iff_lt, if_max])) (Ev.ix (o := I (q.getD (f + j) 0)) (Ev.var rfl) (Ev.var rfl) (Ev.ixVt (atI_getD (d := 0) (by omega)))) rfl rfl (by rw [rc, qd]; rfl)) rfl
  have b2 : (dStI 4 (eVar 6) (eVar 7)) [.v (.d (hallP H)), .v (I (n : Int)), .v (.own F), .v (I (f : Int)), .v (.own ((Z ++ (S.take j ++ cs.drop j)).map I)), .v (.d (rowP q)), .v (I (S.getD j 0)), .v (I ((f : Int) + j))] = .ok (.nx, [.v (.d (hallP H)), .v (I (n : Int)), .v (.own F), .v (I (f : Int)), .v (.own ((Z ++ (S.take (j + 1) ++ cs.drop (j + 1))).map I)), .v (.d (rowP q)), .v (I (if (j + 1) = 0 then 0 else S.getD ((j + 1) - 1) 0)), .v (I ((f : Int) + j))]) := by
    rw [if_neg (by omega), Nat.add_sub_cancel, kk]
    exact Ev.stI (k := ((f + j : Nat) : Int)) (j := f + j) (b := false) (ps := (Z ++ (S.take j ++ cs.drop j)).map I) (os := (Z ++ (S.take j ++ cs.drop j)).map I) (Ev.var rfl) rfl (Ev.var rfl) rfl (ixN_at (by rw [List.length_map, ml]; omega)) (by
      rw [← mixz_set hZ hl hc hj, List.map_set] <;> rfl)
  exact Ev.sq b1 b2
theorem wo_row {F : List OT} {Z cs q : List Int} {f l : Nat} {s6 s7 : Slot} (hn : n = f + l) (n8 : n ≤ 8) (hZ : Z.length = f) (hq : q.length = n) (hc : cs.length = l) (n6 : np s6 = true) (n7 : np s7 = true) :
    ∃ s6' s7', woR [.v (.d (hallP H)), .v (I (n : Int)), .v (.own F), .v (I (f : Int)), .v (OW (Z ++ cs)), .v (.d (rowP q)), s6, s7] = .ok (.nx, [.v (.d (hallP H)), .v (I (n : Int)), .v (.own F), .v (I (f : Int)), .v (OW (Z ++ servedL (q.drop f) cs)), .v (.d (rowP q)), s6', s7']) ∧ np s6' = true ∧ np s7' = true := by
  obtain ⟨S, hS⟩ : ∃ S, S = servedL (q.drop f) cs := ⟨_, rfl⟩
  have hd : (q.drop f).length = l := by rw [List.length_drop, hq]; omega
  have hl : S.length = l := by rw [hS, servedL_length (hd.trans hc.symm), hc]
  obtain ⟨en, h1, s7', rfl, m7⟩ := forRI (g := gNm 7) (body := woK) (item := fun j : Nat => .int ((f : Int) + j)) (en := [.v (.d (hallP H)), .v (I (n : Int)), .v (.own F), .v (I (f : Int)), .v (OW (Z ++ cs)), .v (.d (rowP q)), .v (I 0), s7])
    (fun j en => ∃ s7, en = [.v (.d (hallP H)), .v (I (n : Int)), .v (.own F), .v (I (f : Int)), .v (.own ((Z ++ (S.take j ++ cs.drop j)).map I)), .v (.d (rowP q)), .v (I (if j = 0 then 0 else S.getD (j - 1) 0)), s7] ∧ np s7 = true) l ⟨s7, by simp, n7⟩ (by
      rintro j en hj ⟨s7, rfl, n7⟩
      exact ⟨[.v (.d (hallP H)), .v (I (n : Int)), .v (.own F), .v (I (f : Int)), .v (.own ((Z ++ (S.take j ++ cs.drop j)).map I)), .v (.d (rowP q)), .v (I (if j = 0 then 0 else S.getD (j - 1) 0)), .v (I ((f : Int) + j))], _, by simp [gNm, stor_eq, n7], wo_step hS hZ (by omega) hc hj, _, rfl, rfl⟩)
  have b1 : (dSet 6 (eD (.int 0))) [.v (.d (hallP H)), .v (I (n : Int)), .v (.own F), .v (I (f : Int)), .v (OW (Z ++ cs)), .v (.d (rowP q)), s6, s7] = .ok (.nx, [.v (.d (hallP H)), .v (I (n : Int)), .v (.own F), .v (I (f : Int)), .v (OW (Z ++ cs)), .v (.d (rowP q)), .v (I 0), s7]) := Ev.set_ Ev.d_ (Ev.stor_np rfl n6 rfl)
  refine ⟨.v (I (if l = 0 then 0 else S.getD (l - 1) 0)), s7', Ev.sq b1 (Ev.for_ (Ev.r2w (lo := f) (n := n) (Ev.cons_ (Ev.var rfl) (Ev.cons_ (Ev.var rfl) Ev.nil_)) (by omega) (by omega)) ?_), rfl, m7⟩
  rw [show n - f = l by omega, h1]
  have e1 : S.take l ++ cs.drop l = servedL (q.drop f) cs := by rw [List.take_of_length_le (by omega), List.drop_of_length_le (by omega), List.append_nil, hS]
  rw [e1]
theorem wo_first {F : List OT} {f : Nat} {s4 s5 s6 s7 : Slot} {wide : Int} (h : HOk m n wide H) (hf : f < n) (hF : F.length ≤ 100) (n4 : np s4 = true) (n5 : np s5 = true) (n6 : np s6 = true) (n7 : np s7 = true) :
    ∃ s4' s5' s6' s7', woF [.v (.d (hallP H)), .v (I (n : Int)), .v (.own F), .v (I (f : Int)), s4, s5, s6, s7] = .ok (.nx, [.v (.d (hallP H)), .v (I (n : Int)), .v (.own (F ++ [OW (cumL n f H)])), .v (I (f : Int)), s4', s5', s6', s7']) ∧ np s4' = true ∧ np s5' = true ∧ np s6' = true ∧ np s7' = true := by
  have n8 := h.n8
  have hl := h.len
  have m8 := h.m8
  obtain ⟨l, hn⟩ : ∃ l, n = f + l := ⟨n - f, by omega⟩
  have b1 : (dSet 4 (eMul0 (eLst (aCons (eD (.int 0)) aNil)) (eVar 1))) [.v (.d (hallP H)), .v (I (n : Int)), .v (.own F), .v (I (f : Int)), s4, s5, s6, s7] = .ok (.nx, [.v (.d (hallP H)), .v (I (n : Int)), .v (.own F), .v (I (f : Int)), .v (OW (List.replicate n 0)), s5, s6, s7]) := Ev.set_ (Ev.mul0 (Ev.lst (os := [I 0]) (Ev.cons_ Ev.d_ Ev.nil_) rfl) (Ev.var rfl) (Ev.mulZ (n := n) rfl (by omega))) (Ev.stor_np rfl n4 rfl)
  have e0 : List.replicate n (0 : Int) = List.replicate f 0 ++ List.replicate l 0 := by rw [hn, List.replicate_append_replicate]
  obtain ⟨en, h1, cs, s5', s6', s7', rfl, m5, m6, m7, hcs, hlen, _⟩ := forD_rest (item := fun q : List Int => rowP q) (g := gNm 5) (body := woR)
    (fun rest en => ∃ cs s5 s6 s7, en = [.v (.d (hallP H)), .v (I (n : Int)), .v (.own F), .v (I (f : Int)), .v (OW (List.replicate f 0 ++ cs)), s5, s6, s7] ∧ np s5 = true ∧ np s6 = true ∧ np s7 = true ∧ thru (rest.map (·.drop f)) cs = cumL n f H ∧ cs.length = l ∧ ∀ q ∈ rest, q.length = n) (by
      rintro q rest en ⟨cs, s5, s6, s7, rfl, n5, n6, n7, e, hc, hq⟩
      simp only [List.forall_mem_cons] at hq
      obtain ⟨s6', s7', h2, m6, m7⟩ := wo_row (H := H) (F := F) (Z := List.replicate f 0) (cs := cs) (q := q) (f := f) hn n8 (by simp) hq.1 hc n6 n7
      have hd : (q.drop f).length = cs.length := by rw [List.length_drop, hq.1]; omega
      exact ⟨[.v (.d (hallP H)), .v (I (n : Int)), .v (.own F), .v (I (f : Int)), .v (OW (List.replicate f 0 ++ cs)), .v (.d (rowP q)), s6, s7], _, by simp [gNm, stor_eq, n5], h2, servedL (q.drop f) cs, _, s6', s7', rfl, rfl, m6, m7, e, by rw [servedL_length hd, hc], hq.2⟩)
    H [.v (.d (hallP H)), .v (I (n : Int)), .v (.own F), .v (I (f : Int)), .v (OW (List.replicate n 0)), s5, s6, s7] ⟨List.replicate l 0, s5, s6, s7, by rw [e0], n5, n6, n7, by unfold cumL; rw [show n - f = l by omega], by simp, fun q hq => (h.rows q hq).1⟩
  have ec : cs = cumL n f H := by rw [← hcs]; rfl
  subst ec
  have b3 : (dEx (eApp 2 (eSlS 4 (pSm (eVar 3)) pNo))) [.v (.d (hallP H)), .v (I (n : Int)), .v (.own F), .v (I (f : Int)), .v (OW (List.replicate f 0 ++ cumL n f H)), s5', s6', s7'] = .ok (.nx, [.v (.d (hallP H)), .v (I (n : Int)), .v (.own (F ++ [OW (cumL n f H)])), .v (I (f : Int)), .v (OW (List.replicate f 0 ++ cumL n f H)), s5', s6', s7']) :=
    Ev.ex (Ev.app (b := false) (ps := F) (os := F) (o := OW (cumL n f H)) rfl (Ev.slS (b := false) (os := (List.replicate f 0 ++ cumL n f H).map I) (xs := (List.replicate f 0 ++ cumL n f H).map .int) rfl (Ev.psm (Ev.var rfl)) Ev.pno rfl (frzs_I _) (by rw [cutA_drop (s := f) rfl, ← List.map_drop, List.drop_left' (by simp), List.map_map]; rfl) (by rw [List.map_map] <;> rfl)) rfl (few_of (by omega)) rfl)
  exact ⟨.v (OW (List.replicate f 0 ++ cumL n f H)), s5', s6', s7', Ev.sq b1 (Ev.sq (Ev.for_ (Ev.iSq_ (xs := H.map rowP) (Ev.var rfl) rfl) h1) b3), rfl, m5, m6, m7⟩
def WL (n : Nat) (H : List (List Int)) : List (List Int) := (List.range n).map fun f => cumL n f H
theorem law_worths {wide : Int} (h : HOk m n wide H) : Cq.f__law_worths [.d (hallP H)] = .ok (.own ((WL n H).map OW), [.hole]) := by
  have n8 := h.n8
  have m1 := h.m1
  have hl := h.len
  have row0 : (H.getD 0 []).length = n := (h.rows _ (by rw [List.getD_eq_getElem?_getD, List.getElem?_eq_getElem (by omega)]; exact List.getElem_mem _)).1
  have b1 : (dSet 1 (eLen (eIx (eVar 0) (eD (.int 0))))) [.v (.d (hallP H)), .un, .un, .un, .un, .un, .un, .un] = .ok (.nx, [.v (.d (hallP H)), .v (I (n : Int)), .un, .un, .un, .un, .un, .un]) := Ev.set_ (Ev.len_ (n := n) (Ev.ix (o := .d (rowP (H.getD 0 []))) (Ev.var rfl) Ev.d_ (Ev.ixVt (atI_getD (d := []) (i := 0) (by omega)))) (by simpa [dlen] using row0)) rfl
  have b2 : (dSet 2 (eLst aNil)) [.v (.d (hallP H)), .v (I (n : Int)), .un, .un, .un, .un, .un, .un] = .ok (.nx, [.v (.d (hallP H)), .v (I (n : Int)), .v (.own []), .un, .un, .un, .un, .un]) := Ev.set_ (Ev.lst Ev.nil_ rfl) rfl
  obtain ⟨en, h3, s3, s4, s5, s6, s7, rfl, _⟩ := forR (g := gNm 3) (body := woF) (en := [.v (.d (hallP H)), .v (I (n : Int)), .v (.own []), .un, .un, .un, .un, .un])
    (fun j en => ∃ s3 s4 s5 s6 s7, en = [.v (.d (hallP H)), .v (I (n : Int)), .v (.own (((List.range j).map fun f => cumL n f H).map OW)), s3, s4, s5, s6, s7] ∧ np s3 = true ∧ np s4 = true ∧ np s5 = true ∧ np s6 = true ∧ np s7 = true) n ⟨.un, .un, .un, .un, .un, rfl, rfl, rfl, rfl, rfl, rfl⟩ (by
      rintro j en hj ⟨s3, s4, s5, s6, s7, rfl, n3, n4, n5, n6, n7⟩
      obtain ⟨s4', s5', s6', s7', h2, m4, m5, m6, m7⟩ := wo_first (F := ((List.range j).map fun f => cumL n f H).map OW) h hj (by simp; omega) n4 n5 n6 n7
      refine ⟨[.v (.d (hallP H)), .v (I (n : Int)), .v (.own (((List.range j).map fun f => cumL n f H).map OW)), .v (I (j : Int)), s4, s5, s6, s7], _, by simp [gNm, stor_eq, n3], h2, .v (I (j : Int)), s4', s5', s6', s7', ?_, rfl, m4, m5, m6, m7⟩
      rw [List.range_succ, List.map_append, List.map_append]
      rfl)
  have b3 : (dFor (iR1 (aCons (eVar 1) aNil)) (gNm 3) woF) [.v (.d (hallP H)), .v (I (n : Int)), .v (.own []), .un, .un, .un, .un, .un] = .ok (.nx, [.v (.d (hallP H)), .v (I (n : Int)), .v (.own ((WL n H).map OW)), s3, s4, s5, s6, s7]) := Ev.forN (n := n) (Ev.cons_ (Ev.var rfl) Ev.nil_) (by omega) h3
  exact fn_ok (fl := [false]) (k := 7) (B := Cq.D__law_worths) (os := [.d (hallP H)]) rfl (Ev.sq b1 (Ev.sq b2 (Ev.sq b3 (Ev.rt (Ev.mov rfl rfl))))) (by simp [outs, fin, noFrs, noFr, noFrs_OW])
theorem WL_alike {H' : List (List Int)} (h : Alike H H') (hH : ∀ r ∈ H, r.length = n) (hH' : ∀ r ∈ H', r.length = n) : WL n H' = WL n H := by
  unfold WL
  exact List.map_congr_left fun f _ => cum_alike h hH hH'
end
end Pl
end
section
set_option Elab.async false
set_option linter.all false
set_option maxRecDepth 100000
set_option maxHeartbeats 2000000
/-! settling, to_first, to_last: the program -/
namespace Pl
open PySem PySem.Spec L2 Lf Cp Cj
section
variable {m n c : Nat} {W M : Int} {A B H K : List (List Int)} {r s : List Int}
theorem Tw.st (x : Tw m n c W M A B r s) : Dc.St m n c (at2 (A ++ r :: s :: B)) (at2 (A ++ lft M (-(M + s.sum - r.sum)) r s :: nxt M (-(M + s.sum - r.sum)) r s :: B)) := by
  have m0 := x.m0
  have f0 := x.f0
  have y := x.at (k := -(M + s.sum - r.sum)) (by omega) (by omega)
  refine ⟨Dc.ok_at y.hl.ok, ?_, ?_⟩
  · rcases x.mv (k := -(M + s.sum - r.sum)) (by omega) (by omega) with ⟨z, f⟩ | ⟨z, f⟩
    · have e : (M + s.sum - r.sum) = 0 := by omega
      rw [e] at f ⊢
      refine ⟨0, ?_⟩
      have q := mv_zero x.tr
      rw [Int.neg_zero, q.1, q.2]
      exact .nil
    · exact ⟨_, f⟩
  · intro j hj
    rw [Dc.ld_at y.hA y.tr hj, Dc.at_r y.hA, Dc.at_s y.hA]
    have a := Dc.sum_ps (lft M (-(M + s.sum - r.sum)) r s)
    have b := Dc.sum_ps (nxt M (-(M + s.sum - r.sum)) r s)
    rw [y.tr.lr] at a
    rw [y.tr.ls] at b
    have z := lft_sum (k := -(M + s.sum - r.sum)) x.tr
    have := Dc.leads_le y.tr hj
    rw [a, b, z.1, z.2]
    omega
def sgI : DS := (dSq (dAsg (gTp [5, 6]) (eCl 2 Cm.f_most_moves (aCons (eIx (eVar 1) (eVar 4)) (aCons (eIx (eVar 1) (eOp2 fAdd (eVar 4) (eD (.int 1)))) aNil)))) (dIf (tV (eOp2 fGt (eVar 6) (eD (.int 0)))) (dSq (dSet 1 (eCl 3 Cm.f_carried (aCons (eVar 1) (aCons (eVar 4) (aCons (eNeg (eVar 6)) aNil))))) (dEx (eApp 2 (eTup (aCons (eVar 4) (aCons (eNeg (eVar 6)) aNil)))))) dNx))
def sgO : DS := (dFor (iRev1 (eVar 3)) (gNm 4) sgI)
theorem sg_step {S : List PyData} {b : Nat} {s5 s6 : Slot} (h : Hl m n W K) (hW : 0 < W) (hc : c + 1 < m) (hS : S.length ≤ 1000) (n5 : np s5 = true) (n6 : np s6 = true) :
    ∃ (K' : List (List Int)) (S' : List PyData) (s5' s6' : Slot), sgI [.v (.d (hallP H)), .v (.d (hallP K)), .v (.own (List.map OT.d S)), .v (I (b : Int)), .v (I (c : Int)), s5, s6] = .ok (.nx, [.v (.d (hallP H)), .v (.d (hallP K')), .v (.own (List.map OT.d S')), .v (I (b : Int)), .v (I (c : Int)), s5', s6']) ∧ Dc.St m n c (at2 K) (at2 K') ∧ Hl m n W K' ∧ Alike K K' ∧ S'.length ≤ S.length + 1 ∧ np s5' = true ∧ np s6' = true := by
  obtain ⟨A, r, s, B, M, rfl, x⟩ := tw_of h hW hc
  have hA := x.hA
  have m0 := x.m0
  have f0 := x.f0
  have n8 := h.n8
  have mm := most_moves (r := r) (s := s) (by rw [x.tr.lr]; omega) x.tr.mx
  have b1 : (dAsg (gTp [5, 6]) (eCl 2 Cm.f_most_moves (aCons (eIx (eVar 1) (eVar 4)) (aCons (eIx (eVar 1) (eOp2 fAdd (eVar 4) (eD (.int 1)))) aNil)))) [.v (.d (hallP H)), .v (.d (hallP (A ++ r :: s :: B))), .v (.own (List.map OT.d S)), .v (I (b : Int)), .v (I (c : Int)), s5, s6] = .ok (.nx, [.v (.d (hallP H)), .v (.d (hallP (A ++ r :: s :: B))), .v (.own (List.map OT.d S)), .v (I (b : Int)), .v (I (c : Int)), .v (I M), .v (I (M + s.sum - r.sum))]) := Ev.asg (x := .tuple [.int M, .int (M + s.sum - r.sum)]) (Ev.cl (Ev.cons_ (Ev.ix (o := .d (rowP r)) (Ev.var rfl) (Ev.var rfl) (Ev.ixVt (at_c hA))) (Ev.cons_ (Ev.ix (o := .d (rowP s)) (Ev.var rfl) (Ev.op2 (Ev.var rfl) Ev.d_ rfl rfl rfl) (Ev.ixVt (at_c1 hA))) Ev.nil_)) rfl rfl mm) rfl (by simp [gTp, gNms, stor_eq, mkS, n5, n6])
  by_cases z : 0 < (M + s.sum - r.sum)
  · have y := x.at (k := -(M + s.sum - r.sum)) (by omega) (by omega)
    have ca := carried (k := -(M + s.sum - r.sum)) h.ok hA x.tr.mx
    have b2 : (dIf (tV (eOp2 fGt (eVar 6) (eD (.int 0)))) (dSq (dSet 1 (eCl 3 Cm.f_carried (aCons (eVar 1) (aCons (eVar 4) (aCons (eNeg (eVar 6)) aNil))))) (dEx (eApp 2 (eTup (aCons (eVar 4) (aCons (eNeg (eVar 6)) aNil)))))) dNx) [.v (.d (hallP H)), .v (.d (hallP (A ++ r :: s :: B))), .v (.own (List.map OT.d S)), .v (I (b : Int)), .v (I (c : Int)), .v (I M), .v (I (M + s.sum - r.sum))] = .ok (.nx, [.v (.d (hallP H)), .v (.d (hallP (A ++ lft M (-(M + s.sum - r.sum)) r s :: nxt M (-(M + s.sum - r.sum)) r s :: B))), .v (.own (List.map OT.d (S ++ [.tuple [.int (c : Int), .int (-(M + s.sum - r.sum))]]))), .v (I (b : Int)), .v (I (c : Int)), .v (I M), .v (I (M + s.sum - r.sum))]) :=
      Ev.difY (Ev.tv (b := true) (Ev.op2 (Ev.var rfl) Ev.d_ rfl rfl (gt_yes z))) (Ev.sq (Ev.set_ (Ev.cl (o := .d (hallP (A ++ lft M (-(M + s.sum - r.sum)) r s :: nxt M (-(M + s.sum - r.sum)) r s :: B))) (Ev.cons_ (Ev.var rfl) (Ev.cons_ (Ev.var rfl) (Ev.cons_ (Ev.neg (Ev.var rfl)) Ev.nil_))) rfl rfl ca) rfl) (Ev.ex (Ev.app (b := false) (ps := S.map OT.d) (os := S.map OT.d) (o := .d (.tuple [.int (c : Int), .int (-(M + s.sum - r.sum))])) rfl (Ev.tup (os := [I (c : Int), I (-(M + s.sum - r.sum))]) (Ev.cons_ (Ev.var rfl) (Ev.cons_ (Ev.neg (Ev.var rfl)) Ev.nil_)) rfl rfl) rfl (few_of (by simp; omega)) (by simp [mkS]))))
    exact ⟨_, _, _, _, Ev.sq b1 b2, x.st, y.hl, (x.hu _ (by omega) (by omega)).alike A B, by simp, rfl, rfl⟩
  · have e : (M + s.sum - r.sum) = 0 := by omega
    have b2 : (dIf (tV (eOp2 fGt (eVar 6) (eD (.int 0)))) (dSq (dSet 1 (eCl 3 Cm.f_carried (aCons (eVar 1) (aCons (eVar 4) (aCons (eNeg (eVar 6)) aNil))))) (dEx (eApp 2 (eTup (aCons (eVar 4) (aCons (eNeg (eVar 6)) aNil)))))) dNx) [.v (.d (hallP H)), .v (.d (hallP (A ++ r :: s :: B))), .v (.own (List.map OT.d S)), .v (I (b : Int)), .v (I (c : Int)), .v (I M), .v (I (M + s.sum - r.sum))] = .ok (.nx, [.v (.d (hallP H)), .v (.d (hallP (A ++ r :: s :: B))), .v (.own (List.map OT.d S)), .v (I (b : Int)), .v (I (c : Int)), .v (I M), .v (I (M + s.sum - r.sum))]) := Ev.difN (Ev.tv (b := false) (Ev.op2 (Ev.var rfl) Ev.d_ rfl rfl (gt_no (by omega)))) Ev.nx_
    have st := x.st
    have q := mv_zero x.tr
    rw [e, Int.neg_zero, q.1, q.2] at st
    exact ⟨_, S, _, _, Ev.sq b1 b2, st, h, Alike.refl _, by omega, rfl, rfl⟩
theorem rev_range (n : Nat) : (List.range n).reverse.map (fun i : Nat => PyData.int (i : Int)) = (List.range n).map fun t : Nat => PyData.int ((n : Int) - 1 - t) := by
  apply List.ext_getElem
  · simp
  · intro i h1 h2
    have hi : i < n := by simpa using h1
    simp
    omega
theorem sg_pass {S : List PyData} {b : Nat} {s4 s5 s6 : Slot} (h : Hl m n W K) (hW : 0 < W) (hb : b < m) (hS : S.length ≤ 900) (n4 : np s4 = true) (n5 : np s5 = true) (n6 : np s6 = true) :
    ∃ (K' : List (List Int)) (S' : List PyData) (s4' s5' s6' : Slot), sgO [.v (.d (hallP H)), .v (.d (hallP K)), .v (.own (List.map OT.d S)), .v (I (b : Int)), s4, s5, s6] = .ok (.nx, [.v (.d (hallP H)), .v (.d (hallP K')), .v (.own (List.map OT.d S')), .v (I (b : Int)), s4', s5', s6']) ∧ Dc.Ps m n b (at2 K) (at2 K') ∧ Hl m n W K' ∧ Alike K K' ∧ S'.length ≤ S.length + b ∧ np s4' = true ∧ np s5' = true ∧ np s6' = true := by
  have m8 := h.m8
  obtain ⟨en, h1, K', S', s4', s5', s6', rfl, m4, m5, m6, hK, ps, al, hl⟩ := forRI (g := gNm 4) (body := sgI) (item := fun t : Nat => .int ((b : Int) - 1 - t)) (en := [.v (.d (hallP H)), .v (.d (hallP K)), .v (.own (List.map OT.d S)), .v (I (b : Int)), s4, s5, s6])
    (fun t en => ∃ (K' : List (List Int)) (S' : List PyData) (s4 s5 s6 : Slot), en = [.v (.d (hallP H)), .v (.d (hallP K')), .v (.own (List.map OT.d S')), .v (I (b : Int)), s4, s5, s6] ∧ np s4 = true ∧ np s5 = true ∧ np s6 = true ∧ Hl m n W K' ∧ (∀ Z, Dc.Ps m n (b - t) (at2 K') Z → Dc.Ps m n b (at2 K) Z) ∧ Alike K K' ∧ S'.length ≤ S.length + t) b
    ⟨K, S, s4, s5, s6, rfl, n4, n5, n6, h, fun Z p => p, Alike.refl _, by omega⟩ (by
      rintro t en ht ⟨K', S', s4, s5, s6, rfl, n4, n5, n6, hK, ps, al, hl⟩
      obtain ⟨c, hc⟩ : ∃ c : Nat, (b : Int) - 1 - t = c ∧ c + t + 1 = b := ⟨b - 1 - t, by omega, by omega⟩
      obtain ⟨K2, S2, s5', s6', h2, st, hK2, al2, hl2, m5, m6⟩ := sg_step (H := H) (S := S') (c := c) (b := b) hK hW (by omega) (by omega) n5 n6
      refine ⟨[.v (.d (hallP H)), .v (.d (hallP K')), .v (.own (List.map OT.d S')), .v (I (b : Int)), .v (I (c : Int)), s5, s6], _, by rw [hc.1]; simp [gNm, stor_eq, n4], h2, K2, S2, .v (I (c : Int)), s5', s6', rfl, rfl, m5, m6, hK2, fun Z p => ps Z ?_, al.trans al2, by omega⟩
      rw [show b - t = c + 1 by omega]
      rw [show b - (t + 1) = c by omega] at p
      exact .cons st p)
  exact ⟨K', S', s4', s5', s6', Ev.for_ ((Ev.rev1 (n := b) (Ev.var rfl) rfl (by omega)).trans (by rw [rev_range])) h1, ps _ (by rw [Nat.sub_self]; exact .nil), hK, al, hl, m4, m5, m6⟩
theorem settling (h : Few m n W H) (hW : 0 < W) (m1 : 1 ≤ m) (m8 : m ≤ 8) (n1 : 1 ≤ n) (n8 : n ≤ 8) :
    ∃ Z S, f_settling [.d (hallP H)] = .ok (.d (.tuple [hallP Z, .list S]), [.hole]) ∧ Few m n W Z ∧ Dc.Root m n (at2 Z) (at2 H) ∧ Alike H Z := by
  have hl := h.len
  have hOk := h.hok m1 m8 n1 n8
  have b1 : (dSet 1 (eVar 0)) [.v (.d (hallP H)), .un, .un, .un, .un, .un, .un] = .ok (.nx, [.v (.d (hallP H)), .v (.d (hallP H)), .un, .un, .un, .un, .un]) := Ev.set_ (Ev.var rfl) rfl
  have b2 : (dSet 2 (eLst aNil)) [.v (.d (hallP H)), .v (.d (hallP H)), .un, .un, .un, .un, .un] = .ok (.nx, [.v (.d (hallP H)), .v (.d (hallP H)), .v (.own (List.map OT.d ([] : List PyData))), .un, .un, .un, .un]) := Ev.set_ (Ev.lst Ev.nil_ rfl) rfl
  obtain ⟨en, h3, Z, S, s3, s4, s5, s6, rfl, _, _, _, _, hZ, al, ak, hS⟩ := forRI (g := gNm 3) (body := sgO) (item := fun i : Nat => .int (((1 : Nat) : Int) + i)) (en := [.v (.d (hallP H)), .v (.d (hallP H)), .v (.own (List.map OT.d ([] : List PyData))), .un, .un, .un, .un])
    (fun i en => ∃ (K : List (List Int)) (S : List PyData) (s3 s4 s5 s6 : Slot), en = [.v (.d (hallP H)), .v (.d (hallP K)), .v (.own (List.map OT.d S)), s3, s4, s5, s6] ∧ np s3 = true ∧ np s4 = true ∧ np s5 = true ∧ np s6 = true ∧ Few m n W K ∧ Dc.Al m n i (at2 H) (at2 K) ∧ Alike H K ∧ S.length ≤ 8 * i) (m - 1)
    ⟨H, [], .un, .un, .un, .un, rfl, rfl, rfl, rfl, rfl, h, .nil, Alike.refl _, by simp⟩ (by
      rintro i en hi ⟨K, S, s3, s4, s5, s6, rfl, n3, n4, n5, n6, hK, al, ak, hS⟩
      obtain ⟨K', S', s4', s5', s6', h2, ps, hK', al2, hl2, m4, m5, m6⟩ := sg_pass (H := H) (S := S) (b := i + 1) ⟨hK, by omega, m8, n1, n8⟩ hW (by omega) (by omega) n4 n5 n6
      have e : ((1 : Nat) : Int) + i = ((i + 1 : Nat) : Int) := by omega
      exact ⟨[.v (.d (hallP H)), .v (.d (hallP K)), .v (.own (List.map OT.d S)), .v (I ((i + 1 : Nat) : Int)), s4, s5, s6], _, by rw [e]; simp [gNm, stor_eq, n3], h2, K', S', _, s4', s5', s6', rfl, rfl, m4, m5, m6, hK'.few, .snoc al ps, ak.trans al2, by omega⟩)
  have b3 : (dFor (iR2 (aCons (eD (.int 1)) (aCons (eLen (eVar 0)) aNil))) (gNm 3) sgO) [.v (.d (hallP H)), .v (.d (hallP H)), .v (.own (List.map OT.d ([] : List PyData))), .un, .un, .un, .un] = .ok (.nx, [.v (.d (hallP H)), .v (.d (hallP Z)), .v (.own (List.map OT.d S)), s3, s4, s5, s6]) :=
    Ev.for_ (Ev.r2w (lo := 1) (n := m) (Ev.cons_ Ev.d_ (Ev.cons_ (Ev.len_ (n := m) (Ev.var rfl) (by simp [dlen, hl])) Ev.nil_)) (by omega) (by omega)) h3
  have b4 : (dRt (eTup (aCons (eVar 1) (aCons (eVar 2) aNil)))) [.v (.d (hallP H)), .v (.d (hallP Z)), .v (.own (List.map OT.d S)), s3, s4, s5, s6] = .ok (.rt (.d (.tuple [hallP Z, .list S])), [.v (.d (hallP H)), .v (.d (hallP Z)), .v (.d (.list S)), s3, s4, s5, s6]) := Ev.rt (Ev.tup (os := [.d (hallP Z), .d (.list S)]) (Ev.cons_ (Ev.var rfl) (Ev.cons_ (Ev.varo (os := S.map OT.d) rfl (by simpa using frzs_d S) rfl) Ev.nil_)) rfl rfl)
  exact ⟨Z, S, fn_ok (fl := [false]) (k := 6) (B := D_settling) (os := [.d (hallP H)]) rfl (Ev.sq b1 (Ev.sq b2 (Ev.sq b3 b4))) rfl, hZ, al.root (by omega) (by omega) (Dc.ok_at hOk), ak⟩
theorem to_first (h : Few m n W H) (hW : 0 < W) (m1 : 1 ≤ m) (m8 : m ≤ 8) (n1 : 1 ≤ n) (n8 : n ≤ 8) :
    ∃ Z, f_to_first [.d (hallP H)] = .ok (.d (hallP Z), [.hole]) ∧ Few m n W Z ∧ Dc.Root m n (at2 Z) (at2 H) ∧ Alike H Z := by
  obtain ⟨Z, S, e, hZ, rt, al⟩ := settling h hW m1 m8 n1 n8
  have hOk := h.hok m1 m8 n1 n8
  have b1 : (dEx (eCl 1 Cp.f_check_hall (aCons (eVar 0) aNil))) [.v (.d (hallP H))] = .ok (.nx, [.v (.d (hallP H))]) := Ev.ex (Ev.cl (Ev.cons_ (Ev.var rfl) Ev.nil_) rfl rfl (check_hall hOk))
  have b2 : (dRt (eIx (eCl 1 f_settling (aCons (eVar 0) aNil)) (eD (.int 0)))) [.v (.d (hallP H))] = .ok (.rt (.d (hallP Z)), [.v (.d (hallP H))]) := Ev.rt (Ev.ix (o := .d (hallP Z)) (Ev.cl (Ev.cons_ (Ev.var rfl) Ev.nil_) rfl rfl e) Ev.d_ (Ev.ixVt rfl))
  exact ⟨Z, fn_ok (fl := [false]) (k := 0) (B := D_to_first) (os := [.d (hallP H)]) rfl (Ev.sq b1 b2) rfl, hZ, rt, al⟩
end
end Pl
end
section
set_option Elab.async false
set_option linter.all false
set_option maxRecDepth 100000
set_option maxHeartbeats 2000000
/-! the program's greatest, evaluated -/
namespace Pl
open PySem PySem.Spec L2 Lf Cp Cw
end Pl
end
section
set_option Elab.async false
set_option linter.all false
set_option maxRecDepth 100000
set_option maxHeartbeats 2000000
/-! leavings by ways. Plain. -/
namespace Pl
open PySem PySem.Spec L2 Lf Cp
end Pl
end
section
set_option Elab.async false
set_option linter.all false
set_option maxRecDepth 100000
set_option maxHeartbeats 1000000
/-! the greatest worth from a cell to the end: by going back from there. Mathematics only. -/
namespace Pl
open PySem PySem.Spec L2 Lf Cp
def tnL (e : Nat) (rs : List (List Int)) : List (List Int) := (rs.map (·.take (e + 1))).reverse.map List.reverse
section
variable {m n e c k : Nat} {wide : Int} {rs : List (List Int)}
theorem tn_ok (h : HOk m n wide rs) (he : e < n) : HOk m (e + 1) wide (tnL e rs) := (h.trunc (t := e + 1) (by omega) (by omega)).rev
theorem at2_trunc {t : Nat} (h : k < t) : at2 (rs.map (·.take t)) c k = at2 rs c k := by
  unfold at2
  simp only [List.getD_eq_getElem?_getD, List.getElem?_map]
  cases q : rs[c]? with
  | none => simp
  | some r => simp [List.getElem?_take, h]
theorem tn_at (h : HOk m n wide rs) (he : e < n) (hc : c < m) (hk : k ≤ e) : at2 (tnL e rs) (m - 1 - c) (e - k) = at2 rs c k := by
  have h2 := h.trunc (t := e + 1) (by omega) (by omega)
  have q := at2_rev h2 (c := m - 1 - c) (k := e - k) (by omega) (by omega)
  unfold tnL
  rw [q, show m - 1 - (m - 1 - c) = c by omega, show e + 1 - 1 - (e - k) = k by omega]
  exact at2_trunc (by omega)
/-! ### the way that is told -/
end
end Pl
end
section
set_option Elab.async false
set_option linter.all false
set_option maxRecDepth 100000
set_option maxHeartbeats 1000000
/-! more minutes at one cell: greatest ways. Mathematics only. -/
namespace Pl
open PySem PySem.Spec L2 Lf Cp
section
variable {a : Nat → Nat → Int} {i j d g c k : Nat} {w v b G F T : Int}
def moreA (a : Nat → Nat → Int) (d g : Nat) (b : Int) (p q : Nat) : Int := a p q + if p = d ∧ q = g then b else 0
theorem moreA_off {p q : Nat} (h : ¬ (p = d ∧ q = g)) : moreA a d g b p q = a p q := by simp [moreA, h]
theorem Way.more_off (h : Way a i j c k w) (z : c < d ∨ k < g) : Way (moreA a d g b) i j c k w := h.congr fun p q hp hq => (moreA_off (by omega)).symm
theorem Most.less (hG : Most a i j c k G) (z : c < d ∨ k < g) : Most (moreA a d g b) i j c k G := ⟨hG.1.more_off z, fun w hw => hG.2 _ (hw.congr fun p q hp hq => moreA_off (by omega))⟩
theorem Way.col (h : Way a i g c k w) : k = g → ∀ v, Way a i g c k v → w = v := by
  induction h with
  | one => exact fun _ v hv => Int.le_antisymm (by
      cases hv with
      | one => exact Int.le_refl _
      | down h => have := h.le; omega
      | right h => have := h.le; omega) (Most.start.2 _ hv)
  | @down c k w h ih =>
    intro e v hv
    have hl := h.le
    cases hv with
    | one => omega
    | down h' => rw [ih e _ h']
    | right h' => have := h'.le; omega
  | @right c k w h ih => intro e; have := h.le; omega
end
/-! ### of halls -/
end Pl
end
section
set_option Elab.async false
set_option linter.all false
set_option maxRecDepth 100000
set_option maxHeartbeats 2000000
/-! alike, led: the program -/
namespace Pl
open PySem PySem.Spec L2 Lf Cp
open Cu (f_alike f_all_greatest f_check_both D_alike D_all_greatest D_check_both)
open Ck (f_check_like D_check_like f_led D_led)
end Pl
end
section
set_option Elab.async false
set_option linter.all false
set_option maxRecDepth 100000
set_option maxHeartbeats 2000000
/-! some customers of halls that moves lead to one another -/
namespace Pl
open PySem PySem.Spec L2 Lf Cp
section
variable {m n a b c : Nat} {W M : Int} {A B H K : List (List Int)} {r s : List Int}
theorem cutR_get {f k i : Nat} (r : List Int) : (cutR f k r).getD i 0 = if i < k then r.getD (f + i) 0 else 0 := by
  unfold cutR
  rw [List.getD_eq_getElem?_getD, List.getElem?_take]
  split
  · rw [List.getElem?_drop, List.getD_eq_getElem?_getD]
  · rfl
theorem cut_few (h : Few m n W H) (hW : 0 < W) (hb : b ≤ n) : Few m (b - a) W (H.map (cutR a (b - a))) where
  len := by rw [List.length_map, h.len]
  rows := fun q hq => by
    obtain ⟨p, hp, rfl⟩ := List.mem_map.mp hq
    have := h.rows p hp
    refine ⟨?_, fun x hx => ?_⟩
    · unfold cutR; rw [List.length_take, List.length_drop, this.1]; omega
    · unfold cutR at hx
      exact this.2 x (List.mem_of_mem_drop (List.mem_of_mem_take hx))
  col := fun i => by
    rw [List.map_map]
    have e : ((fun x : List Int => x.getD i 0) ∘ cutR a (b - a)) = fun q => if i < b - a then q.getD (a + i) 0 else 0 := by
      funext q; exact cutR_get q
    rw [e]
    by_cases z : i < b - a
    · simp only [if_pos z]; exact h.col (a + i)
    · simp only [if_neg z]
      have : ∀ L : List (List Int), (L.map fun _ => (0 : Int)).sum = 0 := fun L => by
        induction L with
        | nil => rfl
        | cons x L ih => simp [ih]
      rw [this]; exact hW
theorem at_cut (h : Few m n W H) (hb : b ≤ n) : at2 (H.map (cutR a (b - a))) = Dc.cutM a b (at2 H) := by
  funext p q
  show ((H.map (cutR a (b - a))).getD p []).getD q 0 = if a + q < b then (H.getD p []).getD (a + q) 0 else 0
  rw [List.getD_eq_getElem?_getD (l := H.map _), List.getElem?_map, List.getD_eq_getElem?_getD (l := H)]
  cases z : H[p]? with
  | none => simp
  | some x =>
    simp only [Option.map_some, Option.getD_some]
    rw [cutR_get]
    by_cases y : q < b - a
    · rw [if_pos y, if_pos (by omega)]
    · rw [if_neg y, if_neg (by omega)]
/-- the halls of these customers have one settled table -/
def Same (m n a b : Nat) (H K : List (List Int)) : Prop := ∃ S, Dc.Root m (b - a) S (Dc.cutM a b (at2 H)) ∧ Dc.Root m (b - a) S (Dc.cutM a b (at2 K))
theorem cut_root (h : Few m n W H) (hW : 0 < W) (m1 : 1 ≤ m) (m8 : m ≤ 8) (n8 : n ≤ 8) (ha : a < b) (hb : b ≤ n) : ∃ S, Dc.Root m (b - a) S (Dc.cutM a b (at2 H)) := by
  obtain ⟨Z, _, _, rt, _⟩ := to_first (cut_few (a := a) h hW hb) hW m1 m8 (by omega) (by omega)
  rw [at_cut h hb] at rt
  exact ⟨_, rt⟩
theorem Same.refl (h : Few m n W H) (hW : 0 < W) (m1 : 1 ≤ m) (m8 : m ≤ 8) (n8 : n ≤ 8) (ha : a < b) (hb : b ≤ n) : Same m n a b H H := by
  obtain ⟨S, rt⟩ := cut_root (a := a) h hW m1 m8 n8 ha hb
  exact ⟨S, rt, rt⟩
theorem Same.trans (hm : 0 < m) {L : List (List Int)} (x : Same m n a b H K) (y : Same m n a b K L) : Same m n a b H L := by
  obtain ⟨S, x1, x2⟩ := x
  obtain ⟨T, y1, y2⟩ := y
  have := x2.one_only hm y1
  subst this
  exact ⟨S, x1, y2⟩
theorem Same.mv {k : Int} {W' : Int} (h : Few m n W H) (h' : Few m n W' K) (hW : 0 < W) (hW' : 0 < W') (m1 : 1 ≤ m) (m8 : m ≤ 8) (n1 : 1 ≤ n) (n8 : n ≤ 8) (ha : a < b) (hb : b ≤ n) (hc : c + 1 < m) (f : Dc.Mv n c k (at2 H) (at2 K)) : Same m n a b H K := by
  obtain ⟨S, rt⟩ := cut_root (a := a) h hW m1 m8 n8 ha hb
  obtain ⟨T, rt'⟩ := cut_root (a := a) h' hW' m1 m8 n8 ha hb
  have l := Dc.Mv.cut (a := a) hc hb (Dc.ok_at (h.hok m1 m8 n1 n8)) (Dc.ok_at (h'.hok m1 m8 n1 n8)) f
  have := l.root (by omega) rt rt'
  subst this
  exact ⟨S, rt, rt'⟩
end
end Pl
end
section
set_option Elab.async false
set_option linter.all false
set_option maxRecDepth 100000
set_option maxHeartbeats 2000000
/-! a counter at which nobody needs anything: mathematics -/
namespace Pl
open PySem PySem.Spec L2 Lf Cp
end Pl
end
section
set_option Elab.async false
set_option linter.all false
set_option maxRecDepth 100000
set_option maxHeartbeats 2000000
/-! a customer who needs nothing, who comes no later than the one behind: mathematics -/
namespace Pl
open PySem PySem.Spec L2 Lf Cp
end Pl
end
section
set_option Elab.async false
set_option linter.all false
set_option maxRecDepth 100000
set_option maxHeartbeats 2000000
/-! halls behind one another: mathematics -/
namespace Pl
open PySem PySem.Spec L2 Lf Cp
section
variable {m n m1 m2 c k f g b : Nat} {W W' M w w1 w2 : Int} {A B H K P Q : List (List Int)} {r s : List Int} {a : Nat → Nat → Int}
/-- a way goes over somewhere -/
theorem Way.over (h : Way a 0 f c k w) : m1 ≤ c → 0 < m1 → ∃ g w1 w2, Way a 0 f (m1 - 1) g w1 ∧ Way a m1 g c k w2 ∧ w = w1 + w2 := by
  induction h with
  | one => intro h h'; omega
  | down h ih =>
    rename_i c k w
    intro h1 h2
    by_cases z : m1 ≤ c
    · obtain ⟨g, w1, w2, x, y, rfl⟩ := ih z h2
      exact ⟨g, w1, _, x, y.down, by omega⟩
    · have e : m1 = c + 1 := by omega
      subst e
      exact ⟨k, w, _, h, .one, rfl⟩
  | right h ih =>
    intro h1 h2
    obtain ⟨g, w1, w2, x, y, rfl⟩ := ih h1 h2
    exact ⟨g, w1, _, x, y.right, by omega⟩
end
end Pl
end
section
set_option Elab.async false
set_option linter.all false
set_option maxRecDepth 100000
set_option maxHeartbeats 2000000
/-! all to the first: so many times, with an idle counter, with a customer who needs nothing, of those ahead -/
namespace Pl
open PySem PySem.Spec L2 Lf Cp
open Cj (f_to_first f_to_last f_seen_from_behind D_to_last D_seen_from_behind)
section
variable {m n c k s : Nat} {W W' : Int} {A B H K Z Z' : List (List Int)} {r : List Int} {X Y : Dc.Mat}
/-! ### every table is a hall's -/
theorem bound : ∀ L : List Int, ∃ U, 0 < U ∧ ∀ x ∈ L, x < U
  | [] => ⟨1, by omega, by simp⟩
  | a :: L => by
    obtain ⟨U, h1, h2⟩ := bound L
    refine ⟨max (a + 1) U, by omega, fun x hx => ?_⟩
    rcases List.mem_cons.mp hx with rfl | hx
    · omega
    · have := h2 x hx; omega
/-! ### so many times -/
/-! ### an idle counter -/
/-! ### a customer who needs nothing -/
/-! ### those ahead -/
/-! ### all to the last -/
theorem Few.mir (h : Few m n W H) : Few m n W (mirL H) where
  len := by simp [mirL, h.len]
  rows := fun q hq => by
    obtain ⟨p, hp, rfl⟩ := List.mem_map.mp hq
    have := h.rows p (List.mem_reverse.mp hp)
    exact ⟨by rw [List.length_reverse, this.1], fun x hx => this.2 x (List.mem_reverse.mp hx)⟩
  col := fun i => by
    by_cases z : i < n
    · have e : (mirL H).map (·.getD i 0) = (H.map (·.getD (n - 1 - i) 0)).reverse := by
        unfold mirL
        rw [← List.map_reverse, List.map_map]
        refine List.map_congr_left fun q hq => ?_
        have hq := (h.rows q (List.mem_reverse.mp hq)).1
        show q.reverse.getD i 0 = q.getD (n - 1 - i) 0
        rw [List.getD_eq_getElem?_getD, List.getElem?_reverse (by omega), hq, List.getD_eq_getElem?_getD]
      rw [e, List.sum_reverse]
      exact h.col _
    · have e : (mirL H).map (·.getD i 0) = (H.map (·.getD i 0)).reverse := by
        unfold mirL
        rw [← List.map_reverse, List.map_map]
        refine List.map_congr_left fun q hq => ?_
        have hq := (h.rows q (List.mem_reverse.mp hq)).1
        show q.reverse.getD i 0 = q.getD i 0
        rw [List.getD_eq_getElem?_getD, List.getElem?_eq_none (by simp; omega), List.getD_eq_getElem?_getD, List.getElem?_eq_none (by omega)]
      rw [e, List.sum_reverse]
      exact h.col _
end
end Pl
end
section
set_option Elab.async false
set_option linter.all false
set_option maxRecDepth 100000
set_option maxHeartbeats 2000000
/-! ways past a row, or a column, of noughts: mathematics -/
namespace Pl
open PySem PySem.Spec L2 Lf Cp
section
variable {a : Nat → Nat → Int} {i j c k s p q : Nat} {v w : Int}
def up (s p : Nat) : Nat := if p < s then p else p + 1
end
end Pl
end
section
set_option Elab.async false
set_option linter.all false
set_option maxRecDepth 100000
set_option maxHeartbeats 2000000
/-! what so many ways cover: the program; all to the last -/
namespace Pl
open PySem PySem.Spec L2 Lf Cp
open Cf (f_check_bounds f_covered_behind f_covered D_check_bounds D_covered_behind D_covered)
open Cj (f_to_first f_to_last)
end Pl
end
section
set_option Elab.async false
set_option linter.all false
set_option maxRecDepth 100000
set_option maxHeartbeats 2000000
/-! counters and customers exchanged; towers: the program -/
namespace Pl
open PySem PySem.Spec L2 Lf Cp
open Cj (f_to_first f_to_last)
section
variable {m n z e s : Nat} {W W' : Int} {H L X Z : List (List Int)}
def trL (n : Nat) (H : List (List Int)) : List (List Int) := (List.range n).map fun k => H.map fun q => q.getD k 0
theorem cell_lt (h : Few m n W H) (hW : 0 < W) {q : List Int} (hq : q ∈ H) (i : Nat) : 0 ≤ q.getD i 0 ∧ q.getD i 0 < W := by
  have nn : ∀ y ∈ H.map (·.getD i 0), 0 ≤ y := fun y hy => by
    obtain ⟨p, hp, rfl⟩ := List.mem_map.mp hy
    exact nn_get (h.rows p hp).2 i
  have mem : q.getD i 0 ∈ H.map (·.getD i 0) := List.mem_map.mpr ⟨q, hq, rfl⟩
  have := (sum_ge nn).2 _ mem
  have := h.col i
  exact ⟨nn _ mem, by omega⟩
theorem Few.tr (h : Few m n W H) (hW : 0 < W) (n8 : n ≤ 8) : Few n m (8 * W + 1) (trL n H) where
  len := by simp [trL]
  rows := fun q hq => by
    obtain ⟨k, _, rfl⟩ := List.mem_map.mp hq
    refine ⟨by rw [List.length_map, h.len], fun x hx => ?_⟩
    obtain ⟨p, hp, rfl⟩ := List.mem_map.mp hx
    exact (cell_lt h hW hp k).1
  col := fun i => by
    have b : ∀ x ∈ (trL n H).map (·.getD i 0), x < W := fun x hx => by
      obtain ⟨q, hq, rfl⟩ := List.mem_map.mp hx
      obtain ⟨k, _, rfl⟩ := List.mem_map.mp hq
      rw [List.getD_eq_getElem?_getD, List.getElem?_map]
      cases y : H[i]? with
      | none => exact hW
      | some r => exact (cell_lt h hW (List.mem_of_getElem? y) k).2
    have := Mr.sum_le b
    have l : ((trL n H).map (·.getD i 0)).length = n := by simp [trL]
    rw [l] at this
    have h8 : (n : Int) * W ≤ 8 * W := Int.mul_le_mul_of_nonneg_right (by omega) (by omega)
    omega
end
end Pl
end
section
set_option Elab.async false
set_option linter.all false
set_option maxRecDepth 100000
set_option maxHeartbeats 2000000
/-! one move on or back, between counters or between customers, as an optional hall -/
namespace Pl
open PySem PySem.Spec L2 Lf Cp
def stp (b : Bool) (c : Nat) (H : List (List Int)) : Option (List (List Int)) :=
  let r := H.getD c []
  let s := H.getD (c + 1) []
  match b with
  | true => if 1 ≤ mxL r s then some ((H.set c (lft (mxL r s) 1 r s)).set (c + 1) (nxt (mxL r s) 1 r s)) else none
  | false => if 1 ≤ mxL r s + s.sum - r.sum then some ((H.set c (lft (mxL r s) (-1) r s)).set (c + 1) (nxt (mxL r s) (-1) r s)) else none
section
variable {m n c k : Nat} {W M : Int} {A B H K : List (List Int)} {r s : List Int} {Y : Dc.Mat}
theorem put_at {x y : List Int} (hA : A.length = c) : ((A ++ r :: s :: B).set c x).set (c + 1) y = A ++ x :: y :: B := by
  rw [List.set_append_right _ _ (by omega), List.set_append_right _ _ (by omega), hA, Nat.sub_self, show c + 1 - c = 1 by omega]
  rfl
theorem stp_on (hA : A.length = c) (t : TR n M r s) : stp true c (A ++ r :: s :: B) = if 1 ≤ M then some (A ++ lft M 1 r s :: nxt M 1 r s :: B) else none := by
  unfold stp
  simp only
  rw [get_r hA, get_s hA, t.mxL, put_at hA]
theorem stp_bk (hA : A.length = c) (t : TR n M r s) : stp false c (A ++ r :: s :: B) = if 1 ≤ M + s.sum - r.sum then some (A ++ lft M (-1) r s :: nxt M (-1) r s :: B) else none := by
  unfold stp
  simp only
  rw [get_r hA, get_s hA, t.mxL, put_at hA]
theorem stp_some {b : Bool} (h : Hl m n W H) (hW : 0 < W) (hc : c + 1 < m) (e : stp b c H = some K) : Hl m n W K ∧ Dc.Rf b n c (at2 H) (at2 K) := by
  obtain ⟨A, r, s, B, M, rfl, x⟩ := tw_of h hW hc
  cases b with
  | true =>
    rw [stp_on x.hA x.tr] at e
    by_cases z : 1 ≤ M
    · rw [if_pos z] at e
      cases e
      have f0 := x.f0
      refine ⟨(x.at (k := 1) z (by omega)).hl, ?_⟩
      rcases x.mv (k := 1) z (by omega) with ⟨_, f⟩ | ⟨q, _⟩
      · cases f with
        | cons f1 f2 => cases f2; exact f1
      · omega
    · rw [if_neg z] at e; cases e
  | false =>
    rw [stp_bk x.hA x.tr] at e
    by_cases z : 1 ≤ M + s.sum - r.sum
    · rw [if_pos z] at e
      cases e
      have m0 := x.m0
      refine ⟨(x.at (k := -1) (by omega) (by omega)).hl, ?_⟩
      rcases x.mv (k := -1) (by omega) (by omega) with ⟨q, _⟩ | ⟨_, f⟩
      · omega
      · cases f with
        | cons f1 f2 => cases f2; exact f1
    · rw [if_neg z] at e; cases e
theorem stp_of {b : Bool} (h : Hl m n W H) (hW : 0 < W) (hc : c + 1 < m) (oY : Dc.Ok m n Y) (f : Dc.Rf b n c (at2 H) Y) : ∃ K, stp b c H = some K ∧ at2 K = Y := by
  have key : ∃ K, stp b c H = some K := by
    obtain ⟨A, r, s, B, M, rfl, x⟩ := tw_of h hW hc
    cases b with
    | true =>
      rw [stp_on x.hA x.tr]
      obtain ⟨col, fa, l1, _⟩ := f
      rw [Dc.ld_at x.hA x.tr fa.lt] at l1
      have := Dc.leads_le x.tr fa.lt
      exact ⟨_, if_pos (by omega)⟩
    | false =>
      rw [stp_bk x.hA x.tr]
      have f : Dc.Fs n c Y (at2 (A ++ r :: s :: B)) := f
      have rw1 := Dc.row_fs f
      obtain ⟨col, fa, l1, e⟩ := id f
      have a := Dc.ld_at (B := B) x.hA x.tr fa.lt
      have b := Dc.leads_le x.tr fa.lt
      rw [e, Dc.ld_mvd, if_neg (by omega), if_pos rfl] at a
      have n1 := x.hl.n1
      have lst := fa.le (n - 1) (by omega)
      have u : Dc.ld Y c (n - 1) = Dc.ps (Y c) n - Dc.ps (Y (c + 1)) (n - 1) := by
        unfold Dc.ld
        rw [show n - 1 + 1 = n by omega]
      have v := Dc.ps_mono (oY.nn (c + 1)) (show n - 1 ≤ n by omega)
      have sr := Dc.sum_ps r
      have ss := Dc.sum_ps s
      rw [x.tr.lr] at sr
      rw [x.tr.ls] at ss
      rw [Dc.at_r x.hA, Dc.at_s x.hA, sr, ss] at rw1
      exact ⟨_, if_pos (by omega)⟩
  obtain ⟨K, e⟩ := key
  exact ⟨K, e, (stp_some h hW hc e).2.one_only f⟩
/-- halls of one shape -/
def Hw (m n : Nat) (H : List (List Int)) : Prop := ∃ W, 0 < W ∧ Few m n W H
theorem Few.hw (h : Few m n W H) (hW : 0 < W) : Hw m n H := ⟨W, hW, h⟩
theorem Hw.tr (h : Hw m n H) (n8 : n ≤ 8) : Hw n m (trL n H) := by
  obtain ⟨W, hW, h⟩ := h
  exact ⟨8 * W + 1, by omega, h.tr hW n8⟩
theorem Hw.ok (h : Hw m n H) (m1 : 1 ≤ m) (m8 : m ≤ 8) (n1 : 1 ≤ n) (n8 : n ≤ 8) : Dc.Ok m n (at2 H) := by
  obtain ⟨W, hW, h⟩ := h
  exact Dc.ok_at (h.hok m1 m8 n1 n8)
theorem Hw.inj (h : Hw m n H) (k : Hw m n K) (m1 : 1 ≤ m) (m8 : m ≤ 8) (n1 : 1 ≤ n) (n8 : n ≤ 8) (e : at2 H = at2 K) : H = K := by
  obtain ⟨W, hW, h⟩ := h
  obtain ⟨V, hV, k⟩ := k
  exact Dc.at_inj (h.hok m1 m8 n1 n8) (k.hok m1 m8 n1 n8) e
theorem Hw.goes {b : Bool} (h : Hw m n H) (m8 : m ≤ 8) (n1 : 1 ≤ n) (n8 : n ≤ 8) (hc : c + 1 < m) (e : stp b c H = some K) : Hw m n K ∧ Dc.Rf b n c (at2 H) (at2 K) := by
  obtain ⟨W, hW, h⟩ := h
  obtain ⟨a, b⟩ := stp_some ⟨h, by omega, m8, n1, n8⟩ hW hc e
  exact ⟨⟨W, hW, a.few⟩, b⟩
theorem Hw.of {b : Bool} (h : Hw m n H) (m8 : m ≤ 8) (n1 : 1 ≤ n) (n8 : n ≤ 8) (hc : c + 1 < m) (oY : Dc.Ok m n Y) (f : Dc.Rf b n c (at2 H) Y) : ∃ K, stp b c H = some K ∧ at2 K = Y := by
  obtain ⟨W, hW, h⟩ := h
  exact stp_of ⟨h, by omega, m8, n1, n8⟩ hW hc oY f
theorem Hw.ex (h : Hw m n H) (m8 : m ≤ 8) (n1 : 1 ≤ n) (n8 : n ≤ 8) (hc : c + 1 < m) : Hw m n (exL H c) ∧ Dc.Ex n c (at2 H) (at2 (exL H c)) := by
  obtain ⟨W, hW, h⟩ := h
  exact ⟨⟨W, hW, (exL_hl ⟨h, by omega, m8, n1, n8⟩ hW hc).few⟩, exL_ex ⟨h, by omega, m8, n1, n8⟩ hW hc⟩
end
end Pl
end
section
set_option Elab.async false
set_option linter.all false
set_option maxRecDepth 100000
set_option maxHeartbeats 2000000
namespace Dc
end Dc
namespace Pl
open PySem PySem.Spec L2 Lf Cp
open Cj (f_to_first f_to_last)
open Cl (f_tower_by_customers f_towers D_tower_by_customers D_towers)
section
variable {m n z e s : Nat} {W W' V V' : Int} {H L L' X X' Z : List (List Int)}
/-! ### towers -/
/-! ### one corner -/
def rs (Z : List (List Int)) (t : Nat) : Int := (Z.getD t []).sum
end
end Pl
end
section
set_option Elab.async false
set_option linter.all false
set_option maxRecDepth 100000
set_option maxHeartbeats 2000000
/-! towers as patterns, halls with given towers -/
namespace Pl
open PySem PySem.Spec L2 Lf Cp
open Cj (f_to_first f_to_last)
open Cl (f_tower_by_customers f_towers)
end Pl
end
section
set_option Elab.async false
set_option linter.all false
set_option maxRecDepth 100000
set_option maxHeartbeats 2000000
/-! the program's towers to halls -/
namespace Pl
open PySem PySem.Spec L2 Lf Cp
open Cj (f_to_first f_to_last)
open Cc (f_is_tower_row f_lies_on f_is_tower f_is_short_list f_check_towers f_number_at f_hall_gone_on f_hall_of)
theorem allT {vs : List Nat} {di : DI} {g : DG} {te : DE} {en e1 e2 : En} {xs : List PyData} (h : di en = .ok (xs, e1)) (hw : wipeE vs e1 = some e2) (k : allD vs g tYs te xs e2 = .ok (true, e2)) : eAll vs di g tYs te en = .ok (yes, e2) := by
  simp [eAll, h, bd, hw, okB, k]
end Pl
end
section
set_option Elab.async false
set_option linter.all false
set_option maxRecDepth 100000
set_option maxHeartbeats 2000000
/-! the towers of a hall as patterns; the hall of its towers -/
namespace Pl
open PySem PySem.Spec L2 Lf Cp
open Cj (f_to_first f_to_last)
open Cl (f_towers)
end Pl
end
section
set_option Elab.async false
set_option linter.all false
set_option maxRecDepth 100000
set_option maxHeartbeats 2000000
/-! cells no two on one way: so many as counters are needed. Plain. -/
namespace Dc
/-- so many cells, counters going down, customers going up; all counters below p, all customers from c on -/
def Ch (n : Nat) (M : Mat) : Nat → Nat → Nat → Prop
  | 0, _, _ => True
  | k + 1, p, c => ∃ q e, q < p ∧ c ≤ e ∧ e < n ∧ 0 < M q e ∧ Ch n M k q (e + 1)
section
variable {m n i k p c : Nat} {A B M M' R : Mat}
theorem Ch.mono : ∀ {k p c p' c' : Nat}, Ch n M k p c → p ≤ p' → c' ≤ c → Ch n M k p' c'
  | 0, _, _, _, _, _, _, _ => trivial
  | k + 1, _, _, _, _, ⟨q, e, a, b, h1, h2, h3⟩, hp, hc => ⟨q, e, by omega, by omega, h1, h2, h3⟩
theorem Ch.same (h : ∀ q e, q < i → M q e = M' q e) : ∀ {k p c : Nat}, p ≤ i → Ch n M k p c → Ch n M' k p c
  | 0, _, _, _, _ => trivial
  | k + 1, _, _, hp, ⟨q, e, a, b, h1, h2, h3⟩ => ⟨q, e, a, b, h1, by rw [← h q e (by omega)]; exact h2, h3.same h (by omega)⟩
/-- two tables, unlike at two neighbours only -/
theorem Ch.two (lo : ∀ q e, q < i → M q e = M' q e) (hi : ∀ q e, i + 1 < q → M q e = M' q e)
    (un : ∀ e, e < n → 0 < M i e ∨ 0 < M (i + 1) e → 0 < M' i e ∨ 0 < M' (i + 1) e)
    (pr : ∀ e e', e < e' → e' < n → 0 < M (i + 1) e → 0 < M i e' → ∃ t t', e ≤ t ∧ t < t' ∧ t' ≤ e' ∧ 0 < M' (i + 1) t ∧ 0 < M' i t') :
    ∀ {k p c : Nat}, i + 2 ≤ p → Ch n M k p c → Ch n M' k p c
  | 0, _, _, _, _ => trivial
  | k + 1, p, c, hp, ⟨q, e, a, b, h1, h2, h3⟩ => by
    by_cases z : i + 2 ≤ q
    · exact ⟨q, e, a, b, h1, by rw [← hi q e (by omega)]; exact h2, h3.two lo hi un pr z⟩
    by_cases y : q < i
    · exact ⟨q, e, a, b, h1, by rw [← lo q e y]; exact h2, h3.same lo (by omega)⟩
    have one : ∀ {k e}, e < n → c ≤ e → Ch n M k i (e + 1) → (0 < M i e ∨ 0 < M (i + 1) e) → Ch n M' (k + 1) p c := fun {k e} he hc hk w => by
      rcases un e he w with w | w
      · exact ⟨i, e, by omega, hc, he, w, hk.same lo (Nat.le_refl _)⟩
      · exact ⟨i + 1, e, by omega, hc, he, w, (hk.same lo (Nat.le_refl _)).mono (by omega) (Nat.le_refl _)⟩
    by_cases x : q = i
    · subst x
      exact one h1 b h3 (.inl h2)
    · have : q = i + 1 := by omega
      subst this
      match k, h3 with
      | 0, _ => exact one h1 b (k := 0) trivial (.inr h2)
      | k + 1, ⟨q2, e2, a2, b2, g1, g2, g3⟩ =>
        by_cases w : q2 = i
        · subst w
          obtain ⟨t, t', u1, u2, u3, u4, u5⟩ := pr e e2 (by omega) g1 h2 g2
          exact ⟨q2 + 1, t, by omega, by omega, by omega, u4, q2, t', by omega, by omega, by omega, u5, (g3.same lo (Nat.le_refl _)).mono (Nat.le_refl _) (by omega)⟩
        · exact one h1 b (k := k + 1) ⟨q2, e2, by omega, b2, g1, g2, g3⟩ (.inr h2)
theorem ps_pos {f : Nat → Int} (nn : ∀ q, 0 ≤ f q) {a : Nat} : ∀ {b : Nat}, a ≤ b → 0 < ps f b - ps f a → ∃ t, a ≤ t ∧ t < b ∧ 0 < f t
  | 0, h, w => by
    have : a = 0 := by omega
    subst this; omega
  | b + 1, h, w => by
    by_cases z : a = b + 1
    · subst z; omega
    by_cases y : 0 < f b
    · exact ⟨b, by omega, by omega, y⟩
    · have : f b = 0 := by have := nn b; omega
      simp only [ps, this, Int.add_zero] at w
      obtain ⟨t, t1, t2, t3⟩ := ps_pos nn (by omega : a ≤ b) w
      exact ⟨t, t1, by omega, t3⟩
theorem ps_ge {f : Nat → Int} (nn : ∀ q, 0 ≤ f q) {a t : Nat} : ∀ {b : Nat}, a ≤ t → t < b → f t ≤ ps f b - ps f a
  | 0, _, w => by omega
  | b + 1, h, w => by
    have m := ps_mono nn (show a ≤ b by omega)
    by_cases z : t = b
    · subst z
      simp only [ps]; omega
    · have := ps_ge nn (b := b) h (by omega)
      have := nn b
      simp only [ps]; omega
theorem Ch.fs (oA : Ok m n A) (hi : i + 1 < m) (f : Fs n i A B) (hp : i + 2 ≤ p) : Ch n A k p c ↔ Ch n B k p c := by
  have oB := Fs.ok oA hi f
  obtain ⟨c0, fa, f1, eB⟩ := f
  have hB : ∀ p q, B p q = A p q + dl i c0 p q := fun p q => by rw [eB]; rfl
  clear eB
  have lo : ∀ q e, q < i → A q e = B q e := fun q e h => by rw [hB]; unfold dl; split <;> (try rw [if_neg (by omega), if_neg (by omega)]) <;> omega
  have up : ∀ q e, i + 1 < q → A q e = B q e := fun q e h => by rw [hB]; unfold dl; split <;> (try rw [if_neg (by omega), if_neg (by omega)]) <;> omega
  have bi : ∀ e, B i e = A i e + if e = c0 then -1 else 0 := fun e => by rw [hB]; unfold dl; by_cases z : e = c0 <;> simp [z]
  have bn : ∀ e, B (i + 1) e = A (i + 1) e + if e = c0 then 1 else 0 := fun e => by rw [hB]; unfold dl; by_cases z : e = c0 <;> simp [z]
  have hc0 := fa.lt
  have nA := oA.nn
  have nB := oB.nn
  constructor
  · refine Ch.two lo up (fun e he w => ?_) (fun e e' h1 h2 h3 h4 => ?_) hp
    · by_cases z : e = c0
      · right; rw [bn, if_pos z]; have := nA (i + 1) e; omega
      · rw [bi, bn, if_neg z, if_neg z]; omega
    · have b1 : 0 < B (i + 1) e := by rw [bn]; split <;> omega
      by_cases z : 0 < B i e'
      · exact ⟨e, e', Nat.le_refl _, h1, Nat.le_refl _, b1, z⟩
      · have w := bi e'
        have y : e' = c0 := by
          refine Decidable.byContradiction fun y => ?_
          rw [if_neg y] at w; omega
        subst y
        rw [if_pos rfl] at w
        have one : A i e' = 1 := by have := nB i e'; omega
        have l := fa.fst e h1
        unfold ld at l
        have s1 := ps_ge (nA (i + 1)) (a := e) (t := e) (b := e') (Nat.le_refl _) h1
        have p0 : ps (A i) (e' + 1) = ps (A i) e' + 1 := by simp only [ps, one]
        obtain ⟨t, t1, t2, t3⟩ := ps_pos (nA i) (a := e + 1) (b := e') (by omega) (by omega)
        exact ⟨e, t, Nat.le_refl _, by omega, by omega, b1, by rw [bi, if_neg (by omega)]; omega⟩
  · refine Ch.two (fun q e h => (lo q e h).symm) (fun q e h => (up q e h).symm) (fun e he w => ?_) (fun e e' h1 h2 h3 h4 => ?_) hp
    · by_cases z : e = c0
      · left
        have := bi e
        rw [if_pos z] at this
        have := nB i e
        omega
      · rw [bi, bn, if_neg z, if_neg z] at w; omega
    · have a1 : 0 < A i e' := by have := bi e'; split at this <;> omega
      by_cases z : 0 < A (i + 1) e
      · exact ⟨e, e', Nat.le_refl _, h1, Nat.le_refl _, z, a1⟩
      · have w := bn e
        have y : e = c0 := by
          refine Decidable.byContradiction fun y => ?_
          rw [if_neg y] at w; omega
        subst y
        have l := fa.le e' h2
        unfold ld at l
        have s1 := ps_ge (nA i) (a := e + 1) (t := e') (b := e' + 1) (by omega) (by omega)
        obtain ⟨t, t1, t2, t3⟩ := ps_pos (nA (i + 1)) (a := e) (b := e') (by omega) (by omega)
        exact ⟨t, e', t1, t2, Nat.le_refl _, t3, a1⟩
theorem Ch.fq {is : List Nat} (f : Fq n is A B) : (∀ i ∈ is, i + 1 < m) → Ok m n A → (Ch n A k m c ↔ Ch n B k m c) := by
  induction f with
  | nil => exact fun _ _ => Iff.rfl
  | cons f1 f2 ih =>
    intro hi oA
    simp only [List.forall_mem_cons] at hi
    exact (Ch.fs oA hi.1 f1 (by omega)).trans (ih hi.2 (Fs.ok oA hi.1 f1))
/-- settled: so many counters as have work -/
theorem set_tail (st : ∀ i, i + 1 < m → Set n i R) {q e : Nat} (hq : q + 1 < m) (he : e < n) : ps (R (q + 1)) n - ps (R (q + 1)) e ≤ ps (R q) n - ps (R q) (e + 1) := by
  have := st q hq e he
  unfold ld at this
  omega
theorem set_row (oR : Ok m n R) (st : ∀ i, i + 1 < m → Set n i R) (hn : 0 < n) : ∀ (d q : Nat), q + d < m → ps (R (q + d)) n ≤ ps (R q) n
  | 0, q, _ => Int.le_refl _
  | d + 1, q, h => by
    have a := set_row oR st hn d q (by omega)
    have s := set_tail st (q := q + d) (e := 0) (by omega) hn
    have g := ps_mono (oR.nn (q + d)) (show 0 ≤ 1 by omega)
    rw [show q + (d + 1) = q + d + 1 by omega]
    simp only [ps] at s g ⊢
    omega
theorem Ch.le (oR : Ok m n R) : ∀ {k p c : Nat}, p ≤ m → Ch n R (k + 1) p c → ∃ q, k ≤ q ∧ q < p ∧ 0 < ps (R q) n
  | 0, p, c, _, ⟨q, e, a, b, h1, h2, _⟩ => ⟨q, by omega, a, by
    have := ps_ge (oR.nn q) (a := 0) (t := e) (b := n) (by omega) h1
    simp only [ps] at this; omega⟩
  | k + 1, p, c, hp, ⟨q, e, a, b, h1, h2, h3⟩ => by
    obtain ⟨q2, k2, l2, _⟩ := h3.le oR (by omega)
    refine ⟨q, by omega, a, ?_⟩
    have := ps_ge (oR.nn q) (a := 0) (t := e) (b := n) (by omega) h1
    simp only [ps] at this; omega
/-! ### found step by step -/
def fw (n : Nat) (A : Mat) : Nat → Nat → List (Nat × Nat)
  | 0, _ => []
  | _ + 1, 0 => []
  | p + 1, d + 1 => if 0 < A p (n - 1 - d) then fw n A p d ++ [(p, n - 1 - d)] else if (fw n A p (d + 1)).length < (fw n A (p + 1) d).length then fw n A (p + 1) d else fw n A p (d + 1)
theorem fw_zero (p : Nat) : fw n A p 0 = [] := by cases p <;> simp [fw]
end
end Dc
end
section
set_option Elab.async false
set_option linter.all false
set_option maxRecDepth 100000
set_option maxHeartbeats 2000000
/-! ways from a cell on: the law's dict, the program's best way; evaluated -/
namespace Lf
open PySem PySem.Spec L2
end Lf
namespace Pl
open PySem PySem.Spec L2 Lf Cp Co
end Pl
end
section
set_option Elab.async false
set_option linter.all false
set_option maxRecDepth 100000
set_option maxHeartbeats 2000000
/-! the program's best way and the law's dict, evaluated -/
namespace Pl
open PySem PySem.Spec L2 Lf Cp Co
open Cw (f_worths_from f_check_ends)
end Pl
end
section
set_option Elab.async false
set_option linter.all false
set_option maxRecDepth 100000
set_option maxHeartbeats 2000000
/-! the law's dict of worths, evaluated -/
namespace Pl
open PySem PySem.Spec L2 Lf Cp Co
end Pl
end
section
set_option Elab.async false
set_option linter.all false
set_option maxRecDepth 100000
set_option maxHeartbeats 2000000
namespace Pl
open PySem PySem.Spec L2 Lf Cp
open Cj (f_to_first f_to_last)
end Pl
end
section
set_option Elab.async false
set_option linter.all false
set_option maxRecDepth 100000
set_option maxHeartbeats 2000000
/-! towers and moves, towers and cuts -/
namespace Pl
open PySem PySem.Spec L2 Lf Cp
open Cj (f_to_first f_to_last)
structure Chg (i : Nat) (d : Int) (T T' : List (List Int)) : Prop where
  len : T'.length = T.length
  hi : i < T.length
  same : ∀ s, s ≠ i → T'.getD s [] = T.getD s []
  ex : ∃ r0, r0 < (T.getD i []).length ∧ (T'.getD i []).length = (T.getD i []).length ∧ ∀ r, r < (T.getD i []).length → (T'.getD i []).getD r 0 = (T.getD i []).getD r 0 + if r = r0 then d else 0
section
variable {m n i k b s : Nat} {d : Int} {W W' V V' : Int} {H K L L' X X' X2 X3 Z : List (List Int)} {T T' : List (List Int)}
theorem Chg.symm (h : Chg i d T T') : Chg i (-d) T' T where
  len := h.len.symm
  hi := by have := h.len; have := h.hi; omega
  same := fun s z => (h.same s z).symm
  ex := by
    obtain ⟨r0, a, l, e⟩ := h.ex
    refine ⟨r0, by omega, l.symm, fun r hr => ?_⟩
    have := e r (by omega)
    rw [this]
    split <;> omega
end
end Pl
end
section
set_option Elab.async false
set_option linter.all false
set_option maxRecDepth 100000
set_option maxHeartbeats 2000000
namespace Pl
open PySem PySem.Spec L2 Lf Cp
open Cg (f_with_counter D_with_counter f_fewest D_fewest f_not_led D_not_led)
open Dc (fw fw_zero)
section
variable {m n p c d k : Nat} {W W' : Int} {H K X X2 Z : List (List Int)} {A : Nat → Nat → Int} {row : List Int}
abbrev clP (L : List (Nat × Nat)) : PyData := .list (L.map cellP)
abbrev cls (n : Nat) (A : Nat → Nat → Int) (p : Nat) : PyData := .list (((List.range (n + 1)).map (fw n A p)).reverse.map clP)
end
end Pl
end
section
set_option Elab.async false
set_option linter.all false
set_option maxRecDepth 100000
set_option maxHeartbeats 2000000
namespace Pl
open PySem PySem.Spec L2 Lf Cp
open Cg (f_not_led D_not_led)
/-! a walk that hands back at the first that does -/
end Pl
end
section
set_option Elab.async false
set_option linter.all false
set_option maxRecDepth 100000
set_option maxHeartbeats 2000000
/-! so many ways from the end: rises -/
namespace Pl
open PySem PySem.Spec L2 Lf Cp
end Pl
end
section
set_option Elab.async false
set_option linter.all false
set_option maxRecDepth 100000
set_option maxHeartbeats 2000000
/-! any two halls of one shape: led, told apart, alike; small drawn halls -/
namespace Pl
open PySem PySem.Spec L2 Lf Cp
open Ck (f_led D_led f_check_like)
end Pl
end
section
set_option Elab.async false
set_option linter.all false
set_option maxRecDepth 100000
set_option maxHeartbeats 2000000
/-! moves one by one until there is none: the settled hall, whatever the order -/
namespace Dc
section
variable {m n i : Nat} {X Y : Mat}
def wg (w : Nat → Int) (m n : Nat) (M : Mat) : Int := ps (fun p => w p * ps (M p) n) m
theorem wg_fs {w : Nat → Int} (hi : i + 1 < m) (f : Fs n i X Y) : wg w m n Y = wg w m n X + (w (i + 1) - w i) := by
  have r := row_fs f
  obtain ⟨c, fa, l1, rfl⟩ := f
  unfold wg
  have e : (fun p => w p * ps (mvd X i c p) n) = fun p => (w p * ps (X p) n + (if p = i then - w i else 0)) + (if p = i + 1 then w (i + 1) else 0) := by
    funext p
    have q : ps (mvd X i c p) n = ps (X p) n + ps (dl i c p) n := ps_add _ _ n
    rw [q, ps_dl, if_pos fa.lt]
    by_cases a : p = i
    · subst a; simp [Int.mul_add]
    · by_cases b : p = i + 1
      · subst b; simp [Int.mul_add]
      · simp [a, b]
  rw [e, ps_add, ps_add, ps_one, ps_one, if_pos (by omega), if_pos (by omega)]
  omega
end
end Dc
namespace Pl
open PySem PySem.Spec L2 Lf Cp
section
variable {m n c : Nat} {W W' V M : Int} {A B F G H K Z : List (List Int)} {r s : List Int}
def wm (b : Bool) (m n : Nat) (H : List (List Int)) : Int := Dc.wg (fun p => match b with | true => (m : Int) - p | false => (p : Int)) m n (at2 H)
theorem Hw.less {b : Bool} (h : Hw m n H) (m8 : m ≤ 8) (n1 : 1 ≤ n) (n8 : n ≤ 8) (hc : c + 1 < m) (e : stp b c H = some K) : wm b m n K = wm b m n H - 1 := by
  have f := (h.goes m8 n1 n8 hc e).2
  unfold wm
  cases b with
  | true =>
    have := Dc.wg_fs (w := fun p => (m : Int) - p) hc f
    simp only at this ⊢
    push_cast at this
    omega
  | false =>
    have := Dc.wg_fs (w := fun p => (p : Int)) hc f
    simp only at this ⊢
    push_cast at this
    omega
def Reach (b : Bool) (m n : Nat) (H K : List (List Int)) : Prop := ∃ is : List Nat, (∀ i ∈ is, i + 1 < m) ∧ (match b with | true => Dc.Fq n is (at2 H) (at2 K) | false => Dc.Fq n is (at2 K) (at2 H))
theorem Reach.refl {b : Bool} : Reach b m n H H := ⟨[], by simp, by cases b <;> exact .nil⟩
theorem Reach.step {b : Bool} (q : Reach b m n H K) (h : Hw m n K) (m8 : m ≤ 8) (n1 : 1 ≤ n) (n8 : n ≤ 8) (hc : c + 1 < m) (e : stp b c K = some G) : Reach b m n H G := by
  have f := (h.goes m8 n1 n8 hc e).2
  obtain ⟨is, hi, g⟩ := q
  cases b with
  | true =>
    exact ⟨is ++ [c], fun i hm => by
      rcases List.mem_append.mp hm with z | z
      · exact hi i z
      · simp at z; omega, g.snoc f⟩
  | false =>
    exact ⟨c :: is, fun i hm => by
      rcases List.mem_cons.mp hm with rfl | z
      · exact hc
      · exact hi i z, .cons f g⟩
theorem no_back (h : Hw m n H) (m8 : m ≤ 8) (n1 : 1 ≤ n) (n8 : n ≤ 8) (hc : c + 1 < m) : stp false c H = none ↔ Dc.Set n c (at2 H) := by
  obtain ⟨W, hW, h⟩ := h
  obtain ⟨A, r, s, B, M, rfl, x⟩ := tw_of ⟨h, by omega, m8, n1, n8⟩ hW hc
  rw [stp_bk x.hA x.tr]
  have sr := Dc.sum_ps r
  have ss := Dc.sum_ps s
  rw [x.tr.lr] at sr
  rw [x.tr.ls] at ss
  obtain ⟨hm, hx⟩ := foldMax_iff.mp x.tr.mx
  constructor
  · intro e j hj
    have z : ¬ 1 ≤ M + s.sum - r.sum := fun z => by rw [if_pos z] at e; cases e
    have := Dc.leads_le x.tr hj
    rw [Dc.ld_at x.hA x.tr hj, Dc.at_r x.hA, Dc.at_s x.hA, sr, ss]
    omega
  · intro e
    obtain ⟨j, j1, j2, _⟩ := one_on x.tr x.nr x.ns x.m0
    have := e j j1
    rw [Dc.ld_at x.hA x.tr j1, Dc.at_r x.hA, Dc.at_s x.hA, sr, ss, j2] at this
    rw [if_neg (by omega)]
/-- the hall that moves back end at is the settled one -/
theorem Reach.root (q : Reach false m n H F) (hF : Hw m n F) (m1 : 1 ≤ m) (m8 : m ≤ 8) (n1 : 1 ≤ n) (n8 : n ≤ 8) (none_ : ∀ c, c + 1 < m → stp false c F = none) : Dc.Root m n (at2 F) (at2 H) := by
  obtain ⟨is, hi, f⟩ := q
  exact ⟨hF.ok m1 m8 n1 n8, fun i hc => (no_back hF m8 n1 n8 hc).mp (none_ i hc), is, hi, f⟩
theorem Hw.mir (h : Hw m n H) : Hw m n (mirL H) := by
  obtain ⟨W, hW, h⟩ := h
  exact ⟨W, hW, h.mir⟩
end
end Pl
end
section
set_option Elab.async false
set_option linter.all false
set_option maxRecDepth 100000
set_option maxHeartbeats 2000000
/-! dicts of halls; the halls along the moves between two neighbours -/
namespace Pl
open PySem PySem.Spec L2 Lf Cp
/-- k minutes moved on -/
def hkL (A B : List (List Int)) (M : Int) (r s : List Int) (k : Int) : List (List Int) := A ++ lft M k r s :: nxt M k r s :: B
section
variable {m n c : Nat} {W M k : Int} {A B : List (List Int)} {r s : List Int}
theorem Tw.on (x : Tw m n c W M A B r s) (h1 : k ≤ M) (h2 : -k ≤ M + s.sum - r.sum) : stp true c (hkL A B M r s k) = if k + 1 ≤ M then some (hkL A B M r s (k + 1)) else none := by
  have y := x.at h1 h2
  unfold hkL
  rw [stp_on y.hA y.tr, (mv_mv x.tr).1, (mv_mv x.tr).2]
  by_cases e : k + 1 ≤ M
  · rw [if_pos e, if_pos (by omega)]
  · rw [if_neg e, if_neg (by omega)]
theorem Tw.bk (x : Tw m n c W M A B r s) (h1 : k ≤ M) (h2 : -k ≤ M + s.sum - r.sum) : stp false c (hkL A B M r s k) = if -(k - 1) ≤ M + s.sum - r.sum then some (hkL A B M r s (k - 1)) else none := by
  have y := x.at h1 h2
  unfold hkL
  have z := lft_sum (k := k) x.tr
  rw [stp_bk y.hA y.tr, (mv_mv x.tr).1, (mv_mv x.tr).2, z.1, z.2, show k + -1 = k - 1 by omega]
  by_cases e : -(k - 1) ≤ M + s.sum - r.sum
  · rw [if_pos e, if_pos (by omega)]
  · rw [if_neg e, if_neg (by omega)]
theorem Tw.hw (x : Tw m n c W M A B r s) (hW : 0 < W) (h1 : k ≤ M) (h2 : -k ≤ M + s.sum - r.sum) : Hw m n (hkL A B M r s k) := (x.at h1 h2).hl.few.hw hW
end
end Pl
end
section
set_option Elab.async false
set_option linter.all false
/-! towers with given totals: a row of a tower without so much; what can be had -/
namespace Dc
/-- a row without so much, taken from behind -/
def Wo (R : Nat → Int) (t : Int) : Nat → Int := fun k => R k - min t (R k) + min t (R (k + 1))
/-- so many counters' totals can be had of a row -/
structure Dm (n c : Nat) (w R : Nat → Int) : Prop where
  nn : ∀ p, 0 ≤ R p
  dn : ∀ p, R (p + 1) ≤ R p
  out : ∀ p, n ≤ p ∨ c ≤ p → R p = 0
  sub : ∀ l : List Int, l.Sublist ((List.range c).map w) → l.sum ≤ ps R l.length
  tot : ((List.range c).map w).sum = ps R c
section
variable {n m c : Nat} {w R : Nat → Int} {t : Int}
theorem ps_Wo (R : Nat → Int) (t : Int) : ∀ j, ps (Wo R t) j = ps R j - min t (R 0) + min t (R j)
  | 0 => by simp only [ps]; omega
  | j + 1 => by
    simp only [ps]
    rw [ps_Wo R t j]
    simp only [Wo]
    omega
theorem Wo.le (dn : ∀ p, R (p + 1) ≤ R p) (p : Nat) : Wo R t p ≤ R p := by
  have := dn p
  simp only [Wo]
  omega
theorem Wo.ge (dn : ∀ p, R (p + 1) ≤ R p) (p : Nat) : R (p + 1) ≤ Wo R t p := by
  have := dn p
  simp only [Wo]
  omega
theorem Dm.step (h : Dm n (c + 1) w R) (hw : 0 ≤ w c) : Dm n c w (Wo R (w c)) := by
  have hr : (List.range (c + 1)).map w = (List.range c).map w ++ [w c] := by rw [List.range_succ, List.map_append]; rfl
  have h0 : w c ≤ R 0 := by
    have := h.sub [w c] (by rw [hr]; exact List.sublist_append_right _ _)
    simp [ps] at this
    exact this
  have hs := h.sub ((List.range c).map w) (by rw [hr]; exact List.sublist_append_left _ _)
  have ht := h.tot
  rw [hr, List.sum_append] at ht
  simp only [List.sum_cons, List.sum_nil, Int.add_zero, ps, List.length_map, List.length_range] at ht hs
  refine ⟨fun p => Int.le_trans (h.nn _) (Wo.ge h.dn p), fun p => Int.le_trans (Wo.le h.dn _) (Wo.ge h.dn p), fun p hp => ?_, fun l hl => ?_, ?_⟩
  · have e1 : R (p + 1) = 0 := h.out (p + 1) (by omega)
    have n0 := h.nn p
    simp only [Wo, e1]
    by_cases z : n ≤ p ∨ c + 1 ≤ p
    · rw [h.out p z]; omega
    · have : p = c := by omega
      subst this
      omega
  · rw [ps_Wo]
    have a := h.sub l (by rw [hr]; exact hl.trans (List.sublist_append_left _ _))
    have b := h.sub (l ++ [w c]) (by rw [hr]; exact hl.append (List.Sublist.refl _))
    rw [List.sum_append, List.length_append] at b
    simp only [List.sum_cons, List.sum_nil, Int.add_zero, List.length_singleton, ps] at b
    omega
  · rw [ps_Wo]
    omega
/-- the rows from the last one on, each without one counter's total -/
def Rk (R w : Nat → Int) (m : Nat) : Nat → Nat → Int
  | 0 => R
  | d + 1 => Wo (Rk R w m d) (w (m - d - 1))
theorem Rk.dm (h : Dm n m w R) (hw : ∀ c, c < m → 0 ≤ w c) : ∀ d, d ≤ m → Dm n (m - d) w (Rk R w m d)
  | 0, _ => h
  | d + 1, hd => by
    have ih := Rk.dm h hw d (by omega)
    obtain ⟨c, hc⟩ : ∃ c, m - d = c + 1 := ⟨m - d - 1, by omega⟩
    rw [hc] at ih
    have := ih.step (hw c (by omega))
    show Dm n (m - (d + 1)) w (Wo (Rk R w m d) (w (m - d - 1)))
    rw [show m - (d + 1) = c by omega, show m - d - 1 = c by omega]
    exact this
def Tk (R w : Nat → Int) (m : Nat) : Pat := fun c p => Rk R w m (m - c) p
theorem Tk.il (h : Dm n m w R) (hw : ∀ c, c < m → 0 ≤ w c) : Il m n (Tk R w m) where
  nn := fun c p => (Rk.dm h hw (m - c) (by omega)).nn p
  out := fun c p hp => by
    refine (Rk.dm h hw (m - c) (by omega)).out p ?_
    omega
  up := fun c p hc => by
    obtain ⟨d, hd⟩ : ∃ d, m - c = d + 1 := ⟨m - c - 1, by omega⟩
    show Rk R w m (m - c) p ≤ Rk R w m (m - (c + 1)) p
    rw [hd, show m - (c + 1) = d by omega]
    exact Wo.le (Rk.dm h hw d (by omega)).dn p
  dn := fun c p hc => by
    obtain ⟨d, hd⟩ : ∃ d, m - c = d + 1 := ⟨m - c - 1, by omega⟩
    show Rk R w m (m - (c + 1)) (p + 1) ≤ Rk R w m (m - c) p
    rw [hd, show m - (c + 1) = d by omega]
    exact Wo.ge (Rk.dm h hw d (by omega)).dn p
theorem Tk.step {c : Nat} (hc : c < m) (p : Nat) : Tk R w m c p = Wo (Tk R w m (c + 1)) (w c) p := by
  obtain ⟨d, hd⟩ : ∃ d, m - c = d + 1 := ⟨m - c - 1, by omega⟩
  show Rk R w m (m - c) p = Wo (fun p => Rk R w m (m - (c + 1)) p) (w c) p
  rw [hd, show m - (c + 1) = d by omega]
  show Wo (Rk R w m d) (w (m - d - 1)) p = _
  rw [show m - d - 1 = c by omega]
end
end Dc
end
section
set_option Elab.async false
set_option linter.all false
set_option maxRecDepth 100000
set_option maxHeartbeats 2000000
/-! roads: the settling with its steps, the road from one hall to another -/
namespace Pl
open PySem PySem.Spec L2 Lf Cp
open Cm (f_moved)
open Ba (f_settling_own)
section
variable {m n c : Nat} {W M : Int} {A B H H' K L Z : List (List Int)} {r s : List Int}
/-- one step: so many moves lead from H to K, as many back again from K to H -/
structure Stp (H K : List (List Int)) (c : Nat) (v : Int) : Prop where
  on : f_moved [.d (hallP H), I (c : Int), I v] = .ok (.d (hallP K), [.hole, .hole, .hole])
  bk : f_moved [.d (hallP K), I (c : Int), I (-v)] = .ok (.d (hallP H), [.hole, .hole, .hole])
inductive Pth : List (List Int) → List (Nat × Int) → List (List Int) → Prop
  | nil {H : List (List Int)} : Pth H [] H
  | snoc {H K L : List (List Int)} {S : List (Nat × Int)} {c : Nat} {v : Int} : Pth H S K → Stp K L c v → Pth H (S ++ [(c, v)]) L
/-- halls that moves lead to, one after another -/
inductive Wk : List (List Int) → List (Nat × Int) → List (List Int) → Prop
  | nil {H : List (List Int)} : Wk H [] H
  | cons {H K L : List (List Int)} {R : List (Nat × Int)} {c : Nat} {v : Int} : f_moved [.d (hallP H), I (c : Int), I v] = .ok (.d (hallP K), [.hole, .hole, .hole]) → Wk K R L → Wk H ((c, v) :: R) L
theorem Wk.app {S : List (Nat × Int)} (p : Wk H S K) : ∀ {R L}, Wk K R L → Wk H (S ++ R) L := by
  induction p with
  | nil => exact fun w => w
  | cons q p ih => exact fun w => .cons q (ih w)
theorem Pth.back {S : List (Nat × Int)} (p : Pth H S K) : Wk K (S.reverse.map fun p => (p.1, -p.2)) H := by
  induction p with
  | nil => exact .nil
  | snoc p q ih =>
    rw [List.reverse_append, List.reverse_singleton, List.singleton_append, List.map_cons]
    exact .cons q.bk ih
theorem hallP_inj (e : hallP H = hallP K) : H = K := by
  injection e with e
  have inj : ∀ A B : List (List Int), A.map rowP = B.map rowP → A = B := by
    intro A
    induction A with
    | nil => intro B h; cases B with | nil => rfl | cons _ _ => simp at h
    | cons a A ih =>
      intro B h
      cases B with
      | nil => simp at h
      | cons b B =>
        simp only [List.map_cons, List.cons.injEq] at h
        rw [ih B h.2]
        have h1 := h.1
        injection h1 with h1
        have ii : ∀ x y : List Int, x.map PyData.int = y.map PyData.int → x = y := by
          intro x
          induction x with
          | nil => intro y h; cases y with | nil => rfl | cons _ _ => simp at h
          | cons u x ih =>
            intro y h
            cases y with
            | nil => simp at h
            | cons v y =>
              simp only [List.map_cons, List.cons.injEq] at h
              rw [ih y h.2]
              have q := h.1
              injection q with q
              rw [q]
        rw [ii _ _ h1]
  exact inj _ _ e
theorem Stp.one {v : Int} (p : Stp H Z c v) (q : Stp K Z c v) : H = K := by
  have e := p.bk.symm.trans q.bk
  simp only [Except.ok.injEq, Prod.mk.injEq, OT.d.injEq, and_true] at e
  exact hallP_inj e
theorem Tw.stp (x : Tw m n c W M A B r s) : Stp (A ++ r :: s :: B) (A ++ lft M (-(M + s.sum - r.sum)) r s :: nxt M (-(M + s.sum - r.sum)) r s :: B) c (-(M + s.sum - r.sum)) := by
  have m0 := x.m0
  have f0 := x.f0
  have y := x.at (k := -(M + s.sum - r.sum)) (by omega) (by omega)
  refine ⟨moved x.hl.ok x.hA x.tr.mx (by omega) (by omega), ?_⟩
  have z := lft_sum (k := -(M + s.sum - r.sum)) x.tr
  have w := moved (k := (M + s.sum - r.sum)) y.hl.ok y.hA y.tr.mx (by omega) (by omega)
  obtain ⟨e1, e2⟩ := mv_mv (k := -(M + s.sum - r.sum)) (j := (M + s.sum - r.sum)) x.tr
  have q := mv_zero x.tr
  rw [e1, e2, show -(M + s.sum - r.sum) + (M + s.sum - r.sum) = 0 by omega, q.1, q.2] at w
  rw [Int.neg_neg]
  exact w
end
end Pl
end
section
set_option Elab.async false
set_option linter.all false
set_option maxRecDepth 100000
set_option maxHeartbeats 2000000
/-! a hall with given totals -/
namespace Pl
open PySem PySem.Spec L2 Lf Cp
open Ba (f_check_totals f_can_have f_row_without f_tower_with_totals)
section
variable {m n c L : Nat} {W W' V t : Int} {H K Z : List (List Int)} {R : Nat → Int} {wl : List Int}
theorem check_totals (hH : H.length = m) (hl : wl.length = m) (nn : ∀ x ∈ wl, 0 ≤ x) : f_check_totals [.d (hallP H), .d (rowP wl)] = .ok (.d .none, [.hole, .hole]) := by
  have b0 : (dIf (tOr' (tV (eTyNot "tuple" (eVar 1))) (tV (eOp2 fNe (eLen (eVar 1)) (eLen (eVar 0))))) (fun _ => .error .stuck) dNx) [.v (.d (hallP H)), .v (.d (rowP wl)), .un] = .ok (.nx, [.v (.d (hallP H)), .v (.d (rowP wl)), .un]) := Ev.difN (Ev.orN (Ev.tv (b := false) (Ev.tyNot (t := "tuple") (Ev.var rfl) rfl)) (Ev.tv (b := false) (Ev.op2 (Ev.len_ (n := m) (Ev.var rfl) (by simp [dlen, hl])) (Ev.len_ (n := m) (Ev.var rfl) (by simp [dlen, hH])) rfl rfl (ne_no rfl)))) Ev.nx_
  have c : (eAll [2] (iSq (eVar 1)) (gNm 2) tYs (eCl 1 Cp.f_is_whole (aCons (eVar 2) aNil))) [.v (.d (hallP H)), .v (.d (rowP wl)), .un] = .ok (yes, [.v (.d (hallP H)), .v (.d (rowP wl)), .un]) := allT (Ev.iSq_ (xs := wl.map .int) (Ev.var rfl) rfl) rfl (allD_true _ fun x hx => by
    obtain ⟨i, hi, rfl⟩ := List.mem_map.mp hx
    exact ⟨[.v (.d (hallP H)), .v (.d (rowP wl)), .v (I i)], [.v (.d (hallP H)), .v (.d (rowP wl)), .v (I i)], rfl, (Ev.cl (Ev.cons_ (Ev.var rfl) Ev.nil_) rfl rfl (is_whole (nn i hi))), rfl⟩)
  exact fn_ok0 (fl := [false, false]) (k := 1) (B := Ba.D_check_totals) (os := [.d (hallP H), .d (rowP wl)]) rfl (Ev.sq b0 (Ev.difN (Ev.nt (b := true) (Ev.tv (b := true) c)) Ev.nx_)) rfl
theorem rev_rangeL {α : Type} (f : Nat → α) (L : Nat) : ((List.range L).map f).reverse = (List.range L).map fun j => f (L - 1 - j) := by
  refine List.ext_getElem (by simp) fun p h1 h2 => ?_
  simp only [List.getElem_reverse, List.getElem_map, List.getElem_range, List.length_map, List.length_range]
end
end Pl
end
section
set_option Elab.async false
set_option linter.all false
set_option maxRecDepth 100000
set_option maxHeartbeats 2000000
/-! exchanges in any order: the totals tell the hall; in_order -/
namespace Pl
open PySem PySem.Spec L2 Lf Cp
/-- a row's total -/
def sm (H : List (List Int)) (p : Nat) : Int := (H.getD p []).sum
/-- falling neighbours exchanged, over and over -/
inductive FE (m : Nat) : List (List Int) → List (List Int) → Prop
  | nil {H : List (List Int)} : FE m H H
  | cons {H K : List (List Int)} {c : Nat} : c + 1 < m → sm H (c + 1) < sm H c → FE m (exL H c) K → FE m H K
/-- neighbours exchanged, over and over -/
inductive Orb (m : Nat) : List (List Int) → List (List Int) → Prop
  | nil {H : List (List Int)} : Orb m H H
  | snoc {H K : List (List Int)} {c : Nat} : Orb m H K → c + 1 < m → Orb m H (exL K c)
def NFm (m : Nat) (H : List (List Int)) : Prop := ∀ c, c + 1 < m → sm H c ≤ sm H (c + 1)
section
variable {m n c d : Nat} {H K L N : List (List Int)}
theorem Hw.len (h : Hw m n H) : H.length = m := by obtain ⟨_, _, h⟩ := h; exact h.len
theorem sm_ex (hl : H.length = m) (hc : c + 1 < m) (t : ∀ (r s : List Int), H.getD c [] = r → H.getD (c + 1) [] = s → TR (r.length) (mxL r s) r s) (p : Nat) : sm (exL H c) p = if p = c then sm H (c + 1) else if p = c + 1 then sm H c else sm H p := by
  unfold sm
  rw [exL_get p (by omega)]
  have z := lft_sum (k := (H.getD c []).sum - (H.getD (c + 1) []).sum) (t _ _ rfl rfl)
  by_cases e : p = c
  · rw [if_pos e, if_pos e, z.1]; omega
  · rw [if_neg e, if_neg e]
    by_cases e2 : p = c + 1
    · rw [if_pos e2, if_pos e2, z.2]; omega
    · rw [if_neg e2, if_neg e2]
theorem Hw.hl (h : Hw m n H) (m8 : m ≤ 8) (n1 : 1 ≤ n) (n8 : n ≤ 8) (hc : c + 1 < m) : ∃ W, 0 < W ∧ Hl m n W H := by
  obtain ⟨W, hW, h⟩ := h
  exact ⟨W, hW, ⟨h, by omega, m8, n1, n8⟩⟩
theorem Hw.sm_ex (h : Hw m n H) (m8 : m ≤ 8) (n1 : 1 ≤ n) (n8 : n ≤ 8) (hc : c + 1 < m) (p : Nat) : sm (exL H c) p = if p = c then sm H (c + 1) else if p = c + 1 then sm H c else sm H p := by
  refine Pl.sm_ex h.len hc (fun r s hr hs => ?_) p
  obtain ⟨W, hW, hl⟩ := h.hl m8 n1 n8 hc
  obtain ⟨A, r', s', B, M, rfl, x⟩ := tw_of hl hW hc
  rw [get_r x.hA] at hr
  rw [get_s x.hA] at hs
  subst hr hs
  rw [x.tr.mxL, x.tr.lr]
  exact x.tr
theorem Hw.exw (h : Hw m n H) (m8 : m ≤ 8) (n1 : 1 ≤ n) (n8 : n ≤ 8) (hc : c + 1 < m) : Hw m n (exL H c) := (h.ex m8 n1 n8 hc).1
theorem Hw.twice (h : Hw m n H) (m8 : m ≤ 8) (n1 : 1 ≤ n) (n8 : n ≤ 8) (hc : c + 1 < m) : exL (exL H c) c = H := by
  obtain ⟨W, hW, hl⟩ := h.hl m8 n1 n8 hc
  exact exL_twice hl hW hc
theorem Hw.same (h : Hw m n H) (m8 : m ≤ 8) (n1 : 1 ≤ n) (n8 : n ≤ 8) (hc : c + 1 < m) (e : sm H c = sm H (c + 1)) : exL H c = H := by
  obtain ⟨W, hW, hl⟩ := h.hl m8 n1 n8 hc
  exact exL_same hl hW hc e
theorem Hw.braid (h : Hw m n H) (m8 : m ≤ 8) (n1 : 1 ≤ n) (n8 : n ≤ 8) (hc : c + 2 < m) : exL (exL (exL H c) (c + 1)) c = exL (exL (exL H (c + 1)) c) (c + 1) := by
  obtain ⟨W, hW, hl⟩ := h.hl (c := c) m8 n1 n8 (by omega)
  exact exL_braid hl hW hc
theorem Hw.sm_nn (h : Hw m n H) (p : Nat) : 0 ≤ sm H p := by
  obtain ⟨W, hW, hf⟩ := h
  unfold sm
  rcases Nat.lt_or_ge p H.length with z | z
  · rw [List.getD_eq_getElem?_getD, List.getElem?_eq_getElem z]
    exact (sum_ge fun x hx => (hf.rows _ (List.getElem_mem z)).2 x hx).1
  · rw [List.getD_eq_getElem?_getD, List.getElem?_eq_none z]; simp
/-- what falls with each exchange of falling neighbours -/
def ws (m : Nat) (H : List (List Int)) : Int := Dc.ps (fun p => ((m : Int) - p) * sm H p) m
theorem ps_two {f g : Nat → Int} : ∀ {t : Nat}, c + 1 < t → (∀ p, p ≠ c → p ≠ c + 1 → f p = g p) → Dc.ps f t - Dc.ps g t = f c + f (c + 1) - g c - g (c + 1)
  | 0, h, _ => by omega
  | t + 1, h, e => by
    show Dc.ps f t + f t - (Dc.ps g t + g t) = _
    by_cases z : c + 1 < t
    · have := ps_two z e
      have := e t (by omega) (by omega)
      omega
    · have tt : t = c + 1 := by omega
      subst tt
      show Dc.ps f c + f c + f (c + 1) - (Dc.ps g c + g c + g (c + 1)) = _
      have q : ∀ u, u ≤ c → Dc.ps f u = Dc.ps g u := fun u => by
        induction u with
        | zero => intro _; rfl
        | succ u ih =>
          intro hu
          show Dc.ps f u + f u = Dc.ps g u + g u
          rw [ih (by omega), e u (by omega) (by omega)]
      have := q c (Nat.le_refl _)
      omega
theorem Hw.ws_less (h : Hw m n H) (m8 : m ≤ 8) (n1 : 1 ≤ n) (n8 : n ≤ 8) (hc : c + 1 < m) (f : sm H (c + 1) < sm H c) : ws m (exL H c) < ws m H := by
  have q := ps_two (c := c) (f := fun p => ((m : Int) - p) * sm (exL H c) p) (g := fun p => ((m : Int) - p) * sm H p) (t := m) hc fun p h1 h2 => by
    rw [h.sm_ex m8 n1 n8 hc p, if_neg h1, if_neg h2]
  rw [h.sm_ex m8 n1 n8 hc c, h.sm_ex m8 n1 n8 hc (c + 1), if_pos rfl, if_neg (by omega), if_pos rfl] at q
  have e : ((m : Int) - ((c + 1 : Nat) : Int)) = ((m : Int) - c) - 1 := by omega
  rw [e] at q
  unfold ws
  generalize (m : Int) - c = k at q
  rw [Int.sub_mul, Int.sub_mul] at q
  omega
theorem Hw.ws_nn (h : Hw m n H) : 0 ≤ ws m H := Dc.ps_nn fun p hp => Int.mul_nonneg (by omega) (h.sm_nn p)
theorem FE.trans (h : FE m H K) (k : FE m K L) : FE m H L := by
  induction h with
  | nil => exact k
  | cons a b _ ih => exact .cons a b (ih k)
theorem nf_ex (m8 : m ≤ 8) (n1 : 1 ≤ n) (n8 : n ≤ 8) : ∀ (t : Nat) (H : List (List Int)), Hw m n H → ws m H ≤ t → ∃ N, FE m H N ∧ NFm m N := fun t => by
  induction t with
  | zero =>
    intro H h ht
    refine ⟨H, .nil, fun c hc => ?_⟩
    rcases Int.lt_or_le (sm H (c + 1)) (sm H c) with z | z
    · have a := h.ws_less m8 n1 n8 hc z
      have b := (h.exw m8 n1 n8 hc).ws_nn
      omega
    · exact z
  | succ t ih =>
    intro H h ht
    by_cases e : ∃ c, c + 1 < m ∧ sm H (c + 1) < sm H c
    · obtain ⟨c, hc, z⟩ := e
      have a := h.ws_less m8 n1 n8 hc z
      obtain ⟨N, f, nf⟩ := ih (exL H c) (h.exw m8 n1 n8 hc) (by omega)
      exact ⟨N, .cons hc z f, nf⟩
    · refine ⟨H, .nil, fun c hc => ?_⟩
      rcases Int.lt_or_le (sm H (c + 1)) (sm H c) with z | z
      · exact absurd ⟨c, hc, z⟩ e
      · exact z
theorem nf_any (h : Hw m n H) (m8 : m ≤ 8) (n1 : 1 ≤ n) (n8 : n ≤ 8) : ∃ N, FE m H N ∧ NFm m N := nf_ex m8 n1 n8 (ws m H).toNat H h (by omega)
/-- two exchanges of falling neighbours meet again -/
theorem meet (h : Hw m n H) (m8 : m ≤ 8) (n1 : 1 ≤ n) (n8 : n ≤ 8) (hc : c + 1 < m) (hd : d + 1 < m) (lt : c < d) (fc : sm H (c + 1) < sm H c) (fd : sm H (d + 1) < sm H d) :
    ∃ Z, FE m (exL H c) Z ∧ FE m (exL H d) Z := by
  have hx := h.exw m8 n1 n8 hc
  have hy := h.exw m8 n1 n8 hd
  have sx := h.sm_ex m8 n1 n8 hc
  have sy := h.sm_ex m8 n1 n8 hd
  by_cases e : d = c + 1
  · subst e
    have sxx := hx.sm_ex m8 n1 n8 (c := c + 1) hd
    have syy := hy.sm_ex m8 n1 n8 (c := c) hc
    have x0 := sx c
    have x1 := sx (c + 1)
    have x2 := sx (c + 1 + 1)
    have y0 := sy c
    have y1 := sy (c + 1)
    have y2 := sy (c + 1 + 1)
    rw [if_pos rfl] at x0
    rw [if_neg (by omega), if_pos rfl] at x1
    rw [if_neg (by omega), if_neg (by omega)] at x2
    rw [if_neg (by omega), if_neg (by omega)] at y0
    rw [if_pos rfl] at y1
    rw [if_neg (by omega), if_pos rfl] at y2
    have xx0 := sxx c
    have xx1 := sxx (c + 1)
    rw [if_neg (by omega), if_neg (by omega)] at xx0
    rw [if_pos rfl] at xx1
    have yy1 := syy (c + 1)
    have yy2 := syy (c + 1 + 1)
    rw [if_neg (by omega), if_pos rfl] at yy1
    rw [if_neg (by omega), if_neg (by omega)] at yy2
    refine ⟨exL (exL (exL H c) (c + 1)) c, .cons hd (by omega) (.cons hc (by omega) .nil), ?_⟩
    rw [h.braid m8 n1 n8 (by omega)]
    exact .cons hc (by omega) (.cons hd (by omega) .nil)
  · refine ⟨exL (exL H c) d, .cons hd (by rw [sx, sx, if_neg (by omega), if_neg (by omega), if_neg (by omega), if_neg (by omega)]; exact fd) .nil, ?_⟩
    rw [exL_far h.len hc hd (.inl (by omega))]
    exact .cons hc (by rw [sy, sy, if_neg (by omega), if_neg (by omega), if_neg (by omega), if_neg (by omega)]; exact fc) .nil
theorem nf_one (m8 : m ≤ 8) (n1 : 1 ≤ n) (n8 : n ≤ 8) : ∀ (t : Nat) (H N1 N2 : List (List Int)), Hw m n H → ws m H < t → FE m H N1 → FE m H N2 → NFm m N1 → NFm m N2 → N1 = N2 := fun t => by
  induction t with
  | zero =>
    intro H N1 N2 h ht
    have := h.ws_nn
    omega
  | succ t ih =>
    intro H N1 N2 h ht f1 f2 nf1 nf2
    cases f1 with
    | nil =>
      cases f2 with
      | nil => rfl
      | cons hc z _ => have := nf1 _ hc; omega
    | @cons _ _ c hc z g1 =>
      cases f2 with
      | nil => have := nf2 _ hc; omega
      | @cons _ _ d hd y g2 =>
        have lc := h.ws_less m8 n1 n8 hc z
        have ld := h.ws_less m8 n1 n8 hd y
        have hx := h.exw m8 n1 n8 hc
        have hy := h.exw m8 n1 n8 hd
        have go : (∃ Z, FE m (exL H c) Z ∧ FE m (exL H d) Z) → N1 = N2 := by
          rintro ⟨Z, a, b⟩
          have hZ : ∀ {X Y : List (List Int)}, FE m X Y → Hw m n X → Hw m n Y := fun f => by
            induction f with
            | nil => exact id
            | cons p q _ ih => exact fun h => ih (h.exw m8 n1 n8 p)
          obtain ⟨N, f, nf⟩ := nf_any (hZ a hx) m8 n1 n8
          rw [ih _ _ _ hx (by omega) g1 (a.trans f) nf1 nf, ih _ _ _ hy (by omega) g2 (b.trans f) nf2 nf]
        rcases Nat.lt_trichotomy c d with e | e | e
        · exact go (meet h m8 n1 n8 hc hd e z y)
        · subst e
          exact ih _ _ _ hx (by omega) g1 g2 nf1 nf2
        · obtain ⟨Z, a, b⟩ := meet h m8 n1 n8 hd hc e y z
          exact go ⟨Z, b, a⟩
theorem nf_uniq {N1 N2 : List (List Int)} (h : Hw m n H) (m8 : m ≤ 8) (n1 : 1 ≤ n) (n8 : n ≤ 8) (f1 : FE m H N1) (f2 : FE m H N2) (nf1 : NFm m N1) (nf2 : NFm m N2) : N1 = N2 :=
  nf_one m8 n1 n8 ((ws m H).toNat + 1) H N1 N2 h (by have := h.ws_nn; omega) f1 f2 nf1 nf2
theorem nf_ex1 (h : Hw m n H) (m8 : m ≤ 8) (n1 : 1 ≤ n) (n8 : n ≤ 8) (hc : c + 1 < m) (f : FE m H N) (nf : NFm m N) : FE m (exL H c) N := by
  have hx := h.exw m8 n1 n8 hc
  rcases Int.lt_trichotomy (sm H (c + 1)) (sm H c) with z | z | z
  · obtain ⟨N', f', nf'⟩ := nf_any hx m8 n1 n8
    rw [nf_uniq h m8 n1 n8 f (.cons hc z f') nf nf']
    exact f'
  · rw [h.same m8 n1 n8 hc z.symm]; exact f
  · refine .cons hc ?_ (by rw [h.twice m8 n1 n8 hc]; exact f)
    rw [h.sm_ex m8 n1 n8 hc c, h.sm_ex m8 n1 n8 hc (c + 1), if_pos rfl, if_neg (by omega), if_pos rfl]
    exact z
theorem Orb.hw (o : Orb m H K) (h : Hw m n H) (m8 : m ≤ 8) (n1 : 1 ≤ n) (n8 : n ≤ 8) : Hw m n K := by
  induction o with
  | nil => exact h
  | snoc _ hc ih => exact ih.exw m8 n1 n8 hc
theorem Orb.nf (o : Orb m H K) (h : Hw m n H) (m8 : m ≤ 8) (n1 : 1 ≤ n) (n8 : n ≤ 8) (f : FE m H N) (nf : NFm m N) : FE m K N := by
  induction o with
  | nil => exact f
  | snoc o hc ih => exact nf_ex1 (o.hw h m8 n1 n8) m8 n1 n8 hc ih nf
theorem Orb.trans (o : Orb m H K) (p : Orb m K L) : Orb m H L := by
  induction p with
  | nil => exact o
  | snoc _ hc ih => exact .snoc ih hc
theorem Orb.symm (o : Orb m H K) (h : Hw m n H) (m8 : m ≤ 8) (n1 : 1 ≤ n) (n8 : n ≤ 8) : Orb m K H := by
  induction o with
  | nil => exact .nil
  | @snoc K c o hc ih =>
    have q : Orb m (exL K c) K := by
      have := Orb.snoc (m := m) (c := c) (Orb.nil (H := exL K c)) hc
      rw [(o.hw h m8 n1 n8).twice m8 n1 n8 hc] at this
      exact this
    exact q.trans ih
/-- the totals and the hall it ends at tell the hall -/
theorem told_nf (m8 : m ≤ 8) (n1 : 1 ≤ n) (n8 : n ≤ 8) (f : FE m H N) (nf : NFm m N) : ∀ {K : List (List Int)}, Hw m n H → Hw m n K → FE m K N → (∀ p, p < m → sm H p = sm K p) → H = K := by
  induction f with
  | nil =>
    intro K h k g e
    cases g with
    | nil => rfl
    | cons hc z _ =>
      have := nf _ hc
      rw [e _ (by omega), e _ (by omega)] at this
      omega
  | @cons H N c hc z g ih =>
    intro K h k g2 e
    have hx := h.exw m8 n1 n8 hc
    have kx := k.exw m8 n1 n8 hc
    have q := ih nf hx kx (nf_ex1 k m8 n1 n8 hc g2 nf) fun p hp => by
      rw [h.sm_ex m8 n1 n8 hc p, k.sm_ex m8 n1 n8 hc p, e c (by omega), e (c + 1) (by omega), e p hp]
    rw [← h.twice m8 n1 n8 hc, q, k.twice m8 n1 n8 hc]
theorem Orb.one (o : Orb m H K) (p : Orb m H L) (h : Hw m n H) (m8 : m ≤ 8) (n1 : 1 ≤ n) (n8 : n ≤ 8) (e : ∀ p, p < m → sm K p = sm L p) : K = L := by
  obtain ⟨N, f, nf⟩ := nf_any h m8 n1 n8
  exact told_nf m8 n1 n8 (o.nf h m8 n1 n8 f nf) nf (o.hw h m8 n1 n8) (p.hw h m8 n1 n8) (p.nf h m8 n1 n8 f nf) e
end
end Pl
end
section
set_option Elab.async false
set_option linter.all false
set_option maxRecDepth 100000
set_option maxHeartbeats 2000000
/-! in_order: the hall led to by exchanges with these totals -/
namespace Ev
open PySem PySem.Spec L2 Lf Pl
theorem enT {dr : DA} {en e1 : En} {o : OT} {x : PyData} {xs : List PyData} (h : dr en = .ok ([o], e1)) (f : frz o = some x) (g : dItems x = some xs) : iEn dr en = .ok (enumL xs, e1) := by simp only [iEn, h, bd, frzs, f, g]
theorem srtT {da : DE} {en e1 : En} {o : OT} {ns : List Int} (h : da en = .ok (o, e1)) (hf : frz o = some (.tuple (ns.map .int))) : eSrtT da en = .ok (OW (sortI ns), e1) := by
  unfold eSrtT
  simp only [h, bd, hf]
  rw [ints_map]
theorem tpN {da : DE} {en e1 : En} {o : OT} {xs : List PyData} (h : da en = .ok (o, e1)) (hf : frz o = some (.list xs)) : eTpN da en = .ok (.leaf .tn xs, e1) := by
  unfold eTpN
  simp only [h, bd, hf]
theorem idxT {da db dc : DE} {en e1 e2 e3 : En} {ns : List Int} {k : Int} {s : Nat} (h : da en = .ok (.leaf .tn (ns.map .int), e1)) (g : db e1 = .ok (.d (.int k), e2)) (w : dc e2 = .ok (.d (.int (s : Int)), e3)) (hk : k ∈ ns.drop s) : eIdxT da db dc en = .ok (.d (.int ((s : Int) + ((ns.drop s).idxOf k : Nat))), e3) := by
  unfold eIdxT
  simp only [h, bd, g, w]
  rw [ints_map]
  simp only [Int.toNat_natCast]
  rw [if_pos ⟨by omega, hk⟩]
theorem rev2T {da db : DE} {en e1 e2 : En} {k t : Nat} {z : Int} (h : da en = .ok (.d (.int (k : Int)), e1)) (g : db e1 = .ok (.d (.int z), e2)) (hz : z = (k : Int) + t) (hn : k + t ≤ 1000) : iRev2 da db en = .ok ((List.range t).map (fun u : Nat => PyData.int ((k : Int) + t - 1 - u)), e2) := by
  subst hz
  have i1 : inR (k : Int) = true := inR_nat (by omega)
  have i2 : inR ((k : Int) + t) = true := by
    have := inR_nat (n := k + t) hn
    rwa [Int.natCast_add] at this
  unfold iRev2
  simp only [h, bd, g, i1, i2]
  rw [if_pos ⟨trivial, trivial⟩, show ((k : Int) + t - k).toNat = t by omega]
  have q : (rng (k : Int) t).reverse = (List.range t).map (fun u : Nat => PyData.int ((k : Int) + t - 1 - u)) := by
    unfold rng
    rw [rev_rangeL]
    refine List.map_congr_left fun u hu => ?_
    have := List.mem_range.mp hu
    have e : (k : Int) + ((t - 1 - u : Nat) : Int) = (k : Int) + t - 1 - u := by omega
    rw [e]
  rw [q]
end Ev
namespace Pl
open PySem PySem.Spec L2 Lf Cp
theorem enum_T (r : List Int) : enumL (r.map .int) = (List.range r.length).map fun i : Nat => .tuple [.int (i : Int), .int (r.getD i 0)] := by
  refine List.ext_getElem ?_ fun i h1 h2 => ?_
  · simp [enumL, zip2]
  · have hi : i < r.length := by simpa using h2
    simp [enumL, zip2, List.getD_eq_getElem?_getD, List.getElem?_eq_getElem hi]
section
variable {m n c k : Nat} {W : Int} {H K T : List (List Int)} {wl : List Int}
theorem sums_get (p : Nat) : (sumsL H).getD p 0 = sm H p := by
  unfold sumsL sm
  rw [List.getD_eq_getElem?_getD, List.getD_eq_getElem?_getD, List.getElem?_map]
  cases H[p]? <;> rfl
theorem sums_len : (sumsL H).length = H.length := by simp [sumsL]
theorem sums_ex (h : Hw m n H) (m8 : m ≤ 8) (n1 : 1 ≤ n) (n8 : n ≤ 8) (hc : c + 1 < m) : (sumsL (exL H c)).Perm (sumsL H) := by
  obtain ⟨W, hW, hl⟩ := h.hl m8 n1 n8 hc
  obtain ⟨A, r, s, B, M, rfl, x⟩ := tw_of hl hW hc
  rw [exL_at x.hA x.tr]
  have z := lft_sum (k := r.sum - s.sum) x.tr
  simp only [sumsL, List.map_append, List.map_cons, z.1, z.2]
  rw [show r.sum - (r.sum - s.sum) = s.sum by omega, show s.sum + (r.sum - s.sum) = r.sum by omega]
  exact List.Perm.append_left _ (List.Perm.swap _ _ _)
theorem Orb.perm (o : Orb m H K) (h : Hw m n H) (m8 : m ≤ 8) (n1 : 1 ≤ n) (n8 : n ≤ 8) : (sumsL K).Perm (sumsL H) := by
  induction o with
  | nil => exact .refl _
  | snoc o hc ih => exact (sums_ex (o.hw h m8 n1 n8) m8 n1 n8 hc).trans ih
theorem list_ext {a b : List Int} (hl : a.length = b.length) (h : ∀ p, p < a.length → a.getD p 0 = b.getD p 0) : a = b := by
  refine List.ext_getElem hl fun p h1 h2 => ?_
  have := h p h1
  simpa [List.getD_eq_getElem?_getD, h1, h2] using this
theorem in_rest {a b : List Int} (p : a.Perm b) (h : ∀ q, q < k → a.getD q 0 = b.getD q 0) (hk : k < b.length) : b.getD k 0 ∈ a.drop k := by
  have hl := p.length_eq
  have e : a.take k = b.take k := by
    refine list_ext (by simp [hl]) fun q hq => ?_
    have hq : q < k := by simp at hq; omega
    have := h q hq
    simpa [List.getD_eq_getElem?_getD, List.getElem?_take, hq] using this
  have p2 : (a.drop k).Perm (b.drop k) := by
    rw [← List.take_append_drop k a, ← List.take_append_drop k b, e] at p
    exact (List.perm_append_left_iff _).mp p
  refine p2.mem_iff.mpr ?_
  rw [List.getD_eq_getElem?_getD, List.getElem?_eq_getElem hk, List.drop_eq_getElem_cons hk]
  exact List.mem_cons_self
theorem totals_own (h : HOk m n W H) : Bb.f_totals_own [.d (hallP H)] = .ok (.leaf .tn ((sumsL H).map .int), [.hole]) := by
  have m8 := h.m8
  have hl := h.len
  have b1 : (dEx (eCl 1 Cp.f_check_hall (aCons (eVar 0) aNil))) [.v (.d (hallP H)), .un] = .ok (.nx, [.v (.d (hallP H)), .un]) := Ev.ex (Ev.cl (Ev.cons_ (Ev.var rfl) Ev.nil_) rfl rfl (check_hall h))
  have b2 : (dRt (eTpN (eLc [1] (iSq (eVar 0)) (gNm 1) tYs (eCb fSumA (aCons (eVar 1) aNil))))) [.v (.d (hallP H)), .un] = .ok (.rt (.leaf .tn ((sumsL H).map .int)), [.v (.d (hallP H)), .un]) :=
    Ev.rt (Ev.tpN (o := OW (sumsL H)) (xs := (sumsL H).map .int) (Ev.lcm (item := fun q : List Int => rowP q) (fun q => I q.sum) H (Ev.iSq_ (xs := H.map rowP) (Ev.var rfl) rfl) rfl (by omega) (fun q hq => ⟨[.v (.d (hallP H)), .v (.d (rowP q))], _, rfl, Ev.cb (z := .int q.sum) (Ev.cons_ (Ev.var rfl) Ev.nil_) rfl sumA_T, rfl⟩) (by unfold sumsL; rw [List.map_map]; rfl)) (Ev.frz_own (frzs_I _)))
  exact fn_ok (fl := [false]) (k := 1) (B := Bb.D_totals_own) (os := [.d (hallP H)]) rfl (Ev.sq b1 b2) rfl
def ioI : DS := (dFor (iRev2 (eVar 3) (eVar 5)) (gNm 6) (dSet 2 (eCl 2 Cq.f_exchanged (aCons (eVar 2) (aCons (eVar 6) aNil)))))
def ioB : DS := (dSq (dSet 5 (eIdxT (eCl 1 Bb.f_totals_own (aCons (eVar 2) aNil)) (eVar 4) (eVar 3))) ioI)
theorem io_step {s5 s6 : Slot} (h : Hw m n H) (m1 : 1 ≤ m) (m8 : m ≤ 8) (n1 : 1 ≤ n) (n8 : n ≤ 8) (hl : wl.length = m) (hk : k < m) (o : Orb m H T) (pm : (sumsL T).Perm wl) (hp : ∀ p, p < k → sm T p = wl.getD p 0) (n5 : np s5 = true) (n6 : np s6 = true) :
    ∃ T' s5' s6', ioB [.v (.d (hallP H)), .v (.d (rowP wl)), .v (.d (hallP T)), .v (I (k : Int)), .v (I (wl.getD k 0)), s5, s6] = .ok (.nx, [.v (.d (hallP H)), .v (.d (rowP wl)), .v (.d (hallP T')), .v (I (k : Int)), .v (I (wl.getD k 0)), s5', s6']) ∧ np s5' = true ∧ np s6' = true ∧ Orb m H T' ∧ (sumsL T').Perm wl ∧ ∀ p, p < k + 1 → sm T' p = wl.getD p 0 := by
  have hT := o.hw h m8 n1 n8
  obtain ⟨W, hW, fT⟩ := id hT
  have mem := in_rest (k := k) pm (fun q hq => by rw [sums_get]; exact hp q hq) (by omega)
  obtain ⟨x, hx⟩ : ∃ x, x = wl.getD k 0 := ⟨_, rfl⟩
  rw [← hx] at mem
  obtain ⟨t, ht⟩ : ∃ t, t = ((sumsL T).drop k).idxOf x := ⟨_, rfl⟩
  have tl : t < ((sumsL T).drop k).length := by rw [ht]; exact List.idxOf_lt_length_iff.mpr mem
  have tm : k + t < m := by rw [List.length_drop, sums_len, hT.len] at tl; omega
  have tx : sm T (k + t) = x := by
    have q : ((sumsL T).drop k)[t]? = some x := by
      subst ht
      rw [List.getElem?_eq_getElem tl, List.getElem_idxOf tl]
    rw [← sums_get, List.getD_eq_getElem?_getD, ← List.getElem?_drop, q]
    rfl
  have b1 : (dSet 5 (eIdxT (eCl 1 Bb.f_totals_own (aCons (eVar 2) aNil)) (eVar 4) (eVar 3))) [.v (.d (hallP H)), .v (.d (rowP wl)), .v (.d (hallP T)), .v (I (k : Int)), .v (I x), s5, s6] = .ok (.nx, [.v (.d (hallP H)), .v (.d (rowP wl)), .v (.d (hallP T)), .v (I (k : Int)), .v (I x), .v (I ((k : Int) + t)), s6]) :=
    Ev.set_ ((Ev.idxT (ns := sumsL T) (k := x) (s := k) (Ev.cl (Ev.cons_ (Ev.var rfl) Ev.nil_) rfl rfl (totals_own (fT.hok m1 m8 n1 n8))) (Ev.var rfl) (Ev.var rfl) mem).trans (by rw [← ht])) (Ev.stor_np rfl n5 rfl)
  obtain ⟨e', h2, T', s6', rfl, q6, o', pm', hp', hx'⟩ := forRI (g := gNm 6) (body := (dSet 2 (eCl 2 Cq.f_exchanged (aCons (eVar 2) (aCons (eVar 6) aNil))))) (item := fun u : Nat => PyData.int ((k : Int) + t - 1 - u)) (en := [.v (.d (hallP H)), .v (.d (rowP wl)), .v (.d (hallP T)), .v (I (k : Int)), .v (I x), .v (I ((k : Int) + t)), s6])
    (fun u en => ∃ T' s6', en = [.v (.d (hallP H)), .v (.d (rowP wl)), .v (.d (hallP T')), .v (I (k : Int)), .v (I x), .v (I ((k : Int) + t)), s6'] ∧ np s6' = true ∧ Orb m H T' ∧ (sumsL T').Perm wl ∧ (∀ p, p < k → sm T' p = wl.getD p 0) ∧ sm T' (k + t - u) = x) t
    ⟨T, s6, rfl, n6, o, pm, hp, tx⟩ (by
      rintro u e hu ⟨T', s6', rfl, q6, o', pm', hp', hx'⟩
      have hT' := o'.hw h m8 n1 n8
      obtain ⟨c, hc⟩ : ∃ c : Nat, c + 1 + u = k + t := ⟨k + t - 1 - u, by omega⟩
      have hcm : c + 1 < m := by omega
      obtain ⟨W', hW', hl'⟩ := hT'.hl m8 n1 n8 hcm
      have sx := hT'.sm_ex m8 n1 n8 hcm
      have ex := exchanged hl' hW' hcm
      refine ⟨[.v (.d (hallP H)), .v (.d (rowP wl)), .v (.d (hallP T')), .v (I (k : Int)), .v (I x), .v (I ((k : Int) + t)), .v (I (c : Int))], [.v (.d (hallP H)), .v (.d (rowP wl)), .v (.d (hallP (exL T' c))), .v (I (k : Int)), .v (I x), .v (I ((k : Int) + t)), .v (I (c : Int))], ?_, Ev.set_ (Ev.cl (Ev.cons_ (Ev.var rfl) (Ev.cons_ (Ev.var rfl) Ev.nil_)) rfl rfl ex) rfl, exL T' c, _, rfl, rfl, .snoc o' hcm, (sums_ex hT' m8 n1 n8 hcm).trans pm', fun p hpk => ?_, ?_⟩
      · rw [show (k : Int) + t - 1 - u = c by omega]
        simp [gNm, stor_eq, q6]
      · rw [sx, if_neg (by omega), if_neg (by omega)]; exact hp' p hpk
      · rw [show k + t - (u + 1) = c by omega, sx, if_pos rfl]
        rw [show k + t - u = c + 1 by omega] at hx'
        exact hx')
  rw [← hx]
  refine ⟨T', _, s6', Ev.sq b1 (Ev.for_ (Ev.rev2T (k := k) (t := t) (Ev.var rfl) (Ev.var rfl) rfl (by omega)) h2), rfl, q6, o', pm', fun p hpk => ?_⟩
  by_cases e : p = k
  · subst e
    rw [show p + t - t = p by omega] at hx'
    rw [hx', hx]
  · exact hp' p (by omega)
theorem sort_eq {a b : List Int} (p : a.Perm b) : sortI a = sortI b := @sortI_uniq (⟨[]⟩ : Tabs) _ _ ((@sortI_perm (⟨[]⟩ : Tabs) a).trans p) (@sortI_pw (⟨[]⟩ : Tabs) a)
theorem in_order (h : Hw m n H) (m1 : 1 ≤ m) (m8 : m ≤ 8) (n1 : 1 ≤ n) (n8 : n ≤ 8) (pm : (sumsL H).Perm wl) :
    ∃ T, Bb.f_in_order [.d (hallP H), .d (rowP wl)] = .ok (.d (hallP T), [.hole, .hole]) ∧ Orb m H T ∧ sumsL T = wl := by
  obtain ⟨W, hW, fH⟩ := id h
  have hok := fH.hok m1 m8 n1 n8
  have hl : wl.length = m := by rw [← pm.length_eq, sums_len, h.len]
  have nn : ∀ x ∈ wl, 0 ≤ x := fun x hx => by
    have := pm.mem_iff.mpr hx
    obtain ⟨r, hr, rfl⟩ := List.mem_map.mp this
    exact (sum_ge fun y hy => (fH.rows r hr).2 y hy).1
  have b0 : (dEx (eCl 1 Cp.f_check_hall (aCons (eVar 0) aNil))) [.v (.d (hallP H)), .v (.d (rowP wl)), .un, .un, .un, .un, .un] = .ok (.nx, [.v (.d (hallP H)), .v (.d (rowP wl)), .un, .un, .un, .un, .un]) := Ev.ex (Ev.cl (Ev.cons_ (Ev.var rfl) Ev.nil_) rfl rfl (check_hall hok))
  have b1 : (dEx (eCl 2 Ba.f_check_totals (aCons (eVar 0) (aCons (eVar 1) aNil)))) [.v (.d (hallP H)), .v (.d (rowP wl)), .un, .un, .un, .un, .un] = .ok (.nx, [.v (.d (hallP H)), .v (.d (rowP wl)), .un, .un, .un, .un, .un]) := Ev.ex (Ev.cl (Ev.cons_ (Ev.var rfl) (Ev.cons_ (Ev.var rfl) Ev.nil_)) rfl rfl (check_totals h.len hl nn))
  have b2 : (dIf (tV (eOp2 fNe (eSrtT (eCl 1 Cq.f_totals (aCons (eVar 0) aNil))) (eSrtT (eVar 1)))) (fun _ => .error .stuck) dNx) [.v (.d (hallP H)), .v (.d (rowP wl)), .un, .un, .un, .un, .un] = .ok (.nx, [.v (.d (hallP H)), .v (.d (rowP wl)), .un, .un, .un, .un, .un]) :=
    Ev.difN (Ev.tv (b := false) (Ev.op2 (Ev.srtT (ns := sumsL H) (Ev.cl (Ev.cons_ (Ev.var rfl) Ev.nil_) rfl rfl (totals hok)) rfl) (Ev.srtT (ns := wl) (Ev.var rfl) rfl) (Ev.frz_own (frzs_I _)) (Ev.frz_own (frzs_I _)) (by rw [sort_eq pm]; exact sh_ne sh_day (by omega)))) Ev.nx_
  have b3 : (dSet 2 (eVar 0)) [.v (.d (hallP H)), .v (.d (rowP wl)), .un, .un, .un, .un, .un] = .ok (.nx, [.v (.d (hallP H)), .v (.d (rowP wl)), .v (.d (hallP H)), .un, .un, .un, .un]) := Ev.set_ (Ev.var rfl) rfl
  obtain ⟨e', h4, T, s3, s4, s5, s6, rfl, q3, q4, q5, q6, o, pT, hp⟩ := forRI (g := gTp [3, 4]) (body := ioB) (item := fun i : Nat => PyData.tuple [.int (i : Int), .int (wl.getD i 0)]) (en := [.v (.d (hallP H)), .v (.d (rowP wl)), .v (.d (hallP H)), .un, .un, .un, .un])
    (fun k en => ∃ T s3 s4 s5 s6, en = [.v (.d (hallP H)), .v (.d (rowP wl)), .v (.d (hallP T)), s3, s4, s5, s6] ∧ np s3 = true ∧ np s4 = true ∧ np s5 = true ∧ np s6 = true ∧ Orb m H T ∧ (sumsL T).Perm wl ∧ ∀ p, p < k → sm T p = wl.getD p 0) m
    ⟨H, .un, .un, .un, .un, rfl, rfl, rfl, rfl, rfl, .nil, pm, fun p hp => by omega⟩ (by
      rintro k e hk ⟨T, s3, s4, s5, s6, rfl, q3, q4, q5, q6, o, pT, hp⟩
      obtain ⟨T', s5', s6', h5, q5', q6', o', pT', hp'⟩ := io_step h m1 m8 n1 n8 hl hk o pT hp q5 q6
      exact ⟨[.v (.d (hallP H)), .v (.d (rowP wl)), .v (.d (hallP T)), .v (I (k : Int)), .v (I (wl.getD k 0)), s5, s6], _, by simp [gTp, gNms, gNm, stor_eq, q3, q4], h5, T', _, _, s5', s6', rfl, rfl, rfl, q5', q6', o', pT', hp'⟩)
  have b4 : (dFor (iEn (aCons (eVar 1) aNil)) (gTp [3, 4]) ioB) [.v (.d (hallP H)), .v (.d (rowP wl)), .v (.d (hallP H)), .un, .un, .un, .un] = .ok (.nx, [.v (.d (hallP H)), .v (.d (rowP wl)), .v (.d (hallP T)), s3, s4, s5, s6]) :=
    Ev.for_ ((Ev.enT (xs := wl.map .int) (Ev.cons_ (Ev.var rfl) Ev.nil_) rfl rfl).trans (by rw [enum_T, hl])) h4
  have eT : sumsL T = wl := list_ext (by rw [hl, sums_len, (o.hw h m8 n1 n8).len]) fun p hp2 => by
    rw [sums_get]
    exact hp p (by rw [sums_len, (o.hw h m8 n1 n8).len] at hp2; exact hp2)
  exact ⟨T, fn_ok (fl := [false, false]) (k := 5) (B := Bb.D_in_order) (os := [.d (hallP H), .d (rowP wl)]) rfl (Ev.sq b0 (Ev.sq b1 (Ev.sq b2 (Ev.sq b3 (Ev.sq b4 (Ev.rt (e1 := [.v (.d (hallP H)), .v (.d (rowP wl)), .un, s3, s4, s5, s6]) rfl)))))) rfl, o, eT⟩
end
end Pl
end
section
set_option Elab.async false
set_option linter.all false
set_option maxRecDepth 100000
set_option maxHeartbeats 2000000
namespace K21
open PySem PySem.Spec L2 Lf Cp Pl
open Cq (f__law_take f__law_bag f__law_hall)
section
variable {m n c k f : Nat} {W W' M T : Int} {A B F G H K N : List (List Int)} {r s : List Int} {ns : List Int}
theorem okI_row {d : Nat} {q : List Int} (h : q.length ≤ 1000) : okI (d + 1) (rowP q) := ⟨by simpa using h, fun x hx => by
  obtain ⟨i, _, rfl⟩ := List.mem_map.mp hx
  unfold okI; trivial⟩
theorem okI_hall {d : Nat} (hl : H.length ≤ 1000) (hr : ∀ q ∈ H, q.length ≤ 1000) : okI (d + 2) (hallP H) := ⟨by simpa using hl, fun x hx => by
  obtain ⟨q, hq, rfl⟩ := List.mem_map.mp hx
  exact okI_row (hr q hq)⟩
theorem Hw.hok (h : Hw m n H) (m1 : 1 ≤ m) (m8 : m ≤ 8) (n1 : 1 ≤ n) (n8 : n ≤ 8) : ∃ W, HOk m n W H := by
  obtain ⟨W, _, h⟩ := h
  exact ⟨W, h.hok m1 m8 n1 n8⟩
theorem alike_h (h : Hw m n H) (m8 : m ≤ 8) (n8 : n ≤ 8) {d : Nat} : Cq.f__law_alike (d + 3) [.d (hallP H), .d (hallP H)] = .ok (yes, [.hole, .hole]) := by
  obtain ⟨W, _, h⟩ := h
  exact alike4 (d + 2) _ (okI_hall (by rw [h.len]; omega) fun q hq => by rw [(h.rows q hq).1]; omega)
theorem few_of {rs : List (List Int)} (hl : rs.length = m) (hT : 0 < T) (m8 : m ≤ 8) (hr : ∀ r ∈ rs, ROk n T r) : Few m n (10 * T) rs := by
  refine ⟨hl, fun r h => ⟨(hr r h).1, fun x hx => ((hr r h).2 x hx).1⟩, fun i => ?_⟩
  have := Mr.sum_le (L := rs.map (·.getD i 0)) (W := T) (fun y hy => by
    obtain ⟨q, hq, rfl⟩ := List.mem_map.mp hy
    by_cases hk : i < q.length
    · have e : q.getD i 0 = q[i] := by simp [List.getD_eq_getElem?_getD, hk]
      rw [e]
      exact ((hr q hq).2 _ (List.getElem_mem hk)).2
    · simp [List.getD_eq_getElem?_getD, List.getElem?_eq_none (Nat.le_of_not_lt hk)]; exact hT)
  have h6 : ((rs.map (·.getD i 0)).length : Int) * T ≤ 8 * T := Int.mul_le_mul_of_nonneg_right (by simp; omega) (by omega)
  omega
theorem orb_alike (o : Orb m H K) (h : Hw m n H) (m8 : m ≤ 8) (n1 : 1 ≤ n) (n8 : n ≤ 8) : Alike H K := by
  induction o with
  | nil => exact Alike.refl _
  | snoc o hc ih =>
    obtain ⟨W, hW, hl⟩ := (o.hw h m8 n1 n8).hl m8 n1 n8 hc
    exact ih.trans (exL_alike hl hW hc)
theorem worths_same (o : Orb m H K) (h : Hw m n H) (m8 : m ≤ 8) (n1 : 1 ≤ n) (n8 : n ≤ 8) : WL n K = WL n H := by
  have k := o.hw h m8 n1 n8
  obtain ⟨_, _, hf⟩ := id h
  obtain ⟨_, _, kf⟩ := id k
  exact WL_alike (orb_alike o h m8 n1 n8) (fun q hq => (hf.rows q hq).1) (fun q hq => (kf.rows q hq).1)
/-- in_order tells any hall led to by exchanges -/
theorem io_tells (o : Orb m H K) (h : Hw m n H) (m1 : 1 ≤ m) (m8 : m ≤ 8) (n1 : 1 ≤ n) (n8 : n ≤ 8) : Bb.f_in_order [.d (hallP H), .d (rowP (sumsL K))] = .ok (.d (hallP K), [.hole, .hole]) := by
  obtain ⟨T, e, oT, sT⟩ := in_order (wl := sumsL K) h m1 m8 n1 n8 (o.perm h m8 n1 n8).symm
  rw [oT.one o h m8 n1 n8 fun p _ => by rw [← sums_get, ← sums_get, sT]] at e
  exact e
theorem sl_butlast {f : List Int → PyData} {xs : List (List Int)} (h : xs ≠ []) : Ev.slV (.tuple (xs.map f)) none (some (-1)) = some (.d (.tuple ((xs.take (xs.length - 1)).map f))) := by
  have hl := List.length_pos_iff.mpr h
  have e : cutA (xs.map f) none (some (-1)) = (xs.take (xs.length - 1)).map f := by
    unfold cutA HT.sIx
    simp only [List.length_map, List.drop_zero, Nat.sub_zero]
    rw [← List.map_take]
    congr 2
    simp
    omega
  show some (OT.d (.tuple (cutA (xs.map f) none (some (-1))))) = _
  rw [e]
def cB : DS := (dSq (dSet 2 (eCl 2 Cq.f__law_bag (aCons (eCl 2 Cb.f__law_cell_at (aCons (eVar 0) (aCons (eVar 1) aNil))) (aCons (eVar 1) aNil)))) (dSq (dSet 3 (eOp2 fAdd (eD (.int 1)) (eClB 2 Cq.f__law_take 2 (aCons (eD (.int 8)) aNil)))) (dSq (dSet 4 (eClB 3 Cq.f__law_hall 2 (aCons (eVar 3) (aCons (eOp2 fAdd (eD (.int 1)) (eClB 2 Cq.f__law_take 2 (aCons (eD (.int 8)) aNil))) aNil)))) (dSq (dIf (tAn (tV (eOp2 fGt (eVar 3) (eD (.int 2)))) (tV (eOp2 fEq (eClB 2 Cq.f__law_take 2 (aCons (eD (.int 3)) aNil)) (eD (.int 0))))) (dSet 4 (eCat (eSl (eVar 4) pNo (pSm (eNeg (eD (.int 1))))) (eTup (aCons (eRv (eIx (eVar 4) (eD (.int 0)))) aNil)))) dNx) (dSq (dSet 5 (eTp (eLc [10] (iSq (eVar 4)) (gNm 10) tYs (eCb fSumA (aCons (eVar 10) aNil))))) (dSq (dIf (tNt (tV (eCl 2 (Cq.f__law_alike 6) (aCons (eCl 2 Bb.f_in_order (aCons (eVar 4) (aCons (eVar 5) aNil))) (aCons (eVar 4) aNil))))) (dRt (eD (.bool false))) dNx) (dSq (dSet 6 (eVar 4)) (dSq (dFor (iR1 (aCons (eClB 2 Cq.f__law_take 2 (aCons (eD (.int 31)) aNil)) aNil)) (gNm 7) (dIf (tV (eOp2 fGt (eVar 3) (eD (.int 1)))) (dSet 6 (eCl 2 Cq.f_exchanged (aCons (eVar 6) (aCons (eClB 2 Cq.f__law_take 2 (aCons (eOp2 fSub (eVar 3) (eD (.int 1))) aNil)) aNil)))) dNx)) (dSq (dSet 8 (eTp (eLc [10] (iSq (eVar 6)) (gNm 10) tYs (eCb fSumA (aCons (eVar 10) aNil))))) (dSq (dIf (tOr' (tV (eOp2 fNe (eSrtT (eVar 8)) (eSrtT (eVar 5)))) (tNt (tV (eCl 2 (Cq.f__law_alike 6) (aCons (eCl 2 Bb.f_in_order (aCons (eVar 4) (aCons (eVar 8) aNil))) (aCons (eVar 6) aNil)))))) (dRt (eD (.bool false))) dNx) (dSq (dIf (tOr' (tNt (tV (eCl 2 (Cq.f__law_alike 6) (aCons (eCl 2 Bb.f_in_order (aCons (eVar 6) (aCons (eVar 5) aNil))) (aCons (eVar 4) aNil))))) (tV (eOp2 fNe (eCl 1 Cq.f__law_worths (aCons (eVar 6) aNil)) (eCl 1 Cq.f__law_worths (aCons (eVar 4) aNil))))) (dRt (eD (.bool false))) dNx) (dSq (dSet 9 (eTp (eSrtT (eVar 5)))) (dSq (dIf (tNt (tV (eCl 2 (Cq.f__law_alike 6) (aCons (eCl 2 Bb.f_in_order (aCons (eVar 6) (aCons (eVar 9) aNil))) (aCons (eCl 2 Bb.f_in_order (aCons (eVar 4) (aCons (eVar 9) aNil))) aNil))))) (dRt (eD (.bool false))) dNx) (dIf (tNt (tV (eCl 2 (Cq.f__law_alike 6) (aCons (eCl 1 Cq.f_totals (aCons (eCl 2 Bb.f_in_order (aCons (eVar 6) (aCons (eVar 9) aNil))) aNil)) (aCons (eVar 9) aNil))))) (dRt (eD (.bool false))) dNx))))))))))))))
theorem walk {v : Int} {s7 s8 s9 : Slot} {o0 o1 : OT} (h : Hw m n H) (m1 : 1 ≤ m) (m8 : m ≤ 8) (n1 : 1 ≤ n) (n8 : n ≤ 8) (n7 : np s7 = true) (w0 : QOk 400 o0) (e1 : f__law_take [o0, I 31] = .ok (I v, [o1, .hole])) (v0 : 0 ≤ v) (v1 : v < 31) (w1 : QOk 401 o1) :
    ∃ (N : List (List Int)) (s7' : Slot) (o2 : OT), (dFor (iR1 (aCons (eClB 2 Cq.f__law_take 2 (aCons (eD (.int 31)) aNil)) aNil)) (gNm 7) (dIf (tV (eOp2 fGt (eVar 3) (eD (.int 1)))) (dSet 6 (eCl 2 Cq.f_exchanged (aCons (eVar 6) (aCons (eClB 2 Cq.f__law_take 2 (aCons (eOp2 fSub (eVar 3) (eD (.int 1))) aNil)) aNil)))) dNx)) [.v (.d (.list (ns.map .int))), .v (I (k : Int)), .v o0, .v (I (m : Int)), .v (.d (hallP H)), .v (.d (rowP (sumsL H))), .v (.d (hallP H)), s7, s8, s9, .un] = .ok (.nx, [.v (.d (.list (ns.map .int))), .v (I (k : Int)), .v o2, .v (I (m : Int)), .v (.d (hallP H)), .v (.d (rowP (sumsL H))), .v (.d (hallP N)), s7', s8, s9, .un]) ∧ np s7' = true ∧ Orb m H N ∧ QOk 500 o2 := by
  obtain ⟨t, rfl⟩ : ∃ t : Nat, (t : Int) = v := ⟨v.toNat, by omega⟩
  have nf := w0.noFr
  obtain ⟨e', h2, N, s7', o2, rfl, q7, oN, w2⟩ := forR (g := gNm 7) (body := (dIf (tV (eOp2 fGt (eVar 3) (eD (.int 1)))) (dSet 6 (eCl 2 Cq.f_exchanged (aCons (eVar 6) (aCons (eClB 2 Cq.f__law_take 2 (aCons (eOp2 fSub (eVar 3) (eD (.int 1))) aNil)) aNil)))) dNx)) (en := [.v (.d (.list (ns.map .int))), .v (I (k : Int)), .v o1, .v (I (m : Int)), .v (.d (hallP H)), .v (.d (rowP (sumsL H))), .v (.d (hallP H)), s7, s8, s9, .un])
    (fun i e => ∃ (N : List (List Int)) (s7' : Slot) (o2 : OT), e = [.v (.d (.list (ns.map .int))), .v (I (k : Int)), .v o2, .v (I (m : Int)), .v (.d (hallP H)), .v (.d (rowP (sumsL H))), .v (.d (hallP N)), s7', s8, s9, .un] ∧ np s7' = true ∧ Orb m H N ∧ QOk (401 + i) o2) t
    ⟨H, s7, o1, rfl, n7, .nil, w1.mono (by omega)⟩ (by
      rintro i e hi ⟨N, s7', o2, rfl, q7, oN, w2⟩
      by_cases g : 1 < (m : Int)
      · obtain ⟨x, o3, e3, x0, x1, w3⟩ := take4 (size := (m : Int) - 1) w2 (by omega) (by omega) (by omega)
        obtain ⟨c, rfl⟩ : ∃ c : Nat, (c : Int) = x := ⟨x.toNat, by omega⟩
        have hN := oN.hw h m8 n1 n8
        have hc : c + 1 < m := by omega
        obtain ⟨W, hW, hl⟩ := hN.hl m8 n1 n8 hc
        have nf2 := w2.noFr
        refine ⟨[.v (.d (.list (ns.map .int))), .v (I (k : Int)), .v o2, .v (I (m : Int)), .v (.d (hallP H)), .v (.d (rowP (sumsL H))), .v (.d (hallP N)), .v (I (i : Int)), s8, s9, .un], [.v (.d (.list (ns.map .int))), .v (I (k : Int)), .v o3, .v (I (m : Int)), .v (.d (hallP H)), .v (.d (rowP (sumsL H))), .v (.d (hallP (exL N c))), .v (I (i : Int)), s8, s9, .un], by simp [gNm, stor_eq, q7], Ev.difY (Ev.tv (b := true) (Ev.op2 (Ev.var rfl) Ev.d_ rfl rfl (gt_yes g))) (Ev.set_ (Ev.cl (o := .d (hallP (exL N c))) (Ev.cons_ (Ev.var rfl) (Ev.cons_ (Ev.clB (b := false) (q := o2) (p := o2) (o := I (c : Int)) rfl (Ev.cons_ (Ev.op2 (z := .int ((m : Int) - 1)) (Ev.var rfl) Ev.d_ rfl rfl rfl) Ev.nil_) rfl rfl (by simp [noFrs, nf2, noFr]) e3 rfl) Ev.nil_)) rfl rfl (exchanged hl hW hc)) rfl), exL N c, _, o3, rfl, rfl, .snoc oN hc, w3.mono (by push_cast; omega)⟩
      · exact ⟨[.v (.d (.list (ns.map .int))), .v (I (k : Int)), .v o2, .v (I (m : Int)), .v (.d (hallP H)), .v (.d (rowP (sumsL H))), .v (.d (hallP N)), .v (I (i : Int)), s8, s9, .un], _, by simp [gNm, stor_eq, q7], Ev.difN (Ev.tv (b := false) (Ev.op2 (Ev.var rfl) Ev.d_ rfl rfl (gt_no (by omega)))) Ev.nx_, N, _, o2, rfl, rfl, oN, w2.mono (by push_cast; omega)⟩)
  exact ⟨N, s7', o2, Ev.forN (n := t) (Ev.cons_ (Ev.clB (b := false) (q := o0) (p := o0) (o := I (t : Int)) rfl (Ev.cons_ Ev.d_ Ev.nil_) rfl rfl (by simp [noFrs, nf, noFr]) e1 rfl) Ev.nil_) (by omega) h2, q7, oN, w2.mono (by omega)⟩
theorem rest {s5 s6 s7 s8 s9 : Slot} {o0 : OT} (h : Hw m n H) (m1 : 1 ≤ m) (m8 : m ≤ 8) (n1 : 1 ≤ n) (n8 : n ≤ 8) (w0 : QOk 400 o0) (n5 : np s5 = true) (n6 : np s6 = true) (n7 : np s7 = true) (q8 : np s8 = true) (n9 : np s9 = true) :
    ∃ u2 u5 u6 u7 u8 u9, (dSq ((dSet 5 (eTp (eLc [10] (iSq (eVar 4)) (gNm 10) tYs (eCb fSumA (aCons (eVar 10) aNil)))))) (dSq ((dIf (tNt (tV (eCl 2 (Cq.f__law_alike 6) (aCons (eCl 2 Bb.f_in_order (aCons (eVar 4) (aCons (eVar 5) aNil))) (aCons (eVar 4) aNil))))) (dRt (eD (.bool false))) dNx)) (dSq ((dSet 6 (eVar 4))) (dSq ((dFor (iR1 (aCons (eClB 2 Cq.f__law_take 2 (aCons (eD (.int 31)) aNil)) aNil)) (gNm 7) (dIf (tV (eOp2 fGt (eVar 3) (eD (.int 1)))) (dSet 6 (eCl 2 Cq.f_exchanged (aCons (eVar 6) (aCons (eClB 2 Cq.f__law_take 2 (aCons (eOp2 fSub (eVar 3) (eD (.int 1))) aNil)) aNil)))) dNx))) (dSq ((dSet 8 (eTp (eLc [10] (iSq (eVar 6)) (gNm 10) tYs (eCb fSumA (aCons (eVar 10) aNil)))))) (dSq ((dIf (tOr' (tV (eOp2 fNe (eSrtT (eVar 8)) (eSrtT (eVar 5)))) (tNt (tV (eCl 2 (Cq.f__law_alike 6) (aCons (eCl 2 Bb.f_in_order (aCons (eVar 4) (aCons (eVar 8) aNil))) (aCons (eVar 6) aNil)))))) (dRt (eD (.bool false))) dNx)) (dSq ((dIf (tOr' (tNt (tV (eCl 2 (Cq.f__law_alike 6) (aCons (eCl 2 Bb.f_in_order (aCons (eVar 6) (aCons (eVar 5) aNil))) (aCons (eVar 4) aNil))))) (tV (eOp2 fNe (eCl 1 Cq.f__law_worths (aCons (eVar 6) aNil)) (eCl 1 Cq.f__law_worths (aCons (eVar 4) aNil))))) (dRt (eD (.bool false))) dNx)) (dSq ((dSet 9 (eTp (eSrtT (eVar 5))))) (dSq ((dIf (tNt (tV (eCl 2 (Cq.f__law_alike 6) (aCons (eCl 2 Bb.f_in_order (aCons (eVar 6) (aCons (eVar 9) aNil))) (aCons (eCl 2 Bb.f_in_order (aCons (eVar 4) (aCons (eVar 9) aNil))) aNil))))) (dRt (eD (.bool false))) dNx)) ((dIf (tNt (tV (eCl 2 (Cq.f__law_alike 6) (aCons (eCl 1 Cq.f_totals (aCons (eCl 2 Bb.f_in_order (aCons (eVar 6) (aCons (eVar 9) aNil))) aNil)) (aCons (eVar 9) aNil))))) (dRt (eD (.bool false))) dNx))))))))))) [.v (.d (.list (ns.map .int))), .v (I (k : Int)), .v o0, .v (I (m : Int)), .v (.d (hallP H)), s5, s6, s7, s8, s9, .un] = .ok (.nx, [.v (.d (.list (ns.map .int))), .v (I (k : Int)), u2, .v (I (m : Int)), .v (.d (hallP H)), u5, u6, u7, u8, u9, .un]) ∧ np u2 = true ∧ np u5 = true ∧ np u6 = true ∧ np u7 = true ∧ np u8 = true ∧ np u9 = true := by
  obtain ⟨W, hok⟩ := Hw.hok h m1 m8 n1 n8
  have hl := h.len
  obtain ⟨v, o1, e1, v0, v1, w1⟩ := take4 (size := 31) w0 (by omega) (by decide) (by decide)
  obtain ⟨N, s7', o2, b7, n7', oN, w2⟩ := walk (ns := ns) (k := k) (s7 := s7) (s8 := s8) (s9 := s9) h m1 m8 n1 n8 n7 w0 e1 v0 v1 w1
  have hN := oN.hw h m8 n1 n8
  obtain ⟨W', nok⟩ := Hw.hok hN m1 m8 n1 n8
  have nl := hN.len
  have oH := oN.symm h m8 n1 n8
  have pS := oN.perm h m8 n1 n8
  have i1 := io_tells (.nil (H := H)) h m1 m8 n1 n8
  have i2 := io_tells oN h m1 m8 n1 n8
  have i3 := io_tells oH hN m1 m8 n1 n8
  obtain ⟨R, i4, oR, sR⟩ := in_order (wl := sortI (sumsL H)) h m1 m8 n1 n8 (@sortI_perm (⟨[]⟩ : Tabs) _).symm
  have i5 := io_tells (oH.trans oR) hN m1 m8 n1 n8
  rw [sR] at i5
  have hR := oR.hw h m8 n1 n8
  obtain ⟨W2, rok⟩ := Hw.hok hR m1 m8 n1 n8
  have tR := totals rok
  rw [sR] at tR
  have ws := worths_same oN h m8 n1 n8
  have b4 : (dSet 5 (eTp (eLc [10] (iSq (eVar 4)) (gNm 10) tYs (eCb fSumA (aCons (eVar 10) aNil))))) [.v (.d (.list (ns.map .int))), .v (I (k : Int)), .v o0, .v (I (m : Int)), .v (.d (hallP H)), s5, s6, s7, s8, s9, .un] = .ok (.nx, [.v (.d (.list (ns.map .int))), .v (I (k : Int)), .v o0, .v (I (m : Int)), .v (.d (hallP H)), .v (.d (rowP (sumsL H))), s6, s7, s8, s9, .un]) := Ev.set_ (Ev.tp (o := OW (sumsL H)) (xs := (sumsL H).map .int) (Ev.lcm (item := fun q : List Int => rowP q) (fun q => I q.sum) H (Ev.iSq_ (xs := H.map rowP) (Ev.var rfl) rfl) rfl (by omega) (fun q hq => ⟨[.v (.d (.list (ns.map .int))), .v (I (k : Int)), .v o0, .v (I (m : Int)), .v (.d (hallP H)), s5, s6, s7, s8, s9, .v (.d (rowP q))], _, rfl, Ev.cb (z := .int q.sum) (Ev.cons_ (Ev.var rfl) Ev.nil_) rfl sumA_T, rfl⟩) (by unfold sumsL; rw [List.map_map]; rfl)) (frz_I _)) (Ev.stor_np rfl n5 rfl)
  have b5 : (dIf (tNt (tV (eCl 2 (Cq.f__law_alike 6) (aCons (eCl 2 Bb.f_in_order (aCons (eVar 4) (aCons (eVar 5) aNil))) (aCons (eVar 4) aNil))))) (dRt (eD (.bool false))) dNx) [.v (.d (.list (ns.map .int))), .v (I (k : Int)), .v o0, .v (I (m : Int)), .v (.d (hallP H)), .v (.d (rowP (sumsL H))), s6, s7, s8, s9, .un] = .ok (.nx, [.v (.d (.list (ns.map .int))), .v (I (k : Int)), .v o0, .v (I (m : Int)), .v (.d (hallP H)), .v (.d (rowP (sumsL H))), s6, s7, s8, s9, .un]) := Ev.difN (Ev.nt (b := true) (Ev.tv (b := true) (Ev.cl (Ev.cons_ (Ev.cl (Ev.cons_ (Ev.var rfl) (Ev.cons_ (Ev.var rfl) Ev.nil_)) rfl rfl i1) (Ev.cons_ (Ev.var rfl) Ev.nil_)) rfl rfl (alike_h (d := 3) h m8 n8)))) Ev.nx_
  have b6 : (dSet 6 (eVar 4)) [.v (.d (.list (ns.map .int))), .v (I (k : Int)), .v o0, .v (I (m : Int)), .v (.d (hallP H)), .v (.d (rowP (sumsL H))), s6, s7, s8, s9, .un] = .ok (.nx, [.v (.d (.list (ns.map .int))), .v (I (k : Int)), .v o0, .v (I (m : Int)), .v (.d (hallP H)), .v (.d (rowP (sumsL H))), .v (.d (hallP H)), s7, s8, s9, .un]) := Ev.set_ (Ev.var rfl) (Ev.stor_np rfl n6 rfl)
  have b8 : (dSet 8 (eTp (eLc [10] (iSq (eVar 6)) (gNm 10) tYs (eCb fSumA (aCons (eVar 10) aNil))))) [.v (.d (.list (ns.map .int))), .v (I (k : Int)), .v o2, .v (I (m : Int)), .v (.d (hallP H)), .v (.d (rowP (sumsL H))), .v (.d (hallP N)), s7', s8, s9, .un] = .ok (.nx, [.v (.d (.list (ns.map .int))), .v (I (k : Int)), .v o2, .v (I (m : Int)), .v (.d (hallP H)), .v (.d (rowP (sumsL H))), .v (.d (hallP N)), s7', .v (.d (rowP (sumsL N))), s9, .un]) := Ev.set_ (Ev.tp (o := OW (sumsL N)) (xs := (sumsL N).map .int) (Ev.lcm (item := fun q : List Int => rowP q) (fun q => I q.sum) N (Ev.iSq_ (xs := N.map rowP) (Ev.var rfl) rfl) rfl (by omega) (fun q hq => ⟨[.v (.d (.list (ns.map .int))), .v (I (k : Int)), .v o2, .v (I (m : Int)), .v (.d (hallP H)), .v (.d (rowP (sumsL H))), .v (.d (hallP N)), s7', s8, s9, .v (.d (rowP q))], _, rfl, Ev.cb (z := .int q.sum) (Ev.cons_ (Ev.var rfl) Ev.nil_) rfl sumA_T, rfl⟩) (by unfold sumsL; rw [List.map_map]; rfl)) (frz_I _)) (Ev.stor_np rfl q8 rfl)
  have b9 : (dIf (tOr' (tV (eOp2 fNe (eSrtT (eVar 8)) (eSrtT (eVar 5)))) (tNt (tV (eCl 2 (Cq.f__law_alike 6) (aCons (eCl 2 Bb.f_in_order (aCons (eVar 4) (aCons (eVar 8) aNil))) (aCons (eVar 6) aNil)))))) (dRt (eD (.bool false))) dNx) [.v (.d (.list (ns.map .int))), .v (I (k : Int)), .v o2, .v (I (m : Int)), .v (.d (hallP H)), .v (.d (rowP (sumsL H))), .v (.d (hallP N)), s7', .v (.d (rowP (sumsL N))), s9, .un] = .ok (.nx, [.v (.d (.list (ns.map .int))), .v (I (k : Int)), .v o2, .v (I (m : Int)), .v (.d (hallP H)), .v (.d (rowP (sumsL H))), .v (.d (hallP N)), s7', .v (.d (rowP (sumsL N))), s9, .un]) := Ev.difN (Ev.orN (Ev.tv (b := false) (Ev.op2 (Ev.srtT (ns := sumsL N) (Ev.var rfl) rfl) (Ev.srtT (ns := sumsL H) (Ev.var rfl) rfl) (Ev.frz_own (frzs_I _)) (Ev.frz_own (frzs_I _)) (by rw [sort_eq pS]; exact sh_ne sh_day (by omega)))) (Ev.nt (b := true) (Ev.tv (b := true) (Ev.cl (Ev.cons_ (Ev.cl (Ev.cons_ (Ev.var rfl) (Ev.cons_ (Ev.var rfl) Ev.nil_)) rfl rfl i2) (Ev.cons_ (Ev.var rfl) Ev.nil_)) rfl rfl (alike_h (d := 3) hN m8 n8))))) Ev.nx_
  have b10 : (dIf (tOr' (tNt (tV (eCl 2 (Cq.f__law_alike 6) (aCons (eCl 2 Bb.f_in_order (aCons (eVar 6) (aCons (eVar 5) aNil))) (aCons (eVar 4) aNil))))) (tV (eOp2 fNe (eCl 1 Cq.f__law_worths (aCons (eVar 6) aNil)) (eCl 1 Cq.f__law_worths (aCons (eVar 4) aNil))))) (dRt (eD (.bool false))) dNx) [.v (.d (.list (ns.map .int))), .v (I (k : Int)), .v o2, .v (I (m : Int)), .v (.d (hallP H)), .v (.d (rowP (sumsL H))), .v (.d (hallP N)), s7', .v (.d (rowP (sumsL N))), s9, .un] = .ok (.nx, [.v (.d (.list (ns.map .int))), .v (I (k : Int)), .v o2, .v (I (m : Int)), .v (.d (hallP H)), .v (.d (rowP (sumsL H))), .v (.d (hallP N)), s7', .v (.d (rowP (sumsL N))), s9, .un]) := Ev.difN (Ev.orN (Ev.nt (b := true) (Ev.tv (b := true) (Ev.cl (Ev.cons_ (Ev.cl (Ev.cons_ (Ev.var rfl) (Ev.cons_ (Ev.var rfl) Ev.nil_)) rfl rfl i3) (Ev.cons_ (Ev.var rfl) Ev.nil_)) rfl rfl (alike_h (d := 3) h m8 n8)))) (Ev.tv (b := false) (Ev.op2 (Ev.cl (Ev.cons_ (Ev.var rfl) Ev.nil_) rfl rfl (law_worths nok)) (Ev.cl (Ev.cons_ (Ev.var rfl) Ev.nil_) rfl rfl (law_worths hok)) (Ev.frz_own (frzs_OW _)) (Ev.frz_own (frzs_OW _)) (ne_LL ws)))) Ev.nx_
  have b11 : (dSet 9 (eTp (eSrtT (eVar 5)))) [.v (.d (.list (ns.map .int))), .v (I (k : Int)), .v o2, .v (I (m : Int)), .v (.d (hallP H)), .v (.d (rowP (sumsL H))), .v (.d (hallP N)), s7', .v (.d (rowP (sumsL N))), s9, .un] = .ok (.nx, [.v (.d (.list (ns.map .int))), .v (I (k : Int)), .v o2, .v (I (m : Int)), .v (.d (hallP H)), .v (.d (rowP (sumsL H))), .v (.d (hallP N)), s7', .v (.d (rowP (sumsL N))), .v (.d (rowP (sortI (sumsL H)))), .un]) := Ev.set_ (Ev.tp (o := OW (sortI (sumsL H))) (xs := (sortI (sumsL H)).map .int) (Ev.srtT (ns := sumsL H) (Ev.var rfl) rfl) (frz_I _)) (Ev.stor_np rfl n9 rfl)
  have E12 : (dIf (tNt (tV (eCl 2 (Cq.f__law_alike 6) (aCons (eCl 2 Bb.f_in_order (aCons (eVar 6) (aCons (eVar 9) aNil))) (aCons (eCl 2 Bb.f_in_order (aCons (eVar 4) (aCons (eVar 9) aNil))) aNil))))) (dRt (eD (.bool false))) dNx) [.v (.d (.list (ns.map .int))), .v (I (k : Int)), .v o2, .v (I (m : Int)), .v (.d (hallP H)), .v (.d (rowP (sumsL H))), .v (.d (hallP N)), s7', .v (.d (rowP (sumsL N))), .v (.d (rowP (sortI (sumsL H)))), .un] = .ok (.nx, [.v (.d (.list (ns.map .int))), .v (I (k : Int)), .v o2, .v (I (m : Int)), .v (.d (hallP H)), .v (.d (rowP (sumsL H))), .v (.d (hallP N)), s7', .v (.d (rowP (sumsL N))), .v (.d (rowP (sortI (sumsL H)))), .un]) := Ev.difN (Ev.nt (b := true) (Ev.tv (b := true) (Ev.cl (Ev.cons_ (Ev.cl (Ev.cons_ (Ev.var rfl) (Ev.cons_ (Ev.var rfl) Ev.nil_)) rfl rfl i5) (Ev.cons_ (Ev.cl (Ev.cons_ (Ev.var rfl) (Ev.cons_ (Ev.var rfl) Ev.nil_)) rfl rfl i4) Ev.nil_)) rfl rfl (alike_h (d := 3) hR m8 n8)))) Ev.nx_
  have E13 : (dIf (tNt (tV (eCl 2 (Cq.f__law_alike 6) (aCons (eCl 1 Cq.f_totals (aCons (eCl 2 Bb.f_in_order (aCons (eVar 6) (aCons (eVar 9) aNil))) aNil)) (aCons (eVar 9) aNil))))) (dRt (eD (.bool false))) dNx) [.v (.d (.list (ns.map .int))), .v (I (k : Int)), .v o2, .v (I (m : Int)), .v (.d (hallP H)), .v (.d (rowP (sumsL H))), .v (.d (hallP N)), s7', .v (.d (rowP (sumsL N))), .v (.d (rowP (sortI (sumsL H)))), .un] = .ok (.nx, [.v (.d (.list (ns.map .int))), .v (I (k : Int)), .v o2, .v (I (m : Int)), .v (.d (hallP H)), .v (.d (rowP (sumsL H))), .v (.d (hallP N)), s7', .v (.d (rowP (sumsL N))), .v (.d (rowP (sortI (sumsL H)))), .un]) := Ev.difN (Ev.nt (b := true) (Ev.tv (b := true) (Ev.cl (Ev.cons_ (Ev.cl (Ev.cons_ (Ev.cl (Ev.cons_ (Ev.var rfl) (Ev.cons_ (Ev.var rfl) Ev.nil_)) rfl rfl i5) Ev.nil_) rfl rfl tR) (Ev.cons_ (Ev.var rfl) Ev.nil_)) rfl rfl (alike4 5 _ (okI_row (d := 4) (q := sortI (sumsL H)) (by rw [(@sortI_perm (⟨[]⟩ : Tabs) _).length_eq, sums_len]; omega)))))) Ev.nx_
  exact ⟨_, _, _, _, _, _, Ev.sq b4 (Ev.sq b5 (Ev.sq b6 (Ev.sq b7 (Ev.sq b8 (Ev.sq b9 (Ev.sq b10 (Ev.sq b11 (Ev.sq E12 E13)))))))), rfl, rfl, rfl, n7', rfl, rfl⟩
end
end K21
end
section
set_option Elab.async false
set_option linter.all false
set_option maxRecDepth 100000
set_option maxHeartbeats 2000000
namespace K21
open PySem PySem.Spec L2 Lf Cp Pl
open Cq (f__law_take f__law_bag f__law_hall)
section
variable {m n c k f : Nat} {W W' M T : Int} {A B F G H K N : List (List Int)} {r s : List Int} {ns : List Int}
theorem turned {s5 s6 s7 s8 s9 : Slot} {o0 : OT} (hl : H.length = m) (hr : ∀ r ∈ H, ROk n (10 ^ 12) r) (m1 : 1 ≤ m) (m8 : m ≤ 8) (w0 : QOk 302 o0) :
    ∃ (K : List (List Int)) (o1 : OT), (dIf (tAn (tV (eOp2 fGt (eVar 3) (eD (.int 2)))) (tV (eOp2 fEq (eClB 2 Cq.f__law_take 2 (aCons (eD (.int 3)) aNil)) (eD (.int 0))))) (dSet 4 (eCat (eSl (eVar 4) pNo (pSm (eNeg (eD (.int 1))))) (eTup (aCons (eRv (eIx (eVar 4) (eD (.int 0)))) aNil)))) dNx) [.v (.d (.list (ns.map .int))), .v (I (k : Int)), .v o0, .v (I (m : Int)), .v (.d (hallP H)), s5, s6, s7, s8, s9, .un] = .ok (.nx, [.v (.d (.list (ns.map .int))), .v (I (k : Int)), .v o1, .v (I (m : Int)), .v (.d (hallP K)), s5, s6, s7, s8, s9, .un]) ∧ K.length = m ∧ (∀ r ∈ K, ROk n (10 ^ 12) r) ∧ QOk 400 o1 := by
  by_cases g : 2 < (m : Int)
  · obtain ⟨v, o1, e1, v0, v1, w1⟩ := take4 (size := 3) w0 (by omega) (by decide) (by decide)
    have nf := w0.noFr
    have c1 : tV (eOp2 fGt (eVar 3) (eD (.int 2))) [.v (.d (.list (ns.map .int))), .v (I (k : Int)), .v o0, .v (I (m : Int)), .v (.d (hallP H)), s5, s6, s7, s8, s9, .un] = .ok (true, [.v (.d (.list (ns.map .int))), .v (I (k : Int)), .v o0, .v (I (m : Int)), .v (.d (hallP H)), s5, s6, s7, s8, s9, .un]) := Ev.tv (b := true) (Ev.op2 (Ev.var rfl) Ev.d_ rfl rfl (gt_yes g))
    by_cases z : v = 0
    · have ne : H ≠ [] := fun y => by rw [y] at hl; simp at hl; omega
      have at0 : Ev.ixV (.d (hallP H)) 0 = some (.d (rowP (H.getD 0 []))) := Ev.ixVt (atI_getD (f := rowP) (d := []) (i := 0) (List.length_pos_iff.mpr ne))
      have rv : eRv (eIx (eVar 4) (eD (.int 0))) [.v (.d (.list (ns.map .int))), .v (I (k : Int)), .v o1, .v (I (m : Int)), .v (.d (hallP H)), s5, s6, s7, s8, s9, .un] = .ok (.d (rowP (H.getD 0 []).reverse), [.v (.d (.list (ns.map .int))), .v (I (k : Int)), .v o1, .v (I (m : Int)), .v (.d (hallP H)), s5, s6, s7, s8, s9, .un]) := Ev.rvT (xs := (H.getD 0 []).map .int) (Ev.ix (Ev.var rfl) Ev.d_ at0) rfl (by rw [← List.map_reverse])
      have ct : Ev.catV (.tuple ((H.take (H.length - 1)).map rowP)) (.tuple [rowP (H.getD 0 []).reverse]) = some (.d (hallP (H.take (H.length - 1) ++ [(H.getD 0 []).reverse]))) := catT (f := rowP) (xs := H.take (H.length - 1)) (ys := [(H.getD 0 []).reverse]) (by simp; omega)
      refine ⟨(H.take (H.length - 1) ++ [(H.getD 0 []).reverse]), o1, Ev.difY (Ev.anY c1 (Ev.tv (b := true) (Ev.op2 (Ev.clB (b := false) (q := o0) (p := o0) (o := I v) rfl (Ev.cons_ Ev.d_ Ev.nil_) rfl rfl (by simp [noFrs, nf, noFr]) e1 rfl) Ev.d_ rfl rfl (eq_yes z)))) (Ev.set_ (Ev.cat (Ev.sl_ (o := .d (hallP (H.take (H.length - 1)))) (Ev.var rfl) Ev.pno (Ev.psm (Ev.neg Ev.d_)) rfl (sl_butlast ne)) (Ev.tup (os := [.d (rowP (H.getD 0 []).reverse)]) (Ev.cons_ rv Ev.nil_) rfl rfl) rfl rfl ct) rfl), by simp; omega, fun r hrr => ?_, w1.mono (by omega)⟩
      rcases List.mem_append.mp hrr with y | y
      · exact hr r (List.mem_of_mem_take y)
      · rw [List.mem_singleton] at y
        subst y
        have q := hr (H.getD 0 []) (by rw [List.getD_eq_getElem?_getD, List.getElem?_eq_getElem (List.length_pos_iff.mpr ne)]; exact List.getElem_mem _)
        exact ⟨by rw [List.length_reverse]; exact q.1, fun x hx => q.2 x (List.mem_reverse.mp hx)⟩
    · exact ⟨H, o1, Ev.difN (Ev.anY c1 (Ev.tv (b := false) (Ev.op2 (Ev.clB (b := false) (q := o0) (p := o0) (o := I v) rfl (Ev.cons_ Ev.d_ Ev.nil_) rfl rfl (by simp [noFrs, nf, noFr]) e1 rfl) Ev.d_ rfl rfl (eq_no z)))) Ev.nx_, hl, hr, w1.mono (by omega)⟩
  · exact ⟨H, o0, Ev.difN (Ev.anN (Ev.tv (b := false) (Ev.op2 (Ev.var rfl) Ev.d_ rfl rfl (gt_no (by omega))))) Ev.nx_, hl, hr, w0.mono (by omega)⟩
theorem c_step {s2 s3 s4 s5 s6 s7 s8 s9 : Slot} (hk : k ≤ 4) (n2 : np s2 = true) (n3 : np s3 = true) (n4 : np s4 = true) (n5 : np s5 = true) (n6 : np s6 = true) (n7 : np s7 = true) (q8 : np s8 = true) (n9 : np s9 = true) :
    ∃ u2 u3 u4 u5 u6 u7 u8 u9, cB [.v (.d (.list (ns.map .int))), .v (I (k : Int)), s2, s3, s4, s5, s6, s7, s8, s9, .un] = .ok (.nx, [.v (.d (.list (ns.map .int))), .v (I (k : Int)), u2, u3, u4, u5, u6, u7, u8, u9, .un]) ∧ np u2 = true ∧ np u3 = true ∧ np u4 = true ∧ np u5 = true ∧ np u6 = true ∧ np u7 = true ∧ np u8 = true ∧ np u9 = true := by
  obtain ⟨o0, e0, w0⟩ := bag4 (cell := ns.getD k 0) (k := k) (by omega)
  obtain ⟨v1, o1, e1, a1, c1, w1⟩ := take4 (size := 8) w0 (by omega) (by decide) (by decide)
  obtain ⟨v2, o2, e2, a2, c2, w2⟩ := take4 (size := 8) w1 (by omega) (by decide) (by decide)
  obtain ⟨m, hm⟩ : ∃ m : Nat, (m : Int) = 1 + v1 := ⟨(1 + v1).toNat, by omega⟩
  obtain ⟨n, hn⟩ : ∃ n : Nat, (n : Int) = 1 + v2 := ⟨(1 + v2).toNat, by omega⟩
  have m1 : 1 ≤ m := by omega
  have m8 : m ≤ 8 := by omega
  have n1 : 1 ≤ n := by omega
  have n8 : n ≤ 8 := by omega
  obtain ⟨o3, rs, e3, hl, hr, w3⟩ := hall4 (m := m) (n := n) w2 (by omega) m8 n8
  rw [hn] at e3
  obtain ⟨H, o4, b3, hl, hr, w4⟩ := turned (ns := ns) (k := k) (s5 := s5) (s6 := s6) (s7 := s7) (s8 := s8) (s9 := s9) hl hr m1 m8 (w3.mono (by omega))
  have h : Hw m n H := ⟨10 * 10 ^ 12, by decide, few_of hl (by decide) m8 hr⟩
  obtain ⟨u2, u5, u6, u7, u8, u9, b4, p2, p5, p6, p7, p8, p9⟩ := rest (ns := ns) (k := k) h m1 m8 n1 n8 w4 n5 n6 n7 q8 n9
  have f0 := w0.noFr
  have f1 := w1.noFr
  have f2 := w2.noFr
  have b0 : (dSet 2 (eCl 2 Cq.f__law_bag (aCons (eCl 2 Cb.f__law_cell_at (aCons (eVar 0) (aCons (eVar 1) aNil))) (aCons (eVar 1) aNil)))) [.v (.d (.list (ns.map .int))), .v (I (k : Int)), s2, s3, s4, s5, s6, s7, s8, s9, .un] = .ok (.nx, [.v (.d (.list (ns.map .int))), .v (I (k : Int)), .v o0, s3, s4, s5, s6, s7, s8, s9, .un]) := Ev.set_ (Ev.cl (Ev.cons_ (Ev.cl (Ev.cons_ (Ev.var rfl) (Ev.cons_ (Ev.var rfl) Ev.nil_)) rfl rfl (cell_at (ns := ns) (k := k))) (Ev.cons_ (Ev.var rfl) Ev.nil_)) rfl rfl e0) (Ev.stor_np rfl n2 rfl)
  have b1 : (dSet 3 (eOp2 fAdd (eD (.int 1)) (eClB 2 Cq.f__law_take 2 (aCons (eD (.int 8)) aNil)))) [.v (.d (.list (ns.map .int))), .v (I (k : Int)), .v o0, s3, s4, s5, s6, s7, s8, s9, .un] = .ok (.nx, [.v (.d (.list (ns.map .int))), .v (I (k : Int)), .v o1, .v (I (m : Int)), s4, s5, s6, s7, s8, s9, .un]) := Ev.set_ (Ev.op2 (z := .int (m : Int)) Ev.d_ (Ev.clB (b := false) (q := o0) (p := o0) (o := I v1) rfl (Ev.cons_ Ev.d_ Ev.nil_) rfl rfl (by simp [noFrs, f0, noFr]) e1 rfl) rfl rfl (by rw [hm]; rfl)) (Ev.stor_np rfl n3 rfl)
  have b2 : (dSet 4 (eClB 3 Cq.f__law_hall 2 (aCons (eVar 3) (aCons (eOp2 fAdd (eD (.int 1)) (eClB 2 Cq.f__law_take 2 (aCons (eD (.int 8)) aNil))) aNil)))) [.v (.d (.list (ns.map .int))), .v (I (k : Int)), .v o1, .v (I (m : Int)), s4, s5, s6, s7, s8, s9, .un] = .ok (.nx, [.v (.d (.list (ns.map .int))), .v (I (k : Int)), .v o3, .v (I (m : Int)), .v (.d (hallP rs)), s5, s6, s7, s8, s9, .un]) := Ev.set_ (Ev.clB (b := false) (q := o1) (p := o2) rfl (Ev.cons_ (Ev.var rfl) (Ev.cons_ (Ev.op2 (z := .int (1 + v2)) Ev.d_ (Ev.clB (b := false) (q := o1) (p := o1) (o := I v2) rfl (Ev.cons_ Ev.d_ Ev.nil_) rfl rfl (by simp [noFrs, f1, noFr]) e2 rfl) rfl rfl rfl) Ev.nil_)) rfl rfl (by simp [noFrs, f2, noFr]) e3 rfl) (Ev.stor_np rfl n4 rfl)
  exact ⟨u2, _, _, u5, u6, u7, u8, u9, Ev.sq b0 (Ev.sq b1 (Ev.sq b2 (Ev.sq b3 b4))), p2, rfl, rfl, p5, p6, p7, p8, p9⟩
end
theorem pure_law (ns : List Int) (h : ns.length ≤ 63) (hb : ∀ z ∈ ns, Builtin.Int.intBits z ≤ 1048576) : ∃ os, f_law [.d (.list (ns.map .int))] = .ok (.d (.bool true), os) := by
  obtain ⟨m, hm, hm5⟩ : ∃ m : Nat, max 1 (min 3 (ns.length : Int)) = m ∧ m ≤ 3 := ⟨(max 1 (min 3 (ns.length : Int))).toNat, by omega, by omega⟩
  obtain ⟨e, h1, s1, s2, s3, s4, s5, s6, s7, s8, s9, rfl, _⟩ := forR (g := gNm 1) (body := cB) (en := [.v (.d (.list (ns.map .int))), .un, .un, .un, .un, .un, .un, .un, .un, .un, .un])
    (fun i e => ∃ s1 s2 s3 s4 s5 s6 s7 s8 s9, e = [.v (.d (.list (ns.map .int))), s1, s2, s3, s4, s5, s6, s7, s8, s9, .un] ∧ np s1 = true ∧ np s2 = true ∧ np s3 = true ∧ np s4 = true ∧ np s5 = true ∧ np s6 = true ∧ np s7 = true ∧ np s8 = true ∧ np s9 = true) m
    ⟨.un, .un, .un, .un, .un, .un, .un, .un, .un, rfl, rfl, rfl, rfl, rfl, rfl, rfl, rfl, rfl, rfl⟩ (by
      rintro i e hi ⟨s1, s2, s3, s4, s5, s6, s7, s8, s9, rfl, n1, n2, n3, n4, n5, n6, n7, n8, n9⟩
      obtain ⟨u2, u3, u4, u5, u6, u7, u8, u9, e2, q2, q3, q4, q5, q6, q7, q8, q9⟩ := c_step (ns := ns) (k := i) (by omega) n2 n3 n4 n5 n6 n7 n8 n9
      exact ⟨[.v (.d (.list (ns.map .int))), .v (I i), s2, s3, s4, s5, s6, s7, s8, s9, .un], _, by simp [gNm, stor_eq, n1], e2, _, u2, u3, u4, u5, u6, u7, u8, u9, rfl, rfl, q2, q3, q4, q5, q6, q7, q8, q9⟩)
  have q : aCons (eCb fMax2 (aCons (eD (.int 1)) (aCons (eCb fMin2 (aCons (eD (.int 3)) (aCons (eLen (eVar 0)) aNil))) aNil))) aNil [.v (.d (.list (ns.map .int))), .un, .un, .un, .un, .un, .un, .un, .un, .un, .un] = .ok ([I m], [.v (.d (.list (ns.map .int))), .un, .un, .un, .un, .un, .un, .un, .un, .un, .un]) := by
    rw [← hm]
    refine Ev.cons_ (Ev.cb (Ev.cons_ Ev.d_ (Ev.cons_ (Ev.cb (Ev.cons_ Ev.d_ (Ev.cons_ (Ev.len_ (n := ns.length) (Ev.var rfl) (by simp [dlen])) Ev.nil_)) rfl rfl) Ev.nil_)) rfl ?_) Ev.nil_
    simp only [fMax2, gt_iff_lt, if_max, if_min]
  have e := Ev.sq (Ev.forN q (by omega) h1) (Ev.rt (da := eD (.bool true)) Ev.d_)
  exact ⟨_, fn_ok (fl := [false]) (k := 10) (B := D_law) (os := [.d (.list (ns.map .int))]) rfl e rfl⟩
end K21
end
section
set_option Elab.async false
set_option linter.all false
set_option maxRecDepth 100000
set_option maxHeartbeats 0
namespace K21
open PySem PySem.Spec L2 Lf
theorem facts {w : World} {K : PySem.W.Frag} {h : Heap} {mg : Str → Option Value} {f : Addr} (X : K.In h) (G : h.Ns mainGlobals mg) (hfa : mg ("law" : Str) = some (.ref f)) (c : He.SaysX fa fn [] tf (fun _ => true) w h K) : LawD PySem.Challenge.rw_movedminutes_k21_whole_totals_in_any_ord w K 15 63 "script" mg f h := by
  have e := hfa.symm.trans (He.glo_ok X G (c.t.d.fact 22 (f := .glo "law") rfl))
  cases e
  have tx : ∀ base : Heap, (∀ p ∈ tf.map (He.cT K), GxR.TabB base mg p.1 p.2) → @Tx ⟨(tf.map (He.cT K)).map (·.2)⟩ K mg base := fun base hT =>
    letI : Tabs := ⟨(tf.map (He.cT K)).map (·.2)⟩
    ⟨c.t.d.def_ 0 (d := d_is_whole) rfl,
     He.glo_ok X G (c.t.d.fact 0 (f := .glo "is_whole") rfl),
     c.t.d.def_ 1 (d := d_is_short_tuple) rfl,
     He.glo_ok X G (c.t.d.fact 1 (f := .glo "is_short_tuple") rfl),
     c.t.d.def_ 2 (d := d_is_row) rfl,
     He.glo_ok X G (c.t.d.fact 2 (f := .glo "is_row") rfl),
     ⟨List.mem_map.mpr ⟨_, List.mem_map.mpr ⟨("is_row", none), by simp [tf], rfl⟩, rfl⟩, hT _ (List.mem_map.mpr ⟨("is_row", none), by simp [tf], rfl⟩)⟩,
     c.t.d.def_ 3 (d := d_is_hall) rfl,
     He.glo_ok X G (c.t.d.fact 3 (f := .glo "is_hall") rfl),
     ⟨List.mem_map.mpr ⟨_, List.mem_map.mpr ⟨("is_hall", none), by simp [tf], rfl⟩, rfl⟩, hT _ (List.mem_map.mpr ⟨("is_hall", none), by simp [tf], rfl⟩)⟩,
     c.t.d.def_ 4 (d := d_check_hall) rfl,
     He.glo_ok X G (c.t.d.fact 4 (f := .glo "check_hall") rfl),
     c.t.d.def_ 5 (d := d_check_counter) rfl,
     He.glo_ok X G (c.t.d.fact 5 (f := .glo "check_counter") rfl),
     c.t.d.def_ 6 (d := d_check_neighbours) rfl,
     He.glo_ok X G (c.t.d.fact 6 (f := .glo "check_neighbours") rfl),
     c.t.d.def_ 7 (d := d_leads) rfl,
     He.glo_ok X G (c.t.d.fact 7 (f := .glo "leads") rfl),
     c.t.d.def_ 8 (d := d_going_on) rfl,
     He.glo_ok X G (c.t.d.fact 8 (f := .glo "going_on") rfl),
     c.t.d.def_ 9 (d := d_going_back) rfl,
     He.glo_ok X G (c.t.d.fact 9 (f := .glo "going_back") rfl),
     c.t.d.def_ 10 (d := d_carried) rfl,
     He.glo_ok X G (c.t.d.fact 10 (f := .glo "carried") rfl),
     c.t.d.def_ 11 (d := d_check_totals) rfl,
     He.glo_ok X G (c.t.d.fact 11 (f := .glo "check_totals") rfl),
     ⟨List.mem_map.mpr ⟨_, List.mem_map.mpr ⟨("check_totals", none), by simp [tf], rfl⟩, rfl⟩, hT _ (List.mem_map.mpr ⟨("check_totals", none), by simp [tf], rfl⟩)⟩,
     c.t.d.def_ 12 (d := d_totals) rfl,
     He.glo_ok X G (c.t.d.fact 12 (f := .glo "totals") rfl),
     c.t.d.def_ 13 (d := d_exchanged) rfl,
     He.glo_ok X G (c.t.d.fact 13 (f := .glo "exchanged") rfl),
     c.t.d.def_ 14 (d := d_in_order) rfl,
     He.glo_ok X G (c.t.d.fact 14 (f := .glo "in_order") rfl),
     c.t.d.def_ 15 (d := d__law_cell_at) rfl,
     He.glo_ok X G (c.t.d.fact 15 (f := .glo "_law_cell_at") rfl),
     c.t.d.def_ 16 (d := d__law_bag) rfl,
     He.glo_ok X G (c.t.d.fact 16 (f := .glo "_law_bag") rfl),
     c.t.d.def_ 17 (d := d__law_take) rfl,
     He.glo_ok X G (c.t.d.fact 17 (f := .glo "_law_take") rfl),
     c.t.d.def_ 18 (d := d__law_alike) rfl,
     He.glo_ok X G (c.t.d.fact 18 (f := .glo "_law_alike") rfl),
     c.t.d.def_ 19 (d := d__law_minutes) rfl,
     He.glo_ok X G (c.t.d.fact 19 (f := .glo "_law_minutes") rfl),
     c.t.d.def_ 20 (d := d__law_hall) rfl,
     He.glo_ok X G (c.t.d.fact 20 (f := .glo "_law_hall") rfl),
     c.t.d.def_ 21 (d := d__law_worths) rfl,
     He.glo_ok X G (c.t.d.fact 21 (f := .glo "_law_worths") rfl),
     c.t.d.def_ 22 (d := d_law) rfl,
     He.glo_ok X G (c.t.d.fact 22 (f := .glo "law") rfl),
     (let ⟨t, e⟩ := He.int_ok X G (c.t.d.fact 39 (f := .int "MOST" 8) rfl); ⟨_, e, t, rfl⟩),
     He.free_ok X G (c.t.d.fact 23 (f := .free "all") rfl),
     He.free_ok X G (c.t.d.fact 24 (f := .free "bool") rfl),
     He.free_ok X G (c.t.d.fact 25 (f := .free "enumerate") rfl),
     He.free_ok X G (c.t.d.fact 26 (f := .free "int") rfl),
     He.free_ok X G (c.t.d.fact 27 (f := .free "isinstance") rfl),
     He.free_ok X G (c.t.d.fact 28 (f := .free "len") rfl),
     He.free_ok X G (c.t.d.fact 29 (f := .free "list") rfl),
     He.free_ok X G (c.t.d.fact 30 (f := .free "max") rfl),
     He.free_ok X G (c.t.d.fact 31 (f := .free "min") rfl),
     He.free_ok X G (c.t.d.fact 32 (f := .free "range") rfl),
     He.free_ok X G (c.t.d.fact 33 (f := .free "reversed") rfl),
     He.free_ok X G (c.t.d.fact 34 (f := .free "sorted") rfl),
     He.free_ok X G (c.t.d.fact 35 (f := .free "sum") rfl),
     He.free_ok X G (c.t.d.fact 36 (f := .free "tuple") rfl),
     He.free_ok X G (c.t.d.fact 37 (f := .free "type") rfl),
     He.free_ok X G (c.t.d.fact 38 (f := .free "zip") rfl)⟩
  obtain ⟨fd, F⟩ := c.t.d.def_ 22 (d := d_law) rfl
  have b := FunD.bindsA (ps := ["script"]) F fun _ _ _ _ _ _ us hl => match us, hl with | [_], _ => rfl
  refine ⟨fd, tf.map (He.cT K), f_law, fun p hp => ?_, fun p hp => ?_, fun p hp => ?_, fun s v => b s [v] rfl, pure_law, fun base hK hN hT => ?_⟩
  · obtain ⟨q, hq, rfl⟩ := List.mem_map.mp hp
    exact c.empty q hq
  · obtain ⟨q, hq, rfl⟩ := List.mem_map.mp hp
    exact c.out q hq
  · obtain ⟨q, hq, rfl⟩ := List.mem_map.mp hp
    exact PySem.W.codeHd_of_K X (c.hd q hq)
  · letI : Tabs := ⟨(tf.map (He.cT K)).map (·.2)⟩
    obtain ⟨fd', F', D', _⟩ := ok_law (P := PySem.W.OpenLaw.prog PySem.Challenge.rw_movedminutes_k21_whole_totals_in_any_ord) (w := w) (tx base hT)
    have e2 : fd' = fd := fun_one F' F
    rw [← e2]
    exact D'
end K21
open PySem PySem.W PySem.Calls PyProof.Rows
set_option maxRecDepth 100000 in
set_option maxHeartbeats 0 in
theorem PySem.Challenge.cw_movedminutes_k21_whole_totals_in_any_ord_holds : PySem.Challenge.rw_movedminutes_k21_whole_totals_in_any_ord.Holds := by
  w_on; o_law
  refine HandSHeadRun.head_any (r := OpenLaw.row PySem.Challenge.rw_movedminutes_k21_whole_totals_in_any_ord) (q := view (OpenLaw.row PySem.Challenge.rw_movedminutes_k21_whole_totals_in_any_ord).prog [33]) (H := K21.hk) (ob := K21.ob) (M := 20000) (loose := K21.loose) (d := HandSHeadRun.topDef (OpenLaw.row PySem.Challenge.rw_movedminutes_k21_whole_totals_in_any_ord).prog 33) (kwd := []) K21.ob_eq
    (by kernel_rfl) (fun s => by kernel_rfl) K21.run (by kernel_rfl) (by kernel_rfl) (by kernel_rfl) (by rfl) (by first | assumption | decide +kernel) (by decide +kernel) ⟨rfl, rfl, rfl, rfl, rfl, by decide +kernel⟩ ?hw ?hc
  case hw => w_witness2
  case hc =>
    refine Lf.walk_D (l := PySem.Challenge.rw_movedminutes_k21_whole_totals_in_any_ord) (n := 63) (k := 15) (x := "script") rfl (by decide) (by kernel_rfl) ⟨rfl, by decide, by decide⟩ rfl ?F
    intro w mg fa h Y G hmg0
    obtain ⟨K, KX, c⟩ := Y
    have hmg : mg ("law" : PySem.Str) = some (.ref fa) := by
      have e : (HandSHeadRun.topDef (OpenLaw.row PySem.Challenge.rw_movedminutes_k21_whole_totals_in_any_ord).prog 33).name = ("law" : PySem.Str) := by kernel_rfl
      rw [← e]
      exact hmg0
    exact ⟨K, KX, K21.facts KX G hmg c⟩
end
