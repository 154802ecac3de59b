import PyProof.Rows.All
import Wide.All
import OpenK.AllK
import Wide.FinOn
import HandS.ForMost
import HandS.ForExc
import HandS.AnyAll
import KE.KeyNested
import HandS.HeadHook1
import HandS.ExcCtx
import HandS.HotCalls
import HandS.ExcIs
import HandS.Deep
import HandS.Wide
import KE.GoesEnum
import KE.GoesMore
import HandS.Zip
import HandS.Style
import HandS.TupAny
import HandS.TupMul
import HandS.GenList
import HandS.EndTab
import PyProof.Rows.SeqMore
import HandS.More
import PyProof.ReprRoads
import OpenK.KMore
import HandS.Head0
import HandS.Head1
import HandS.Head2
import HandS.HeadEnd
import HandS.HeadHook2
import HandS.HeadHook3
import HandS.HeadHook4
import HandS.EndBits
import KE.KDictZip
import HandS.Dict
import HandS.SetFor
import HandS.Strs
import HandS.TupLe
import PyProof.Rows.SetFrom
import KE.DataMinMax
import HandS.SortInts
import PyProof.CallFns
import PyProof.TupleOfGen
import HandS.RevRange
import HandS.IsInst
import HandS.Iter
import HandS.DictEq
import KE.KDictKeyed
import PyProof.EnumMake
import PyProof.EnumFor
import KE.KDictItemsList
import KE.KStar
import PyProof.Tail
import PyProof.MaxThree
import HandS.Flt
import PyProof.SumWalkG
import HandS.SortKw
import KE.SortData
import HandS.Rev
import HandS.ExcValue
import KE.KIndexOf
import HandS.TupLen
import KE.KDictDisplayH
import PyProof.ExcBaseAll.ValueError
import HandS.Words
import HandS.TryOnly
import PySem.Challenge.RW_movedminutes_k17_moves_refused
section
set_option Elab.async false
set_option linter.all false
set_option maxRecDepth 100000
/-! what a head is asked of classes of refusals -/
namespace Lf
open PySem PySem.Spec L2
/-- what is decided of a class of exceptions -/
def excB (K : PySem.W.Frag) (D : Addr) : Bool :=
  decide (PySem.W.findIn K (.ref D) "__getattribute__" = some (some (.builtin "BaseException.__getattribute__"))) && decide (PySem.W.findIn K (.ref D) "__getattr__" = some none) && decide (PySem.W.subIn K (.ref D) (.type "BaseException") = some true) && PySem.W.hasDictIn K D &&
  decide (PySem.W.findIn K (.ref D) "__class__" = some (some (.builtin "object.__class__"))) && decide (PySem.W.specialIn K (.builtin "object.__class__") "__get__" = some (some (.builtin "getset_descriptor.__get__"))) && decide (PySem.W.takesIn K (.builtin "object.__class__") = some true) && decide (PySem.W.mroIn K D (.type "object") = some true)
theorem excB_ok {K : PySem.W.Frag} {D : Addr} (h : excB K D = true) : ExcC K D := by
  simp only [excB, Bool.and_eq_true, decide_eq_true_eq] at h
  obtain ⟨⟨⟨⟨⟨⟨⟨h1, h2⟩, h3⟩, h4⟩, h5⟩, h6⟩, h7⟩, h8⟩ := h
  exact ⟨h1, h2, h3, h4, h5, h6, h7, h8⟩
/-- an exception of class c is an instance of y, both straight under one class -/
def isB (c y : Str) : Bool := decide (c = y)
def exB (cs ys : List Str) (tops : List Str) (bs : List String) (K : PySem.W.Frag) : Bool := cs.all fun c =>
  (tops.all fun t => decide (PySem.W.exmOne K (.ref (He.ga K c)) (.ref (He.ga K t)) = some true)) && excB K (He.ga K c) && (ys.all fun y => decide (PySem.W.kitOne K (.ref (He.ga K c)) (.ref (He.ga K y)) = some (isB c y))) && (bs.all fun b => decide (PySem.W.kitOne K (.ref (He.ga K c)) (.type b) = some true))
/-! a head that also knows the object of sys.modules -/
def hasSys (K : PySem.W.Frag) : Bool := match K.lookup sysModules with
  | some o => decide (o.cls = .type "dict")
  | none => false
theorem hasSys_ok {K : PySem.W.Frag} (h : hasSys K = true) : ∃ o, K.lookup sysModules = some o ∧ o.cls = .type "dict" := by
  unfold hasSys at h
  split at h
  · rename_i o e
    exact ⟨o, e, of_decide_eq_true h⟩
  · cases h
def asS (g : Addr → Option Obj) (n : Nat) : List Addr := sysModules :: He.asD g n
section
variable {n : Nat} {fa : List He.Fa} {fn : List He.DefD} {ts : List He.Tab} {tf : List He.Defn} {ex : PySem.W.Frag → Bool}
def obsS (n : Nat) (fa : List He.Fa) (fn : List He.DefD) (ts : List He.Tab) (tf : List He.Defn) (ex : PySem.W.Frag → Bool) (g : Addr → Option Obj) : He.AlX :=
  let K := He.frT g (asS g n)
  (He.obsT fa fn ts K, ex K && He.tabsB g tf K)
theorem saysS {w : World} {h : Heap} (e : obsS n fa fn ts tf ex h.get? = He.valX fn ts w) : He.SaysX fa fn ts tf ex w h (He.frT h.get? (asS h.get? n)) := by
  have e2 : (ex (He.frT h.get? (asS h.get? n)) && He.tabsB h.get? tf (He.frT h.get? (asS h.get? n))) = true := congrArg Prod.snd e
  simp only [Bool.and_eq_true, He.tabsB, List.all_eq_true] at e2
  have see : ∀ p ∈ tf, ∃ o, h.get? (He.cT (He.frT h.get? (asS h.get? n)) p).2 = some o ∧ He.emptyTab o = true := fun p hp => by
    have z := (e2.2 p hp).2
    revert z
    cases h.get? (He.cT (He.frT h.get? (asS h.get? n)) p).2 with
    | none => exact fun z => nomatch z
    | some o => exact fun z => ⟨o, rfl, z⟩
  exact { t := congrArg Prod.fst e, more := e2.1, hd := fun p hp => (e2.2 p hp).1, out := fun p hp => let ⟨_, q, z⟩ := see p hp; He.frT_none q z, empty := fun p hp => let ⟨_, q, z⟩ := see p hp; q.trans (congrArg some (He.emptyTab_eq z)) }
def hookS (n : Nat) (fa : List He.Fa) (fn : List He.DefD) (ts : List He.Tab) (tf : List He.Defn) (ex : PySem.W.Frag → Bool) : PySem.W.Hook :=
  { α := He.AlX, obs := fun s => obsS n fa fn ts tf ex s.heap.get?, val := He.valX fn ts, says := fun w h => ∃ K : PySem.W.Frag, K.In h ∧ He.SaysX fa fn ts tf ex w h K,
    of := fun _ _ e => ⟨_, He.frT_in, saysS e⟩, keeps := (He.hookX n fa fn ts tf ex).keeps }
theorem obsS_eq {g : Addr → Option Obj} {s : Shared} (h : ∀ a, g a = s.heap.get? a) : obsS n fa fn ts tf ex g = (hookS n fa fn ts tf ex).obs s := by
  cases (funext h : g = s.heap.get?)
  rfl
end
end Lf
end
section
set_option Elab.async false
set_option linter.all false
set_option maxRecDepth 100000
set_option maxHeartbeats 0
namespace K17
open PySem PySem.Spec L2 Lf
/-! ### the text by places -/
def top (i : Nat) : Stmt := PySem.Challenge.pw_movedminutes_k17_moves_refused.main.body.getD i (.Pass ⟨0, 0, 0, 0⟩)
abbrev s_is_whole : Stmt := top 20
abbrev s_is_short_tuple : Stmt := top 21
abbrev s_is_row : Stmt := top 22
abbrev s_is_hall : Stmt := top 23
abbrev s_check_hall : Stmt := top 24
abbrev s_check_counter : Stmt := top 25
abbrev s_check_neighbours : Stmt := top 27
abbrev s_leads : Stmt := top 28
abbrev s_most_moves : Stmt := top 29
abbrev s_going_on : Stmt := top 30
abbrev s_going_back : Stmt := top 31
abbrev s_carried : Stmt := top 32
abbrev s_moved : Stmt := top 36
abbrev s_move : Stmt := top 33
abbrev s_back : Stmt := top 34
abbrev s_can_move : Stmt := top 35
abbrev s__law_cell_at : Stmt := top 38
abbrev s__law_bag : Stmt := top 39
abbrev s__law_draw : Stmt := top 40
abbrev s__law_minutes : Stmt := top 41
abbrev s__law_hall : Stmt := top 42
abbrev s__law_words : Stmt := top 43
abbrev s__law_no_hall : Stmt := top 44
abbrev s__law_no_number : Stmt := top 45
abbrev s__law_said : Stmt := top 46
abbrev s_law : Stmt := top 47
/-! ### the head: facts by names, the run -/
def d_is_whole : He.DefD := ⟨("is_whole", none), "is_whole", "is_whole", defArgs s_is_whole, defBody s_is_whole, defScope s_is_whole, [], []⟩
def d_is_short_tuple : He.DefD := ⟨("is_short_tuple", none), "is_short_tuple", "is_short_tuple", defArgs s_is_short_tuple, defBody s_is_short_tuple, defScope s_is_short_tuple, [], []⟩
def d_is_row : He.DefD := ⟨("is_row", none), "is_row", "is_row", defArgs s_is_row, defBody s_is_row, defScope s_is_row, [], []⟩
def d_is_hall : He.DefD := ⟨("is_hall", none), "is_hall", "is_hall", defArgs s_is_hall, defBody s_is_hall, defScope s_is_hall, [], []⟩
def d_check_hall : He.DefD := ⟨("check_hall", none), "check_hall", "check_hall", defArgs s_check_hall, defBody s_check_hall, defScope s_check_hall, [], []⟩
def d_check_counter : He.DefD := ⟨("check_counter", none), "check_counter", "check_counter", defArgs s_check_counter, defBody s_check_counter, defScope s_check_counter, [], []⟩
def d_check_neighbours : He.DefD := ⟨("check_neighbours", none), "check_neighbours", "check_neighbours", defArgs s_check_neighbours, defBody s_check_neighbours, defScope s_check_neighbours, [], []⟩
def d_leads : He.DefD := ⟨("leads", none), "leads", "leads", defArgs s_leads, defBody s_leads, defScope s_leads, [], []⟩
def d_most_moves : He.DefD := ⟨("most_moves", none), "most_moves", "most_moves", defArgs s_most_moves, defBody s_most_moves, defScope s_most_moves, [], []⟩
def d_going_on : He.DefD := ⟨("going_on", none), "going_on", "going_on", defArgs s_going_on, defBody s_going_on, defScope s_going_on, [], []⟩
def d_going_back : He.DefD := ⟨("going_back", none), "going_back", "going_back", defArgs s_going_back, defBody s_going_back, defScope s_going_back, [], []⟩
def d_carried : He.DefD := ⟨("carried", none), "carried", "carried", defArgs s_carried, defBody s_carried, defScope s_carried, [], []⟩
def d_moved : He.DefD := ⟨("moved", none), "moved", "moved", defArgs s_moved, defBody s_moved, defScope s_moved, [], []⟩
def d_move : He.DefD := ⟨("move", none), "move", "move", defArgs s_move, defBody s_move, defScope s_move, [], []⟩
def d_back : He.DefD := ⟨("back", none), "back", "back", defArgs s_back, defBody s_back, defScope s_back, [], []⟩
def d_can_move : He.DefD := ⟨("can_move", none), "can_move", "can_move", defArgs s_can_move, defBody s_can_move, defScope s_can_move, [], []⟩
def d__law_cell_at : He.DefD := ⟨("_law_cell_at", none), "_law_cell_at", "_law_cell_at", defArgs s__law_cell_at, defBody s__law_cell_at, defScope s__law_cell_at, [], []⟩
def d__law_bag : He.DefD := ⟨("_law_bag", none), "_law_bag", "_law_bag", defArgs s__law_bag, defBody s__law_bag, defScope s__law_bag, [], []⟩
def d__law_draw : He.DefD := ⟨("_law_draw", none), "_law_draw", "_law_draw", defArgs s__law_draw, defBody s__law_draw, defScope s__law_draw, [], []⟩
def d__law_minutes : He.DefD := ⟨("_law_minutes", none), "_law_minutes", "_law_minutes", defArgs s__law_minutes, defBody s__law_minutes, defScope s__law_minutes, [], []⟩
def d__law_hall : He.DefD := ⟨("_law_hall", none), "_law_hall", "_law_hall", defArgs s__law_hall, defBody s__law_hall, defScope s__law_hall, [], []⟩
def d__law_words : He.DefD := ⟨("_law_words", none), "_law_words", "_law_words", defArgs s__law_words, defBody s__law_words, defScope s__law_words, [], []⟩
def d__law_no_hall : He.DefD := ⟨("_law_no_hall", none), "_law_no_hall", "_law_no_hall", defArgs s__law_no_hall, defBody s__law_no_hall, defScope s__law_no_hall, [], []⟩
def d__law_no_number : He.DefD := ⟨("_law_no_number", none), "_law_no_number", "_law_no_number", defArgs s__law_no_number, defBody s__law_no_number, defScope s__law_no_number, [], []⟩
def d__law_said : He.DefD := ⟨("_law_said", none), "_law_said", "_law_said", defArgs s__law_said, defBody s__law_said, defScope s__law_said, [], []⟩
def d_law : He.DefD := ⟨("law", none), "law", "law", defArgs s_law, defBody s_law, defScope s_law, [], []⟩
def fn : List He.DefD := [d_is_whole, d_is_short_tuple, d_is_row, d_is_hall, d_check_hall, d_check_counter, d_check_neighbours, d_leads, d_most_moves, d_going_on, d_going_back, d_carried, d_moved, d_move, d_back, d_can_move, d__law_cell_at, d__law_bag, d__law_draw, d__law_minutes, d__law_hall, d__law_words, d__law_no_hall, d__law_no_number, d__law_said, d_law]
def fa : List He.Fa := [.glo "is_whole", .glo "is_short_tuple", .glo "is_row", .glo "is_hall", .glo "check_hall", .glo "check_counter", .glo "check_neighbours", .glo "leads", .glo "most_moves", .glo "going_on", .glo "going_back", .glo "carried", .glo "moved", .glo "move", .glo "back", .glo "can_move", .glo "_law_cell_at", .glo "_law_bag", .glo "_law_draw", .glo "_law_minutes", .glo "_law_hall", .glo "_law_words", .glo "_law_no_hall", .glo "_law_no_number", .glo "_law_said", .glo "law", .free "ValueError", .free "all", .free "int", .free "isinstance", .free "len", .free "max", .free "min", .free "range", .free "repr", .free "sum", .free "tuple", .free "type", .free "zip", .int "MOST" 8, .glo "HallError", .glo "NoCounter", .glo "NoCustomer", .glo "NoCustomers", .glo "NoDay", .glo "NoHall", .glo "NoMany", .glo "NoMove", .glo "NoNumber", .glo "NoRoad", .glo "NoRoom", .glo "NoText", .glo "NoTotals", .glo "NoTowers", .glo "NoWay", .glo "TooMany", .glo "Unlike", .exc "NoHall", .exc "NoCounter", .exc "NoNumber"]
def exs : PySem.W.Frag → Bool := fun K => exB ["NoHall", "NoCounter", "NoNumber"] ["NoCounter", "NoCustomer", "NoCustomers", "NoDay", "NoHall", "NoMany", "NoMove", "NoNumber", "NoRoad", "NoRoom", "NoText", "NoTotals", "NoTowers", "NoWay", "TooMany", "Unlike"] ["HallError"] ["ValueError"] K && hasSys K
def tf : List He.Defn := [("is_row", none), ("is_hall", none)]
abbrev Row0 : PySem.W.OpenRow := PySem.W.OpenLaw.row PySem.Challenge.rw_movedminutes_k17_moves_refused
abbrev hk : PySem.W.Hook := hookS 4 fa fn [] tf exs
def ob (s : PySem.W.SharedT) : He.AlX := obsS 4 fa fn [] tf exs (HandSHeadRun.getT s)
theorem ob_eq (s : PySem.W.SharedT) : ob s = hk.obs s.abs := obsS_eq (HandSHeadRun.getT_eq s)
def loose : List PySem.Str := ("HallError" : PySem.Str) :: ("NoHall" : PySem.Str) :: ("NoDay" : PySem.Str) :: ("NoCustomer" : PySem.Str) :: ("NoCounter" : PySem.Str) :: ("NoNumber" : PySem.Str) :: ("NoTotals" : PySem.Str) :: ("NoMany" : PySem.Str) :: ("NoCustomers" : PySem.Str) :: ("NoTowers" : PySem.Str) :: ("NoRoom" : PySem.Str) :: ("NoMove" : PySem.Str) :: ("Unlike" : PySem.Str) :: ("NoWay" : PySem.Str) :: ("NoRoad" : PySem.Str) :: ("TooMany" : PySem.Str) :: ("NoText" : PySem.Str) :: ("MOST" : PySem.Str) :: ("is_whole" : PySem.Str) :: ("is_short_tuple" : PySem.Str) :: ("is_row" : PySem.Str) :: ("is_hall" : PySem.Str) :: ("check_hall" : PySem.Str) :: ("check_counter" : PySem.Str) :: ("check_neighbours" : PySem.Str) :: ("leads" : PySem.Str) :: ("most_moves" : PySem.Str) :: ("going_on" : PySem.Str) :: ("going_back" : PySem.Str) :: ("carried" : PySem.Str) :: ("move" : PySem.Str) :: ("back" : PySem.Str) :: ("can_move" : PySem.Str) :: ("moved" : PySem.Str) :: ("_law_cell_at" : PySem.Str) :: ("_law_bag" : PySem.Str) :: ("_law_draw" : PySem.Str) :: ("_law_minutes" : PySem.Str) :: ("_law_hall" : PySem.Str) :: ("_law_words" : PySem.Str) :: ("_law_no_hall" : PySem.Str) :: ("_law_no_number" : PySem.Str) :: ("_law_said" : PySem.Str) :: []
theorem run (w : World) : HandSHeadRun.RunEq Row0 (PySem.W.view Row0.prog [47]) hk ob 20000 loose w := by
  intro os
  kernel_rfl
end K17
end
section
set_option Elab.async false
set_option linter.all false
set_option maxRecDepth 100000
namespace Lf
open PySem PySem.Spec L2
/-- an entry of a dict whose keys are tuples of tuples -/
def dhE (w : World) (x : NestedKey × Addr × Value) : DictEntry := ⟨x.1.hash w, .ref x.2.1, x.2.2⟩
/-- the cell of such a dict: keys, then values -/
def dhO (ks : List NestedKey) (vs : List V) (a : Addr) : HO := .ext fun h => (a == sysModules) = false ∧ ks.length ≤ sizeLine ∧ ks.Nodup ∧ (∀ k ∈ ks, k.depth ≤ 8) ∧
  ∃ xs : List (NestedKey × Addr × Value), xs.map (·.1) = ks ∧ Vals vs (xs.map (fun x => Value.ref x.2.1) ++ xs.map (·.2.2)) ∧
    ∃ (w : World) (o : Obj) (es : Array DictEntry) (ep : Nat), h.get? a = some o ∧ o.ExactDict ∧ o.data = .dict es ep ∧ es.toList = xs.map (dhE w)
/-- what a thing of one cell is: a dict with whole-number keys whose values are data; an exception -/
inductive Tag where
  | dk (ks : List Int)
  | exc (c : Value)
  | tn
  | dh (ks : List NestedKey)
/-- a thing: frozen data, a list of one's own, an opaque value, a thing lent out -/
inductive OT where
  | d (x : PyData)
  | own (xs : List OT)
  /-- a list of one's own that is data for now: it may be one's own again when the def is left -/
  | fr (xs : List OT)
  | opq (v : V)
  /-- a dict of one's own: numbers by numbers (t: by tuples of numbers) -/
  | dic (t : Bool) (kvs : List (List Int × Int))
  /-- a dict of one's own while it is walked -/
  | lkd (t : Bool) (kvs : List (List Int × Int))
  /-- a tuple of things -/
  | tp (os : List OT)
  /-- a thing of one cell that holds data -/
  | leaf (t : Tag) (xs : List PyData)
  | hole
/-- a slot: nothing known, a thing, a thing handed in that goes back -/
inductive Slot where
  | un
  | v (o : OT)
  | p (o : OT)
abbrev En := List Slot
inductive Xc where
  | stuck
  | exn (c : Str) (e : En)
abbrev R (α : Type) := Except Xc α
inductive Fl where
  | nx | bk | ct
  | rt (o : OT)
abbrev DE := En → R (OT × En)
abbrev DT := En → R (Bool × En)
abbrev DA := En → R (List OT × En)
abbrev DS := En → R (Fl × En)
mutual
def frz : OT → Option PyData
  | .d x => some x
  | .own xs => (frzs xs).map PyData.list
  | .fr xs => (frzs xs).map PyData.list
  | .opq _ => none
  | .dic _ _ => none
  | .lkd _ _ => none
  | .tp xs => (frzs xs).map PyData.tuple
  | .leaf _ _ => none
  | .hole => none
def frzs : List OT → Option (List PyData)
  | [] => some []
  | o :: os => match frz o, frzs os with
    | some x, some xs => some (x :: xs)
    | _, _ => none
end
/-! ### data: what the library's relation tells, and the dict without entries -/
mutual
inductive Dq (K : PySem.W.Frag) (H : Hp) : V → PyData → Prop
  | non : Dq K H .non .none
  | bl (b : Bool) : Dq K H (.bl b) (.bool b)
  | int (i : Int) : Dq K H (.int i) (.int i)
  | str (t : Str) : Dq K H (.str t) (.str t)
  | lst {a : Addr} {vs : List V} {xs : List PyData} : SqL K H a vs → DqAll K H vs xs → Dq K H (.ref a) (.list xs)
  | tup {a : Addr} {vs : List V} {xs : List PyData} : SqT K H a vs → DqAll K H vs xs → Dq K H (.ref a) (.tuple xs)
  | dic {a : Addr} : H a = some (.dK []) → Dq K H (.ref a) (.dict [])
inductive DqAll (K : PySem.W.Frag) (H : Hp) : List V → List PyData → Prop
  | nil : DqAll K H [] []
  | cons {v : V} {vs : List V} {x : PyData} {xs : List PyData} : Dq K H v x → DqAll K H vs xs → DqAll K H (v :: vs) (x :: xs)
end
section
variable {X : Cx} {pins : List (Addr × Obj)} {σ : L2.St} {H : Hp} {s : Shared}
/-- sys.modules stands among what is known -/
def SysK (K : PySem.W.Frag) : Prop := ∃ o, K.lookup sysModules = some o ∧ o.cls = .type "dict"
theorem old_ne (I : Inv X pins σ H s) {a : Addr} {o : HO} (k : SysK X.K) (e : H a = some o) : a ≠ sysModules := fun z => by
  obtain ⟨os, ks, _⟩ := k
  have := (I.bs _ _ (I.mod.kin _ _ ks)).2
  rw [z, this] at e
  cases e
mutual
/-- what data is read from the heap -/
theorem Dq.reads (I : Inv X pins σ H s) : ∀ (d : PyData) (v : V) (u : Value), Dq X.K H v d → RelV v u → ∃ as, Reads s.heap u d as ∧ (SysK X.K → sysModules ∉ as)
  | .none, _, _, h, r => by cases h; cases r; exact ⟨[], .none, fun _ z => nomatch z⟩
  | .bool b, _, _, h, r => by cases h; cases r; exact ⟨[], .bool b, fun _ z => nomatch z⟩
  | .int i, _, _, h, r => by cases h; obtain ⟨t, e⟩ := r; subst e; exact ⟨[], .int i t, fun _ z => nomatch z⟩
  | .str y, _, _, h, r => by cases h; obtain ⟨t, e⟩ := r; subst e; exact ⟨[], .str y t, fun _ z => nomatch z⟩
  | .list xs, _, _, h, r => by
    cases h with
    | @lst a vs _ hs ha =>
      cases r
      obtain ⟨its, rv, ⟨o, n, ho, hc, _, hd⟩, _⟩ := I.list hs
      obtain ⟨as, hr, nm⟩ := Dq.readsAll I xs _ its ha rv
      refine ⟨a :: as, .list ho hc hd hr, fun k z => (List.mem_cons.mp z).elim (fun e => ?_) (nm k)⟩
      rcases hs with (q | ⟨_, q⟩) | ⟨o', _, _, q, c, _⟩
      · exact old_ne I k q e.symm
      · exact old_ne I k q e.symm
      · obtain ⟨o2, q2, c2⟩ := k
        rw [← e, q2] at q
        cases q
        rw [c2] at c
        exact absurd c (by decide)
  | .tuple xs, _, _, h, r => by
    cases h with
    | tup hs ha =>
      cases r
      obtain ⟨its, rv, ⟨o, ho, hc, n, hd⟩, _⟩ := I.tuple hs
      obtain ⟨as, hr, nm⟩ := Dq.readsAll I xs _ its ha rv
      exact ⟨as, .tuple ho hc hd hr, nm⟩
  | .dict [], _, _, h, r => by
    cases h with
    | @dic a q =>
      cases r
      obtain ⟨_, sm, ws, kv, o, es, ep, ho, hx, hd, _, hp, _⟩ := dk_of I.hok q
      cases kv
      have hl : es.toList = [] := List.length_eq_zero_iff.mp hp.length
      exact ⟨[a], .dict (as := []) (bs := []) ho hx.1 hd (by rw [hl]; exact .nil) (by rw [hl]; exact .nil), fun k z => old_ne I k q (List.mem_singleton.mp z).symm⟩
  | .dict (_ :: _), _, _, h, _ => nomatch h
theorem Dq.readsAll (I : Inv X pins σ H s) : ∀ (ds : List PyData) (vs : List V) (us : List Value), DqAll X.K H vs ds → Vals vs us → ∃ as, ReadsAll s.heap us ds as ∧ (SysK X.K → sysModules ∉ as)
  | [], _, _, h, r => by cases h; cases r; exact ⟨[], .nil, fun _ z => nomatch z⟩
  | d :: ds, _, _, h, r => by
    cases h with
    | cons h1 h2 =>
      cases r with
      | cons r1 r2 =>
        obtain ⟨as, q1, n1⟩ := Dq.reads I d _ _ h1 r1
        obtain ⟨bs, q2, n2⟩ := Dq.readsAll I ds _ _ h2 r2
        exact ⟨as ++ bs, .cons q1 q2, fun k z => (List.mem_append.mp z).elim (n1 k) (n2 k)⟩
end
end
def rEqQ (K : PySem.W.Frag) : R2 := fun x y H Q => ∃ d e, (Dq K H x d ∧ Dq K H y e) ∧ (SeqAt.shaped d = true ∧ SeqAt.shaped e = true) ∧ Q (.bl (PyData.eqv d e)) H
def rNeQ (K : PySem.W.Frag) : R2 := fun x y H Q => ∃ d e, (Dq K H x d ∧ Dq K H y e) ∧ (SeqAt.shaped d = true ∧ SeqAt.shaped e = true) ∧ Q (.bl (!PyData.eqv d e)) H
section
variable {X : Cx}
theorem op_eqQ (hu : X.A.units + 64 < cLine) : OpR X (compareOp .Eq) (rEqQ X.K) := fun pins s σ H x y v u Q I rx ry ⟨d, e, h, g, q⟩ =>
  let ⟨_, a, _⟩ := Dq.reads I d x v h.1 rx
  let ⟨_, b, _⟩ := Dq.reads I e y u h.2 ry
  SeqAt.compareEq_shaped a b g.1 g.2 hu ⟨.bl _, H, I, rfl, q⟩
theorem op_neQ (hu : X.A.units + 64 < cLine) : OpR X (compareOp .NotEq) (rNeQ X.K) := fun pins s σ H x y v u Q I rx ry ⟨d, e, h, g, q⟩ =>
  let ⟨_, a, _⟩ := Dq.reads I d x v h.1 rx
  let ⟨_, b, _⟩ := Dq.reads I e y u h.2 ry
  SeqAt.compareNe_shaped a b g.1 g.2 hu ⟨.bl _, H, I, rfl, q⟩
end
/-! ### data in a heap that grows -/
section
variable {K : PySem.W.Frag} {H H' : Hp}
theorem sqT_same {a : Addr} {xs : List V} (e : Same H H') (h : SqT K H a xs) : SqT K H' a xs := by
  rcases h with (h | ⟨o, h⟩) | h
  · exact .inl (.inl (e _ _ h))
  · exact .inl (.inr ⟨o, e _ _ h⟩)
  · exact .inr h
mutual
theorem dp_same (e : Same H H') : ∀ (x : PyData) (v : V), Dq K H v x → Dq K H' v x
  | .none, _, h => by cases h; exact .non
  | .bool b, _, h => by cases h; exact .bl b
  | .int i, _, h => by cases h; exact .int i
  | .str s, _, h => by cases h; exact .str s
  | .list ds, _, h => by
    cases h with
    | lst hs ha => exact .lst (e.seq hs) (dps_same e ds _ ha)
  | .tuple ds, _, h => by
    cases h with
    | tup hs ha => exact .tup (sqT_same e hs) (dps_same e ds _ ha)
  | .dict [], _, h => by
    cases h with
    | dic q => exact .dic (e _ _ q)
  | .dict (_ :: _), _, h => nomatch h
theorem dps_same (e : Same H H') : ∀ (xs : List PyData) (vs : List V), DqAll K H vs xs → DqAll K H' vs xs
  | [], _, h => by cases h; exact .nil
  | x :: xs, _, h => by
    cases h with
    | cons h1 h2 => exact .cons (dp_same e x _ h1) (dps_same e xs _ h2)
end
theorem DqAll.length {vs : List V} {xs : List PyData} (h : DqAll K H vs xs) : vs.length = xs.length := by
  induction xs generalizing vs with
  | nil => cases h; rfl
  | cons x xs ih =>
    cases h with
    | cons h1 h2 => simp [ih h2]
theorem DqAll.get {vs : List V} {xs : List PyData} (h : DqAll K H vs xs) {i : Nat} {x : PyData} (hx : xs[i]? = some x) : ∃ v, vs[i]? = some v ∧ Dq K H v x := by
  induction xs generalizing vs i with
  | nil => simp at hx
  | cons y xs ih =>
    cases h with
    | cons h1 h2 =>
      cases i with
      | zero => simp at hx; subst hx; exact ⟨_, rfl, h1⟩
      | succ i => simp at hx; obtain ⟨v, e, q⟩ := ih h2 hx; exact ⟨v, by simpa using e, q⟩
theorem DqAll.get' {vs : List V} {xs : List PyData} (h : DqAll K H vs xs) {i : Nat} {v : V} (hx : vs[i]? = some v) : ∃ x, xs[i]? = some x ∧ Dq K H v x := by
  induction xs generalizing vs i with
  | nil => cases h; simp at hx
  | cons y xs ih =>
    cases h with
    | cons h1 h2 =>
      cases i with
      | zero => simp at hx; subst hx; exact ⟨_, rfl, h1⟩
      | succ i => simp at hx; obtain ⟨v, e, q⟩ := ih h2 hx; exact ⟨v, by simpa using e, q⟩
theorem DqAll.app {vs ws : List V} {xs ys : List PyData} (h : DqAll K H vs xs) (k : DqAll K H ws ys) : DqAll K H (vs ++ ws) (xs ++ ys) := by
  induction xs generalizing vs with
  | nil => cases h; simpa using k
  | cons y xs ih =>
    cases h with
    | cons h1 h2 => exact .cons h1 (ih h2)
end
/-! ### the heap in three parts: frozen G, one's own M, others' F (of whose tables more may be known by now) -/
/-- the tables of code objects that may grow -/
class Tabs where
  ts : List Addr
def Up (x y : Option HO) : Prop := y = x ∨ ∃ ps more : Array Value, x = some (.tbl ps) ∧ y = some (.tbl (ps ++ more))
theorem up_refl {x : Option HO} : Up x x := .inl rfl
theorem up_lst {xs : List V} {y : Option HO} (h : Up (some (.lst xs)) y) : y = some (.lst xs) := by
  rcases h with h | ⟨ps, more, h, _⟩
  · exact h
  · cases h
theorem up_none {x : Option HO} (h : Up x none) : x = none := by
  rcases h with h | ⟨ps, more, _, h⟩
  · exact h.symm
  · cases h
theorem up_some {o : HO} {y : Option HO} (n : ∀ ps, o ≠ .tbl ps) (h : Up (some o) y) : y = some o := by
  rcases h with h | ⟨ps, more, h, _⟩
  · exact h
  · exact absurd (Option.some.inj h) (n ps)
theorem up_trans {x y z : Option HO} (h : Up x y) (k : Up y z) : Up x z := by
  rcases h with h | ⟨ps, m1, h1, h2⟩
  · rw [← h]; exact k
  · rcases k with k | ⟨ps2, m2, k1, k2⟩
    · rw [k]; exact .inr ⟨ps, m1, h1, h2⟩
    · rw [h2] at k1
      have e : ps ++ m1 = ps2 := by injection k1 with e; injection e
      refine .inr ⟨ps, m1 ++ m2, h1, ?_⟩
      rw [k2, ← e, Array.append_assoc]
/-- others' heap; b: what is frozen already when the def begins -/
structure FS where
  f : Hp
  b : Hp
/-- the mark at a frozen cell that is one's own -/
abbrev tg : HO := .rng 0 0
def isTg : HO → Bool
  | .rng i j => decide (i = 0) && decide (j = 0)
  | _ => false
theorem isTg_eq {o : HO} (h : isTg o = true) : o = tg := by
  cases o with
  | rng i j =>
    simp only [isTg, Bool.and_eq_true, decide_eq_true_eq] at h
    rw [h.1, h.2]
  | _ => simp [isTg] at h
def dicO (t : Bool) (kvs : List (List Int × Int)) : HO := if t = true then .dT (kvs.map fun p => (p.1.map Sum.inl, .int p.2)) else .dK (kvs.map fun p => (Sum.inl (p.1.headD 0), .int p.2))
theorem dicO_tg {t : Bool} {kvs : List (List Int × Int)} : isTg (dicO t kvs) = false := by cases t <;> rfl
def tagO (t : Tag) (vs : List V) (a : Addr) : HO := match t with
  | .dk ks => .dK ((ks.zip vs).map fun p => (Sum.inl p.1, p.2))
  | .exc c => .ext fun h => ∃ (oe : Obj) (us : Array Value), h.get? a = some oe ∧ Zc c none oe ∧ oe.data = .fields us
  | .tn => .ext fun h => ∃ (its : List Value) (n : Nat), Vals vs its ∧ h.get? a = some { cls := .type "tuple", data := .seq its.toArray n }
  | .dh ks => dhO ks vs a
theorem tagO_tg {t : Tag} {vs : List V} {a : Addr} : isTg (tagO t vs a) = false := by cases t <;> rfl
structure Sep [Tabs] (H G M : Hp) (F : FS) : Prop where
  at_ : ∀ a, (M a = none ∧ F.f a = none ∧ H a = G a) ∨ (G a = none ∧ F.f a = none ∧ H a = M a ∧ M a ≠ some tg) ∨ (G a = none ∧ M a = none ∧ Up (F.f a) (H a)) ∨ (M a = some tg ∧ F.f a = none ∧ H a = G a ∧ ∃ xs, G a = some (.lst xs))
  nt : ∀ a ps, M a ≠ some (.tbl ps)
  tab : ∀ p ∈ Tabs.ts, (∃ ps, F.f p = some (.tbl ps)) ∧ GxR.TabG H p
  base : Same F.b G
  mb : ∀ a u, M a = some u → F.b a = none
variable [Tabs]
section
variable {H G M : Hp} {F : FS}
theorem Sep.g (S : Sep H G M F) : Same G H := fun a o e => by
  rcases S.at_ a with ⟨_, _, h⟩ | ⟨h, _⟩ | ⟨h, _⟩ | ⟨_, _, h, _⟩
  · rw [h]; exact e
  · rw [h] at e; cases e
  · rw [h] at e; cases e
  · rw [h]; exact e
theorem Sep.m (S : Sep H G M F) : ∀ a xs, M a = some (.lst xs) → H a = some (.lst xs) := fun a o e => by
  rcases S.at_ a with ⟨h, _⟩ | ⟨_, _, h, _⟩ | ⟨_, h, _⟩ | ⟨h, _⟩
  · rw [h] at e; cases e
  · rw [h]; exact e
  · rw [h] at e; cases e
  · rw [h] at e; cases e
theorem Sep.mo (S : Sep H G M F) : ∀ a u, M a = some u → isTg u = false → H a = some u := fun a u e ht => by
  rcases S.at_ a with ⟨h, _⟩ | ⟨_, _, h, _⟩ | ⟨_, h, _⟩ | ⟨h, _⟩
  · rw [h] at e; cases e
  · rw [h]; exact e
  · rw [h] at e; cases e
  · rw [h] at e; cases e; simp [isTg] at ht
theorem Sep.new (S : Sep H G M F) {p : Addr} (h : H p = none) : G p = none ∧ M p = none ∧ F.f p = none := by
  have g0 := S.g.free h
  rcases S.at_ p with ⟨e1, e2, _⟩ | ⟨_, e, e2, _⟩ | ⟨_, e1, e⟩ | ⟨_, _, _, xs, e⟩
  · exact ⟨g0, e1, e2⟩
  · exact ⟨g0, e2.symm.trans h, e⟩
  · rw [h] at e; exact ⟨g0, e1, up_none e⟩
  · rw [g0] at e; cases e
theorem Sep.mg (S : Sep H G M F) {a : Addr} {xs : List V} (h : M a = some (.lst xs)) : G a = none ∧ F.f a = none := by
  rcases S.at_ a with ⟨e, _⟩ | ⟨e1, e2, _⟩ | ⟨_, e, _⟩ | ⟨e, _⟩
  · rw [e] at h; cases h
  · exact ⟨e1, e2⟩
  · rw [e] at h; cases h
  · rw [e] at h; cases h
theorem Sep.mgo (S : Sep H G M F) {a : Addr} {u : HO} (h : M a = some u) (ht : isTg u = false) : G a = none ∧ F.f a = none := by
  rcases S.at_ a with ⟨e, _⟩ | ⟨e1, e2, _⟩ | ⟨_, e, _⟩ | ⟨e, _⟩
  · rw [e] at h; cases h
  · exact ⟨e1, e2⟩
  · rw [e] at h; cases h
  · rw [e] at h; cases h; simp [isTg] at ht
theorem Sep.mf (S : Sep H G M F) {a : Addr} {u : HO} (h : M a = some u) : F.f a = none := by
  rcases S.at_ a with ⟨e, _⟩ | ⟨e1, e2, _⟩ | ⟨_, e, _⟩ | ⟨_, e, _⟩
  · rw [e] at h; cases h
  · exact e2
  · rw [e] at h; cases h
  · exact e
/-- a frozen cell of one's own -/
theorem Sep.mt (S : Sep H G M F) {a : Addr} (h : M a = some tg) : H a = G a ∧ ∃ xs, G a = some (.lst xs) := by
  rcases S.at_ a with ⟨e, _⟩ | ⟨_, _, _, e⟩ | ⟨_, e, _⟩ | ⟨_, _, e⟩
  · rw [e] at h; cases h
  · exact absurd h e
  · rw [e] at h; cases h
  · exact e
/-- no table stands at what is one's own -/
theorem Sep.tm (S : Sep H G M F) {p : Addr} (hp : p ∈ Tabs.ts) : M p = none := by
  obtain ⟨⟨ps, e⟩, _⟩ := S.tab p hp
  cases q : M p with
  | none => rfl
  | some u => rw [S.mf q] at e; cases e
theorem Sep.tn (S : Sep H G M F) {p a : Addr} (hp : p ∈ Tabs.ts) (h : H a = none) : p ≠ a := fun e => by
  obtain ⟨_, ps, q, _⟩ := S.tab p hp
  rw [e, h] at q; cases q
end
theorem tabG_of {H H' : Hp} {p : Addr} (h : GxR.TabG H p) (e : H' p = H p) : GxR.TabG H' p := by
  obtain ⟨ps, q, t⟩ := h
  exact ⟨ps, e.trans q, t⟩
/-- G with the lists of M at A -/
def mov (G M : Hp) (A : List Addr) : Hp := fun a => if a ∈ A then (match M a with | some u => if isTg u = true then G a else some u | _ => G a) else G a
def cut (M : Hp) (A : List Addr) : Hp := fun a => if a ∈ A then none else M a
mutual
inductive RepO (K : PySem.W.Frag) (G M : Hp) : V → OT → List Addr → Prop
  | d {v : V} {x : PyData} : Dq K G v x → RepO K G M v (.d x) []
  | own {a : Addr} {xs : List V} {os : List OT} {A : List Addr} : M a = some (.lst xs) → RepOs K G M xs os A → a ∉ A → RepO K G M (.ref a) (.own os) (a :: A)
  | fr {a : Addr} {xs : List V} {os : List OT} {A : List Addr} : M a = some tg → G a = some (.lst xs) → RepOs K G M xs os A → a ∉ A → RepO K G M (.ref a) (.fr os) (a :: A)
  | opq {v : V} : RepO K G M v (.opq v) []
  | dic {a : Addr} {t : Bool} {kvs : List (List Int × Int)} : M a = some (dicO t kvs) → RepO K G M (.ref a) (.dic t kvs) [a]
  | lkd {a : Addr} {od : Obj} {t : Bool} {kvs : List (List Int × Int)} : G a = some (.frz od (dicO t kvs)) → RepO K G M (.ref a) (.lkd t kvs) []
  | tp {a : Addr} {vs : List V} {os : List OT} {A : List Addr} : G a = some (.tup vs) → RepOs K G M vs os A → RepO K G M (.ref a) (.tp os) A
  | leaf {a : Addr} {t : Tag} {vs : List V} {xs : List PyData} : M a = some (tagO t vs a) → DqAll K G vs xs → RepO K G M (.ref a) (.leaf t xs) [a]
  | hole {v : V} : RepO K G M v .hole []
inductive RepOs (K : PySem.W.Frag) (G M : Hp) : List V → List OT → List Addr → Prop
  | nil : RepOs K G M [] [] []
  | cons {v : V} {vs : List V} {o : OT} {os : List OT} {A B : List Addr} : RepO K G M v o A → RepOs K G M vs os B → (∀ a ∈ A, a ∉ B) → RepOs K G M (v :: vs) (o :: os) (A ++ B)
end
section
variable {K : PySem.W.Frag} {G G' M M' : Hp}
mutual
theorem RepO.at (e : Same G G') : ∀ (o : OT) (v : V) (A : List Addr), RepO K G M v o A → (∀ a ∈ A, M' a = M a) → RepO K G' M' v o A
  | .d x, _, _, h, _ => by cases h with | d h => exact .d (dp_same e x _ h)
  | .own os, _, _, h, k => by
    cases h with
    | own h1 h2 h3 => exact .own (by rw [k _ List.mem_cons_self]; exact h1) (RepOs.at e os _ _ h2 fun a ha => k a (List.mem_cons_of_mem _ ha)) h3
  | .fr os, _, _, h, k => by
    cases h with
    | fr h0 h1 h2 h3 => exact .fr (by rw [k _ List.mem_cons_self]; exact h0) (e _ _ h1) (RepOs.at e os _ _ h2 fun a ha => k a (List.mem_cons_of_mem _ ha)) h3
  | .opq _, _, _, h, _ => by cases h; exact .opq
  | .dic _ _, _, _, h, k => by
    cases h with
    | dic h1 => exact .dic (by rw [k _ List.mem_cons_self]; exact h1)
  | .lkd _ _, _, _, h, k => by
    cases h with
    | lkd h1 => exact .lkd (e _ _ h1)
  | .tp os, _, _, h, k => by
    cases h with
    | tp h1 h2 => exact .tp (e _ _ h1) (RepOs.at e os _ _ h2 k)
  | .leaf _ xs, _, _, h, k => by
    cases h with
    | leaf h1 h2 => exact .leaf (by rw [k _ List.mem_cons_self]; exact h1) (dps_same e xs _ h2)
  | .hole, _, _, h, _ => by cases h; exact .hole
theorem RepOs.at (e : Same G G') : ∀ (os : List OT) (vs : List V) (A : List Addr), RepOs K G M vs os A → (∀ a ∈ A, M' a = M a) → RepOs K G' M' vs os A
  | [], _, _, h, _ => by cases h; exact .nil
  | o :: os, _, _, h, k => by
    cases h with
    | cons h1 h2 h3 => exact .cons (RepO.at e o _ _ h1 fun a ha => k a (List.mem_append_left _ ha)) (RepOs.at e os _ _ h2 fun a ha => k a (List.mem_append_right _ ha)) h3
end
mutual
theorem RepO.dom : ∀ (o : OT) (v : V) (A : List Addr), RepO K G M v o A → ∀ a ∈ A, ∃ u, M a = some u ∧ (isTg u = false ∨ u = tg)
  | .d x, _, _, h, a, ha => by cases h; cases ha
  | .own os, _, _, h, a, ha => by
    cases h with
    | own h1 h2 h3 =>
      rcases List.mem_cons.mp ha with rfl | ha
      · exact ⟨_, h1, .inl rfl⟩
      · exact RepOs.dom os _ _ h2 a ha
  | .fr os, _, _, h, a, ha => by
    cases h with
    | fr h0 h1 h2 h3 =>
      rcases List.mem_cons.mp ha with rfl | ha
      · exact ⟨_, h0, .inr rfl⟩
      · exact RepOs.dom os _ _ h2 a ha
  | .opq _, _, _, h, a, ha => by cases h; cases ha
  | .dic _ _, _, _, h, a, ha => by
    cases h with
    | dic h1 =>
      rcases List.mem_cons.mp ha with rfl | ha
      · exact ⟨_, h1, .inl dicO_tg⟩
      · cases ha
  | .lkd _ _, _, _, h, a, ha => by cases h; cases ha
  | .tp os, _, _, h, a, ha => by
    cases h with
    | tp h1 h2 => exact RepOs.dom os _ _ h2 a ha
  | .leaf _ _, _, _, h, a, ha => by
    cases h with
    | leaf h1 h2 =>
      rcases List.mem_cons.mp ha with rfl | ha
      · exact ⟨_, h1, .inl tagO_tg⟩
      · cases ha
  | .hole, _, _, h, a, ha => by cases h; cases ha
theorem RepOs.dom : ∀ (os : List OT) (vs : List V) (A : List Addr), RepOs K G M vs os A → ∀ a ∈ A, ∃ u, M a = some u ∧ (isTg u = false ∨ u = tg)
  | [], _, _, h, a, ha => by cases h; cases ha
  | o :: os, _, _, h, a, ha => by
    cases h with
    | cons h1 h2 h3 =>
      rcases List.mem_append.mp ha with ha | ha
      · exact RepO.dom o _ _ h1 a ha
      · exact RepOs.dom os _ _ h2 a ha
end
mutual
/-- a thing of one's own read as data, in any heap that holds both parts -/
theorem RepO.dp {H : Hp} (g : Same G H) : ∀ (o : OT) (v : V) (A : List Addr) (x : PyData), RepO K G M v o A → (∀ a ∈ A, ∀ u, M a = some (.lst u) → H a = some (.lst u)) → frz o = some x → Dq K H v x
  | .d x, _, _, y, h, _, e => by
    cases h with
    | d h =>
      simp only [frz, Option.some.injEq] at e
      subst e
      exact dp_same g x _ h
  | .own os, _, _, y, h, k, e => by
    cases h with
    | own h1 h2 h3 =>
      simp only [frz, Option.map_eq_some_iff] at e
      obtain ⟨xs, e1, rfl⟩ := e
      exact .lst (SqL.of (k _ List.mem_cons_self _ h1)) (RepOs.dp g os _ _ xs h2 (fun a ha => k a (List.mem_cons_of_mem _ ha)) e1)
  | .fr os, _, _, y, h, k, e => by
    cases h with
    | fr h0 h1 h2 h3 =>
      simp only [frz, Option.map_eq_some_iff] at e
      obtain ⟨xs, e1, rfl⟩ := e
      exact .lst (SqL.of (g _ _ h1)) (RepOs.dp g os _ _ xs h2 (fun a ha => k a (List.mem_cons_of_mem _ ha)) e1)
  | .opq _, _, _, _, _, _, e => by simp [frz] at e
  | .dic _ _, _, _, _, _, _, e => by simp [frz] at e
  | .lkd _ _, _, _, _, _, _, e => by simp [frz] at e
  | .tp os, _, _, y, h, k, e => by
    cases h with
    | tp h1 h2 =>
      simp only [frz, Option.map_eq_some_iff] at e
      obtain ⟨xs, e1, rfl⟩ := e
      exact .tup (SqT.of (g _ _ h1)) (RepOs.dp g os _ _ xs h2 k e1)
  | .leaf _ _, _, _, _, _, _, e => by simp [frz] at e
  | .hole, _, _, _, _, _, e => by simp [frz] at e
theorem RepOs.dp {H : Hp} (g : Same G H) : ∀ (os : List OT) (vs : List V) (A : List Addr) (xs : List PyData), RepOs K G M vs os A → (∀ a ∈ A, ∀ u, M a = some (.lst u) → H a = some (.lst u)) → frzs os = some xs → DqAll K H vs xs
  | [], _, _, xs, h, _, e => by
    cases h
    simp only [frzs, Option.some.injEq] at e
    subst e
    exact .nil
  | o :: os, _, _, xs, h, k, e => by
    cases h with
    | cons h1 h2 h3 =>
      simp only [frzs] at e
      split at e
      · rename_i y ys e1 e2
        cases e
        exact .cons (RepO.dp g o _ _ y h1 (fun a ha => k a (List.mem_append_left _ ha)) e1) (RepOs.dp g os _ _ ys h2 (fun a ha => k a (List.mem_append_right _ ha)) e2)
      · cases e
end
theorem RepOs.length : ∀ {os : List OT} {vs : List V} {A : List Addr}, RepOs K G M vs os A → vs.length = os.length
  | [], _, _, h => by cases h; rfl
  | o :: os, _, _, h => by
    cases h with
    | cons h1 h2 h3 => simp [RepOs.length h2]
theorem RepOs.app : ∀ {os : List OT} {vs : List V} {A : List Addr} {ps : List OT} {ws : List V} {B : List Addr}, RepOs K G M vs os A → RepOs K G M ws ps B → (∀ a ∈ A, a ∉ B) → RepOs K G M (vs ++ ws) (os ++ ps) (A ++ B)
  | [], _, _, _, _, _, h, k, _ => by cases h; simpa using k
  | o :: os, _, _, _, _, _, h, k, hd => by
    cases h with
    | cons h1 h2 h3 =>
      rw [List.append_assoc]
      refine .cons h1 (RepOs.app h2 k fun a ha => hd a (List.mem_append_right _ ha)) fun a ha hb => ?_
      rcases List.mem_append.mp hb with hb | hb
      · exact h3 a ha hb
      · exact hd a (List.mem_append_left _ ha) hb
/-- split at any place -/
theorem RepOs.split : ∀ {vs : List V} {os : List OT} {ws : List V} {ps : List OT} {A : List Addr}, vs.length = os.length → RepOs K G M (vs ++ ws) (os ++ ps) A → ∃ B C, A = B ++ C ∧ RepOs K G M vs os B ∧ RepOs K G M ws ps C ∧ ∀ a ∈ B, a ∉ C
  | [], [], _, _, _, _, h => ⟨[], _, rfl, .nil, h, fun _ z => nomatch z⟩
  | v :: vs, o :: os, _, _, _, hl, h => by
    cases h with
    | cons h1 h2 h3 =>
      obtain ⟨B, C, rfl, k1, k2, k3⟩ := RepOs.split (by simpa using hl) h2
      refine ⟨_ ++ B, C, by rw [List.append_assoc], .cons h1 k1 (fun a ha hb => h3 a ha (List.mem_append_left _ hb)), k2, fun a ha hc => ?_⟩
      rcases List.mem_append.mp ha with ha | ha
      · exact h3 a ha (List.mem_append_right _ hc)
      · exact k3 a ha hc
  | [], _ :: _, _, _, _, hl, _ => by simp at hl
  | _ :: _, [], _, _, _, hl, _ => by simp at hl
end
/-! ### slots -/
section
variable (K : PySem.W.Frag) (G M : Hp) (τ σ : St)
def SlotOk (i : Nat) : Slot → List Addr → Prop
  | .un, A => A = []
  | .v o, A => ∃ x, σ[i]? = some (some x) ∧ RepO K G M x o A
  | .p o, A => ∃ x, σ[i]? = some (some x) ∧ τ[i]? = some (some x) ∧ RepO K G M x o A
def RE (en : En) (φ : Nat → List Addr) : Prop :=
  σ.length = en.length ∧ (∀ i s, en[i]? = some s → SlotOk K G M τ σ i s (φ i)) ∧ (∀ i, en.length ≤ i → φ i = []) ∧ ∀ i j, i ≠ j → ∀ a ∈ φ i, a ∉ φ j
end
/-- THE STATE: the slots stand for en, and besides the values vs for os -/
def RX (K : PySem.W.Frag) (G : Hp) (F : FS) (τ σ : St) (H : Hp) (en : En) (vs : List V) (os : List OT) : Prop :=
  ∃ (M : Hp) (φ : Nat → List Addr) (B : List Addr), Sep H G M F ∧ RE K G M τ σ en φ ∧ RepOs K G M vs os B ∧ ∀ i, ∀ a ∈ B, a ∉ φ i
section
variable {K : PySem.W.Frag} {G G' H : Hp} {F : FS} {τ σ : St} {en : En} {vs ws : List V} {os ps : List OT}
theorem SlotOk.at {M M' : Hp} {i : Nat} {s : Slot} {A : List Addr} (h : SlotOk K G M τ σ i s A) (e : Same G G') (k : ∀ a ∈ A, M' a = M a) : SlotOk K G' M' τ σ i s A := by
  cases s with
  | un => exact h
  | v o => obtain ⟨x, h1, h2⟩ := h; exact ⟨x, h1, RepO.at e _ _ _ h2 k⟩
  | p o => obtain ⟨x, h1, h0, h2⟩ := h; exact ⟨x, h1, h0, RepO.at e _ _ _ h2 k⟩
theorem SlotOk.dom {M : Hp} {i : Nat} {s : Slot} {A : List Addr} (h : SlotOk K G M τ σ i s A) : ∀ a ∈ A, ∃ u, M a = some u ∧ (isTg u = false ∨ u = tg) := by
  cases s with
  | un => intro a ha; rw [show A = [] from h] at ha; cases ha
  | v o => obtain ⟨x, h1, h2⟩ := h; exact RepO.dom _ _ _ h2
  | p o => obtain ⟨x, h1, h0, h2⟩ := h; exact RepO.dom _ _ _ h2
theorem RE.at {M M' : Hp} {φ : Nat → List Addr} (h : RE K G M τ σ en φ) (e : Same G G') (k : ∀ i, ∀ a ∈ φ i, M' a = M a) : RE K G' M' τ σ en φ :=
  ⟨h.1, fun i s hs => (h.2.1 i s hs).at e (k i), h.2.2⟩
theorem RE.dom {M : Hp} {φ : Nat → List Addr} (h : RE K G M τ σ en φ) {i : Nat} {a : Addr} (ha : a ∈ φ i) : ∃ u, M a = some u ∧ (isTg u = false ∨ u = tg) := by
  by_cases hi : i < en.length
  · exact (h.2.1 i en[i] (by simp [hi])).dom a ha
  · rw [h.2.2.1 i (by omega)] at ha; cases ha
theorem RX.same (h : RX K G F τ σ H en vs os) : Same G H := let ⟨_, _, _, S, _⟩ := h; S.g
theorem RX.len (h : RX K G F τ σ H en vs os) : σ.length = en.length := let ⟨_, _, _, _, h, _⟩ := h; h.1
theorem RX.vlen (h : RX K G F τ σ H en vs os) : vs.length = os.length := let ⟨_, _, _, _, _, h, _⟩ := h; h.length
/-- forget the last ones, the first ones -/
theorem RX.left (hl : vs.length = os.length) (h : RX K G F τ σ H en (vs ++ ws) (os ++ ps)) : RX K G F τ σ H en vs os := by
  obtain ⟨M, φ, B, S, E, r, d⟩ := h
  obtain ⟨B1, B2, rfl, r1, r2, d1⟩ := RepOs.split hl r
  exact ⟨M, φ, B1, S, E, r1, fun i a ha => d i a (List.mem_append_left _ ha)⟩
theorem RX.right (hl : vs.length = os.length) (h : RX K G F τ σ H en (vs ++ ws) (os ++ ps)) : RX K G F τ σ H en ws ps := by
  obtain ⟨M, φ, B, S, E, r, d⟩ := h
  obtain ⟨B1, B2, rfl, r1, r2, d1⟩ := RepOs.split hl r
  exact ⟨M, φ, B2, S, E, r2, fun i a ha => d i a (List.mem_append_right _ ha)⟩
theorem RX.nil (h : RX K G F τ σ H en vs os) : RX K G F τ σ H en [] [] := RX.left (vs := []) (os := []) rfl h
theorem RepOs.at_ {M : Hp} : ∀ {os : List OT} {vs : List V} {A : List Addr} (i : Nat) {v : V} {o : OT}, RepOs K G M vs os A → vs[i]? = some v → os[i]? = some o → ∃ C, RepO K G M v o C ∧ ∀ a ∈ C, a ∈ A
  | [], _, _, i, v, o, h, _, e => by simp at e
  | o' :: os, _, _, 0, v, o, h, e1, e2 => by
    cases h with
    | cons h1 h2 h3 =>
      simp at e1 e2
      subst e1 e2
      exact ⟨_, h1, fun a ha => List.mem_append_left _ ha⟩
  | o' :: os, _, _, i + 1, v, o, h, e1, e2 => by
    cases h with
    | cons h1 h2 h3 =>
      obtain ⟨C, r, sub⟩ := RepOs.at_ i h2 (by simpa using e1) (by simpa using e2)
      exact ⟨C, r, fun a ha => List.mem_append_right _ (sub a ha)⟩
/-- what is held, as others' -/
def FS.hold (F : FS) (G M : Hp) (B : List Addr) : FS := ⟨mov F.f M B, fun a => if a ∈ B then (match M a with | some u => if isTg u = true then G a else F.b a | _ => G a) else F.b a⟩
theorem mov_in {G M : Hp} {A : List Addr} {a : Addr} {xs : List V} (ha : a ∈ A) (h : M a = some (.lst xs)) : mov G M A a = some (.lst xs) := by simp [mov, ha, h, isTg]
theorem mov_ino {G M : Hp} {A : List Addr} {a : Addr} {u : HO} (ha : a ∈ A) (h : M a = some u) (ht : isTg u = false) : mov G M A a = some u := by simp [mov, ha, h, ht]
theorem mov_tg {G M : Hp} {A : List Addr} {a : Addr} (h : M a = some tg) : mov G M A a = G a := by simp [mov, h, isTg]
theorem mov_out {G M : Hp} {A : List Addr} {a : Addr} (ha : a ∉ A) : mov G M A a = G a := by simp [mov, ha]
/-- HOLD: what is besides stands as it is while the rest goes on; the slots' pins may change -/
theorem RX.hold2 (h : RX K G F τ σ H en vs os) : ∃ F' : FS, RX K G F' τ σ H en [] [] ∧
    ∀ (G' H' : Hp) (τ' σ' : St) (en' : En) (ws : List V) (ps : List OT), Same G G' → RX K G' F' τ' σ' H' en' ws ps →
      (∀ a xs, (∃ (i : Nat) (qs : List OT), vs[i]? = some (.ref a) ∧ os[i]? = some (.own qs)) → H a = some (.lst xs) → H' a = some (.lst xs)) ∧ RX K G' F τ' σ' H' en' (vs ++ ws) (os ++ ps) := by
  obtain ⟨M, φ, B, S, E, r, d⟩ := h
  have dm := RepOs.dom _ _ _ r
  have hB : ∀ (a : Addr) (xs : List V), (∃ (i : Nat) (qs : List OT), vs[i]? = some (.ref a) ∧ os[i]? = some (.own qs)) → H a = some (.lst xs) → a ∈ B ∧ M a = some (.lst xs) := fun a xs ⟨i, qs, e1, e2⟩ hx => by
    obtain ⟨A, hA, sub⟩ := RepOs.at_ i r e1 e2
    cases hA with
    | own k1 k2 k3 =>
      have z := S.m _ _ k1
      rw [hx] at z
      cases z
      exact ⟨sub a List.mem_cons_self, k1⟩
  have dt : ∀ p ∈ Tabs.ts, p ∉ B := fun p hp hb => by
    obtain ⟨xs, hx, _⟩ := dm p hb
    rw [S.tm hp] at hx; cases hx
  refine ⟨F.hold G M B, ⟨cut M B, φ, [], ⟨fun a => ?_, fun a ps z => ?_, fun p hp => ⟨?_, (S.tab p hp).2⟩, fun a u z => ?_, fun a u z => ?_⟩, E.at (Same.refl G) (fun i a ha => ?_), .nil, fun _ _ z => nomatch z⟩, fun G' H' τ' σ' en' ws ps sg ⟨M2, φ2, C, S2, E2, r2, d2⟩ => ⟨fun a xs ha hx => ?_, ?_⟩⟩
  · rw [show (F.hold G M B).f a = mov F.f M B a from rfl]
    by_cases ha : a ∈ B
    · obtain ⟨u, hx, hu⟩ := dm a ha
      rcases hu with hu | rfl
      · have := S.mgo hx hu
        have hH := S.mo _ _ hx hu
        exact .inr (.inr (.inl ⟨this.1, by simp [cut, ha], .inl (by rw [mov_ino ha hx hu, hH])⟩))
      · exact .inl ⟨by simp [cut, ha], (mov_tg hx).trans (S.mf hx), (S.mt hx).1⟩
    · rw [mov_out ha]
      have e : cut M B a = M a := by simp [cut, ha]
      rw [e]
      exact S.at_ a
  · by_cases ha : a ∈ B
    · simp [cut, ha] at z
    · simp only [cut, if_neg ha] at z; exact S.nt a ps z
  · obtain ⟨ps, e⟩ := (S.tab p hp).1
    exact ⟨ps, (mov_out (dt p hp)).trans e⟩
  · by_cases ha : a ∈ B
    · obtain ⟨u', hx, hu⟩ := dm a ha
      rcases hu with hu | rfl
      · simp only [FS.hold, if_pos ha, hx, hu, Bool.false_eq_true, if_false] at z; exact S.base a u z
      · simp only [FS.hold, if_pos ha, hx, isTg, decide_true, Bool.and_self, if_true] at z; exact z
    · simp only [FS.hold, if_neg ha] at z; exact S.base a u z
  · by_cases ha : a ∈ B
    · simp [cut, ha] at z
    · simp only [cut, if_neg ha] at z
      simp only [FS.hold, if_neg ha]
      exact S.mb a u z
  · have : a ∉ B := fun hb => d i a hb ha
    simp [cut, this]
  · have hb := hB a xs ha hx
    have hm : (F.hold G M B).f a = some (.lst xs) := mov_in hb.1 hb.2
    rcases S2.at_ a with ⟨_, h2, _⟩ | ⟨_, h2, _⟩ | ⟨_, _, h3⟩ | ⟨_, h2, _⟩
    · rw [hm] at h2; cases h2
    · rw [hm] at h2; cases h2
    · rw [hm] at h3; exact up_lst h3
    · rw [hm] at h2; cases h2
  · -- back
    have noM2 : ∀ a ∈ B, M2 a = none := fun a ha => by
      obtain ⟨u, hx, hu⟩ := dm a ha
      rcases hu with hu | rfl
      · have hm : (F.hold G M B).f a = some u := mov_ino ha hx hu
        cases q : M2 a with
        | none => rfl
        | some w => rw [S2.mf q] at hm; cases hm
      · cases q : M2 a with
        | none => rfl
        | some w =>
          have z := S2.mb a w q
          obtain ⟨_, xs, hg⟩ := S.mt hx
          simp only [FS.hold, if_pos ha, hx, hg, isTg, decide_true, Bool.and_self, if_true] at z
          cases z
    have noφ : ∀ i, ∀ a ∈ φ2 i, a ∉ B := fun i a ha hb => by
      obtain ⟨xs, hx, _⟩ := E2.dom ha
      rw [noM2 a hb] at hx; cases hx
    have noC : ∀ a ∈ C, a ∉ B := fun a ha hb => by
      obtain ⟨xs, hx, _⟩ := RepOs.dom _ _ _ r2 a ha
      rw [noM2 a hb] at hx; cases hx
    refine ⟨fun a => if a ∈ B then M a else M2 a, φ2, B ++ C, ⟨fun a => ?_, fun a ps z => ?_, fun p hp => ⟨(S.tab p hp).1, (S2.tab p hp).2⟩, S.base.trans sg, fun a u z => ?_⟩, E2.at (Same.refl _) (fun i a ha => by simp [noφ i a ha]), ?_, fun i a ha => ?_⟩
    · by_cases ha : a ∈ B
      · obtain ⟨u, hx, hu⟩ := dm a ha
        have f0 := S.mf hx
        have m0 := noM2 a ha
        have q := S2.at_ a
        rcases hu with hu | rfl
        · rw [show (F.hold G M B).f a = some u from mov_ino ha hx hu] at q
          rcases q with ⟨_, h2, _⟩ | ⟨_, h2, _⟩ | ⟨h1, h2, h3⟩ | ⟨_, h2, _⟩
          · cases h2
          · cases h2
          · exact .inr (.inl ⟨h1, f0, by simp [ha, hx, up_some (fun ps e => S.nt a ps (by rw [hx, e])) h3], by simp only [if_pos ha, hx]; intro z; cases z; simp [isTg] at hu⟩)
          · cases h2
        · obtain ⟨_, xs, hg⟩ := S.mt hx
          have hg' := sg _ _ hg
          rcases q with ⟨_, _, h3⟩ | ⟨h1, _⟩ | ⟨h1, _⟩ | ⟨h1, _⟩
          · exact .inr (.inr (.inr ⟨by simp [ha, hx], f0, h3, xs, hg'⟩))
          · rw [hg'] at h1; cases h1
          · rw [hg'] at h1; cases h1
          · rw [m0] at h1; cases h1
      · have q := S2.at_ a
        rw [show (F.hold G M B).f a = F.f a from mov_out ha] at q
        simpa [ha] using q
    · try dsimp only at z
      split at z
      · exact S.nt a ps z
      · exact S2.nt a ps z
    · try dsimp only at z
      split at z
      · exact S.mb a u z
      · rename_i ha
        have q := S2.mb a u z
        simpa [FS.hold, ha] using q
    · exact RepOs.app (RepOs.at sg _ _ _ r fun a ha => by simp [ha]) (RepOs.at (Same.refl _) _ _ _ r2 fun a ha => by simp [noC a ha]) fun a ha hc => noC a hc ha
    · rcases List.mem_append.mp ha with ha | ha
      · exact fun hb => noφ i a hb ha
      · exact d2 i a ha
theorem RX.hold (h : RX K G F τ σ H en vs os) : ∃ F' : FS, RX K G F' τ σ H en [] [] ∧
    ∀ (G' H' : Hp) (σ' : St) (en' : En) (ws : List V) (ps : List OT), Same G G' → RX K G' F' τ σ' H' en' ws ps → RX K G' F τ σ' H' en' (vs ++ ws) (os ++ ps) := by
  obtain ⟨F', h', back⟩ := h.hold2
  exact ⟨F', h', fun G' H' σ' en' ws ps s x => (back G' H' τ σ' en' ws ps s x).2⟩
/-- FREEZE the first one -/
theorem RX.freeze {v : V} {o : OT} {x : PyData} (h : RX K G F τ σ H en (v :: vs) (o :: os)) (e : frz o = some x) : ∃ G', Same G G' ∧ RX K G' F τ σ H en (v :: vs) (.d x :: os) := by
  obtain ⟨M, φ, B, S, E, r, d⟩ := h
  cases r with
  | cons r1 r2 hd =>
    rename_i A B
    have dm := RepO.dom _ _ _ r1
    have sg : Same G (mov G M A) := fun a u hu => by
      by_cases ha : a ∈ A
      · obtain ⟨w, hx, hw⟩ := dm a ha
        rcases hw with hw | rfl
        · rw [(S.mgo hx hw).1] at hu; cases hu
        · rw [mov_tg hx]; exact hu
      · rw [mov_out ha]; exact hu
    refine ⟨mov G M A, sg, cut M A, φ, B, ⟨fun a => ?_, fun a ps z => ?_, S.tab, S.base.trans sg, fun a u z => ?_⟩, E.at sg (fun i a ha => ?_), ?_, fun i a ha => d i a (List.mem_append_right _ ha)⟩
    · by_cases ha : a ∈ A
      · obtain ⟨w, hx, hw⟩ := dm a ha
        rcases hw with hw | rfl
        · exact .inl ⟨by simp [cut, ha], (S.mgo hx hw).2, by rw [mov_ino ha hx hw, S.mo _ _ hx hw]⟩
        · exact .inl ⟨by simp [cut, ha], S.mf hx, by rw [mov_tg hx]; exact (S.mt hx).1⟩
      · have q := S.at_ a
        rw [mov_out ha, show cut M A a = M a by simp [cut, ha]]
        exact q
    · by_cases ha : a ∈ A
      · simp [cut, ha] at z
      · simp only [cut, if_neg ha] at z; exact S.nt a ps z
    · by_cases ha : a ∈ A
      · simp [cut, ha] at z
      · simp only [cut, if_neg ha] at z; exact S.mb a u z
    · have : a ∉ A := fun hb => d i a (List.mem_append_left _ hb) ha
      simp [cut, this]
    · have q : RepOs K (mov G M A) (cut M A) (v :: vs) (.d x :: os) ([] ++ B) := by
        refine .cons (.d (RepO.dp sg o v A x r1 (fun a ha u hu => mov_in ha hu) e)) (RepOs.at sg _ _ _ r2 fun a ha => ?_) fun _ z => nomatch z
        have : a ∉ A := fun hb => hd a hb ha
        simp [cut, this]
      simpa using q
/-- the first one as data, read where it stands -/
theorem RX.data {v : V} {o : OT} {x : PyData} (h : RX K G F τ σ H en (v :: vs) (o :: os)) (e : frz o = some x) : Dq K H v x := by
  obtain ⟨M, φ, B, S, E, r, d⟩ := h
  cases r with
  | cons r1 r2 hd => exact RepO.dp S.g o v _ x r1 (fun a ha u hu => S.m _ _ hu) e
/-- frozen data is of the frozen part -/
theorem RX.dataG {v : V} {x : PyData} (h : RX K G F τ σ H en (v :: vs) (.d x :: os)) : Dq K G v x := by
  obtain ⟨M, φ, B, S, E, r, d⟩ := h
  cases r with
  | cons r1 r2 hd => cases r1 with | d h => exact h
theorem RX.opq {v u : V} (h : RX K G F τ σ H en (v :: vs) (.opq u :: os)) : v = u := by
  obtain ⟨M, φ, B, S, E, r, d⟩ := h
  cases r with
  | cons r1 r2 hd => cases r1; rfl
/-- data of the frozen part, an opaque value, put besides -/
theorem RX.withD {v : V} {x : PyData} (h : RX K G F τ σ H en vs os) (k : Dq K G v x) : RX K G F τ σ H en (v :: vs) (.d x :: os) := by
  obtain ⟨M, φ, B, S, E, r, d⟩ := h
  exact ⟨M, φ, B, S, E, .cons (A := []) (.d k) r (fun _ z => nomatch z), d⟩
theorem RX.withQ {v : V} (h : RX K G F τ σ H en vs os) : RX K G F τ σ H en (v :: vs) (.opq v :: os) := by
  obtain ⟨M, φ, B, S, E, r, d⟩ := h
  exact ⟨M, φ, B, S, E, .cons (A := []) .opq r (fun _ z => nomatch z), d⟩
/-- a new list of what is besides -/
theorem RX.newL {p : Addr} (h : RX K G F τ σ H en (vs ++ ws) (os ++ ps)) (hl : vs.length = os.length) (hp : H p = none) : RX K G F τ σ (upd H p (.lst vs)) en (.ref p :: ws) (.own os :: ps) := by
  obtain ⟨M, φ, B, S, E, r, d⟩ := h
  obtain ⟨g0, m0, f0⟩ := S.new hp
  have nφ : ∀ i, ∀ a ∈ φ i, a ≠ p := fun i a ha e => by
    obtain ⟨xs, hx, _⟩ := E.dom ha
    rw [e, m0] at hx; cases hx
  have nB : ∀ a ∈ B, a ≠ p := fun a ha e => by
    obtain ⟨xs, hx, _⟩ := RepOs.dom _ _ _ r a ha
    rw [e, m0] at hx; cases hx
  obtain ⟨B1, B2, rfl, r1, r2, dd⟩ := RepOs.split hl r
  refine ⟨upd M p (.lst vs), φ, (p :: B1) ++ B2, ⟨fun a => ?_, fun a ps z => ?_, fun t ht => ⟨(S.tab t ht).1, tabG_of (S.tab t ht).2 (upd_ne (S.tn ht hp))⟩, S.base, fun a u z => ?_⟩, E.at (Same.refl _) (fun i a ha => upd_ne (nφ i a ha)), .cons (.own upd_same (RepOs.at (Same.refl _) _ _ _ r1 fun a ha => upd_ne (nB a (List.mem_append_left _ ha))) (fun hb => nB p (List.mem_append_left _ hb) rfl)) (RepOs.at (Same.refl _) _ _ _ r2 fun a ha => upd_ne (nB a (List.mem_append_right _ ha))) (fun a ha => ?_), fun i a ha => ?_⟩
  · by_cases e : a = p
    · subst e; exact .inr (.inl ⟨g0, f0, by rw [upd_same, upd_same], by rw [upd_same]; exact fun z => nomatch z⟩)
    · rw [upd_ne e, upd_ne e]; exact S.at_ a
  · by_cases e : a = p
    · rw [e, upd_same] at z; cases z
    · rw [upd_ne e] at z; exact S.nt a ps z
  · by_cases e : a = p
    · rw [e]; exact S.base.free g0
    · rw [upd_ne e] at z; exact S.mb a u z
  · rcases List.mem_cons.mp ha with rfl | ha
    · exact fun hb => nB _ (List.mem_append_right _ hb) rfl
    · exact dd a ha
  · rcases List.mem_cons.mp ha with rfl | ha
    · exact fun hb => nφ i _ hb rfl
    · exact d i a ha
/-- a new frozen object -/
theorem RX.newG {p : Addr} {u : HO} (h : RX K G F τ σ H en vs os) (hp : H p = none) : Same G (upd G p u) ∧ RX K (upd G p u) F τ σ (upd H p u) en vs os := by
  obtain ⟨M, φ, B, S, E, r, d⟩ := h
  obtain ⟨g0, m0, f0⟩ := S.new hp
  have sg : Same G (upd G p u) := fun a o e => by rw [upd_ne (ne_of_none e g0)]; exact e
  refine ⟨sg, M, φ, B, ⟨fun a => ?_, S.nt, fun t ht => ⟨(S.tab t ht).1, tabG_of (S.tab t ht).2 (upd_ne (S.tn ht hp))⟩, S.base.trans sg, S.mb⟩, E.at sg (fun i a ha => rfl), RepOs.at sg _ _ _ r fun a ha => rfl, d⟩
  by_cases e : a = p
  · subst e; exact .inl ⟨m0, f0, by rw [upd_same, upd_same]⟩
  · rw [upd_ne e, upd_ne e]; exact S.at_ a
/-- a slot is stored into -/
theorem RX.store {i : Nat} {v : V} {o : OT} (h : RX K G F τ σ H en (v :: vs) (o :: os)) (hi : i < en.length) : RX K G F τ (σ.set i (some v)) H (en.set i (.v o)) vs os := by
  obtain ⟨M, φ, B, S, E, r, d⟩ := h
  cases r with
  | cons r1 r2 hd =>
    rename_i A B
    refine ⟨M, fun j => if j = i then A else φ j, B, S, ⟨by simp [E.1], fun j s hs => ?_, fun j hj => ?_, fun j k hjk a ha => ?_⟩, r2, fun j a ha => ?_⟩
    · dsimp only
      by_cases e : j = i
      · subst e
        rw [List.getElem?_set_self hi] at hs
        cases hs
        rw [if_pos rfl]
        exact ⟨v, List.getElem?_set_self (by rw [E.1]; exact hi), r1⟩
      · rw [List.getElem?_set_ne (Ne.symm e)] at hs
        rw [if_neg e]
        have q := E.2.1 j s hs
        have hσ : (σ.set i (some v))[j]? = σ[j]? := List.getElem?_set_ne (Ne.symm e)
        cases s with
        | un => exact q
        | v o => obtain ⟨x, q1, q2⟩ := q; exact ⟨x, by rw [hσ]; exact q1, q2⟩
        | p o => obtain ⟨x, q1, q0, q2⟩ := q; exact ⟨x, by rw [hσ]; exact q1, q0, q2⟩
    · have e : j ≠ i := by simp at hj; omega
      dsimp only
      rw [if_neg e]
      exact E.2.2.1 j (by simpa using hj)
    · dsimp only at ha ⊢
      by_cases e : j = i
      · rw [if_pos e] at ha
        rw [if_neg (fun z => hjk (e.trans z.symm))]
        exact fun hb => d k a (List.mem_append_left _ ha) hb
      · rw [if_neg e] at ha
        by_cases e2 : k = i
        · rw [if_pos e2]
          exact fun hb => d j a (List.mem_append_left _ hb) ha
        · rw [if_neg e2]
          exact E.2.2.2 j k hjk a ha
    · dsimp only
      by_cases e : j = i
      · rw [if_pos e]
        exact fun hb => hd a hb ha
      · rw [if_neg e]
        exact d j a (List.mem_append_right _ ha)
/-- a slot is emptied: its thing stands besides -/
theorem RX.take {i : Nat} {o : OT} (h : RX K G F τ σ H en vs os) (hs : en[i]? = some (.v o)) : ∃ x, σ[i]? = some (some x) ∧ RX K G F τ σ H (en.set i .un) (x :: vs) (o :: os) := by
  obtain ⟨M, φ, B, S, E, r, d⟩ := h
  obtain ⟨x, hx, q⟩ := E.2.1 i _ hs
  refine ⟨x, hx, M, fun j => if j = i then [] else φ j, φ i ++ B, S, ⟨by simp [E.1], fun j s hj => ?_, fun j hj => ?_, fun j k hjk a ha => ?_⟩, .cons q r (fun a ha hb => d i a hb ha), fun j a ha => ?_⟩
  · dsimp only
    by_cases e : j = i
    · subst e
      rw [List.getElem?_set_self (List.getElem?_eq_some_iff.mp hs).1] at hj
      cases hj
      rw [if_pos rfl]
      rfl
    · rw [List.getElem?_set_ne (Ne.symm e)] at hj
      rw [if_neg e]
      exact E.2.1 j s hj
  · dsimp only
    by_cases e : j = i
    · rw [if_pos e]
    · rw [if_neg e]
      exact E.2.2.1 j (by simpa using hj)
  · dsimp only at ha ⊢
    by_cases e : j = i
    · rw [if_pos e] at ha; cases ha
    · rw [if_neg e] at ha
      by_cases e2 : k = i
      · rw [if_pos e2]; simp
      · rw [if_neg e2]; exact E.2.2.2 j k hjk a ha
  · dsimp only
    by_cases e : j = i
    · rw [if_pos e]; simp
    · rw [if_neg e]
      rcases List.mem_append.mp ha with ha | ha
      · exact E.2.2.2 i j (Ne.symm e) a ha
      · exact d j a ha
theorem RX.takeP {i : Nat} {o : OT} (h : RX K G F τ σ H en vs os) (hs : en[i]? = some (.p o)) : ∃ x, σ[i]? = some (some x) ∧ τ[i]? = some (some x) ∧ RX K G F τ σ H (en.set i (.p .hole)) (x :: vs) (o :: os) := by
  obtain ⟨M, φ, B, S, E, r, d⟩ := h
  obtain ⟨x, hx, hτ, q⟩ := E.2.1 i _ hs
  refine ⟨x, hx, hτ, M, fun j => if j = i then [] else φ j, φ i ++ B, S, ⟨by simp [E.1], fun j s hj => ?_, fun j hj => ?_, fun j k hjk a ha => ?_⟩, .cons q r (fun a ha hb => d i a hb ha), fun j a ha => ?_⟩
  · dsimp only
    by_cases e : j = i
    · subst e
      rw [List.getElem?_set_self (List.getElem?_eq_some_iff.mp hs).1] at hj
      cases hj
      rw [if_pos rfl]
      exact ⟨x, hx, hτ, .hole⟩
    · rw [List.getElem?_set_ne (Ne.symm e)] at hj
      rw [if_neg e]
      exact E.2.1 j s hj
  · dsimp only
    by_cases e : j = i
    · rw [if_pos e]
    · rw [if_neg e]
      exact E.2.2.1 j (by simpa using hj)
  · dsimp only at ha ⊢
    by_cases e : j = i
    · rw [if_pos e] at ha; cases ha
    · rw [if_neg e] at ha
      by_cases e2 : k = i
      · rw [if_pos e2]; simp
      · rw [if_neg e2]; exact E.2.2.2 j k hjk a ha
  · dsimp only
    by_cases e : j = i
    · rw [if_pos e]; simp
    · rw [if_neg e]
      rcases List.mem_append.mp ha with ha | ha
      · exact E.2.2.2 i j (Ne.symm e) a ha
      · exact d j a ha
end
end Lf
end
section
set_option Elab.async false
set_option linter.all false
set_option maxRecDepth 100000
namespace Lf
open PySem PySem.Spec L2
variable [Tabs]
def bd {α β : Type} (r : R α) (k : α → R β) : R β := match r with
  | .ok a => k a
  | .error e => .error e
/-- a class of the program, by its name -/
abbrev clV (K : PySem.W.Frag) (c : Str) : Value := .ref (He.ga K c)
/-- what is wanted of an outcome -/
def Post {α : Type} (K : PySem.W.Frag) (G : Hp) (F : FS) (τ σ : St) (W : WX) (ob : α → List OT) (Q : α → List V → Hp → Prop) : R (α × En) → Prop
  | .ok (a, en) => ∀ G' H' vs, Same G G' → RX K G' F τ σ H' en vs (ob a) → Q a vs H'
  | .error .stuck => False
  | .error (.exn c en) => ∀ G' H', Same G G' → RX K G' F τ σ H' en [] [] → W (clV K c) none σ H'
def ob1 : OT → List OT := fun o => [o]
def q1 (Q : VK) : OT → List V → Hp → Prop := fun _ vs H => ∀ v, vs = [v] → Q v H
def liftE (K : PySem.W.Frag) (W : WX) (d : DE) : TE := fun σ H Q => ∃ G F τ en, RX K G F τ σ H en [] [] ∧ Post K G F τ σ W ob1 (q1 Q) (d en)
def liftA (K : PySem.W.Frag) (W : WX) (d : DA) : TA := fun σ H Q => ∃ G F τ en, RX K G F τ σ H en [] [] ∧ Post K G F τ σ W (fun os => os) (fun _ vs H' => Q vs H') (d en)
def liftT (K : PySem.W.Frag) (W : WX) (d : DT) : TT := fun σ H Q => ∃ G F τ en, RX K G F τ σ H en [] [] ∧ Post K G F τ σ W (fun _ => []) (fun b _ H' => Q b H') (d en)
abbrev EX (X : Cx) (W : WX) (e : Expr) (d : DE) : Prop := PE X e (liftE X.K W d)
abbrev AX (X : Cx) (W : WX) (es : List Expr) (d : DA) : Prop := PA X es (liftA X.K W d)
abbrev TX (X : Cx) (W : WX) (e : Expr) (d : DT) : Prop := PT X e (liftT X.K W d)
abbrev TW (X : Cx) (W : WX) (e : Expr) (d : DT) : Prop := PW X e (liftT X.K W d)
section
variable {X : Cx} {e : Expr}
theorem PE.imp {t t' : TE} (h : PE X e t) (k : ∀ σ H Q, t' σ H Q → t σ H Q) : PE X e t' := ⟨fun pins s σ H Q I q => h.run pins s σ H Q I (k σ H Q q)⟩
theorem PA.imp {es : List Expr} {t t' : TA} (h : PA X es t) (k : ∀ σ H Q, t' σ H Q → t σ H Q) : PA X es t' := ⟨fun pos pins s σ H Q I q => h.run pos pins s σ H Q I (k σ H Q q)⟩
theorem PT.imp {t t' : TT} (h : PT X e t) (k : ∀ σ H Q, t' σ H Q → t σ H Q) : PT X e t' := ⟨fun pins s σ H Q I q => h.run pins s σ H Q I (k σ H Q q)⟩
theorem PW.imp {t t' : TT} (h : PW X e t) (k : ∀ σ H Q, t' σ H Q → t σ H Q) : PW X e t' := ⟨fun wh pins s σ H Q I q => h.run wh pins s σ H Q I (k σ H Q q)⟩
theorem PS.imp {st : Stmt} {t t' : TS} (h : PS X st t) (k : ∀ D σ H, t' D σ H → t D σ H) : PS X st t' := ⟨fun pins s σ H D I q => h.run pins s σ H D I (k D σ H q)⟩
theorem PSs.imp {st : List Stmt} {t t' : TS} (h : PSs X st t) (k : ∀ D σ H, t' D σ H → t D σ H) : PSs X st t' := ⟨fun pins s σ H D I q => h.run pins s σ H D I (k D σ H q)⟩
theorem PG.imp {t t' : TG} (h : PG X e t) (k : ∀ v σ H Q, t' v σ H Q → t v σ H Q) : PG X e t' := ⟨fun pins s σ H v u Q I r q => h.run pins s σ H v u Q I r (k v σ H Q q)⟩
theorem PGs.imp {es : List Expr} {t t' : TGs} (h : PGs X es t) (k : ∀ v σ H Q, t' v σ H Q → t v σ H Q) : PGs X es t' := ⟨fun pins s σ H v u Q I r q => h.run pins s σ H v u Q I r (k v σ H Q q)⟩
theorem PI.imp {tg : Expr} {t t' : TI} (h : PI X tg e t) (k : ∀ σ H Q, t' σ H Q → t σ H Q) : PI X tg e t' := ⟨fun pins s σ H Q I q => h.run pins s σ H Q I (k σ H Q q)⟩
end
section
variable {K : PySem.W.Frag} {G G' H : Hp} {F : FS} {τ σ : St} {W : WX} {en : En} {vs : List V} {os : List OT} {α β : Type} {ob : α → List OT} {Q : α → List V → Hp → Prop}
theorem Post.mono {r : R (α × En)} (s : Same G G') (h : Post K G F τ σ W ob Q r) : Post K G' F τ σ W ob Q r := by
  match r, h with
  | .ok (a, en), h => exact fun G2 H2 vs s2 x => h G2 H2 vs (s.trans s2) x
  | .error (.exn c en), h => exact fun G2 H2 s2 x => h G2 H2 (s.trans s2) x
/-- an expression in front, what is besides held -/
theorem bindE {da : DE} {kk : OT × En → R (α × En)} {Rk : VK} (h : RX K G F τ σ H en vs os) (hp : Post K G F τ σ W ob Q (bd (da en) kk))
    (hk : ∀ o e1, Post K G F τ σ W ob Q (kk (o, e1)) → ∀ G' H' v, Same G G' → RX K G' F τ σ H' e1 (vs ++ [v]) (os ++ [o]) → Rk v H') : liftE K W da σ H Rk := by
  obtain ⟨F', h', back⟩ := h.hold
  refine ⟨G, F', τ, en, h', ?_⟩
  revert hp
  match da en with
  | .ok (o, e1) => exact fun hp G2 H2 vs2 s2 x v ev => hk o e1 hp G2 H2 v s2 (back _ _ _ _ _ _ s2 (by subst ev; exact x))
  | .error .stuck => exact fun hp => hp
  | .error (.exn c e1) => exact fun hp G2 H2 s2 x => hp G2 H2 s2 (back _ _ _ _ _ _ s2 x).nil
theorem bindA {da : DA} {kk : List OT × En → R (α × En)} {Rk : List V → Hp → Prop} (h : RX K G F τ σ H en vs os) (hp : Post K G F τ σ W ob Q (bd (da en) kk))
    (hk : ∀ o e1, Post K G F τ σ W ob Q (kk (o, e1)) → ∀ G' H' v, Same G G' → RX K G' F τ σ H' e1 (vs ++ v) (os ++ o) → Rk v H') : liftA K W da σ H Rk := by
  obtain ⟨F', h', back⟩ := h.hold
  refine ⟨G, F', τ, en, h', ?_⟩
  revert hp
  match da en with
  | .ok (o, e1) => exact fun hp G2 H2 vs2 s2 x => hk o e1 hp G2 H2 vs2 s2 (back _ _ _ _ _ _ s2 x)
  | .error .stuck => exact fun hp => hp
  | .error (.exn c e1) => exact fun hp G2 H2 s2 x => hp G2 H2 s2 (back _ _ _ _ _ _ s2 x).nil
theorem bindT {da : DT} {kk : Bool × En → R (α × En)} {Rk : Bool → Hp → Prop} (h : RX K G F τ σ H en [] []) (hp : Post K G F τ σ W ob Q (bd (da en) kk))
    (hk : ∀ o e1, Post K G F τ σ W ob Q (kk (o, e1)) → ∀ G' H', Same G G' → RX K G' F τ σ H' e1 [] [] → Rk o H') : liftT K W da σ H Rk := by
  refine ⟨G, F, τ, en, h, ?_⟩
  revert hp
  match da en with
  | .ok (o, e1) => exact fun hp G2 H2 vs2 s2 x => hk o e1 hp G2 H2 s2 x.nil
  | .error .stuck => exact fun hp => hp
  | .error (.exn c e1) => exact fun hp => hp
end
/-! ### names, constants -/
def eD (x : PyData) : DE := fun en => .ok (.d x, en)
/-- a name: what it stands for is data from now on -/
def eVar (i : Nat) : DE := fun en => match en[i]? with
  | some (.v (.d x)) => .ok (.d x, en)
  | some (.v (.opq u)) => .ok (.opq u, en)
  | some (.v (.own os)) => match frz (.own os) with
    | some x => .ok (.d x, en.set i (.v (.d x)))
    | none => .error .stuck
  | some (.p (.d x)) => .ok (.d x, en)
  | some (.p (.opq u)) => .ok (.opq u, en)
  | _ => .error .stuck
/-- a name: what it stands for is handed on, the name is forgotten -/
def eMov (i : Nat) : DE := fun en => match en[i]? with
  | some (.v o) => .ok (o, en.set i .un)
  | _ => .error .stuck
/-- a name of one's own list, read as data where it stands, nothing is handed on -/
def sVar (i : Nat) : En → Option PyData := fun en => match en[i]? with
  | some (.v o) => frz o
  | some (.p o) => frz o
  | _ => none
section
variable {X : Cx} {W : WX} {K : PySem.W.Frag} {G H : Hp} {F : FS} {τ σ : St} {en : En} {vs : List V} {os : List OT}
theorem RX.putBack {i : Nat} {x : V} {o : OT} (h : RX K G F τ σ H (en.set i .un) (x :: vs) (o :: os)) (hi : i < en.length) (hx : σ[i]? = some (some x)) : RX K G F τ σ H (en.set i (.v o)) vs os := by
  have q := h.store (i := i) (by simpa using hi)
  rw [List.set_set] at q
  have : σ.set i (some x) = σ := by
    apply List.ext_getElem?
    intro j
    by_cases e : j = i
    · subst e
      rw [List.getElem?_set_self (List.getElem?_eq_some_iff.mp hx).1, hx]
    · rw [List.getElem?_set_ne (Ne.symm e)]
  rwa [this] at q
theorem RX.slotD {i : Nat} {x : PyData} (h : RX K G F τ σ H en vs os) (hs : en[i]? = some (.v (.d x)) ∨ en[i]? = some (.p (.d x))) : ∃ v, σ[i]? = some (some v) ∧ Dq K G v x := by
  obtain ⟨M, φ, B, S, E, r, d⟩ := h
  rcases hs with hs | hs
  · obtain ⟨v, hv, q⟩ := E.2.1 i _ hs
    generalize φ i = A at q
    cases q with | d q => exact ⟨v, hv, q⟩
  · obtain ⟨v, hv, _, q⟩ := E.2.1 i _ hs
    generalize φ i = A at q
    cases q with | d q => exact ⟨v, hv, q⟩
theorem RX.slotQ {i : Nat} {u : V} (h : RX K G F τ σ H en vs os) (hs : en[i]? = some (.v (.opq u)) ∨ en[i]? = some (.p (.opq u))) : σ[i]? = some (some u) := by
  obtain ⟨M, φ, B, S, E, r, d⟩ := h
  rcases hs with hs | hs
  · obtain ⟨v, hv, q⟩ := E.2.1 i _ hs
    generalize φ i = A at q
    cases q; exact hv
  · obtain ⟨v, hv, _, q⟩ := E.2.1 i _ hs
    generalize φ i = A at q
    cases q; exact hv
/-- peek -/
theorem RX.peek {i : Nat} {o : OT} {x : PyData} (h : RX K G F τ σ H en vs os) (hs : en[i]? = some (.v o) ∨ en[i]? = some (.p o)) (e : frz o = some x) : ∃ v, σ[i]? = some (some v) ∧ Dq K H v x := by
  obtain ⟨M, φ, B, S, E, r, d⟩ := h
  rcases hs with hs | hs
  · obtain ⟨v, hv, q⟩ := E.2.1 i _ hs
    exact ⟨v, hv, RepO.dp S.g o v _ x q (fun a ha u hu => S.m _ _ hu) e⟩
  · obtain ⟨v, hv, _, q⟩ := E.2.1 i _ hs
    exact ⟨v, hv, RepO.dp S.g o v _ x q (fun a ha u hu => S.m _ _ hu) e⟩
theorem EX_D {x : PyData} {v : V} (h : PE X e (tC v)) (hv : ∀ G, Dq X.K G v x) : EX X W e (eD x) := PE.imp h fun σ H Q q => by
  obtain ⟨G, F, τ, en, h, hp⟩ := q
  exact hp G H [v] (Same.refl G) (h.withD (hv G)) v rfl
theorem EX_int {i : Int} {j pos} : EX X W (.Constant (.int i) j pos) (eD (.int i)) := EX_D pe_int fun _ => .int i
theorem EX_bl {i : Bool} {j pos} : EX X W (.Constant (.bool i) j pos) (eD (.bool i)) := EX_D pe_bl fun _ => .bl i
theorem EX_non {j pos} : EX X W (.Constant .none j pos) (eD .none) := EX_D pe_non fun _ => .non
theorem EX_str {x : Str} {j pos} : EX X W (.Constant (.str x) j pos) (eD (.str x)) := EX_D pe_str fun _ => .str x
theorem EX_var {i : Nat} {e : Expr} (h : PE X e (tVar i)) : EX X W e (eVar i) := PE.imp h fun σ H Q q => by
  obtain ⟨G, F, τ, en, h, hp⟩ := q
  unfold eVar at hp
  split at hp
  · rename_i x hs
    obtain ⟨v, hv, q⟩ := h.slotD (.inl hs)
    exact ⟨v, hv, hp G H [v] (Same.refl G) (h.withD q) v rfl⟩
  · rename_i u hs
    exact ⟨u, h.slotQ (.inl hs), hp G H [u] (Same.refl G) h.withQ u rfl⟩
  · rename_i os hs
    split at hp
    · rename_i x hx
      obtain ⟨v, hv, q⟩ := h.take hs
      obtain ⟨G', sg, q2⟩ := q.freeze hx
      have q3 := q2.dataG
      exact ⟨v, hv, hp G' H [v] sg ((q2.putBack (List.getElem?_eq_some_iff.mp hs).1 hv).withD q3) v rfl⟩
    · exact hp.elim
  · rename_i x hs
    obtain ⟨v, hv, q⟩ := h.slotD (.inr hs)
    exact ⟨v, hv, hp G H [v] (Same.refl G) (h.withD q) v rfl⟩
  · rename_i u hs
    exact ⟨u, h.slotQ (.inr hs), hp G H [u] (Same.refl G) h.withQ u rfl⟩
  · exact hp.elim
theorem EX_mov {i : Nat} {e : Expr} (h : PE X e (tVar i)) : EX X W e (eMov i) := PE.imp h fun σ H Q q => by
  obtain ⟨G, F, τ, en, h, hp⟩ := q
  unfold eMov at hp
  split at hp
  · rename_i o hs
    obtain ⟨v, hv, q⟩ := h.take hs
    exact ⟨v, hv, hp G H [v] (Same.refl G) q v rfl⟩
  · exact hp.elim
end
/-! ### operators whose answer is a number, a truth, a text -/
def Flat2 (K : PySem.W.Frag) (r : R2) (f : PyData → PyData → Option PyData) : Prop :=
  ∀ (H : Hp) (x y : V) (dx dy z : PyData) (Q : VK), Dq K H x dx → Dq K H y dy → f dx dy = some z → (∀ v, (∀ G, Dq K G v z) → Q v H) → r x y H Q
def eOp2 (f : PyData → PyData → Option PyData) (da db : DE) : DE := fun en => bd (da en) fun p => bd (db p.2) fun q => match frz p.1, frz q.1 with
  | some x, some y => (match f x y with
    | some z => .ok (.d z, q.2)
    | none => .error .stuck)
  | _, _ => .error .stuck
section
variable {X : Cx} {W : WX} {K : PySem.W.Frag} {G H : Hp} {F : FS} {τ σ : St} {en : En} {vs : List V} {os : List OT}
theorem lift2 {f : PyData → PyData → Option PyData} {r : R2} {da db : DE} {Q : VK} (hf : Flat2 K r f) (q : liftE K W (eOp2 f da db) σ H Q) : tOp r (liftE K W da) (liftE K W db) σ H Q := by
  obtain ⟨G, F, τ, en, h, hp⟩ := q
  refine bindE h hp fun o e1 hp1 G1 H1 v s1 h1 => ?_
  refine bindE (vs := [v]) (os := [o]) h1 (hp1.mono s1) fun p e2 hp2 G2 H2 w s2 h2 => ?_
  dsimp only at hp2
  split at hp2
  · rename_i x y ex ey
    split at hp2
    · rename_i z ez
      have dx := RX.data (vs := [w]) (os := [p]) h2 ex
      have dy := RX.data (vs := []) (os := []) (RX.right (vs := [v]) (os := [o]) rfl h2) ey
      exact hf _ _ _ _ _ _ _ dx dy ez fun u hu => hp2 G2 H2 [u] s2 (RX.withD h2.nil (hu G2)) u rfl
    · exact hp2.elim
  · exact hp2.elim
theorem EX_op {a b : Expr} {op : Operator} {pos : Pos} {f : PyData → PyData → Option PyData} {r : R2} {da db : DE} (ho : OpR X (binaryOp op) r) (hf : Flat2 X.K r f) (ha : EX X W a da) (hb : EX X W b db) : EX X W (.BinOp a op b pos) (eOp2 f da db) :=
  PE.imp (pe_op ho ha hb) fun _ _ _ q => lift2 hf q
theorem EX_cmp {a b : Expr} {op : CmpOp} {pos : Pos} {f : PyData → PyData → Option PyData} {r : R2} {da db : DE} (ho : OpR X (compareOp op) r) (hm : behindInMarks op b = false) (hf : Flat2 X.K r f) (ha : EX X W a da) (hb : EX X W b db) : EX X W (.Compare a [op] [b] pos) (eOp2 f da db) :=
  PE.imp (pe_cmpR ho ha hb hm) fun _ _ _ q => lift2 hf q
end
/-- on ints -/
def fI (g : Int → Int → Option PyData) : PyData → PyData → Option PyData
  | .int i, .int j => g i j
  | _, _ => none
end Lf
end
section
set_option Elab.async false
set_option linter.all false
set_option maxRecDepth 100000
namespace Lf
open PySem PySem.Spec L2
variable [Tabs]
/-! ### more of the state -/
def er (H : Hp) (a : Addr) : Hp := fun b => if b = a then none else H b
theorem upd_er {H : Hp} {a : Addr} {o : HO} : upd (er H a) a o = upd H a o := by
  funext b; unfold upd er; split <;> rfl
theorem er_same {H : Hp} {a : Addr} : er H a a = none := by simp [er]
section
variable {K : PySem.W.Frag} {G G' H : Hp} {F : FS} {τ σ : St} {en : En} {vs ws : List V} {os ps : List OT}
theorem RX.newL0 {p : Addr} (h : RX K G F τ σ H en vs os) (hp : H p = none) : RX K G F τ σ (upd H p (.lst vs)) en [.ref p] [.own os] := by
  have q : RX K G F τ σ H en (vs ++ []) (os ++ []) := by simpa using h
  exact q.newL h.vlen hp
/-- several are frozen at once -/
theorem RX.freezeL {xs : List PyData} (h : RX K G F τ σ H en (vs ++ ws) (os ++ ps)) (hl : vs.length = os.length) (e : frzs os = some xs) : ∃ G', Same G G' ∧ DqAll K G' vs xs ∧ RX K G' F τ σ H en ws ps := by
  obtain ⟨M, φ, B, S, E, r, d⟩ := h
  obtain ⟨A, B, rfl, r1, r2, hd⟩ := RepOs.split hl r
  have dm := RepOs.dom _ _ _ r1
  have sg : Same G (mov G M A) := fun a u hu => by
    by_cases ha : a ∈ A
    · obtain ⟨w, hx, hw⟩ := dm a ha
      rcases hw with hw | rfl
      · rw [(S.mgo hx hw).1] at hu; cases hu
      · rw [mov_tg hx]; exact hu
    · rw [mov_out ha]; exact hu
  refine ⟨mov G M A, sg, RepOs.dp sg os vs A xs r1 (fun a ha u hu => mov_in ha hu) e, cut M A, φ, B, ⟨fun a => ?_, fun a ps z => ?_, S.tab, S.base.trans sg, fun a u z => ?_⟩, E.at sg (fun i a ha => ?_), ?_, fun i a ha => d i a (List.mem_append_right _ ha)⟩
  · by_cases ha : a ∈ A
    · obtain ⟨w, hx, hw⟩ := dm a ha
      rcases hw with hw | rfl
      · exact .inl ⟨by simp [cut, ha], (S.mgo hx hw).2, by rw [mov_ino ha hx hw, S.mo _ _ hx hw]⟩
      · exact .inl ⟨by simp [cut, ha], S.mf hx, by rw [mov_tg hx]; exact (S.mt hx).1⟩
    · have q := S.at_ a
      rw [mov_out ha, show cut M A a = M a by simp [cut, ha]]
      exact q
  · by_cases ha : a ∈ A
    · simp [cut, ha] at z
    · simp only [cut, if_neg ha] at z; exact S.nt a ps z
  · by_cases ha : a ∈ A
    · simp [cut, ha] at z
    · simp only [cut, if_neg ha] at z; exact S.mb a u z
  · have : a ∉ A := fun hb => d i a (List.mem_append_left _ hb) ha
    simp [cut, this]
  · refine RepOs.at sg _ _ _ r2 fun a ha => ?_
    have : a ∉ A := fun hb => hd a hb ha
    simp [cut, this]
theorem RX.freezeA {xs : List PyData} (h : RX K G F τ σ H en vs os) (e : frzs os = some xs) : ∃ G', Same G G' ∧ DqAll K G' vs xs ∧ RX K G' F τ σ H en [] [] := by
  have q : RX K G F τ σ H en (vs ++ []) (os ++ []) := by simpa using h
  exact q.freezeL h.vlen e
/-- one's own list opened: its items stand besides, its cell is gone -/
theorem RX.openL {v : V} (h : RX K G F τ σ H en (v :: vs) (.own os :: ps)) : ∃ a xs, v = .ref a ∧ H a = some (.lst xs) ∧ xs.length = os.length ∧ RX K G F τ σ (er H a) en (xs ++ vs) (os ++ ps) := by
  obtain ⟨M, φ, B, S, E, r, d⟩ := h
  cases r with
  | cons r1 r2 hd =>
    rename_i B
    cases r1 with
    | own h1 h2 h3 =>
      rename_i a xs A
      refine ⟨a, xs, rfl, S.m _ _ h1, h2.length, er M a, φ, A ++ B, ⟨fun b => ?_, fun b ps z => ?_, fun t ht => ⟨(S.tab t ht).1, tabG_of (S.tab t ht).2 (if_neg fun e => by have q := S.tm ht; rw [e, h1] at q; cases q)⟩, S.base, fun b u z => ?_⟩, E.at (Same.refl _) (fun i b hb => ?_), RepOs.app (RepOs.at (Same.refl _) _ _ _ h2 fun b hb => ?_) (RepOs.at (Same.refl _) _ _ _ r2 fun b hb => ?_) (fun b hb hc => hd b (List.mem_cons_of_mem _ hb) hc), fun i b hb => ?_⟩
      · by_cases e : b = a
        · subst e
          exact .inl ⟨er_same, (S.mg h1).2, by rw [er_same, (S.mg h1).1]⟩
        · have q := S.at_ b
          simpa [er, e] using q
      · by_cases e : b = a
        · rw [e, er_same] at z; cases z
        · simp only [er, if_neg e] at z; exact S.nt b ps z
      · by_cases e : b = a
        · rw [e, er_same] at z; cases z
        · simp only [er, if_neg e] at z; exact S.mb b u z
      · have : b ≠ a := fun e => d i b (by rw [e]; exact List.mem_append_left _ List.mem_cons_self) hb
        simp [er, this]
      · have : b ≠ a := fun e => h3 (e ▸ hb)
        simp [er, this]
      · have : b ≠ a := fun e => hd a List.mem_cons_self (e ▸ hb)
        simp [er, this]
      · rcases List.mem_append.mp hb with hb | hb
        · exact d i b (List.mem_append_left _ (List.mem_cons_of_mem _ hb))
        · exact d i b (List.mem_append_right _ hb)
/-- one item of one's own list, the rest is let go -/
theorem RX.pick {v : V} (h : RX K G F τ σ H en (v :: vs) (.own os :: ps)) : ∃ a xs, v = .ref a ∧ H a = some (.lst xs) ∧ xs.length = os.length ∧ ∀ (j : Nat) (o : OT), os[j]? = some o → ∃ u, xs[j]? = some u ∧ RX K G F τ σ H en [u] [o] := by
  obtain ⟨M, φ, B, S, E, r, d⟩ := h
  cases r with
  | cons r1 r2 hd =>
    rename_i B
    cases r1 with
    | own h1 h2 h3 =>
      rename_i a xs A
      refine ⟨a, xs, rfl, S.m _ _ h1, h2.length, fun j o ho => ?_⟩
      have : ∀ (os : List OT) (xs : List V) (A : List Addr) (j : Nat) (o : OT), RepOs K G M xs os A → os[j]? = some o → ∃ u C, xs[j]? = some u ∧ RepO K G M u o C ∧ ∀ b ∈ C, b ∈ A := by
        intro os
        induction os with
        | nil => intro xs A j o _ e; simp at e
        | cons p os ih =>
          intro xs A j o h e
          cases h with
          | cons k1 k2 k3 =>
            cases j with
            | zero =>
              simp at e; subst e
              exact ⟨_, _, rfl, k1, fun b hb => List.mem_append_left _ hb⟩
            | succ j =>
              simp at e
              obtain ⟨u, C, e1, e2, e3⟩ := ih _ _ j o k2 e
              exact ⟨u, C, by simpa using e1, e2, fun b hb => List.mem_append_right _ (e3 b hb)⟩
      obtain ⟨u, C, e1, e2, e3⟩ := this os xs A j o h2 ho
      refine ⟨u, e1, M, φ, C ++ [], S, E, .cons e2 .nil (fun _ _ z => nomatch z), fun i b hb => ?_⟩
      simp at hb
      exact d i b (List.mem_append_left _ (List.mem_cons_of_mem _ (e3 b hb)))
theorem RX.swap {v w : V} {o p : OT} (h : RX K G F τ σ H en (v :: w :: vs) (o :: p :: os)) : RX K G F τ σ H en (w :: v :: vs) (p :: o :: os) := by
  obtain ⟨M, φ, B, S, E, r, d⟩ := h
  cases r with
  | cons r1 r2 h1 =>
    cases r2 with
    | cons r2 r3 h2 =>
      rename_i A C B
      refine ⟨M, φ, _, S, E, .cons r2 (.cons r1 r3 fun a ha hb => h1 a ha (List.mem_append_right _ hb)) (fun a ha hb => ?_), fun i a ha => ?_⟩
      · rcases List.mem_append.mp hb with hb | hb
        · exact h1 a hb (List.mem_append_left _ ha)
        · exact h2 a ha hb
      · refine d i a ?_
        simp only [List.mem_append] at ha ⊢
        rcases ha with h | h | h
        · exact .inr (.inl h)
        · exact .inl h
        · exact .inr (.inr h)
theorem RX.comm (h : RX K G F τ σ H en (vs ++ ws) (os ++ ps)) (hl : vs.length = os.length) : RX K G F τ σ H en (ws ++ vs) (ps ++ os) := by
  obtain ⟨M, φ, B, S, E, r, d⟩ := h
  obtain ⟨A, B, rfl, r1, r2, hd⟩ := RepOs.split hl r
  exact ⟨M, φ, B ++ A, S, E, RepOs.app r2 r1 (fun a ha hb => hd a hb ha), fun i a ha => d i a (by simp only [List.mem_append] at ha ⊢; exact ha.symm)⟩
mutual
/-- no frozen list of one's own in it -/
def noFr : OT → Bool
  | .fr _ => false
  | .own xs => noFrs xs
  | .tp xs => noFrs xs
  | _ => true
def noFrs : List OT → Bool
  | [] => true
  | o :: os => noFr o && noFrs os
end
mutual
theorem RepO.noTg {M : Hp} : ∀ (o : OT) (v : V) (A : List Addr), RepO K G M v o A → noFr o = true → ∀ a ∈ A, ∃ u, M a = some u ∧ isTg u = false
  | .d x, _, _, h, _, a, ha => by cases h; cases ha
  | .own os, _, _, h, e, a, ha => by
    cases h with
    | own h1 h2 h3 =>
      rcases List.mem_cons.mp ha with rfl | ha
      · exact ⟨_, h1, rfl⟩
      · exact RepOs.noTg os _ _ h2 (by simpa [noFr] using e) a ha
  | .fr os, _, _, h, e, a, ha => by simp [noFr] at e
  | .opq _, _, _, h, _, a, ha => by cases h; cases ha
  | .dic _ _, _, _, h, _, a, ha => by
    cases h with
    | dic h1 =>
      rcases List.mem_cons.mp ha with rfl | ha
      · exact ⟨_, h1, dicO_tg⟩
      · cases ha
  | .lkd _ _, _, _, h, _, a, ha => by cases h; cases ha
  | .tp os, _, _, h, e, a, ha => by
    cases h with
    | tp h1 h2 => exact RepOs.noTg os _ _ h2 (by simpa [noFr] using e) a ha
  | .leaf _ _, _, _, h, _, a, ha => by
    cases h with
    | leaf h1 h2 =>
      rcases List.mem_cons.mp ha with rfl | ha
      · exact ⟨_, h1, tagO_tg⟩
      · cases ha
  | .hole, _, _, h, _, a, ha => by cases h; cases ha
theorem RepOs.noTg {M : Hp} : ∀ (os : List OT) (vs : List V) (A : List Addr), RepOs K G M vs os A → noFrs os = true → ∀ a ∈ A, ∃ u, M a = some u ∧ isTg u = false
  | [], _, _, h, _, a, ha => by cases h; cases ha
  | o :: os, _, _, h, e, a, ha => by
    simp only [noFrs, Bool.and_eq_true] at e
    cases h with
    | cons h1 h2 h3 =>
      rcases List.mem_append.mp ha with ha | ha
      · exact RepO.noTg o _ _ h1 e.1 a ha
      · exact RepOs.noTg os _ _ h2 e.2 a ha
end
def realO (x : Option HO) (y : Option HO) : Option HO := match x with
  | some o => if isTg o = true then y else some o
  | none => y
/-- into a callee: the slots' things are others', what is frozen stays so -/
theorem RX.enter (h : RX K G F τ σ H en vs os) (hno : noFrs os = true) : ∃ F' : FS, F'.b = G ∧ RX K G F' [] [] H [] vs os ∧
    ∀ (G' H' : Hp) (ws : List V) (ps : List OT), Same G G' → RX K G' F' [] [] H' [] ws ps → RX K G' F τ σ H' en ws ps := by
  obtain ⟨M, φ, B, S, E, r, d⟩ := h
  have dm := RepOs.noTg _ _ _ r hno
  refine ⟨⟨fun a => if a ∈ B then F.f a else realO (M a) (F.f a), G⟩, rfl, ⟨fun a => if a ∈ B then M a else none, fun _ => [], B, ⟨fun a => ?_, fun a ps z => ?_, fun p hp => ⟨?_, (S.tab p hp).2⟩, Same.refl G, fun a u z => ?_⟩, ⟨rfl, fun i s hs => by simp at hs, fun _ _ => rfl, fun _ _ _ a ha => nomatch ha⟩, RepOs.at (Same.refl _) _ _ _ r (fun a ha => by simp [ha]), fun _ _ _ z => nomatch z⟩, fun G' H' ws ps sg ⟨M2, φ2, C, S2, E2, r2, d2⟩ => ?_⟩
  · by_cases ha : a ∈ B
    · have q := S.at_ a
      simpa [ha] using q
    · cases hm : M a with
      | none =>
        rcases S.at_ a with ⟨h1, h2, h3⟩ | ⟨h1, h2, h3, _⟩ | ⟨h1, h2, h3⟩ | ⟨h1, _⟩
        · exact .inl ⟨by simp [ha], by simp [ha, hm, realO, h2], h3⟩
        · exact .inl ⟨by simp [ha], by simp [ha, hm, realO, h2], by rw [h3, hm, h1]⟩
        · exact .inr (.inr (.inl ⟨h1, by simp [ha], by simpa [ha, hm, realO] using h3⟩))
        · rw [hm] at h1; cases h1
      | some o =>
        cases ht : isTg o with
        | true =>
          have e := isTg_eq ht
          subst e
          exact .inl ⟨by simp [ha], by simp [ha, hm, realO, ht, S.mf hm], (S.mt hm).1⟩
        | false =>
          rcases S.at_ a with ⟨h1, _⟩ | ⟨h1, h2, h3, _⟩ | ⟨_, h1, _⟩ | ⟨h1, _⟩
          · rw [hm] at h1; cases h1
          · exact .inr (.inr (.inl ⟨h1, by simp [ha], .inl (by simp [ha, hm, realO, ht, h3])⟩))
          · rw [hm] at h1; cases h1
          · rw [hm] at h1; cases h1; simp [isTg] at ht
  · try dsimp only at z
    split at z
    · exact S.nt a ps z
    · cases z
  · obtain ⟨ps, e⟩ := (S.tab p hp).1
    have q := S.tm hp
    by_cases hb : p ∈ B
    · exact ⟨ps, by simp [hb, e]⟩
    · exact ⟨ps, by simp [hb, e, q, realO]⟩
  · try dsimp only at z
    split at z
    · rename_i ha
      obtain ⟨w, hx, hw⟩ := dm a ha
      exact (S.mgo hx hw).1
    · cases z
  · have key : ∀ a o, a ∉ B → M a = some o → isTg o = false → M2 a = none ∧ G' a = none ∧ H' a = some o := fun a o ha hm ht => by
      have q := S2.at_ a
      simp only [if_neg ha, hm, realO, ht] at q
      rcases q with ⟨_, z, _⟩ | ⟨_, z, _⟩ | ⟨z1, z2, z3⟩ | ⟨_, z, _⟩
      · simp at z
      · simp at z
      · exact ⟨z2, z1, up_some (fun ps e => S.nt a ps (by rw [hm, e])) (by simpa using z3)⟩
      · simp at z
    have keyT : ∀ a, M a = some tg → M2 a = none ∧ F.f a = none ∧ H' a = G' a ∧ ∃ xs, G' a = some (.lst xs) := fun a hm => by
      obtain ⟨_, xs, hg⟩ := S.mt hm
      have f0 := S.mf hm
      have hg' := sg _ _ hg
      have m0 : M2 a = none := by
        cases q : M2 a with
        | none => rfl
        | some u =>
          have z := S2.mb a u q
          rw [show G a = none from z] at hg
          cases hg
      have q := S2.at_ a
      rcases q with ⟨_, _, z⟩ | ⟨z, _⟩ | ⟨z, _⟩ | ⟨z, _⟩
      · exact ⟨m0, f0, z, xs, hg'⟩
      · rw [hg'] at z; cases z
      · rw [hg'] at z; cases z
      · rw [m0] at z; cases z
    have none2 : ∀ a u, a ∉ B → M a = some u → M2 a = none := fun a u ha hm => by
      cases ht : isTg u with
      | true =>
        have e := isTg_eq ht
        subst e
        exact (keyT a hm).1
      | false => exact (key a u ha hm ht).1
    have nφ : ∀ i, ∀ a ∈ φ i, a ∉ B := fun i a ha hb => d i a hb ha
    have inφ : ∀ i, ∀ a ∈ φ i, M2 a = none := fun i a ha => by
      obtain ⟨xs, hx, _⟩ := E.dom ha
      exact none2 a _ (nφ i a ha) hx
    refine ⟨fun a => match M2 a with | some o => some o | none => if a ∈ B then none else M a, φ, C, ⟨fun a => ?_, fun a ps z => ?_, fun p hp => ⟨(S.tab p hp).1, (S2.tab p hp).2⟩, S.base.trans sg, fun a u z => ?_⟩, E.at sg (fun i a ha => by simp [inφ i a ha, nφ i a ha]), RepOs.at (Same.refl _) _ _ _ r2 (fun a ha => ?_), fun i a ha hb => ?_⟩
    · have q := S2.at_ a
      try dsimp only at q ⊢
      by_cases ha : a ∈ B
      · simp only [if_pos ha] at q ⊢
        cases hm : M2 a with
        | none => rw [hm] at q; exact q
        | some o => rw [hm] at q; exact q
      · cases hm : M a with
        | some o =>
          cases ht : isTg o with
          | true =>
            have e := isTg_eq ht
            subst e
            obtain ⟨k1, k2, k3⟩ := keyT a hm
            exact .inr (.inr (.inr ⟨by simp [k1, ha], k2, k3⟩))
          | false =>
            obtain ⟨k1, k2, k3⟩ := key a o ha hm ht
            exact .inr (.inl ⟨k2, S.mf hm, by simp [k1, ha, k3], by simp only [k1, if_neg ha]; intro z; cases z; simp [isTg] at ht⟩)
        | none =>
          simp only [if_neg ha, hm, realO] at q ⊢
          cases hm2 : M2 a with
          | none => rw [hm2] at q; exact q
          | some o => rw [hm2] at q; exact q
    · try dsimp only at z
      split at z
      · rename_i o ho
        cases z
        exact S2.nt a ps ho
      · split at z
        · cases z
        · exact S.nt a ps z
    · try dsimp only at z
      split at z
      · rename_i o ho
        exact S.base.free (S2.mb a o ho)
      · split at z
        · cases z
        · exact S.mb a u z
    · obtain ⟨xs, hx, _⟩ := RepOs.dom _ _ _ r2 a ha
      simp [hx]
    · obtain ⟨xs, hx, _⟩ := RepOs.dom _ _ _ r2 a ha
      rw [inφ i a hb] at hx; cases hx
end
/-! ### arguments, displays -/
def aNil : DA := fun en => .ok ([], en)
def aCons (da : DE) (dr : DA) : DA := fun en => bd (da en) fun p => bd (dr p.2) fun q => .ok (p.1 :: q.1, q.2)
def few (n : Nat) : Bool := decide (n ≤ 100000)
def eLst (da : DA) : DE := fun en => bd (da en) fun p => if few p.1.length then .ok (.own p.1, p.2) else .error .stuck
def eTup (da : DA) : DE := fun en => bd (da en) fun p => match frzs p.1 with
  | some xs => if few p.1.length then .ok (.d (.tuple xs), p.2) else .error .stuck
  | none => .error .stuck
theorem few_le {n : Nat} (h : few n = true) : n ≤ sizeLine := by
  rw [sizeLine_eq]; have := of_decide_eq_true h; omega
theorem few_lt {n : Nat} (h : few n = true) : n < sizeLine := by
  rw [sizeLine_eq]; have := of_decide_eq_true h; omega
section
variable {X : Cx} {W : WX} {e : Expr} {es : List Expr} {da : DE} {dr : DA} {pos : Pos}
theorem AX_nil : AX X W [] aNil := PA.imp pa_nil fun σ H Q q => by
  obtain ⟨G, F, τ, en, h, hp⟩ := q
  exact hp G H [] (Same.refl G) h
theorem AX_cons (ha : EX X W e da) (hr : AX X W es dr) (hs : starEach (e :: es) X.env = (false, eval e X.env) :: starEach es X.env := by rfl) : AX X W (e :: es) (aCons da dr) := PA.imp (pa_cons ha hr hs) fun σ H Q q => by
  obtain ⟨G, F, τ, en, h, hp⟩ := q
  refine bindE h hp fun o e1 hp1 G1 H1 v s1 h1 => ?_
  refine bindA (vs := [v]) (os := [o]) h1 (hp1.mono s1) fun os e2 hp2 G2 H2 vs s2 h2 => ?_
  exact hp2 G2 H2 (v :: vs) s2 h2
theorem EX_lst (ha : AX X W es dr) : EX X W (.List es pos) (eLst dr) := PE.imp (pe_lst ha) fun σ H Q q => by
  obtain ⟨G, F, τ, en, h, hp⟩ := q
  refine bindA (vs := []) (os := []) h hp fun os e1 hp1 G1 H1 vs s1 h1 => ?_
  dsimp only at hp1
  split at hp1
  · rename_i hf
    have hl := RX.vlen (vs := vs) (os := os) h1
    refine ⟨by rw [hl]; exact few_le hf, fun p np => ?_⟩
    exact hp1 G1 _ [.ref p] s1 (RX.newL0 (vs := vs) (os := os) h1 np) (.ref p) rfl
  · exact hp1.elim
theorem EX_tup {c} (ha : AX X W es dr) : EX X W (.Tuple es c pos) (eTup dr) := PE.imp (pe_tup ha) fun σ H Q q => by
  obtain ⟨G, F, τ, en, h, hp⟩ := q
  refine bindA (vs := []) (os := []) h hp fun os e1 hp1 G1 H1 vs s1 h1 => ?_
  dsimp only at hp1
  split at hp1
  · rename_i xs ex
    split at hp1
    · rename_i hf
      have hl := RX.vlen (vs := vs) (os := os) h1
      refine ⟨by rw [hl]; exact few_le hf, fun p np => ?_⟩
      obtain ⟨G2, s2, dv, h2⟩ := RX.freezeA (vs := vs) (os := os) h1 ex
      obtain ⟨s3, h3⟩ := h2.newG (u := .tup vs) np
      exact hp1 _ _ [.ref p] (s1.trans (s2.trans s3)) (h3.withD (.tup (SqT.of upd_same) (dps_same s3 _ _ dv))) (.ref p) rfl
    · exact hp1.elim
  · exact hp1.elim
end
/-! ### items, lengths -/
theorem atI_dp {K : PySem.W.Frag} {H : Hp} {vs : List V} {xs : List PyData} (h : DqAll K H vs xs) {i : Int} {x : PyData} (e : atI xs i = some x) : ∃ v, atI vs i = some v ∧ Dq K H v x := by
  unfold atI at e ⊢
  rw [DqAll.length h]
  cases q : ixN xs.length i with
  | none => rw [q] at e; cases e
  | some j =>
    rw [q] at e
    exact DqAll.get h e
def eIx (da db : DE) : DE := fun en => bd (da en) fun p => bd (db p.2) fun q => match p.1, q.1 with
  | .d (.list xs), .d (.int i) => (match atI xs i with | some x => .ok (.d x, q.2) | none => .error .stuck)
  | .d (.tuple xs), .d (.int i) => (match atI xs i with | some x => .ok (.d x, q.2) | none => .error .stuck)
  | .own os, .d (.int i) => (match atI os i with | some o => .ok (o, q.2) | none => .error .stuck)
  | _, _ => .error .stuck
section
variable {X : Cx} {W : WX} {a b : Expr} {da db : DE} {pos : Pos}
theorem EX_ix (ha : EX X W a da) (hb : EX X W b db) (hs : PlainIx b := by exact fun _ _ => rfl) : EX X W (.Subscript a b pos) (eIx da db) := PE.imp (pe_ix ix_seq ha hb hs) fun σ H Q q => by
  obtain ⟨G, F, τ, en, h, hp⟩ := q
  refine bindE h hp fun o e1 hp1 G1 H1 v s1 h1 => ?_
  refine bindE (vs := [v]) (os := [o]) h1 (hp1.mono s1) fun p e2 hp2 G2 H2 w s2 h2 => ?_
  dsimp only at hp2
  split at hp2
  · rename_i xs i
    split at hp2
    · rename_i x ex
      have dw := RX.data (vs := []) (os := []) (RX.right (vs := [v]) (os := [OT.d (.list xs)]) rfl h2) rfl
      cases dw
      have dv := RX.dataG (vs := [.int i]) (os := [OT.d (.int i)]) h2
      cases dv with
      | lst hs ha =>
        obtain ⟨u, eu, du⟩ := atI_dp ha ex
        exact .inl ⟨_, _, i, u, rfl, rfl, h2.same.seq hs, eu, hp2 G2 H2 [u] s2 (RX.withD h2.nil du) u rfl⟩
    · exact hp2.elim
  · rename_i xs i
    split at hp2
    · rename_i x ex
      have dw := RX.data (vs := []) (os := []) (RX.right (vs := [v]) (os := [OT.d (.tuple xs)]) rfl h2) rfl
      cases dw
      have dv := RX.dataG (vs := [.int i]) (os := [OT.d (.int i)]) h2
      cases dv with
      | tup hs ha =>
        obtain ⟨u, eu, du⟩ := atI_dp ha ex
        exact .inr (.inl ⟨_, _, i, u, rfl, rfl, sqT_same h2.same hs, eu, hp2 G2 H2 [u] s2 (RX.withD h2.nil du) u rfl⟩)
    · exact hp2.elim
  · rename_i os i
    split at hp2
    · rename_i x ex
      have dw := RX.data (vs := []) (os := []) (RX.right (vs := [v]) (os := [OT.own os]) rfl h2) rfl
      cases dw
      obtain ⟨a, xs, rfl, hH, hl, pk⟩ := RX.pick (vs := [.int i]) (ps := [OT.d (.int i)]) h2
      unfold atI at ex
      cases q : ixN os.length i with
      | none => rw [q] at ex; cases ex
      | some j =>
        rw [q] at ex
        obtain ⟨u, eu, hu⟩ := pk j x ex
        refine .inl ⟨a, xs, i, u, rfl, rfl, SqL.of hH, ?_, hp2 G2 H2 [u] s2 hu u rfl⟩
        unfold atI
        rw [hl, q]
        exact eu
    · exact hp2.elim
  · exact hp2.elim
end
def dlen : OT → Option Nat
  | .d (.list xs) => some xs.length
  | .d (.tuple xs) => some xs.length
  | .own os => some os.length
  | _ => none
def eLen (da : DE) : DE := fun en => bd (da en) fun p => match dlen p.1 with
  | some n => .ok (.d (.int n), p.2)
  | none => .error .stuck
section
variable {X : Cx} {W : WX} {a b : Expr} {da db : DE} {p pos : Pos}
theorem EX_len (hg : Gl X "len") (hm : X.mg "len" = none) (ha : EX X W a da) (he : starEach (a :: []) X.env = (false, eval a X.env) :: starEach [] X.env := by rfl) (hpl : (backTo pos (starEach [] X.env)).any (·.1) = false := by rfl) : EX X W (.Call (.Name "len" p) [a] [] pos) (eLen da) :=
  PE.imp (pe_callB call_len_seq hg hm PySem.boot_len (pa_cons ha pa_nil he) (he := he) (hpl := hpl)) fun σ H Q q => by
  obtain ⟨G, F, τ, en, h, hp⟩ := q
  refine bindE h hp fun o e1 hp1 G1 H1 v s1 h1 => ?_
  have h1 : RX X.K G1 F τ σ H1 e1 [v] [o] := h1
  have fin : ∀ n : Nat, dlen o = some n → Q (.int n) H1 := fun n en => by
    dsimp only at hp1
    rw [en] at hp1
    exact hp1 G1 H1 [.int n] s1 (h1.nil.withD (.int _)) _ rfl
  cases o with
  | d x =>
    cases x with
    | list xs =>
      cases h1.data rfl with
      | lst hs ha => exact ⟨_, _, rfl, .inl hs, by rw [DqAll.length ha]; exact fin _ rfl⟩
    | tuple xs =>
      cases h1.data rfl with
      | tup hs ha => exact ⟨_, _, rfl, .inr hs, by rw [DqAll.length ha]; exact fin _ rfl⟩
    | _ => exact hp1.elim
  | own os =>
    obtain ⟨a, xs, rfl, hH, hl, _⟩ := RX.pick (vs := []) (ps := []) h1
    exact ⟨_, _, rfl, .inl (SqL.of hH), by rw [hl]; exact fin _ rfl⟩
  | _ => exact hp1.elim
end
end Lf
end
section
set_option Elab.async false
set_option linter.all false
set_option maxRecDepth 100000
namespace Lf
open PySem PySem.Spec L2
variable [Tabs]
/-! ### tests -/
def tV (da : DE) : DT := fun en => bd (da en) fun p => match p.1 with
  | .d (.bool b) => .ok (b, p.2)
  | _ => .error .stuck
def tNt (d : DT) : DT := fun en => bd (d en) fun p => .ok (!p.1, p.2)
def tAn (d e : DT) : DT := fun en => bd (d en) fun p => if p.1 = true then e p.2 else .ok (false, p.2)
def tOr' (d e : DT) : DT := fun en => bd (d en) fun p => if p.1 = true then .ok (true, p.2) else e p.2
def eAn (d e : DE) : DE := fun en => bd (d en) fun p => match p.1 with
  | .d (.bool true) => e p.2
  | .d (.bool false) => .ok (.d (.bool false), p.2)
  | _ => .error .stuck
def eIf (c : DT) (d e : DE) : DE := fun en => bd (c en) fun p => if p.1 = true then d p.2 else e p.2
section
variable {X : Cx} {W : WX} {a b e c : Expr} {da db : DE} {dt du : DT} {pos : Pos} {rest : List Expr}
theorem liftT_b {σ : St} {H : Hp} {Q : Bool → Hp → Prop} {K : PySem.W.Frag} (q : liftT K W (tV da) σ H Q) : tB (liftE K W da) σ H Q := by
  obtain ⟨G, F, τ, en, h, hp⟩ := q
  refine bindE h hp fun o e1 hp1 G1 H1 v s1 h1 => ?_
  dsimp only at hp1
  split at hp1
  · rename_i bb
    cases RX.data (vs := []) (os := []) h1 rfl
    exact ⟨bb, rfl, hp1 G1 H1 [] s1 (RX.nil (vs := [.bl bb]) (os := [OT.d (.bool bb)]) h1)⟩
  · exact hp1.elim
theorem TX_val (ha : EX X W a da) (he : ∀ whole, isTrue a X.env whole = (do let v ← whole; standAt a.pos; holding [v] (truthy v)) := by intro _; rfl) : TX X W a (tV da) :=
  PT.imp (pt_val ha he) fun σ H Q q => liftT_b q
theorem TX_cmp {op : CmpOp} {f : PyData → PyData → Option PyData} {r : R2} (ho : OpR X (compareOp op) r) (hm : behindInMarks op b = false) (hf : Flat2 X.K r f) (ha : EX X W a da) (hb : EX X W b db) : TX X W (.Compare a [op] [b] pos) (tV (eOp2 f da db)) :=
  PT.imp (pt_cmpR ho ha hb hm) fun σ H Q q => by
    obtain ⟨G, F, τ, en, h, hp⟩ := q
    refine lift2 (f := f) hf (Q := fun x H1 => ∃ c, x = .bl c ∧ Q c H1) ?_
    refine ⟨G, F, τ, en, h, ?_⟩
    unfold tV at hp
    revert hp
    match eOp2 f da db en with
    | .ok (o, e1) =>
      intro hp G' H' vs s x v ev
      subst ev
      simp only [bd] at hp
      split at hp
      · rename_i bb
        cases RX.data (vs := []) (os := []) x rfl
        exact ⟨bb, rfl, hp G' H' [] s (RX.nil (vs := [.bl bb]) (os := [OT.d (.bool bb)]) x)⟩
      · exact hp.elim
    | .error .stuck => exact fun hp => hp
    | .error (.exn c e1) => exact fun hp => hp
theorem TX_not (ha : TX X W a dt) : TX X W (.UnaryOp .Not a pos) (tNt dt) := PT.imp (pt_not ha) fun σ H Q q => by
  obtain ⟨G, F, τ, en, h, hp⟩ := q
  refine bindT h hp fun o e1 hp1 G1 H1 s1 h1 => ?_
  exact hp1 G1 H1 [] s1 h1
theorem TW_and1 (ha : TX X W a dt) : TW X W (.BoolOp .And [a] pos) dt := pw_and1 ha
theorem TW_or1 (ha : TX X W a dt) : TW X W (.BoolOp .Or [a] pos) dt := pw_or1 ha
theorem TW_and (ha : TX X W a dt) (hb : TW X W (.BoolOp .And (b :: rest) pos) du) : TW X W (.BoolOp .And (a :: b :: rest) pos) (tAn dt du) := PW.imp (pw_and ha hb) fun σ H Q q => by
  obtain ⟨G, F, τ, en, h, hp⟩ := q
  refine bindT h hp fun o e1 hp1 G1 H1 s1 h1 => ?_
  dsimp only at hp1
  cases o with
  | true => rw [if_pos rfl] at hp1 ⊢; exact ⟨G1, F, τ, e1, h1, hp1.mono s1⟩
  | false => rw [if_neg Bool.false_ne_true] at hp1 ⊢; exact hp1 G1 H1 [] s1 h1
theorem TW_or (ha : TX X W a dt) (hb : TW X W (.BoolOp .Or (b :: rest) pos) du) : TW X W (.BoolOp .Or (a :: b :: rest) pos) (tOr' dt du) := PW.imp (pw_or ha hb) fun σ H Q q => by
  obtain ⟨G, F, τ, en, h, hp⟩ := q
  refine bindT h hp fun o e1 hp1 G1 H1 s1 h1 => ?_
  dsimp only at hp1
  cases o with
  | false => rw [if_neg Bool.false_ne_true] at hp1 ⊢; exact ⟨G1, F, τ, e1, h1, hp1.mono s1⟩
  | true => rw [if_pos rfl] at hp1 ⊢; exact hp1 G1 H1 [] s1 h1
theorem TX_w (h : TW X W a dt) : TX X W a dt := h.pt
theorem EX_one {op} (ha : EX X W a da) : EX X W (.BoolOp op [a] pos) da := pe_one ha
theorem EX_and (ha : EX X W a da) (hb : EX X W (.BoolOp .And (b :: rest) pos) db) : EX X W (.BoolOp .And (a :: b :: rest) pos) (eAn da db) := PE.imp (pe_and ha hb) fun σ H Q q => by
  obtain ⟨G, F, τ, en, h, hp⟩ := q
  refine bindE h hp fun o e1 hp1 G1 H1 v s1 h1 => ?_
  dsimp only at hp1
  split at hp1
  · cases RX.data (vs := []) (os := []) h1 rfl
    exact ⟨true, rfl, by rw [if_pos rfl]; exact ⟨G1, F, τ, e1, RX.nil (vs := [.bl true]) (os := [OT.d (.bool true)]) h1, hp1.mono s1⟩⟩
  · cases RX.data (vs := []) (os := []) h1 rfl
    exact ⟨false, rfl, by rw [if_neg Bool.false_ne_true]; exact hp1 G1 H1 _ s1 h1 _ rfl⟩
  · exact hp1.elim
theorem EX_if (hc : TX X W c dt) (ha : EX X W a da) (hb : EX X W b db) : EX X W (.IfExp c a b pos) (eIf dt da db) := PE.imp (pe_ifExp hc ha hb) fun σ H Q q => by
  obtain ⟨G, F, τ, en, h, hp⟩ := q
  refine bindT h hp fun o e1 hp1 G1 H1 s1 h1 => ?_
  dsimp only at hp1
  cases o with
  | true => rw [if_pos rfl] at hp1 ⊢; exact ⟨G1, F, τ, e1, h1, hp1.mono s1⟩
  | false => rw [if_neg Bool.false_ne_true] at hp1 ⊢; exact ⟨G1, F, τ, e1, h1, hp1.mono s1⟩
end
/-! ### statements -/
def PostS (K : PySem.W.Frag) (G : Hp) (F : FS) (τ : St) (W : WX) (D : Ends) : R (Fl × En) → Prop
  | .ok (.nx, en) => ∀ G' σ' H', Same G G' → RX K G' F τ σ' H' en [] [] → D.nx σ' H'
  | .ok (.bk, en) => ∀ G' σ' H', Same G G' → RX K G' F τ σ' H' en [] [] → D.bk σ' H'
  | .ok (.ct, en) => ∀ G' σ' H', Same G G' → RX K G' F τ σ' H' en [] [] → D.ct σ' H'
  | .ok (.rt o, en) => ∀ G' σ' H' v, Same G G' → RX K G' F τ σ' H' en [v] [o] → D.rt v H'
  | .error .stuck => False
  | .error (.exn c en) => ∀ G' σ' H', Same G G' → RX K G' F τ σ' H' en [] [] → W (clV K c) none σ' H'
def liftS (K : PySem.W.Frag) (W : WX) (d : DS) : TS := fun D σ H => ∃ G F τ en, RX K G F τ σ H en [] [] ∧ PostS K G F τ W D (d en)
abbrev SX (X : Cx) (W : WX) (st : Stmt) (d : DS) : Prop := PS X st (liftS X.K W d)
abbrev SXs (X : Cx) (W : WX) (st : List Stmt) (d : DS) : Prop := PSs X st (liftS X.K W d)
section
variable {K : PySem.W.Frag} {G G' H : Hp} {F : FS} {τ σ : St} {W : WX} {en : En} {D : Ends}
theorem PostS.mono {r : R (Fl × En)} (s : Same G G') (h : PostS K G F τ W D r) : PostS K G' F τ W D r := by
  match r, h with
  | .ok (.nx, en), h => exact fun G2 σ2 H2 s2 x => h G2 σ2 H2 (s.trans s2) x
  | .ok (.bk, en), h => exact fun G2 σ2 H2 s2 x => h G2 σ2 H2 (s.trans s2) x
  | .ok (.ct, en), h => exact fun G2 σ2 H2 s2 x => h G2 σ2 H2 (s.trans s2) x
  | .ok (.rt o, en), h => exact fun G2 σ2 H2 v s2 x => h G2 σ2 H2 v (s.trans s2) x
  | .error (.exn c en), h => exact fun G2 σ2 H2 s2 x => h G2 σ2 H2 (s.trans s2) x
/-- an expression in front of the rest of a statement -/
theorem bindES {da : DE} {kk : OT × En → R (Fl × En)} {Rk : VK} (h : RX K G F τ σ H en [] []) (hp : PostS K G F τ W D (bd (da en) kk))
    (hk : ∀ o e1, PostS K G F τ W D (kk (o, e1)) → ∀ G' H' v, Same G G' → RX K G' F τ σ H' e1 [v] [o] → Rk v H') : liftE K W da σ H Rk := by
  refine ⟨G, F, τ, en, h, ?_⟩
  revert hp
  match da en with
  | .ok (o, e1) => exact fun hp G2 H2 vs2 s2 x v ev => hk o e1 hp G2 H2 v s2 (by subst ev; exact x)
  | .error .stuck => exact fun hp => hp
  | .error (.exn c e1) => exact fun hp G2 H2 s2 x => hp G2 σ H2 s2 x
theorem bindTS {da : DT} {kk : Bool × En → R (Fl × En)} {Rk : Bool → Hp → Prop} (h : RX K G F τ σ H en [] []) (hp : PostS K G F τ W D (bd (da en) kk))
    (hk : ∀ o e1, PostS K G F τ W D (kk (o, e1)) → ∀ G' H', Same G G' → RX K G' F τ σ H' e1 [] [] → Rk o H') : liftT K W da σ H Rk := by
  refine ⟨G, F, τ, en, h, ?_⟩
  revert hp
  match da en with
  | .ok (o, e1) => exact fun hp G2 H2 vs2 s2 x => hk o e1 hp G2 H2 s2 x.nil
  | .error .stuck => exact fun hp => hp
  | .error (.exn c e1) => exact fun hp G2 H2 s2 x => hp G2 σ H2 s2 x
end
def dNx : DS := fun en => .ok (.nx, en)
def dSq (d e : DS) : DS := fun en => bd (d en) fun p => match p.1 with
  | .nx => e p.2
  | f => .ok (f, p.2)
def stor (i : Nat) (o : OT) (en : En) : Option En := match en[i]? with
  | some (.p _) => none
  | some _ => some (en.set i (.v o))
  | none => none
def dSet (i : Nat) (da : DE) : DS := fun en => bd (da en) fun p => match stor i p.1 p.2 with
  | some e1 => .ok (.nx, e1)
  | none => .error .stuck
def dRt (da : DE) : DS := fun en => bd (da en) fun p => .ok (.rt p.1, p.2)
def dEx (da : DE) : DS := fun en => bd (da en) fun p => .ok (.nx, p.2)
def dIf (c : DT) (d e : DS) : DS := fun en => bd (c en) fun p => if p.1 = true then d p.2 else e p.2
theorem RX.stor {K : PySem.W.Frag} {G H : Hp} {F : FS} {τ σ : St} {en e1 : En} {v : V} {vs : List V} {o : OT} {os : List OT} {i : Nat} (h : RX K G F τ σ H en (v :: vs) (o :: os)) (e : Lf.stor i o en = some e1) : RX K G F τ (σ.set i (some v)) H e1 vs os := by
  unfold Lf.stor at e
  split at e
  · cases e
  · rename_i s _ hs
    cases e
    exact h.store (List.getElem?_eq_some_iff.mp hs).1
  · cases e
section
variable {X : Cx} {W : WX} {e c : Expr} {da : DE} {dt : DT} {d d' : DS} {pos : Pos} {st : Stmt} {a b rest : List Stmt}
theorem SXs_nil : SXs X W [] dNx := PSs.imp pss_nil fun D σ H q => by
  obtain ⟨G, F, τ, en, h, hp⟩ := q
  exact hp G σ H (Same.refl G) h
theorem SXs_cons (h1 : SX X W st d) (h2 : SXs X W rest d') : SXs X W (st :: rest) (dSq d d') := PSs.imp (pss_cons h1 h2) fun D σ H q => by
  obtain ⟨G, F, τ, en, h, hp⟩ := q
  refine ⟨G, F, τ, en, h, ?_⟩
  unfold dSq at hp
  revert hp
  match d en with
  | .ok (.nx, e1) => exact fun hp G2 σ2 H2 s2 x => ⟨G2, F, τ, e1, x, hp.mono s2⟩
  | .ok (.bk, e1) => exact fun hp => hp
  | .ok (.ct, e1) => exact fun hp => hp
  | .ok (.rt o, e1) => exact fun hp => hp
  | .error .stuck => exact fun hp => hp
  | .error (.exn c e1) => exact fun hp => hp
theorem SXs_one (h1 : SX X W st d) : SXs X W [st] d := pss_one h1
theorem SX_set {i : Nat} {x : Str} {pos' : Pos} (hN : X.N.Nodup) (hi : X.N[i]? = some x) (hx : Loc X.env.scope x) (he : EX X W e da) (hs : swapsWith e (some (.Name x pos')) pos.line X.env = pure false := by rfl) (hf : X.fn x = true ∨ X.env.scope.names.lookup x = some .local := by first | exact .inl rfl | exact .inr rfl | assumption) :
    SX X W (.Assign [.Name x pos'] e pos) (dSet i da) := PS.imp (ps_set hN hi hx he hs hf) fun D σ H q => by
  obtain ⟨G, F, τ, en, h, hp⟩ := q
  refine bindES h hp fun o e1 hp1 G1 H1 v s1 h1 => ?_
  dsimp only at hp1
  split at hp1
  · rename_i e2 he2
    exact hp1 G1 _ H1 s1 (h1.stor he2)
  · exact hp1.elim
theorem SX_ret (he : EX X W e da) : SX X W (.Return (some e) pos) (dRt da) := PS.imp (ps_ret he) fun D σ H q => by
  obtain ⟨G, F, τ, en, h, hp⟩ := q
  refine bindES h hp fun o e1 hp1 G1 H1 v s1 h1 => ?_
  exact hp1 G1 σ H1 v s1 h1
theorem SX_expr (he : EX X W e da) (hs : swapsWith e none pos.line X.env = pure false := by rfl) : SX X W (.Expr e pos) (dEx da) := PS.imp (ps_expr he hs) fun D σ H q => by
  obtain ⟨G, F, τ, en, h, hp⟩ := q
  refine bindES h hp fun o e1 hp1 G1 H1 v s1 h1 => ?_
  exact hp1 G1 σ H1 s1 h1.nil
theorem SX_if (hc : TX X W c dt) (ha : SXs X W a d) (hb : SXs X W b d') : SX X W (.If c a b pos) (dIf dt d d') := PS.imp (ps_if hc ha hb) fun D σ H q => by
  obtain ⟨G, F, τ, en, h, hp⟩ := q
  refine bindTS h hp fun o e1 hp1 G1 H1 s1 h1 => ?_
  dsimp only at hp1
  cases o with
  | true => rw [if_pos rfl] at hp1 ⊢; exact ⟨G1, F, τ, e1, h1, hp1.mono s1⟩
  | false => rw [if_neg Bool.false_ne_true] at hp1 ⊢; exact ⟨G1, F, τ, e1, h1, hp1.mono s1⟩
end
/-! ### targets -/
abbrev DG := PyData → En → Option En
def gNm (i : Nat) : DG := fun x en => stor i (.d x) en
def gNms : List Nat → List PyData → En → Option En
  | [], [], en => some en
  | i :: is, x :: xs, en => (stor i (.d x) en).bind fun e1 => gNms is xs e1
  | _, _, _ => none
def gTp (is : List Nat) : DG := fun x en => match x with
  | .tuple xs => gNms is xs en
  | _ => none
/-- σ' is σ but at the slots is -/
def Off (is : List Nat) (σ σ' : St) : Prop := σ'.length = σ.length ∧ ∀ j, j ∉ is → σ'[j]? = σ[j]?
def liftG (K : PySem.W.Frag) (is : List Nat) (g : DG) : TG := fun v σ H Q => ∃ G F τ en x, RX K G F τ σ H en [v] [.d x] ∧ match g x en with
  | some e1 => ∀ σ', Off is σ σ' → RX K G F τ σ' H e1 [] [] → Q σ' H
  | none => False
abbrev GX (X : Cx) (tg : Expr) (is : List Nat) (g : DG) : Prop := PG X tg (liftG X.K is g)
def liftGs (K : PySem.W.Frag) (js is : List Nat) : TGs := fun vs σ H Q => ∃ G F τ en xs, RX K G F τ σ H en [] [] ∧ DqAll K G vs xs ∧ match gNms is xs en with
  | some e1 => ∀ σ', Off js σ σ' → RX K G F τ σ' H e1 [] [] → Q σ' H
  | none => False
theorem Off.set {is : List Nat} {σ : St} {i : Nat} {v : Option V} (h : i ∈ is) : Off is σ (σ.set i v) :=
  ⟨by simp, fun j hj => List.getElem?_set_ne (fun e => hj (by rw [← e]; exact h))⟩
theorem Off.trans {is : List Nat} {a b c : St} (h : Off is a b) (k : Off is b c) : Off is a c := ⟨k.1.trans h.1, fun j hj => (k.2 j hj).trans (h.2 j hj)⟩
section
variable {X : Cx} {pos : Pos}
theorem GX_name {i : Nat} {x : Str} (hN : X.N.Nodup) (hi : X.N[i]? = some x) (hx : Loc X.env.scope x) (hf : X.fn x = true ∨ X.env.scope.names.lookup x = some .local := by first | exact .inl rfl | exact .inr rfl | assumption) : GX X (.Name x pos) [i] (gNm i) :=
  PG.imp (pg_name hN hi hx hf) fun v σ H Q q => by
    obtain ⟨G, F, τ, en, x, h, hp⟩ := q
    unfold gNm at hp
    split at hp
    · rename_i e1 he
      exact hp _ (Off.set (by simp)) (h.stor he)
    · exact hp.elim
theorem GXs_nil {js : List Nat} : PGs X [] (liftGs X.K js []) := PGs.imp pgs_nil fun vs σ H Q q => by
  obtain ⟨G, F, τ, en, xs, h, dv, hp⟩ := q
  cases xs with
  | nil => cases dv; exact ⟨rfl, hp σ ⟨rfl, fun _ _ => rfl⟩ h⟩
  | cons x xs => exact hp.elim
theorem GXs_cons {e : Expr} {es : List Expr} {i : Nat} {js is : List Nat} (h1 : PG X e (gName i)) (h2 : PGs X es (liftGs X.K js is)) (hj : i ∈ js) (hs : (assignEach (e :: es) X.env).map (·.2) = assign e X.env :: (assignEach es X.env).map (·.2) := by rfl) : PGs X (e :: es) (liftGs X.K js (i :: is)) :=
  PGs.imp (pgs_cons h1 h2 hs) fun vs σ H Q q => by
    obtain ⟨G, F, τ, en, xs, h, dv, hp⟩ := q
    cases xs with
    | nil => exact hp.elim
    | cons x xs =>
      cases dv with
      | cons d1 d2 =>
        rename_i v vs
        refine ⟨v, vs, rfl, ?_⟩
        simp only [gNms] at hp
        cases e : stor i (.d x) en with
        | none => rw [e] at hp; exact hp.elim
        | some e1 =>
          rw [e] at hp
          have h1 := (RX.withD h d1).stor e
          refine ⟨G, F, τ, e1, xs, h1, d2, ?_⟩
          revert hp
          simp only [Option.bind_some]
          split
          · exact fun hp σ' o x => hp σ' ((Off.set hj).trans o) x
          · exact fun hp => hp
theorem GX_tup {es : List Expr} {k : Nat} {is : List Nat} (hc : X.calm = true) (h : PGs X es (liftGs X.K is is)) (hl : is.length = es.length := by rfl) (hn : (assignEach es X.env).length = es.length := by rfl) (hst : (assignEach es X.env).findIdx? (·.1) = none := by rfl) : GX X (.Tuple es k pos) is (gTp is) :=
  PG.imp (pg_tup hc h hn hst) fun v σ H Q q => by
    obtain ⟨G, F, τ, en, x, h, hp⟩ := q
    unfold gTp at hp
    split at hp
    · rename_i e1 he
      split at he
      · rename_i xs
        cases h.dataG with
        | tup hs ha =>
          have len : xs.length = is.length := by
            have : ∀ (is : List Nat) (xs : List PyData) (en : En), gNms is xs en = some e1 → xs.length = is.length := by
              intro is
              induction is with
              | nil => intro xs en e; cases xs with | nil => rfl | cons _ _ => simp [gNms] at e
              | cons i is ih =>
                intro xs en e
                cases xs with
                | nil => simp [gNms] at e
                | cons x xs =>
                  simp only [gNms, Option.bind_eq_some_iff] at e
                  obtain ⟨e2, _, e⟩ := e
                  simp [ih xs e2 e]
            exact this is xs en he
          exact ⟨_, _, rfl, sqT_same h.same hs, by rw [DqAll.length ha, len, hl], G, F, τ, en, xs, h.nil, ha, by rw [he]; exact hp⟩
      · cases he
    · exact hp.elim
end
/-! ### what is walked -/
/-- J goes through the data xs, as long as what is frozen in G stands -/
structure ItS (K : PySem.W.Frag) (G : Hp) (J : It) (xs : List PyData) : Prop where
  go : ∀ i H, Same G H → i < xs.length → J.go i H
  stop : ∀ H, Same G H → J.stop xs.length H
  yld : ∀ i H x H' G1 F τ σ en vs os, i < xs.length → Same G G1 → RX K G1 F τ σ H en vs os → J.yld i H x H' → ∃ d G2, xs[i]? = some d ∧ Same G1 G2 ∧ RX K G2 F τ σ H' en (x :: vs) (.d d :: os)
abbrev DI := En → R (List PyData × En)
def liftI (K : PySem.W.Frag) (W : WX) (di : DI) : TI := fun σ H Rr => ∃ G F τ en, RX K G F τ σ H en [] [] ∧ match di en with
  | .ok (xs, e1) => ∀ G' H' J, Same G G' → RX K G' F τ σ H' e1 [] [] → ItS K G' J xs → Rr J H'
  | .error .stuck => False
  | .error (.exn c e1) => ∀ G' H', Same G G' → RX K G' F τ σ H' e1 [] [] → W (clV K c) none σ H'
abbrev IX (X : Cx) (W : WX) (tg iter : Expr) (di : DI) : Prop := PI X tg iter (liftI X.K W di)
/-- the items of a list or a tuple -/
def dItems : PyData → Option (List PyData)
  | .list xs => some xs
  | .tuple xs => some xs
  | _ => none
def iSq (da : DE) : DI := fun en => bd (da en) fun p => match (frz p.1).bind dItems with
  | some xs => .ok (xs, p.2)
  | none => .error .stuck
theorem its_list {K : PySem.W.Frag} {G : Hp} {a : Addr} {vs : List V} {xs : List PyData} (hs : SqL K G a vs) (ha : DqAll K G vs xs) : ItS K G (Itl K a) xs where
  go := fun i H s hi => by
    obtain ⟨v, hv, _⟩ := DqAll.get ha (List.getElem?_eq_getElem hi)
    exact ⟨vs, v, s.seq hs, hv⟩
  stop := fun H s => ⟨vs, s.seq hs, by rw [DqAll.length ha]; exact Nat.le_refl _⟩
  yld := fun i H x H' G1 F τ σ en ws os hi s h y => by
    obtain ⟨rfl, y⟩ := y
    obtain ⟨d, hd, dv⟩ := DqAll.get' ha (y vs ((s.trans h.same).seq hs))
    exact ⟨d, G1, hd, Same.refl _, h.withD (dp_same s _ _ dv)⟩
theorem its_tup {K : PySem.W.Frag} {G : Hp} {a : Addr} {vs : List V} {xs : List PyData} (hs : SqT K G a vs) (ha : DqAll K G vs xs) : ItS K G (Itt K a) xs where
  go := fun i H s hi => by
    obtain ⟨v, hv, _⟩ := DqAll.get ha (List.getElem?_eq_getElem hi)
    exact ⟨vs, v, sqT_same s hs, hv⟩
  stop := fun H s => ⟨vs, sqT_same s hs, by rw [DqAll.length ha]; exact Nat.le_refl _⟩
  yld := fun i H x H' G1 F τ σ en ws os hi s h y => by
    obtain ⟨rfl, y⟩ := y
    obtain ⟨d, hd, dv⟩ := DqAll.get' ha (y vs (sqT_same (s.trans h.same) hs))
    exact ⟨d, G1, hd, Same.refl _, h.withD (dp_same s _ _ dv)⟩
def iLT (K : PySem.W.Frag) (tl : TE) : TI := fun σ H R => tl σ H fun x H1 => ∃ a, x = .ref a ∧ (((∃ xs, SqL K H1 a xs) ∧ R (Itl K a) H1) ∨ ((∃ xs, SqT K H1 a xs) ∧ R (Itt K a) H1))
section
variable {X : Cx} {W : WX} {tg l : Expr} {da : DE}
theorem pi_lt {tl : TE} (hl : PE X l tl) : PI X tg l (iLT X.K tl) := by
  refine ⟨fun pins s σ H R I h => ?_⟩
  refine thn (hl.run pins s σ H _ I h) fun v s1 ⟨x, H1, I1, r1, q1⟩ => ?_
  obtain ⟨a, e, q⟩ := q1
  subst e
  cases r1
  rcases q with ⟨⟨xs, hq⟩, q⟩ | ⟨⟨xs, hq⟩, q⟩
  · obtain ⟨its, rv, p, hz⟩ := I1.list hq
    refine wpAny_pyIter_list p.isList ?_
    refine ⟨s1.heap.objs.size, [s1.heap.objs.size], _, _, H1, rfl, I1.kept (t' := s1.toks) fun b o e => Heap.get?_push_of_some _ e, turn_list a _, ⟨_, Heap.get?_push_size _ rfl, rfl, rfl⟩, fun b hb => ?_, q⟩
    have e : b = s1.heap.objs.size := by simpa using hb
    subst e
    exact I1.fpOk (Nat.le_refl _) (I1.hok.fresh (Nat.le_refl _))
  · obtain ⟨its, rv, p, hz⟩ := I1.tuple hq
    refine wpAny_pyIter_tuple (show s1.heap.IsTuple a its.toArray from p) ?_
    refine ⟨s1.heap.objs.size, [s1.heap.objs.size], _, _, H1, rfl, I1.kept (t' := s1.toks) fun b o e => Heap.get?_push_of_some _ e, turn_tuple a _, ⟨_, Heap.get?_push_size _ rfl, rfl, rfl⟩, fun b hb => ?_, q⟩
    have e : b = s1.heap.objs.size := by simpa using hb
    subst e
    exact I1.fpOk (Nat.le_refl _) (I1.hok.fresh (Nat.le_refl _))
/-- an expression in front of what is walked -/
theorem bindEI {K : PySem.W.Frag} {G H : Hp} {F : FS} {τ σ : St} {en : En} {kk : OT × En → R (List PyData × En)} {Rr : It → Hp → Prop} {Rk : VK} (h : RX K G F τ σ H en [] [])
    (hp : match bd (da en) kk with
      | .ok (xs, e1) => ∀ G' H' J, Same G G' → RX K G' F τ σ H' e1 [] [] → ItS K G' J xs → Rr J H'
      | .error .stuck => False
      | .error (.exn c e1) => ∀ G' H', Same G G' → RX K G' F τ σ H' e1 [] [] → W (clV K c) none σ H')
    (hk : ∀ o e1, (match kk (o, e1) with
      | .ok (xs, e1) => ∀ G' H' J, Same G G' → RX K G' F τ σ H' e1 [] [] → ItS K G' J xs → Rr J H'
      | .error .stuck => False
      | .error (.exn c e1) => ∀ G' H', Same G G' → RX K G' F τ σ H' e1 [] [] → W (clV K c) none σ H') → ∀ G' H' v, Same G G' → RX K G' F τ σ H' e1 [v] [o] → Rk v H') : liftE K W da σ H Rk := by
  refine ⟨G, F, τ, en, h, ?_⟩
  revert hp
  match da en with
  | .ok (o, e1) => exact fun hp G2 H2 vs2 s2 x v ev => hk o e1 hp G2 H2 v s2 (by subst ev; exact x)
  | .error .stuck => exact fun hp => hp
  | .error (.exn c e1) => exact fun hp => hp
theorem IX_sq (hl : EX X W l da) : IX X W tg l (iSq da) := PI.imp (pi_lt hl) fun σ H Rr q => by
  obtain ⟨G, F, τ, en, h, hp⟩ := q
  refine bindEI h hp fun o e1 hp1 G1 H1 v s1 h1 => ?_
  dsimp only at hp1
  cases ex : (frz o).bind dItems with
  | none => rw [ex] at hp1; exact hp1.elim
  | some xs =>
    rw [ex] at hp1
    obtain ⟨x, e1, e2⟩ := Option.bind_eq_some_iff.mp ex
    obtain ⟨G2, s2, h2⟩ := RX.freeze (vs := []) (os := []) h1 e1
    have dv := h2.dataG
    cases x with
    | list ys =>
      cases e2
      cases dv with
      | lst hs ha => exact ⟨_, rfl, .inl ⟨⟨_, h2.same.seq hs⟩, hp1 G2 H1 _ (s1.trans s2) h2.nil (its_list hs ha)⟩⟩
    | tuple ys =>
      cases e2
      cases dv with
      | tup hs ha => exact ⟨_, rfl, .inr ⟨⟨_, sqT_same h2.same hs⟩, hp1 G2 H1 _ (s1.trans s2) h2.nil (its_tup hs ha)⟩⟩
    | _ => cases e2
end
def rng (lo : Int) (n : Nat) : List PyData := (List.range n).map fun (i : Nat) => .int (lo + i)
theorem its_rng {K : PySem.W.Frag} {G : Hp} {lo : Int} {n : Nat} : ItS K G (Itr lo n) (rng lo n) where
  go := fun i H s hi => by
    have : i < n := by simpa [rng] using hi
    exact this
  stop := fun H s => by
    have : n ≤ (rng lo n).length := by simp [rng]
    exact this
  yld := fun i H x H' G1 F τ σ en ws os hi s h y => by
    obtain ⟨rfl, y⟩ := y
    subst y
    have : i < n := by simpa [rng] using hi
    exact ⟨.int (lo + i), G1, by simp [rng, this], Same.refl _, h.withD (.int _)⟩
theorem bindAI {X : Cx} {W : WX} {da : DA} {K : PySem.W.Frag} {G H : Hp} {F : FS} {τ σ : St} {en : En} {kk : List OT × En → R (List PyData × En)} {Rr : It → Hp → Prop} {Rk : List V → Hp → Prop} (h : RX K G F τ σ H en [] [])
    (hp : match bd (da en) kk with
      | .ok (xs, e1) => ∀ G' H' J, Same G G' → RX K G' F τ σ H' e1 [] [] → ItS K G' J xs → Rr J H'
      | .error .stuck => False
      | .error (.exn c e1) => ∀ G' H', Same G G' → RX K G' F τ σ H' e1 [] [] → W (clV K c) none σ H')
    (hk : ∀ o e1, (match kk (o, e1) with
      | .ok (xs, e1) => ∀ G' H' J, Same G G' → RX K G' F τ σ H' e1 [] [] → ItS K G' J xs → Rr J H'
      | .error .stuck => False
      | .error (.exn c e1) => ∀ G' H', Same G G' → RX K G' F τ σ H' e1 [] [] → W (clV K c) none σ H') → ∀ G' H' v, Same G G' → RX K G' F τ σ H' e1 v o → Rk v H') : liftA K W da σ H Rk := by
  refine ⟨G, F, τ, en, h, ?_⟩
  revert hp
  match da en with
  | .ok (o, e1) => exact fun hp G2 H2 vs2 s2 x => hk o e1 hp G2 H2 vs2 s2 x
  | .error .stuck => exact fun hp => hp
  | .error (.exn c e1) => exact fun hp => hp
/-- a number within the line -/
def inR (i : Int) : Bool := decide (-(2 ^ 62) ≤ i ∧ i < 2 ^ 62)
def iR1 (da : DA) : DI := fun en => bd (da en) fun p => match p.1 with
  | [.d (.int j)] => if inR j then .ok (rng 0 j.toNat, p.2) else .error .stuck
  | _ => .error .stuck
def iR2 (da : DA) : DI := fun en => bd (da en) fun p => match p.1 with
  | [.d (.int i), .d (.int j)] => if inR i && inR j then .ok (rng i (j - i).toNat, p.2) else .error .stuck
  | _ => .error .stuck
section
variable {X : Cx} {W : WX} {tg a b : Expr} {da : DA} {p pos : Pos}
theorem IX_r1 (hg : Gl X "range") (hm : X.mg "range" = none) (ha : AX X W [a] da) (hs : starEach [a] X.env = [(false, eval a X.env)] := by rfl) : IX X W tg (.Call (.Name "range" p) [a] [] pos) (iR1 da) := PI.imp (pi_range1 hg hm ha hs) fun σ H Rr q => by
  obtain ⟨G, F, τ, en, h, hp⟩ := q
  refine bindAI (X := X) h hp fun o e1 hp1 G1 H1 v s1 h1 => ?_
  dsimp only at hp1
  split at hp1
  · rename_i xs e2 hx
    split at hx
    · rename_i j
      split at hx
      · rename_i hr
        cases hx
        have hr := of_decide_eq_true hr
        obtain ⟨w, rfl⟩ : ∃ w, v = [w] := by
          have := h1.vlen
          match v, this with
          | [w], _ => exact ⟨w, rfl⟩
        cases h1.data rfl
        exact ⟨j, rfl, hr.1, hr.2, hp1 G1 H1 _ s1 h1.nil its_rng⟩
      · cases hx
    · cases hx
  · exact hp1.elim
  · rename_i c e2 hx
    split at hx
    · split at hx <;> cases hx
    · cases hx
end
/-! ### for, while -/
def forD (g : DG) (body : DS) : List PyData → En → R (Fl × En)
  | [], en => .ok (.nx, en)
  | x :: xs, en => match g x en with
    | none => .error .stuck
    | some e1 => bd (body e1) fun p => match p.1 with
      | .nx => forD g body xs p.2
      | .ct => forD g body xs p.2
      | .bk => .ok (.nx, p.2)
      | .rt o => .ok (.rt o, p.2)
def dFor (di : DI) (g : DG) (body : DS) : DS := fun en => bd (di en) fun p => forD g body p.1 p.2
section
variable {X : Cx} {W : WX} {tg iter c : Expr} {di : DI} {g : DG} {gs : List Nat} {d : DS} {dt : DT} {body : List Stmt} {pos : Pos}
theorem SX_for (hp : PassesOwn (model X.prog X.w) X.A X.env X.xe) (hc : X.calm = true) (hi : IX X W tg iter di) (hg : GX X tg gs g) (hb : SXs X W body d) (hs : ∀ x, foldedSetIterable iter X.env x = pure x := by intro _; rfl) : SX X W (.For tg iter body [] pos) (dFor di g d) :=
  PS.imp (ps_for hp hc hi hg hb hs) fun D σ H q => by
    obtain ⟨G, F, τ, en, h, hp⟩ := q
    refine ⟨G, F, τ, en, h, ?_⟩
    unfold dFor at hp
    revert hp
    match di en with
    | .error .stuck => exact fun hp => hp
    | .error (.exn c e1) => exact fun hp G' H' s x => hp G' σ H' s x
    | .ok (xs, e1) =>
      intro hp G1 H1 J s1 h1 hJ
      -- the invariant: i items gone, the rest as the fold goes on
      refine ⟨fun i m σ' H' => ∃ G2 e2, Same G1 G2 ∧ RX X.K G2 F τ σ' H' e2 [] [] ∧ i ≤ xs.length ∧ m = xs.length - i ∧ PostS X.K G2 F τ W D (forD g d (xs.drop i) e2), ⟨_, G1, e1, Same.refl _, h1, Nat.zero_le _, rfl, by rw [List.drop_zero]; exact PostS.mono s1 hp⟩, ?_⟩
      rintro i m σ2 H2 ⟨G2, e2, s2, h2, hi, rfl, hp2⟩
      by_cases hlt : i < xs.length
      · refine .inr ⟨hJ.go i H2 (s2.trans h2.same) hlt, _, fun σ' H' z => ⟨xs.length - (i + 1), by omega, z⟩, fun x H' y => ?_⟩
        obtain ⟨dd, G3, hd, s3, h3⟩ := hJ.yld i H2 x H' G2 F τ σ2 e2 [] [] hlt s2 h2 y
        have hdrop : xs.drop i = dd :: xs.drop (i + 1) := by
          obtain ⟨_, e⟩ := List.getElem?_eq_some_iff.mp hd
          rw [← e, List.drop_eq_getElem_cons hlt]
        rw [hdrop] at hp2
        simp only [forD] at hp2
        refine ⟨G3, F, τ, e2, dd, h3, ?_⟩
        cases eg : g dd e2 with
        | none => rw [eg] at hp2; exact hp2.elim
        | some e3 =>
          rw [eg] at hp2
          dsimp only at hp2 ⊢
          intro σ3 _ h4
          refine ⟨G3, F, τ, e3, h4, ?_⟩
          revert hp2
          match d e3 with
          | .ok (.nx, e4) => exact fun hp2 G5 σ5 H5 s5 x5 => ⟨G5, e4, s2.trans (s3.trans s5), x5, by omega, rfl, PostS.mono (s3.trans s5) hp2⟩
          | .ok (.ct, e4) => exact fun hp2 G5 σ5 H5 s5 x5 => ⟨G5, e4, s2.trans (s3.trans s5), x5, by omega, rfl, PostS.mono (s3.trans s5) hp2⟩
          | .ok (.bk, e4) => exact fun hp2 G5 σ5 H5 s5 x5 => hp2 G5 σ5 H5 (s3.trans s5) x5
          | .ok (.rt o, e4) => exact fun hp2 G5 σ5 H5 v5 s5 x5 => hp2 G5 σ5 H5 v5 (s3.trans s5) x5
          | .error .stuck => exact fun hp2 => hp2
          | .error (.exn c e4) => exact fun hp2 G5 σ5 H5 s5 x5 => hp2 G5 σ5 H5 (s3.trans s5) x5
      · have e : i = xs.length := by omega
        subst e
        refine .inl ⟨hJ.stop H2 (s2.trans h2.same), ?_⟩
        rw [List.drop_length] at hp2
        exact hp2 G2 σ2 H2 (Same.refl _) h2
end
end Lf
end
section
set_option Elab.async false
set_option linter.all false
set_option maxRecDepth 100000
namespace Lf
open PySem PySem.Spec L2
variable [Tabs]
/-! ### defs -/
abbrev DF := List OT → R (OT × List OT)
/-- what a def promises, by its function on things -/
def spL (K : PySem.W.Frag) (n : Nat) (f : DF) : Sp := fun vs H Q E => vs.length = n ∧ ∃ (G : Hp) (F : FS) (os : List OT), F.b = G ∧ RX K G F [] [] H [] vs os ∧ match f os with
  | .ok (o, os') => ∀ G' H' v, Same G G' → RX K G' F [] [] H' [] (v :: vs) (o :: os') → Q v H'
  | .error .stuck => False
  | .error (.exn c _) => ∀ G' H', Same G G' → RX K G' F [] [] H' [] [] [] → E (clV K c) none H'
def mkEn : List Bool → List OT → En
  | b :: bs, o :: os => (if b then .p o else .v o) :: mkEn bs os
  | _, _ => []
def outs : List Bool → En → List OT
  | true :: bs, .p o :: en => o :: outs bs en
  | _ :: bs, _ :: en => .hole :: outs bs en
  | bs, _ => bs.map fun _ => .hole
mutual
def noL : PyData → Bool
  | .list _ => false
  | .dict _ => false
  | .tuple xs => noLs xs
  | _ => true
def noLs : List PyData → Bool
  | [] => true
  | x :: xs => noL x && noLs xs
end
mutual
/-- what was frozen is one's own again -/
def thaw : OT → OT
  | .own xs => .own (thaws xs)
  | .fr xs => .own (thaws xs)
  | .d x => .d x
  | .opq v => .opq v
  | .dic t kvs => .dic t kvs
  | .lkd t kvs => .lkd t kvs
  | .tp xs => .tp (thaws xs)
  | .leaf t xs => .leaf t xs
  | .hole => .hole
def thaws : List OT → List OT
  | [] => []
  | o :: os => thaw o :: thaws os
end
mutual
/-- no data of lists in it that isn't one's own -/
def okT : OT → Bool
  | .own xs => okTs xs
  | .fr xs => okTs xs
  | .d x => noL x
  | .opq _ => true
  | .dic _ _ => true
  | .lkd _ _ => true
  | .tp xs => okTs xs
  | .leaf _ xs => noLs xs
  | .hole => true
def okTs : List OT → Bool
  | [] => true
  | o :: os => okT o && okTs os
end
def fin (o : OT) (os : List OT) : R (OT × List OT) := if noFrs (o :: os) = true then .ok (o, os) else if okTs (o :: os) = true then .ok (thaw o, thaws os) else .error .stuck
/-- a def's function: which parameters go back, how many further slots, the body -/
def dFn (fl : List Bool) (n : Nat) (body : DS) : DF := fun os => if os.length = fl.length then
    match body (mkEn fl os ++ List.replicate n .un) with
    | .ok (.rt o, en) => fin o (outs fl en)
    | .ok (.nx, en) => fin (.d .none) (outs fl en)
    | .ok _ => .error .stuck
    | .error .stuck => .error .stuck
    | .error (.exn c _) => .error (.exn c [])
  else .error .stuck
section
variable {K : PySem.W.Frag} {G G' H : Hp} {F : FS} {τ σ : St} {en : En} {vs ws : List V} {os ps : List OT}
theorem mkEn_length : ∀ {fl : List Bool} {os : List OT}, os.length = fl.length → (mkEn fl os).length = os.length
  | [], [], _ => rfl
  | b :: bs, o :: os, h => by simp [mkEn, mkEn_length (fl := bs) (os := os) (by simpa using h)]
  | [], _ :: _, h => by simp at h
  | _ :: _, [], h => by simp at h
theorem mkEn_get : ∀ {fl : List Bool} {os : List OT} {i : Nat} {s : Slot}, (mkEn fl os)[i]? = some s → ∃ o, os[i]? = some o ∧ (s = .v o ∨ s = .p o)
  | [], _, i, s, h => by simp [mkEn] at h
  | _ :: _, [], i, s, h => by simp [mkEn] at h
  | b :: bs, o :: os, 0, s, h => by
    simp [mkEn] at h
    refine ⟨o, rfl, ?_⟩
    cases b
    · exact .inl (by simpa using h.symm)
    · exact .inr (by simpa using h.symm)
  | b :: bs, o :: os, i + 1, s, h => by
    simp [mkEn] at h
    obtain ⟨o', e, q⟩ := mkEn_get h
    exact ⟨o', by simpa using e, q⟩
/-- footprints by place -/
theorem RepOs.parts {M : Hp} : ∀ {os : List OT} {vs : List V} {A : List Addr}, RepOs K G M vs os A → ∃ φ : Nat → List Addr, (∀ i o, os[i]? = some o → ∃ v, vs[i]? = some v ∧ RepO K G M v o (φ i)) ∧ (∀ i, os.length ≤ i → φ i = []) ∧ (∀ i j, i ≠ j → ∀ a ∈ φ i, a ∉ φ j) ∧ ∀ i, ∀ a ∈ φ i, a ∈ A
  | [], _, _, h => by cases h; exact ⟨fun _ => [], fun i o e => by simp at e, fun _ _ => rfl, fun _ _ _ a ha => by simp at ha, fun _ a ha => by simp at ha⟩
  | o :: os, _, _, h => by
    cases h with
    | cons h1 h2 h3 =>
      rename_i v vs A B
      obtain ⟨φ, p1, p2, p3, p4⟩ := RepOs.parts h2
      refine ⟨fun i => match i with | 0 => A | i + 1 => φ i, fun i o' e => ?_, fun i hi => ?_, fun i j hij a ha => ?_, fun i a ha => ?_⟩
      · cases i with
        | zero => simp at e; subst e; exact ⟨v, rfl, h1⟩
        | succ i => simp at e; obtain ⟨u, e1, e2⟩ := p1 i o' e; exact ⟨u, by simpa using e1, e2⟩
      · cases i with
        | zero => simp at hi
        | succ i => exact p2 i (by simpa using hi)
      · cases i with
        | zero =>
          cases j with
          | zero => exact absurd rfl hij
          | succ j => exact fun hb => h3 a ha (p4 j a hb)
        | succ i =>
          cases j with
          | zero => exact fun hb => h3 a hb (p4 i a ha)
          | succ j => exact p3 i j (fun e => hij (by rw [e])) a ha
      · cases i with
        | zero => exact List.mem_append_left _ ha
        | succ i => exact List.mem_append_right _ (p4 i a ha)
/-- back: what stands by place -/
theorem RepOs.ofParts {M : Hp} : ∀ {os : List OT} {vs : List V} (φ : Nat → List Addr), vs.length = os.length → (∀ i o v, os[i]? = some o → vs[i]? = some v → RepO K G M v o (φ i)) → (∀ i j, i ≠ j → ∀ a ∈ φ i, a ∉ φ j) → ∃ A, RepOs K G M vs os A ∧ ∀ a ∈ A, ∃ i, i < os.length ∧ a ∈ φ i
  | [], [], φ, _, _, _ => ⟨[], .nil, fun _ z => nomatch z⟩
  | o :: os, v :: vs, φ, hl, h, hd => by
    obtain ⟨A, r, m⟩ := RepOs.ofParts (os := os) (vs := vs) (fun i => φ (i + 1)) (by simpa using hl) (fun i o v e1 e2 => h (i + 1) o v (by simpa using e1) (by simpa using e2)) (fun i j hij => hd (i + 1) (j + 1) (by omega))
    refine ⟨φ 0 ++ A, .cons (h 0 o v rfl rfl) r (fun a ha hb => ?_), fun a ha => ?_⟩
    · obtain ⟨i, _, hi⟩ := m a hb
      exact hd 0 (i + 1) (by omega) a ha hi
    · rcases List.mem_append.mp ha with ha | ha
      · exact ⟨0, by simp, ha⟩
      · obtain ⟨i, hi, q⟩ := m a ha
        exact ⟨i + 1, by simpa using hi, q⟩
  | [], _ :: _, _, hl, _, _ => by simp at hl
  | _ :: _, [], _, hl, _, _ => by simp at hl
theorem start_get {N : List Str} {vs : List V} {i : Nat} (h : i < vs.length) : (L2.start N vs)[i]? = (vs[i]?).map some := by
  unfold L2.start
  rw [List.getElem?_append_left (by simpa using h), List.getElem?_map]
/-- a def is entered -/
theorem RX.start {N : List Str} {fl : List Bool} {n : Nat} (h : RX K G F [] [] H [] vs os) (hf : os.length = fl.length) (hN : N.length = fl.length + n) :
    RX K G F (L2.start N vs) (L2.start N vs) H (mkEn fl os ++ List.replicate n .un) [] [] := by
  obtain ⟨M, φ0, B, S, E, r, d⟩ := h
  have hl := r.length
  obtain ⟨φ, p1, p2, p3, p4⟩ := RepOs.parts r
  have len0 : (mkEn fl os).length = os.length := mkEn_length hf
  refine ⟨M, φ, [], S, ⟨?_, fun i s hs => ?_, fun i hi => p2 i ?_, p3⟩, .nil, fun _ _ z => nomatch z⟩
  · simp [L2.start, len0, hl, hf, hN]
  · by_cases hi : i < os.length
    · rw [List.getElem?_append_left (by omega)] at hs
      obtain ⟨o, eo, q⟩ := mkEn_get hs
      obtain ⟨v, ev, rv⟩ := p1 i o eo
      have sv : (L2.start N vs)[i]? = some (some v) := by rw [start_get (by omega), ev]; rfl
      rcases q with rfl | rfl
      · exact ⟨v, sv, rv⟩
      · exact ⟨v, sv, sv, rv⟩
    · rw [List.getElem?_append_right (by omega)] at hs
      obtain ⟨_, e⟩ := List.getElem?_eq_some_iff.mp hs
      simp at e
      subst e
      exact p2 i (by omega)
  · simp [len0] at hi; omega
theorem outs_length : ∀ {fl : List Bool} {en : En}, (outs fl en).length = fl.length
  | [], en => by cases en <;> rfl
  | true :: bs, [] => by simp [outs]
  | false :: bs, [] => by simp [outs]
  | true :: bs, .p o :: en => by simp [outs, outs_length (fl := bs) (en := en)]
  | true :: bs, .v o :: en => by simp [outs, outs_length (fl := bs) (en := en)]
  | true :: bs, .un :: en => by simp [outs, outs_length (fl := bs) (en := en)]
  | false :: bs, _ :: en => by simp [outs, outs_length (fl := bs) (en := en)]
theorem outs_get : ∀ {fl : List Bool} {en : En} {i : Nat} {o : OT}, (outs fl en)[i]? = some o → o = .hole ∨ en[i]? = some (.p o)
  | [], en, i, o, h => by cases en <;> simp [outs] at h
  | b :: bs, [], i, o, h => by
    left
    have key : ∀ (l : List Bool) (i : Nat) (o : OT), (l.map fun _ => OT.hole)[i]? = some o → o = OT.hole := fun l i o e => by
      simp at e; exact e.2.symm
    cases b with
    | true => exact key (true :: bs) i o h
    | false => exact key (false :: bs) i o h
  | b :: bs, s :: en, 0, o, h => by
    cases b with
    | false => simp [outs] at h; exact .inl h.symm
    | true =>
      cases s with
      | p u => simp [outs] at h; exact .inr (by simp [h])
      | v u => simp [outs] at h; exact .inl h.symm
      | un => simp [outs] at h; exact .inl h.symm
  | b :: bs, s :: en, i + 1, o, h => by
    have : (outs bs en)[i]? = some o := by
      cases b with
      | false => simpa [outs] using h
      | true => cases s <;> simpa [outs] using h
    rcases outs_get this with q | q
    · exact .inl q
    · exact .inr (by simpa using q)
def ft (o : Option OT) (A : List Addr) : List Addr := match o with
  | some OT.hole => []
  | some _ => A
  | none => []
/-- a def is left -/
theorem RX.leave {N : List Str} {fl : List Bool} {v : V} {o : OT} (h : RX K G F (L2.start N vs) σ H en [v] [o]) (hv : vs.length = fl.length) :
    RX K G F [] [] H [] (v :: vs) (o :: outs fl en) := by
  obtain ⟨M, φ, B, S, E, r, d⟩ := h
  cases r with
  | cons r1 r2 hd =>
    rename_i A B
    cases r2
    have hA : ∀ i u w, (outs fl en)[i]? = some u → vs[i]? = some w → RepO K G M w u (ft (outs fl en)[i]? (φ i)) := by
      intro i u w e1 e2
      rw [e1]
      rcases outs_get e1 with rfl | q
      · exact .hole
      · obtain ⟨x, h1, h2, h3⟩ := E.2.1 i _ q
        have lt : i < vs.length := (List.getElem?_eq_some_iff.mp e2).1
        rw [start_get lt, e2] at h2
        cases h2
        cases u with
        | hole => exact .hole
        | _ => exact h3
    have hB : ∀ i j, i ≠ j → ∀ a ∈ ft (outs fl en)[i]? (φ i), a ∉ ft (outs fl en)[j]? (φ j) := by
      intro i j hij a ha
      unfold ft at ha ⊢
      split at ha
      · cases ha
      · split
        · simp
        · exact E.2.2.2 i j hij a ha
        · simp
      · cases ha
    obtain ⟨C, rc, mc⟩ := RepOs.ofParts (K := K) (G := G) (M := M) (os := outs fl en) (vs := vs) (fun i => ft (outs fl en)[i]? (φ i)) (by rw [outs_length]; exact hv) hA hB
    refine ⟨M, fun _ => [], A ++ C, S, ⟨rfl, fun i s hs => by simp at hs, fun _ _ => rfl, fun _ _ _ a ha => by simp at ha⟩, ?_, fun _ _ _ z => nomatch z⟩
    refine .cons (by simpa using r1) rc (fun a ha hc => ?_)
    obtain ⟨i, _, hi⟩ := mc a hc
    unfold ft at hi
    split at hi
    · cases hi
    · exact d i a (by simpa using ha) hi
    · cases hi
end
section
variable {K : PySem.W.Frag} {G G2 M M2 H : Hp} {F : FS} {vs : List V} {os : List OT} {B : List Addr}
mutual
theorem dp_noL (h1 : ∀ a o, G a = some o → (∀ xs, o ≠ .lst xs) → G2 a = some o) : ∀ (x : PyData) (v : V), Dq K G v x → noL x = true → Dq K G2 v x
  | .none, _, h, _ => by cases h; exact .non
  | .bool b, _, h, _ => by cases h; exact .bl b
  | .int i, _, h, _ => by cases h; exact .int i
  | .str s, _, h, _ => by cases h; exact .str s
  | .list ds, _, h, e => by simp [noL] at e
  | .tuple ds, _, h, e => by
    cases h with
    | tup hs ha =>
      refine .tup ?_ (dps_noL h1 ds _ ha (by simpa [noL] using e))
      rcases hs with (hs | ⟨o, hs⟩) | hs
      · exact .inl (.inl (h1 _ _ hs fun xs z => nomatch z))
      · exact .inl (.inr ⟨o, h1 _ _ hs fun xs z => nomatch z⟩)
      · exact .inr hs
  | .dict _, _, h, e => by simp [noL] at e
theorem dps_noL (h1 : ∀ a o, G a = some o → (∀ xs, o ≠ .lst xs) → G2 a = some o) : ∀ (xs : List PyData) (vs : List V), DqAll K G vs xs → noLs xs = true → DqAll K G2 vs xs
  | [], _, h, _ => by cases h; exact .nil
  | x :: xs, _, h, e => by
    simp only [noLs, Bool.and_eq_true] at e
    cases h with
    | cons k1 k2 => exact .cons (dp_noL h1 x _ k1 e.1) (dps_noL h1 xs _ k2 e.2)
end
mutual
theorem RepO.thaw (h1 : ∀ a o, G a = some o → (∀ xs, o ≠ .lst xs) → G2 a = some o) (h2 : ∀ a u, M a = some u → isTg u = false → M2 a = some u) (h3 : ∀ a ∈ B, M a = some tg → M2 a = G a) :
    ∀ (o : OT) (v : V) (A : List Addr), RepO K G M v o A → okT o = true → (∀ a ∈ A, a ∈ B) → RepO K G2 M2 v (thaw o) A
  | .d x, _, _, h, e, _ => by
    cases h with
    | d h => exact .d (dp_noL h1 x _ h (by simpa [okT] using e))
  | .own os, _, _, h, e, b => by
    cases h with
    | own k1 k2 k3 => exact .own (h2 _ _ k1 rfl) (RepOs.thaw h1 h2 h3 os _ _ k2 (by simpa [okT] using e) fun a ha => b a (List.mem_cons_of_mem _ ha)) k3
  | .fr os, _, _, h, e, b => by
    cases h with
    | fr k0 k1 k2 k3 => exact .own (by rw [h3 _ (b _ List.mem_cons_self) k0]; exact k1) (RepOs.thaw h1 h2 h3 os _ _ k2 (by simpa [okT] using e) fun a ha => b a (List.mem_cons_of_mem _ ha)) k3
  | .opq _, _, _, h, _, _ => by cases h; exact .opq
  | .dic _ _, _, _, h, _, _ => by
    cases h with
    | dic h1 => exact .dic (h2 _ _ h1 dicO_tg)
  | .lkd _ _, _, _, h, _, _ => by
    cases h with
    | lkd h5 => exact .lkd (h1 _ _ h5 fun xs z => nomatch z)
  | .tp os, _, _, h, e, b => by
    cases h with
    | tp k1 k2 => exact .tp (h1 _ _ k1 fun xs z => nomatch z) (RepOs.thaw h1 h2 h3 os _ _ k2 (by simpa [okT] using e) b)
  | .leaf _ xs, _, _, h, e, _ => by
    cases h with
    | leaf k1 k2 => exact .leaf (h2 _ _ k1 tagO_tg) (dps_noL h1 xs _ k2 (by simpa [okT] using e))
  | .hole, _, _, h, _, _ => by cases h; exact .hole
theorem RepOs.thaw (h1 : ∀ a o, G a = some o → (∀ xs, o ≠ .lst xs) → G2 a = some o) (h2 : ∀ a u, M a = some u → isTg u = false → M2 a = some u) (h3 : ∀ a ∈ B, M a = some tg → M2 a = G a) :
    ∀ (os : List OT) (vs : List V) (A : List Addr), RepOs K G M vs os A → okTs os = true → (∀ a ∈ A, a ∈ B) → RepOs K G2 M2 vs (thaws os) A
  | [], _, _, h, _, _ => by cases h; exact .nil
  | o :: os, _, _, h, e, b => by
    simp only [okTs, Bool.and_eq_true] at e
    cases h with
    | cons k1 k2 k3 => exact .cons (RepO.thaw h1 h2 h3 o _ _ k1 e.1 fun a ha => b a (List.mem_append_left _ ha)) (RepOs.thaw h1 h2 h3 os _ _ k2 e.2 fun a ha => b a (List.mem_append_right _ ha)) k3
end
def tgB (M : Hp) (B : List Addr) (a : Addr) : Bool := decide (a ∈ B) && (match M a with | some o => isTg o | none => false)
theorem tgB_iff {a : Addr} : tgB M B a = true ↔ a ∈ B ∧ M a = some tg := by
  unfold tgB
  cases e : M a with
  | none => simp
  | some o =>
    simp only [Bool.and_eq_true, decide_eq_true_eq]
    refine and_congr_right fun _ => ⟨fun h => by rw [isTg_eq h], fun h => by cases h; rfl⟩
/-- THAW: all that one holds, when nothing else of one's own is left -/
theorem RX.thaw (h : RX K G F [] [] H [] vs os) (hok : okTs os = true) : ∃ G2, Same F.b G2 ∧ RX K G2 F [] [] H [] vs (thaws os) := by
  obtain ⟨M, φ, B, S, E, r, d⟩ := h
  have hn : ∀ a, tgB M B a = false → (if tgB M B a = true then none else G a) = G a ∧ (if tgB M B a = true then G a else M a) = M a := fun a e => by simp [e]
  refine ⟨fun a => if tgB M B a = true then none else G a, fun a u hu => ?_, fun a => if tgB M B a = true then G a else M a, φ, B, ⟨fun a => ?_, fun a ps z => ?_, S.tab, fun a u hu => ?_, fun a u z => ?_⟩, ⟨rfl, fun i s hs => by simp at hs, E.2.2.1, E.2.2.2⟩, RepOs.thaw (fun a o e ne => ?_) (fun a xs e => ?_) (fun a hb e => ?_) os vs B r hok fun _ h => h, d⟩
  · cases e : tgB M B a with
    | false => first | exact (if_neg Bool.false_ne_true).trans (S.base a u hu) | exact (if_neg (by rw [e]; exact Bool.false_ne_true)).trans (S.base a u hu)
    | true =>
      have q := S.mb a _ (tgB_iff.mp e).2
      rw [hu] at q; cases q
  · cases e : tgB M B a with
    | false => simp only [Bool.false_eq_true, if_false]; exact S.at_ a
    | true =>
      obtain ⟨k1, xs, k2⟩ := S.mt (tgB_iff.mp e).2
      simp only [if_true]
      exact .inr (.inl ⟨trivial, S.mf (tgB_iff.mp e).2, k1, by rw [k2]; exact fun z => nomatch z⟩)
  · cases e : tgB M B a with
    | false => rw [e] at z; exact S.nt a ps (by simpa using z)
    | true =>
      obtain ⟨k1, xs, k2⟩ := S.mt (tgB_iff.mp e).2
      rw [e] at z
      simp [k2] at z
  · cases e : tgB M B a with
    | false => first | exact (if_neg Bool.false_ne_true).trans (S.base a u hu) | exact (if_neg (by rw [e]; exact Bool.false_ne_true)).trans (S.base a u hu)
    | true =>
      have q := S.mb a _ (tgB_iff.mp e).2
      rw [hu] at q; cases q
  · cases e : tgB M B a with
    | false => rw [e] at z; exact S.mb a u (by simpa using z)
    | true => exact S.mb a _ (tgB_iff.mp e).2
  · cases q : tgB M B a with
    | false => simp only [Bool.false_eq_true, if_false]; exact e
    | true =>
      obtain ⟨k1, xs, k2⟩ := S.mt (tgB_iff.mp q).2
      rw [e] at k2
      cases k2
      exact absurd rfl (ne xs)
  · cases q : tgB M B a with
    | false => intro _; simp only [Bool.false_eq_true, if_false]; exact e
    | true => intro ht; rw [(tgB_iff.mp q).2] at e; cases e; simp [isTg] at ht
  · rw [if_pos (tgB_iff.mpr ⟨hb, e⟩)]
/-- what a def hands back -/
theorem RX.fin {v : V} {o o' : OT} {os' : List OT} (h : RX K G F [] [] H [] (v :: vs) (o :: os)) (hf : fin o os = .ok (o', os')) : ∃ G2, (Same G G2 ∨ Same F.b G2) ∧ RX K G2 F [] [] H [] (v :: vs) (o' :: os') := by
  unfold Lf.fin at hf
  split at hf
  · cases hf; exact ⟨G, .inl (Same.refl _), h⟩
  · split at hf
    · rename_i hok
      cases hf
      obtain ⟨G2, s, h2⟩ := h.thaw hok
      exact ⟨G2, .inr s, h2⟩
    · cases hf
end
section
variable {P : Program} {w : World} {K : PySem.W.Frag} {mg : Str → Option Value} {base : Heap}
abbrev WD (E : XK) : WX := fun c d _ H => E c d H
/-- a def keeps its function, where there is room and no text is being made of a container -/
structure DefOk (P : Program) (w : World) (K : PySem.W.Frag) (mg : Str → Option Value) (base : Heap) (k : Nat) (f : Addr) (fd : FuncData) (ps : List Str) (g : DF) : Prop where
  run : ∀ (A : Around) (out : List Env) (s : Shared) (H : Hp) (args : Args) (us : List Value) (vs : List V) (Q : VK) (E : XK), Room k A → A.guards = some [] → Env0 P w K mg base A out s H →
    BindsTo s fd args (ps.zip us) → Vals vs us → spL K ps.length g vs H Q E → codeAny (model P w) A (.call (.ref f) args) (CR (L2N.CX P w) out P w H s Q E) s
/-- room for calls in a body, no text being made -/
structure Rm (k : Nat) (A : Around) : Prop where
  hr : Room k A
  gd : A.guards = some []
theorem Rm.mono {j k : Nat} {A : Around} (r : Rm k A) (h : j ≤ k) : Rm j A := ⟨r.hr.mono h, r.gd⟩
theorem guards_deeper {A : Around} {env : Env} : (A.deeper env).guards = A.guards := by first | rfl | (cases A; rfl)
/-- another function that tells as much, or less -/
theorem DefOk.ref {k : Nat} {f : Addr} {fd : FuncData} {ps : List Str} {g g' : DF} (F : DefOk P w K mg base k f fd ps g) (h : ∀ os, g' os = .error .stuck ∨ g os = g' os) : DefOk P w K mg base k f fd ps g' :=
  ⟨fun A out s H args us vs Q E hr hgd e0 bt rv hsp => F.run A out s H args us vs Q E hr hgd e0 bt rv (by
    obtain ⟨hn, G, F', os, hFb, hx, hp⟩ := hsp
    refine ⟨hn, G, F', os, hFb, hx, ?_⟩
    rcases h os with e | e
    · rw [e] at hp; exact hp.elim
    · rw [e]; exact hp)⟩
theorem DefOk.mono {j k : Nat} {f : Addr} {fd : FuncData} {ps : List Str} {g : DF} (F : DefOk P w K mg base j f fd ps g) (h : j ≤ k) : DefOk P w K mg base k f fd ps g :=
  ⟨fun A out s H args us vs Q E hr => F.run A out s H args us vs Q E (hr.mono h)⟩
end
section
variable {X : Cx} {W : WX} {k n : Nat} {f : Addr} {fd : FuncData} {ps : List Str} {g : DF}
/-- the callee runs -/
theorem runD {pins : List (Addr × Obj)} {σ : St} {H : Hp} {s : Shared} {Q : VK} {us : List Value} {kws : List (Str × Value)} {ws : List Value} {vs : List V} (F : DefOk X.prog X.w X.K X.mg X.base k f fd ps g) (hr : Rm k X.A) (tk : L2N.Takes X W)
    (bt : BindsTo s fd ⟨us, kws⟩ (ps.zip ws)) (I : Inv X pins σ H s) (rv : Vals vs ws) (h : spL X.K ps.length g vs H Q (fun c d H' => W c d σ H')) : wpAny (model X.prog X.w) X.A (call (.ref f) us kws) (EP X pins σ Q) X.xe s := by
  refine wpAny_call (codeAny_mono (F.run X.A X.stack s H _ ws vs Q _ hr.hr hr.gd I.env0 bt rv h) fun r s' hq => ?_)
  match r, hq with
  | .error e, hq => exact L2N.passAt tk σ pins H s e s' I hq
  | .ok (.ret u), hq => exact I.after hq
  | .ok .next, hq => exact False.elim hq
  | .ok .brk, hq => exact False.elim hq
  | .ok .cont, hq => exact False.elim hq
end
/-! ### calls -/
def ar (n : Nat) (f : DF) : DF := fun os => if os.length = n ∧ noFrs os = true then f os else .error .stuck
def eCl (n : Nat) (f : DF) (da : DA) : DE := fun en => bd (da en) fun p => match ar n f p.1 with
  | .ok (o, _) => .ok (o, p.2)
  | .error .stuck => .error .stuck
  | .error (.exn c _) => .error (.exn c p.2)
/-- the first argument is a name whose list is lent -/
def eClB (n : Nat) (f : DF) (i : Nat) (da : DA) : DE := fun en => match en[i]? with
  | some .un => .error .stuck
  | none => .error .stuck
  | some _ => bd (da en) fun p => match p.2[i]? with
    | some (.v o) => (match ar n f (o :: p.1) with
      | .ok (r, o' :: _) => .ok (r, p.2.set i (.v o'))
      | .ok (r, []) => .error .stuck
      | .error .stuck => .error .stuck
      | .error (.exn c _) => .error (.exn c (p.2.set i .un)))
    | some (.p o) => (match ar n f (o :: p.1) with
      | .ok (r, o' :: _) => .ok (r, p.2.set i (.p o'))
      | .ok (r, []) => .error .stuck
      | .error .stuck => .error .stuck
      | .error (.exn c _) => .error .stuck)
    | _ => .error .stuck
def tCalD (K : PySem.W.Frag) (W : WX) (n : Nat) (g : DF) (t : TA) : TE := fun σ H Q => t σ H fun vs H1 => spL K n g vs H1 Q (fun c d H' => W c d σ H')
section
variable {X : Cx} {W : WX} {k : Nat} {f : Addr} {fd : FuncData} {ps : List Str} {g : DF} {x : Str} {p pos : Pos} {e : Expr} {es : List Expr} {da : DA} {t : TA}
theorem pe_calD (F : DefOk X.prog X.w X.K X.mg X.base k f fd ps g) (hr : Rm k X.A) (hg : Gl X x) (hm : X.mg x = some (.ref f)) (hk : PySem.W.keepIn X.K (.ref f) = true) (hb : Binds X.K fd ps []) (tk : L2N.Takes X W)
    (ha : PA X (e :: es) t) (hdb : (x == ("__debug__" : Str)) = false := by decide) (he : starEach (e :: es) X.env = (false, eval e X.env) :: starEach es X.env := by rfl) (hpl : (backTo pos (starEach es X.env)).any (·.1) = false := by rfl) :
    PE X (.Call (.Name x p) (e :: es) [] pos) (tCalD X.K W ps.length g t) := by
  refine ⟨fun pins s σ H Q I h => wpAny_Call_Name_kw (ld_glob I hg hm (PySem.W.callWith_K (h₀ := X.base) I.ok.mod.kin hk (thn (ha.run pos pins s σ H _ I h) ?_) he hpl) hdb)⟩
  rintro us s1 ⟨vs, H1, I1, r, q⟩
  refine ⟨I1.kIn, runD F hr tk ?_ I1 r q⟩
  have b := hb s1 us I1.kIn (by rw [List.append_nil, ← r.length]; exact q.1)
  rwa [List.append_nil] at b
theorem liftCl {σ : St} {H : Hp} {Q : VK} {n : Nat} (q : liftE X.K W (eCl n g da) σ H Q) : tCalD X.K W n g (liftA X.K W da) σ H Q := by
  obtain ⟨G, F, τ, en, h, hp⟩ := q
  refine bindA (vs := []) (os := []) h hp fun os e1 hp1 G1 H1 vs s1 h1 => ?_
  have h1 : RX X.K G1 F τ σ H1 e1 vs os := h1
  dsimp only [ar] at hp1
  by_cases hl : os.length = n ∧ noFrs os = true
  · rw [if_pos hl] at hp1
    obtain ⟨F', hFb, h2, back⟩ := h1.enter hl.2
    refine ⟨by rw [h1.vlen, hl.1], G1, F', os, hFb, h2, ?_⟩
    generalize g os = r at hp1 ⊢
    match r, hp1 with
    | .ok (o, os'), hp1 => exact fun G' H' v s x => hp1 G' H' [v] (s1.trans s) ((RX.left (vs := [v]) (os := [o]) rfl (back G' H' (v :: vs) (o :: os') s x))) v rfl
    | .error (.exn c _), hp1 => exact fun G' H' s x => hp1 G' H' (s1.trans s) (back G' H' [] [] s x)
  · rw [if_neg hl] at hp1
    exact hp1.elim
theorem EX_call (F : DefOk X.prog X.w X.K X.mg X.base k f fd ps g) (hr : Rm k X.A) (hg : Gl X x) (hm : X.mg x = some (.ref f)) (hk : PySem.W.keepIn X.K (.ref f) = true) (hb : Binds X.K fd ps []) (tk : L2N.Takes X W)
    (ha : AX X W (e :: es) da) (hdb : (x == ("__debug__" : Str)) = false := by decide) (he : starEach (e :: es) X.env = (false, eval e X.env) :: starEach es X.env := by rfl) (hpl : (backTo pos (starEach es X.env)).any (·.1) = false := by rfl) :
    EX X W (.Call (.Name x p) (e :: es) [] pos) (eCl ps.length g da) :=
  PE.imp (pe_calD F hr hg hm hk hb tk ha hdb he hpl) fun σ H Q q => liftCl q
end
end Lf
end
section
set_option Elab.async false
set_option linter.all false
set_option maxRecDepth 100000
namespace Lf
open PySem PySem.Spec L2
variable [Tabs]
section
variable {K : PySem.W.Frag} {G G' H : Hp} {F : FS} {τ σ : St} {en : En} {vs ws : List V} {os ps : List OT}
theorem RX.slotV {i : Nat} {s : Slot} (h : RX K G F τ σ H en vs os) (hs : en[i]? = some s) (hu : s ≠ .un) : ∃ v, σ[i]? = some (some v) := by
  obtain ⟨M, φ, B, S, E, r, d⟩ := h
  have q := E.2.1 i s hs
  cases s with
  | un => exact absurd rfl hu
  | v o => obtain ⟨x, q, _⟩ := q; exact ⟨x, q⟩
  | p o => obtain ⟨x, q, _⟩ := q; exact ⟨x, q⟩
theorem RX.putBackP {i : Nat} {x : V} {o : OT} (h : RX K G F τ σ H (en.set i (.p .hole)) (x :: vs) (o :: os)) (hi : i < en.length) (hx : σ[i]? = some (some x)) (hτ : τ[i]? = some (some x)) : RX K G F τ σ H (en.set i (.p o)) vs os := by
  obtain ⟨M, φ, B, S, E, r, d⟩ := h
  cases r with
  | cons r1 r2 hd =>
    rename_i A B
    have e0 : ∀ j, j ≠ i → (en.set i (.p .hole))[j]? = (en.set i (.p o))[j]? := fun j hj => by
      rw [List.getElem?_set_ne (Ne.symm hj), List.getElem?_set_ne (Ne.symm hj)]
    refine ⟨M, fun j => if j = i then A else φ j, B, S, ⟨by simpa using E.1, fun j s hs => ?_, fun j hj => ?_, fun j k hjk a ha => ?_⟩, r2, fun j a ha => ?_⟩
    · dsimp only
      by_cases e : j = i
      · subst e
        rw [List.getElem?_set_self hi] at hs
        cases hs
        rw [if_pos rfl]
        exact ⟨x, hx, hτ, r1⟩
      · rw [← e0 j e] at hs
        rw [if_neg e]
        exact E.2.1 j s hs
    · have e : j ≠ i := by simp at hj; omega
      dsimp only
      rw [if_neg e]
      exact E.2.2.1 j (by simpa using hj)
    · dsimp only at ha ⊢
      by_cases e : j = i
      · rw [if_pos e] at ha
        rw [if_neg (fun z => hjk (e.trans z.symm))]
        exact fun hb => d k a (List.mem_append_left _ ha) hb
      · rw [if_neg e] at ha
        by_cases e2 : k = i
        · rw [if_pos e2]
          exact fun hb => d j a (List.mem_append_left _ hb) ha
        · rw [if_neg e2]
          exact E.2.2.2 j k hjk a ha
    · dsimp only
      by_cases e : j = i
      · rw [if_pos e]
        exact fun hb => hd a hb ha
      · rw [if_neg e]
        exact d j a (List.mem_append_right _ ha)
end
section
variable {X : Cx} {W : WX} {k : Nat} {f : Addr} {fd : FuncData} {ps : List Str} {g : DF} {x : Str} {p pos : Pos} {e : Expr} {es : List Expr} {da : DA}
theorem liftClB {i n : Nat} {σ : St} {H : Hp} {Q : VK} (q : liftE X.K W (eClB n g i da) σ H Q) : tCalD X.K W n g (tCons (tVar i) (liftA X.K W da)) σ H Q := by
  obtain ⟨G, F, τ, en, h, hp⟩ := q
  unfold eClB at hp
  split at hp
  · exact hp.elim
  · exact hp.elim
  · rename_i s hu hs
    obtain ⟨v, hv⟩ := h.slotV hs hu
    refine ⟨v, hv, ?_⟩
    refine bindA (vs := []) (os := []) h hp fun os e1 hp1 G1 H1 vs s1 h1 => ?_
    have h1 : RX X.K G1 F τ σ H1 e1 vs os := h1
    dsimp only [ar] at hp1
    split at hp1
    · rename_i o ho
      obtain ⟨y, hy, h2⟩ := h1.take ho
      rw [hv] at hy; cases hy
      by_cases hl : (o :: os).length = n ∧ noFrs (o :: os) = true
      · rw [if_pos hl] at hp1
        obtain ⟨F', hFb, h3, back⟩ := h2.enter hl.2
        refine ⟨by rw [h3.vlen, hl.1], G1, F', o :: os, hFb, h3, ?_⟩
        generalize g (o :: os) = r at hp1 ⊢
        match r, hp1 with
        | .ok (r, o' :: os'), hp1 =>
          intro G' H' u s x
          have b := back G' H' (u :: v :: vs) (r :: o' :: os') s x
          have b2 : RX X.K G' F τ σ H' (e1.set i .un) ([u, v] ++ vs) ([r, o'] ++ os') := b
          have b3 := (RX.left rfl b2).swap
          exact hp1 G' H' [u] (s1.trans s) (b3.putBack (List.getElem?_eq_some_iff.mp ho).1 hv) u rfl
        | .error (.exn c _), hp1 => exact fun G' H' s x => hp1 G' H' (s1.trans s) (back G' H' [] [] s x)
      · rw [if_neg hl] at hp1
        exact hp1.elim
    · rename_i o ho
      obtain ⟨y, hy, hτ, h2⟩ := h1.takeP ho
      rw [hv] at hy; cases hy
      by_cases hl : (o :: os).length = n ∧ noFrs (o :: os) = true
      · rw [if_pos hl] at hp1
        obtain ⟨F', hFb, h3, back⟩ := h2.enter hl.2
        refine ⟨by rw [h3.vlen, hl.1], G1, F', o :: os, hFb, h3, ?_⟩
        generalize g (o :: os) = r at hp1 ⊢
        match r, hp1 with
        | .ok (r, o' :: os'), hp1 =>
          intro G' H' u s x
          have b := back G' H' (u :: v :: vs) (r :: o' :: os') s x
          have b2 : RX X.K G' F τ σ H' (e1.set i (.p .hole)) ([u, v] ++ vs) ([r, o'] ++ os') := b
          have b3 := (RX.left rfl b2).swap
          exact hp1 G' H' [u] (s1.trans s) (b3.putBackP (List.getElem?_eq_some_iff.mp ho).1 hv hτ) u rfl
      · rw [if_neg hl] at hp1
        exact hp1.elim
    · exact hp1.elim
theorem EX_callB {i : Nat} (F : DefOk X.prog X.w X.K X.mg X.base k f fd ps g) (hr : Rm k X.A) (hg : Gl X x) (hm : X.mg x = some (.ref f)) (hk : PySem.W.keepIn X.K (.ref f) = true) (hb : Binds X.K fd ps []) (tk : L2N.Takes X W)
    (h1 : PE X e (tVar i)) (ha : AX X W es da) (hdb : (x == ("__debug__" : Str)) = false := by decide) (he : starEach (e :: es) X.env = (false, eval e X.env) :: starEach es X.env := by rfl) (hpl : (backTo pos (starEach es X.env)).any (·.1) = false := by rfl) :
    EX X W (.Call (.Name x p) (e :: es) [] pos) (eClB ps.length g i da) :=
  PE.imp (pe_calD F hr hg hm hk hb tk (pa_cons h1 ha he) hdb he hpl) fun σ H Q q => liftClB q
end
/-! ### built-ins whose answer is flat -/
def FlatC (K : PySem.W.Frag) (r : List V → Hp → VK → Prop) (f : List PyData → Option PyData) : Prop :=
  ∀ (H : Hp) (vs : List V) (xs : List PyData) (z : PyData) (Q : VK), DqAll K H vs xs → f xs = some z → (∀ v, (∀ G, Dq K G v z) → Q v H) → r vs H Q
def eCb (f : List PyData → Option PyData) (da : DA) : DE := fun en => bd (da en) fun p => match (frzs p.1).bind f with
  | some z => .ok (.d z, p.2)
  | none => .error .stuck
section
variable {X : Cx} {W : WX} {id T : String} {r : List V → Hp → VK → Prop} {f : List PyData → Option PyData} {x : Str} {p pos : Pos} {e : Expr} {es : List Expr} {da : DA}
theorem RX.datas {K : PySem.W.Frag} {G H : Hp} {F : FS} {τ σ : St} {en : En} {vs : List V} {os : List OT} {xs : List PyData} (h : RX K G F τ σ H en vs os) (e : frzs os = some xs) : DqAll K H vs xs := by
  obtain ⟨M, φ, B, S, E, r, d⟩ := h
  exact RepOs.dp S.g os vs _ xs r (fun a ha u hu => S.m _ _ hu) e
theorem liftCb (hf : FlatC X.K r f) {σ : St} {H : Hp} {Q : VK} (q : liftE X.K W (eCb f da) σ H Q) : tCB r (liftA X.K W da) σ H Q := by
  obtain ⟨G, F, τ, en, h, hp⟩ := q
  refine bindA (vs := []) (os := []) h hp fun os e1 hp1 G1 H1 vs s1 h1 => ?_
  have h1 : RX X.K G1 F τ σ H1 e1 vs os := h1
  dsimp only at hp1
  cases ex : (frzs os).bind f with
  | none => rw [ex] at hp1; exact hp1.elim
  | some z =>
    rw [ex] at hp1
    obtain ⟨xs, e1, e2⟩ := Option.bind_eq_some_iff.mp ex
    exact hf H1 vs xs z Q (h1.datas e1) e2 fun v hv => hp1 G1 H1 [v] s1 (h1.nil.withD (hv G1)) v rfl
theorem EX_cb (hc : CallR X (.builtin id) r) (hf : FlatC X.K r f) (hg : Gl X x) (hm : X.mg x = none) (hv : bootBuiltins x = some (.builtin id)) (ha : AX X W (e :: es) da) (hn : x ≠ "__name__" := by decide) (hdb : (x == ("__debug__" : Str)) = false := by decide)
    (he : starEach (e :: es) X.env = (false, eval e X.env) :: starEach es X.env := by rfl) (hpl : (backTo pos (starEach es X.env)).any (·.1) = false := by rfl) : EX X W (.Call (.Name x p) (e :: es) [] pos) (eCb f da) :=
  PE.imp (pe_callB hc hg hm hv ha hn hdb he hpl) fun σ H Q q => liftCb hf q
end
def fMax2 : List PyData → Option PyData
  | [.int i, .int j] => some (.int (if j > i then j else i))
  | _ => none
def fMin2 : List PyData → Option PyData
  | [.int i, .int j] => some (.int (if j < i then j else i))
  | _ => none
/-- a list's ints -/
def ints? : List PyData → Option (List Int)
  | [] => some []
  | .int i :: xs => (ints? xs).map (i :: ·)
  | _ :: _ => none
theorem ints_vs {K : PySem.W.Frag} {H : Hp} : ∀ {xs : List PyData} {ns : List Int} {vs : List V}, ints? xs = some ns → DqAll K H vs xs → vs = ns.map V.int
  | [], ns, vs, e, h => by simp [ints?] at e; subst e; cases h; rfl
  | .int i :: xs, ns, vs, e, h => by
    simp only [ints?, Option.map_eq_some_iff] at e
    obtain ⟨ms, e, rfl⟩ := e
    cases h with
    | cons h1 h2 => cases h1; rw [List.map_cons, ints_vs e h2]
  | .none :: _, _, _, e, _ => by simp [ints?] at e
  | .bool _ :: _, _, _, e, _ => by simp [ints?] at e
  | .str _ :: _, _, _, e, _ => by simp [ints?] at e
  | .list _ :: _, _, _, e, _ => by simp [ints?] at e
  | .tuple _ :: _, _, _, e, _ => by simp [ints?] at e
  | .dict _ :: _, _, _, e, _ => by simp [ints?] at e
def foldMax : List Int → Option Int
  | [] => none
  | i :: r => some (r.foldl max i)
theorem foldMax_spec : ∀ (r : List Int) (i : Int), (r.foldl max i ∈ i :: r) ∧ ∀ y ∈ i :: r, y ≤ r.foldl max i
  | [], i => ⟨by simp, by simp⟩
  | j :: r, i => by
    obtain ⟨h1, h2⟩ := foldMax_spec r (max i j)
    rw [List.foldl_cons]
    refine ⟨?_, fun y hy => ?_⟩
    · rcases List.mem_cons.mp h1 with e | e
      · rw [e]
        by_cases c : i ≤ j
        · rw [Int.max_eq_right c]; simp
        · rw [Int.max_eq_left (by omega)]; simp
      · exact List.mem_cons_of_mem _ (List.mem_cons_of_mem _ e)
    · have hm := h2 (max i j) List.mem_cons_self
      rcases List.mem_cons.mp hy with rfl | hy
      · have := Int.le_max_left y j; omega
      · rcases List.mem_cons.mp hy with rfl | hy
        · have := Int.le_max_right i y; omega
        · exact h2 y (List.mem_cons_of_mem _ hy)
section
variable {K : PySem.W.Frag}
theorem flat_max2 : FlatC K (fun xs H Q => ∃ i j, xs = [.int i, .int j] ∧ Q (.int (if j > i then j else i)) H) fMax2 := by
  intro H vs xs z Q h e q
  unfold fMax2 at e
  split at e
  · cases e
    cases h with | cons h1 h2 => cases h2 with | cons h2 h3 => cases h3; cases h1; cases h2; exact ⟨_, _, rfl, q _ fun _ => .int _⟩
  · cases e
theorem flat_min2 : FlatC K (fun xs H Q => ∃ i j, xs = [.int i, .int j] ∧ Q (.int (if j < i then j else i)) H) fMin2 := by
  intro H vs xs z Q h e q
  unfold fMin2 at e
  split at e
  · cases e
    cases h with | cons h1 h2 => cases h2 with | cons h2 h3 => cases h3; cases h1; cases h2; exact ⟨_, _, rfl, q _ fun _ => .int _⟩
  · cases e
end
/-! ### operators on ints and data -/
def fAdd := fI fun i j => some (.int (i + j))
def fSub := fI fun i j => some (.int (i - j))
def fMul := fI fun i j => if i.natAbs.log2 + j.natAbs.log2 < 1000000 then some (.int (i * j)) else none
def fDiv := fI fun i j => if 0 < j ∧ j.natAbs.log2 < 9000 then some (.int (i / j)) else none
def fMod := fI fun i j => if 0 < j then some (.int (i % j)) else none
def fPow := fI fun i j => if 0 ≤ j ∧ (Builtin.Int.intBits i : Int) * j ≤ 2 ^ 27 then some (.int (i ^ j.toNat)) else none
def fLt := fI fun i j => some (.bool (decide (i < j)))
def fLe := fI fun i j => some (.bool (decide (i ≤ j)))
def fGt := fI fun i j => some (.bool (decide (j < i)))
def fGe := fI fun i j => some (.bool (decide (j ≤ i)))
def fEq (x y : PyData) : Option PyData := if SeqAt.shaped x = true ∧ SeqAt.shaped y = true then some (.bool (PyData.eqv x y)) else none
def fNe (x y : PyData) : Option PyData := if SeqAt.shaped x = true ∧ SeqAt.shaped y = true then some (.bool (!PyData.eqv x y)) else none
theorem op_powW {X : Cx} : OpR X (binaryOp .Pow) (rI (fun i j => 0 ≤ j ∧ (Builtin.Int.intBits i : Int) * j ≤ 2 ^ 27) fun i j => .int (i ^ j.toNat)) := opI fun _ _ _ _ _ _ _ hc q => PyProof.Rows.pow_int hc.1 hc.2 q
section
variable {K : PySem.W.Frag}
theorem flatI {f : Int → Int → V} {g : Int → Int → Option PyData} {C : Int → Int → Prop} (hg : ∀ i j z, g i j = some z → C i j ∧ ∀ G, Dq K G (f i j) z) : Flat2 K (rI C f) (fI g) := by
  intro H x y dx dy z Q hx hy e q
  unfold fI at e
  split at e
  · rename_i i j
    cases hx; cases hy
    obtain ⟨c, k⟩ := hg i j z e
    exact ⟨i, j, rfl, rfl, c, q _ k⟩
  · cases e
theorem flatI0 {f : Int → Int → V} {g : Int → Int → Option PyData} (hg : ∀ i j z, g i j = some z → ∀ G, Dq K G (f i j) z) : Flat2 K (rI0 f) (fI g) := by
  intro H x y dx dy z Q hx hy e q
  unfold fI at e
  split at e
  · rename_i i j
    cases hx; cases hy
    exact ⟨i, j, rfl, rfl, q _ (hg i j z e)⟩
  · cases e
theorem flat_add : Flat2 K (rI0 fun i j => .int (i + j)) fAdd := flatI0 fun i j z e G => by cases e; exact .int _
theorem flat_sub : Flat2 K (rI0 fun i j => .int (i - j)) fSub := flatI0 fun i j z e G => by cases e; exact .int _
theorem flat_mul : Flat2 K (rI L2.CMulW fun i j => .int (i * j)) fMul := flatI fun i j z e => by
  split at e
  · rename_i h; cases e; exact ⟨h, fun G => .int _⟩
  · cases e
theorem flat_div : Flat2 K (rI L2.CDivW fun i j => .int (i / j)) fDiv := flatI fun i j z e => by
  split at e
  · rename_i h; cases e; exact ⟨h, fun G => .int _⟩
  · cases e
theorem flat_mod : Flat2 K (rI (fun _ j => 0 < j) fun i j => .int (i % j)) fMod := flatI fun i j z e => by
  split at e
  · rename_i h; cases e; exact ⟨h, fun G => .int _⟩
  · cases e
theorem flat_pow : Flat2 K (rI (fun i j => 0 ≤ j ∧ (Builtin.Int.intBits i : Int) * j ≤ 2 ^ 27) fun i j => .int (i ^ j.toNat)) fPow := flatI fun i j z e => by
  split at e
  · rename_i h; cases e; exact ⟨h, fun G => .int _⟩
  · cases e
theorem flat_lt : Flat2 K (rI0 fun i j => .bl (decide (i < j))) fLt := flatI0 fun i j z e G => by cases e; exact .bl _
theorem flat_le : Flat2 K (rI0 fun i j => .bl (decide (i ≤ j))) fLe := flatI0 fun i j z e G => by cases e; exact .bl _
theorem flat_gt : Flat2 K (rI0 fun i j => .bl (decide (j < i))) fGt := flatI0 fun i j z e G => by cases e; exact .bl _
theorem flat_ge : Flat2 K (rI0 fun i j => .bl (decide (j ≤ i))) fGe := flatI0 fun i j z e G => by cases e; exact .bl _
theorem flat_eq : Flat2 K (rEqQ K) fEq := by
  intro H x y dx dy z Q hx hy e q
  unfold fEq at e
  split at e
  · rename_i h
    cases e
    exact ⟨dx, dy, ⟨hx, hy⟩, h, q _ fun _ => .bl _⟩
  · cases e
theorem flat_ne : Flat2 K (rNeQ K) fNe := by
  intro H x y dx dy z Q hx hy e q
  unfold fNe at e
  split at e
  · rename_i h
    cases e
    exact ⟨dx, dy, ⟨hx, hy⟩, h, q _ fun _ => .bl _⟩
  · cases e
end
end Lf
end
section
set_option Elab.async false
set_option linter.all false
set_option maxRecDepth 100000
namespace Lf
open PySem PySem.Spec L2
variable [Tabs]
/-! ### zip of lists and tuples, two or three, in any mix -/
def SqB (K : PySem.W.Frag) (b : Bool) (H : Hp) (a : Addr) (xs : List V) : Prop := if b = true then SqT K H a xs else SqL K H a xs
def IsB (b : Bool) (h : Heap) (a : Addr) (items : Array Value) : Prop := if b = true then h.IsTuple a items else h.IsList a items
def ItB (b : Bool) (h : Heap) (it a : Addr) (i : Nat) : Prop := if b = true then h.IsTupleIter it a i else h.IsListIter it a i
def iterO (b : Bool) (a : Addr) : Obj := { cls := .type (if b = true then "tuple_iterator" else "list_iterator"), data := .fields #[.ref a, .int 0 0] }
theorem drawsB {prog : Program} {w : World} {A : Around} (hh : A.handled = none) (b : Bool) (it a : Addr) (hne : a ≠ it) (items : Array Value) :
    Draws prog w A it [it, a] items.size (fun i v => items[i]? = some v) (fun i h => ItB b h it a i ∧ IsB b h a items) := by
  cases b
  · exact Draws.list hh it a hne items
  · exact Draws.tuple hh it a hne items
theorem beginsB (b : Bool) (a : Addr) (items : Array Value) : Begins (.ref a) (iterO b a) (fun h => IsB b h a items) := by
  cases b
  · exact begins_list a items
  · exact begins_tuple a items
theorem itB_begun {b : Bool} {h : Heap} {it a : Addr} (e : h.get? it = some (iterO b a)) : ItB b h it a 0 := by
  cases b
  · exact ⟨_, e, rfl, rfl⟩
  · exact ⟨_, e, rfl, rfl⟩
theorem itB_at {b : Bool} {h h' : Heap} {it a : Addr} {i : Nat} (x : ItB b h it a i) (k : ∀ o, h.get? it = some o → h'.get? it = some o) : ItB b h' it a i := by
  cases b
  · exact Heap.IsListIter.at x k
  · exact Heap.IsTupleIter.at x k
theorem itB_obj {b : Bool} {h : Heap} {it a : Addr} {i : Nat} (x : ItB b h it a i) : ∃ o, h.get? it = some o ∧ ∀ v, o.data ≠ .cell v := by
  cases b
  · obtain ⟨o, e, _, d⟩ := x; exact ⟨o, e, fun v q => by rw [d] at q; cases q⟩
  · obtain ⟨o, e, _, d⟩ := x; exact ⟨o, e, fun v q => by rw [d] at q; cases q⟩
section
variable {X : Cx} {pins : List (Addr × Obj)} {σ : St} {H : Hp} {s : Shared}
theorem srcB (I : Inv X pins σ H s) {b : Bool} {a : Addr} {xs : List V} (h : SqB X.K b H a xs) : ∃ its : List Value, Vals xs its ∧ IsB b s.heap a its.toArray ∧ a < s.heap.objs.size := by
  cases b
  · obtain ⟨its, rv, p, _⟩ := I.list h
    exact ⟨its, rv, p.isList, p.lt⟩
  · obtain ⟨its, rv, p, _⟩ := I.tuple h
    exact ⟨its, rv, p, by obtain ⟨o, ho, _⟩ := id p; exact Heap.lt_size ho⟩
theorem srcB_inj (I : Inv X pins σ H s) {b : Bool} {a : Addr} {xs ys : List V} (h : SqB X.K b H a xs) (h' : SqB X.K b H a ys) : xs = ys := by
  cases b
  · exact I.list_inj h h'
  · exact I.tuple_inj h h'
end
def Zt2 (K : PySem.W.Frag) (b1 b2 : Bool) (a1 a2 : Addr) : It :=
  ⟨fun i H => ∃ (xs1 xs2 : List V), SqB K b1 H a1 xs1 ∧ SqB K b2 H a2 xs2 ∧ i < min xs1.length xs2.length,
    fun i H v H' => ∃ T x1 x2, v = .ref T ∧ H T = none ∧ H' = upd H T (.tup [x1, x2]) ∧ (∀ xs, SqB K b1 H a1 xs → xs[i]? = some x1) ∧ (∀ xs, SqB K b2 H a2 xs → xs[i]? = some x2),
    fun i H => ∃ (xs1 xs2 : List V), SqB K b1 H a1 xs1 ∧ SqB K b2 H a2 xs2 ∧ i = min xs1.length xs2.length⟩
theorem turn_z2 {P : Program} {w : World} {K : PySem.W.Frag} {elts : List Expr} {kk : Nat} {tpos : Pos} {b1 b2 : Bool} {a1 a2 z TI TO i1 i2 : Addr} (D : ZipSep2 z TI TO i1 i2 [i1, a1] [i2, a2]) (n1 : a1 ≠ i1) (n2 : a2 ≠ i2) :
    Turn P w K (.Tuple elts kk tpos) (Zt2 K b1 b2 a1 a2) [z, TI, TO, i1, i2] z (fun i h => IsZip h z TI TO .none ∧ IsTupOf2 h TI (.ref i1) (.ref i2) ∧ (∃ x1 x2, IsTupOf2 h TO x1 x2) ∧ ItB b1 h i1 a1 i ∧ ItB b2 h i2 a2 i) where
  mem := by simp
  obj := fun i h st d hd => by
    obtain ⟨hz, hTI, ⟨x1, x2, hTO⟩, h1, h2⟩ := st
    have e' : d = z ∨ d = TI ∨ d = TO ∨ d = i1 ∨ d = i2 := by simpa using hd
    rcases e' with q | q | q | q | q
    · rw [q]; exact ⟨_, hz, fun v q => nomatch q⟩
    · rw [q]; exact ⟨_, hTI, fun v q => nomatch q⟩
    · rw [q]; exact ⟨_, hTO, fun v q => nomatch q⟩
    · rw [q]; exact itB_obj h1
    · rw [q]; exact itB_obj h2
  keep := fun i h h' st k => by
    obtain ⟨hz, hTI, ⟨x1, x2, hTO⟩, h1, h2⟩ := st
    exact ⟨k z (by simp) _ hz, k TI (by simp) _ hTI, ⟨x1, x2, k TO (by simp) _ hTO⟩, itB_at h1 fun o q => k i1 (by simp) o q, itB_at h2 fun o q => k i2 (by simp) o q⟩
  item := by
    intro X hP hw hK hc i pins s σ H E I hf st hg
    subst hP hw hK
    obtain ⟨hz, hTI, hTO, h1, h2⟩ := st
    obtain ⟨xs1, xs2, hq1, hq2, hlt⟩ := hg
    obtain ⟨its1, rv1, p1, l1⟩ := srcB I hq1
    have e1 := rv1.length
    obtain ⟨u1, hu1, ru1⟩ := rv1.get (List.getElem?_eq_getElem (show i < xs1.length by omega))
    obtain ⟨its2, rv2, p2, l2⟩ := srcB I hq2
    have e2 := rv2.length
    obtain ⟨u2, hu2, ru2⟩ := rv2.get (List.getElem?_eq_getElem (show i < xs2.length by omega))
    have W := WalksT.zipD2 (prog := X.prog) (w := X.w) (A := X.A) D (drawsB (A := X.A.in1) (I.ok.hd hc) b1 i1 a1 n1 its1.toArray) (drawsB (A := X.A.in1) (I.ok.hd hc) b2 i2 a2 n2 its2.toArray)
    refine W.item i s _ _ (by simp only [List.size_toArray]; omega) ⟨hz, hTI, hTO, ⟨h1, p1⟩, ⟨h2, p2⟩⟩ fun T vals h' tk pt hT hIsT mid hk => ?_
    refine ⟨_, rfl, W.go elts kk tpos i T _ _ _ mid fun h'' st'' hk2 => ?_⟩
    obtain ⟨y1, y2, hy1, hy2, rfl⟩ := pt
    have ey1 : y1 = u1 := by
      have q : its1[i]? = some y1 := by simpa using hy1
      exact Option.some.inj (q.symm.trans hu1)
    subst ey1
    have ey2 : y2 = u2 := by
      have q : its2[i]? = some y2 := by simpa using hy2
      exact Option.some.inj (q.symm.trans hu2)
    subst ey2
    have kept : ∀ b o, b ∉ ([z, TO, i1, i2] : List Addr) → s.heap.get? b = some o → h''.get? b = some o := fun b o hb q => hk2 b o hb (hk b o hb q)
    have hT2 : h''.IsTuple T #[y1, y2] := hIsT.at fun o q => hk2 T o (W.apart i T h' mid) q
    have hsub : ∀ b ∈ ([z, TO, i1, i2] : List Addr), b ∈ ([z, TI, TO, i1, i2] : List Addr) := by
      intro b hb
      simp only [List.mem_cons, List.not_mem_nil, or_false] at hb ⊢
      rcases hb with q | q | q | q
      · exact .inl q
      · exact .inr (.inr (.inl q))
      · exact .inr (.inr (.inr (.inl q)))
      · exact .inr (.inr (.inr (.inr (q))))
    have new : ObjOk X.prog X.w (upd H T (.tup [xs1[i], xs2[i]])) h'' T (.tup [xs1[i], xs2[i]]) :=
      ⟨by show 2 ≤ sizeLine; decide, [y1, y2], .cons ru1 (.cons ru2 (.nil)), hT2⟩
    have I1 : Inv X pins σ (upd H T (.tup [xs1[i], xs2[i]])) { s with heap := h'', toks := tk } :=
      I.turnedNew (t' := tk) (ch := [z, TO, i1, i2]) kept (fun b hb => hf b (hsub b hb)) hT new
    obtain ⟨c1, c2, c3, ⟨d1, _⟩, ⟨d2, _⟩⟩ := st''
    refine ⟨.ref T, _, I1, rfl, ⟨T, _, _, rfl, I.hok.fresh hT, rfl, fun l hl => by rw [srcB_inj I hl hq1]; exact List.getElem?_eq_getElem _, fun l hl => by rw [srcB_inj I hl hq2]; exact List.getElem?_eq_getElem _⟩, ⟨c1, c2, c3, d1, d2⟩, fun b hb => ?_⟩
    have hlt : b < s.heap.objs.size := by
      have e' : b = z ∨ b = TI ∨ b = TO ∨ b = i1 ∨ b = i2 := by simpa using hb
      rcases e' with q | q | q | q | q
      · rw [q]; exact Heap.lt_size hz
      · rw [q]; exact Heap.lt_size hTI
      · rw [q]; obtain ⟨_, _, q2⟩ := hTO; exact Heap.lt_size q2
      · rw [q]; obtain ⟨o, q2, _⟩ := itB_obj h1; exact Heap.lt_size q2
      · rw [q]; obtain ⟨o, q2, _⟩ := itB_obj h2; exact Heap.lt_size q2
    rw [upd_ne (Nat.ne_of_lt (Nat.lt_of_lt_of_le hlt hT))]
    exact (hf b hb).1
  done := by
    intro X hP hw hK hc i pins s σ H E I hf st hg
    subst hP hw hK
    obtain ⟨hz, hTI, hTO, h1, h2⟩ := st
    obtain ⟨xs1, xs2, hq1, hq2, hend⟩ := hg
    obtain ⟨its1, rv1, p1, l1⟩ := srcB I hq1
    have e1 := rv1.length
    obtain ⟨its2, rv2, p2, l2⟩ := srcB I hq2
    have e2 := rv2.length
    have W := WalksT.zipD2 (prog := X.prog) (w := X.w) (A := X.A) D (drawsB (A := X.A.in1) (I.ok.hd hc) b1 i1 a1 n1 its1.toArray) (drawsB (A := X.A.in1) (I.ok.hd hc) b2 i2 a2 n2 its2.toArray)
    have ei : i = min its1.toArray.size its2.toArray.size := by simp only [List.size_toArray]; omega
    refine W.done s _ _ (by rw [← ei]; exact ⟨hz, hTI, hTO, ⟨h1, p1⟩, ⟨h2, p2⟩⟩) fun h' tk hk => ⟨rfl, ?_⟩
    refine I.turnedL (t' := tk) (ch := [z, TI, TO, i1, i2]) (fun b o hb q => hk b o (fun hm => hb ?_) q) hf
    simp only [List.mem_cons, List.not_mem_nil, or_false] at hm ⊢
    rcases hm with q | q | q | q
    · exact .inl q
    · exact .inr (.inr (.inl q))
    · exact .inr (.inr (.inr (.inl q)))
    · exact .inr (.inr (.inr (.inr (q))))
  self := fun A i s Q E st h => wpAny_pyIter_zip st.1 h
/-- zip of any 2 -/
def iZp2 (K : PySem.W.Frag) (ta : TA) : TI := fun σ H R => ta σ H fun vs H1 => ∃ b1 b2 a1 a2 xs1 xs2, vs = [.ref a1, .ref a2] ∧ SqB K b1 H1 a1 xs1 ∧ SqB K b2 H1 a2 xs2 ∧ R (Zt2 K b1 b2 a1 a2) H1
theorem pi_zp2 {X : Cx} {e1 e2 : Expr} {ta : TA} {p pos tpos : Pos} {elts : List Expr} {kk : Nat} (hg : Gl X "zip") (hm : X.mg "zip" = none) (ha : PA X [e1, e2] ta)
    (hs : starEach [e1, e2] X.env = (false, eval e1 X.env) :: starEach [e2] X.env := by rfl) (hpl : (backTo pos (starEach [e2] X.env)).any (·.1) = false := by rfl) :
    PI X (.Tuple elts kk tpos) (.Call (.Name "zip" p) [e1, e2] [] pos) (iZp2 X.K ta) := by
  refine ⟨fun pins s σ H R I h => ?_⟩
  refine PyProof.Rows.Call_ (ld_blt I hg hm PyProof.Rows.boot_zip (PyProof.Rows.callWith_type1 (thn (ha.run pos pins s σ H _ I h) fun us s1 ⟨vs, H1, I1, r1, q1⟩ => ?_) hs hpl))
  obtain ⟨b1, b2, a1, a2, xs1, xs2, ex, hq1, hq2, q⟩ := q1
  subst ex
  obtain ⟨w1, w2, rfl, r1, r2⟩ := r1.two
  cases r1; cases r2
  have fresh5 : ∀ c, c ∈ [s1.heap.objs.size + 4, s1.heap.objs.size + 2, s1.heap.objs.size + 3, s1.heap.objs.size, s1.heap.objs.size + 1] → FpOk X pins H1 c := fun c hcm => by
    have hle : s1.heap.objs.size ≤ c := by
      simp only [List.mem_cons, List.not_mem_nil, or_false] at hcm
      rcases hcm with z | z | z | z | z <;> (rw [z]; first | exact Nat.le_refl _ | exact Nat.le_add_right _ _)
    exact I1.fpOk hle (I1.hok.fresh hle)
  obtain ⟨its1, rv1, p1, l1⟩ := srcB I1 hq1
  obtain ⟨its2, rv2, p2, l2⟩ := srcB I1 hq2
  refine zip_begins2 (beginsB b1 a1 its1.toArray) (beginsB b2 a2 its2.toArray) p1 p2 fun h' hz hTI hTO h1 h2 hsz hk => wpAny_pyIter_zip hz ?_
  have I2 : Inv X pins σ H1 { s1 with heap := h' } := I1.kept (t' := s1.toks) hk
  exact ⟨s1.heap.objs.size + 4, [s1.heap.objs.size + 4, s1.heap.objs.size + 2, s1.heap.objs.size + 3, s1.heap.objs.size, s1.heap.objs.size + 1], _, _, H1, rfl, I2, turn_z2 (zip_sep2 (N := s1.heap.objs.size) (fp1 := [a1])  (fp2 := [a2]) (fun b hb => by simp at hb; rw [hb]; exact l1) (fun b hb => by simp at hb; rw [hb]; exact l2)) (Nat.ne_of_lt l1) (Nat.ne_of_lt (Nat.lt_add_right _ l2)), ⟨hz, hTI, ⟨_, _, hTO⟩, itB_begun h1, itB_begun h2⟩, fresh5, q⟩
/-! ### .. of data -/
def zip2 (xs ys : List PyData) : List PyData := List.zipWith (fun x y => .tuple [x, y]) xs ys
theorem sqB_same {K : PySem.W.Frag} {H H' : Hp} {b : Bool} {a : Addr} {xs : List V} (e : Same H H') (h : SqB K b H a xs) : SqB K b H' a xs := by
  cases b
  · exact Same.seq e h
  · exact sqT_same e h
/-- data that is walked: where it lies -/
theorem dp_items {K : PySem.W.Frag} {G : Hp} {v : V} {x : PyData} {xs : List PyData} (h : Dq K G v x) (e : dItems x = some xs) : ∃ b a vs, v = .ref a ∧ SqB K b G a vs ∧ DqAll K G vs xs := by
  cases x with
  | list ys =>
    cases e
    cases h with | lst hs ha => exact ⟨false, _, _, rfl, hs, ha⟩
  | tuple ys =>
    cases e
    cases h with | tup hs ha => exact ⟨true, _, _, rfl, hs, ha⟩
  | _ => cases e
theorem its_z2 {K : PySem.W.Frag} {G : Hp} {b c : Bool} {a1 a2 : Addr} {vs ws : List V} {xs ys : List PyData} (h1 : SqB K b G a1 vs) (h2 : SqB K c G a2 ws) (d1 : DqAll K G vs xs) (d2 : DqAll K G ws ys) : ItS K G (Zt2 K b c a1 a2) (zip2 xs ys) where
  go := fun i H s hi => ⟨vs, ws, sqB_same s h1, sqB_same s h2, by rw [DqAll.length d1, DqAll.length d2]; simpa [zip2] using hi⟩
  stop := fun H s => ⟨vs, ws, sqB_same s h1, sqB_same s h2, by rw [DqAll.length d1, DqAll.length d2]; simp [zip2]⟩
  yld := fun i H x H' G1 F τ σ en us os hi s h y => by
    obtain ⟨T, x1, x2, rfl, hT, rfl, f1, f2⟩ := y
    obtain ⟨y1, g1, k1⟩ := DqAll.get' d1 (f1 vs (sqB_same (s.trans h.same) h1))
    obtain ⟨y2, g2, k2⟩ := DqAll.get' d2 (f2 ws (sqB_same (s.trans h.same) h2))
    obtain ⟨s3, h3⟩ := h.newG (u := .tup [x1, x2]) hT
    exact ⟨.tuple [y1, y2], _, by unfold zip2; rw [List.getElem?_zipWith, g1, g2], s3, h3.withD (.tup (SqT.of upd_same) (.cons (dp_same (s.trans s3) _ _ k1) (.cons (dp_same (s.trans s3) _ _ k2) .nil)))⟩
def iZ2 (da : DA) : DI := fun en => bd (da en) fun p => match frzs p.1 with
  | some [x, y] => (match dItems x, dItems y with
    | some xs, some ys => .ok (zip2 xs ys, p.2)
    | _, _ => .error .stuck)
  | _ => .error .stuck
section
variable {X : Cx} {W : WX} {e1 e2 e3 : Expr} {elts : List Expr} {kk : Nat} {tpos p pos : Pos} {da : DA}
theorem IX_z2 (hg : Gl X "zip") (hm : X.mg "zip" = none) (ha : AX X W [e1, e2] da) (hs : starEach [e1, e2] X.env = (false, eval e1 X.env) :: starEach [e2] X.env := by rfl) (hpl : (backTo pos (starEach [e2] X.env)).any (·.1) = false := by rfl) :
    IX X W (.Tuple elts kk tpos) (.Call (.Name "zip" p) [e1, e2] [] pos) (iZ2 da) := PI.imp (pi_zp2 hg hm ha hs hpl) fun σ H Rr q => by
  obtain ⟨G, F, τ, en, h, hp⟩ := q
  refine bindAI (X := X) h hp fun o e1 hp1 G1 H1 v s1 h1 => ?_
  dsimp only at hp1
  split at hp1
  · rename_i xs e2 hx
    split at hx
    · rename_i x y ex
      split at hx
      · rename_i ys zs ey ez
        cases hx
        obtain ⟨G2, s2, dv, h2⟩ := h1.freezeA ex
        cases dv with
        | cons d1 d2 =>
          cases d2 with
          | cons d2 d3 =>
            cases d3
            obtain ⟨b, a1, vs1, rfl, k1, l1⟩ := dp_items d1 ey
            obtain ⟨c, a2, vs2, rfl, k2, l2⟩ := dp_items d2 ez
            exact ⟨b, c, a1, a2, vs1, vs2, rfl, sqB_same h2.same k1, sqB_same h2.same k2, hp1 G2 H1 _ (s1.trans s2) h2 (its_z2 k1 k2 l1 l2)⟩
      · cases hx
    · cases hx
  · exact hp1.elim
  · rename_i c e2 hx
    split at hx
    · split at hx <;> cases hx
    · cases hx
end
end Lf
end
section
set_option Elab.async false
set_option linter.all false
set_option maxRecDepth 100000
namespace Lf
open PySem PySem.Spec L2
variable [Tabs]
/-! ### list comprehensions -/
def wipeE : List Nat → En → Option En
  | [], en => some en
  | v :: vs, en => (wipeE vs en).bind fun e1 => match e1[v]? with
    | some (.p _) => none
    | some _ => some (e1.set v .un)
    | none => none
def nx {α : Type} (r : R α) : R α := match r with
  | .ok a => .ok a
  | .error _ => .error .stuck
def lcD (vs : List Nat) (g : DG) (tt : DT) (te : DE) : List PyData → En → List OT → R (OT × En)
  | [], en, os => .ok (.own os, en)
  | x :: xs, en, os => match g x en with
    | none => .error .stuck
    | some e2 => bd (nx (tt e2)) fun p => if p.1 = true then bd (nx (te p.2)) fun q => match wipeE vs q.2 with
        | some e5 => if few os.length then lcD vs g tt te xs e5 (os ++ [q.1]) else .error .stuck
        | none => .error .stuck
      else match wipeE vs p.2 with
        | some e5 => lcD vs g tt te xs e5 os
        | none => .error .stuck
def eLc (vs : List Nat) (di : DI) (g : DG) (tt : DT) (te : DE) : DE := fun en => bd (di en) fun p => match wipeE vs p.2 with
  | some e2 => lcD vs g tt te p.1 e2 []
  | none => .error .stuck
def tYs : DT := fun en => .ok (true, en)
abbrev W0 : WX := fun _ _ _ _ => False
section
variable {K : PySem.W.Frag} {G H : Hp} {F : FS} {τ σ σ' : St} {en e1 : En} {vs : List V} {os : List OT}
theorem wipe_get : ∀ {ns : List Nat} {σ : St} {j : Nat}, j ∉ ns → (wipe σ ns)[j]? = σ[j]?
  | [], _, _, _ => rfl
  | n :: ns, σ, j, h => by
    show ((wipe σ ns).set n none)[j]? = _
    rw [List.getElem?_set_ne (fun e => h (by rw [e]; exact List.mem_cons_self)), wipe_get fun hm => h (List.mem_cons_of_mem _ hm)]
theorem wipe_in : ∀ {ns : List Nat} {σ : St} {j : Nat}, j ∈ ns → j < σ.length → (wipe σ ns)[j]? = some none
  | n :: ns, σ, j, h, hl => by
    show ((wipe σ ns).set n none)[j]? = _
    by_cases e : j = n
    · subst e; rw [List.getElem?_set_self (by rw [wipe_length]; exact hl)]
    · rw [List.getElem?_set_ne (Ne.symm e)]
      rcases List.mem_cons.mp h with q | q
      · exact absurd q e
      · exact wipe_in q hl
theorem wipe_off {ns is : List Nat} (h : Off is σ σ') (hs : ∀ i ∈ is, i ∈ ns) : wipe σ' ns = wipe σ ns := by
  apply List.ext_getElem?
  intro j
  by_cases hj : j ∈ ns
  · by_cases hl : j < σ.length
    · rw [wipe_in hj hl, wipe_in hj (by rw [h.1]; exact hl)]
    · rw [List.getElem?_eq_none (by rw [wipe_length, h.1]; omega), List.getElem?_eq_none (by rw [wipe_length]; omega)]
  · rw [wipe_get hj, wipe_get hj, h.2 j fun hm => hj (hs j hm)]
theorem wipe_wipe {ns : List Nat} : wipe (wipe σ ns) ns = wipe σ ns := by
  apply List.ext_getElem?
  intro j
  by_cases hj : j ∈ ns
  · by_cases hl : j < σ.length
    · rw [wipe_in hj (by rw [wipe_length]; exact hl), wipe_in hj hl]
    · rw [List.getElem?_eq_none (by rw [wipe_length, wipe_length]; omega), List.getElem?_eq_none (by rw [wipe_length]; omega)]
  · rw [wipe_get hj]
/-- slots of which nothing is known may hold anything -/
theorem RX.weakS (h : RX K G F τ σ H en vs os) (hl : σ'.length = σ.length) (hk : ∀ (i : Nat) (s : Slot), en[i]? = some s → s ≠ Slot.un → σ'[i]? = σ[i]?) : RX K G F τ σ' H en vs os := by
  obtain ⟨M, φ, B, S, E, r, d⟩ := h
  refine ⟨M, φ, B, S, ⟨hl.trans E.1, fun i s hs => ?_, E.2.2⟩, r, d⟩
  have q := E.2.1 i s hs
  cases s with
  | un => exact q
  | v o => obtain ⟨x, q1, q2⟩ := q; exact ⟨x, by rw [hk i _ hs (by intro z; cases z)]; exact q1, q2⟩
  | p o => obtain ⟨x, q1, q0, q2⟩ := q; exact ⟨x, by rw [hk i _ hs (by intro z; cases z)]; exact q1, q0, q2⟩
theorem RX.drop {i : Nat} {s : Slot} (h : RX K G F τ σ H en vs os) (hs : en[i]? = some s) (hp : ∀ o, s ≠ .p o) : RX K G F τ σ H (en.set i .un) vs os := by
  cases s with
  | un =>
    have : en.set i .un = en := by
      apply List.ext_getElem?
      intro j
      by_cases e : j = i
      · subst e; rw [List.getElem?_set_self (List.getElem?_eq_some_iff.mp hs).1, hs]
      · rw [List.getElem?_set_ne (Ne.symm e)]
    rw [this]; exact h
  | v o =>
    obtain ⟨x, _, q⟩ := h.take hs
    exact RX.right (vs := [x]) (os := [o]) rfl q
  | p o => exact absurd rfl (hp o)
theorem RX.wiped : ∀ {ns : List Nat} {e1 : En}, RX K G F τ σ H en vs os → wipeE ns en = some e1 → RX K G F τ σ H e1 vs os ∧ e1.length = en.length ∧ ∀ j ∈ ns, e1[j]? = some .un
  | [], e1, h, e => by cases e; exact ⟨h, rfl, fun _ z => nomatch z⟩
  | n :: ns, e1, h, e => by
    simp only [wipeE, Option.bind_eq_some_iff] at e
    obtain ⟨e2, e, q⟩ := e
    obtain ⟨h2, l2, u2⟩ := RX.wiped h e
    split at q
    · cases q
    · rename_i s hp hs
      cases q
      have hlt := (List.getElem?_eq_some_iff.mp hs).1
      refine ⟨h2.drop hs hp, by simpa using l2, fun j hj => ?_⟩
      by_cases ej : j = n
      · subst ej; rw [List.getElem?_set_self hlt]
      · rw [List.getElem?_set_ne (Ne.symm ej)]
        rcases List.mem_cons.mp hj with z | z
        · exact absurd z ej
        · exact u2 j z
    · cases q
/-- between a block's slots and the def's -/
theorem RX.acrossW {ns : List Nat} (h : RX K G F τ σ H en vs os) (hu : ∀ j ∈ ns, en[j]? = some .un) (hw : wipe σ' ns = wipe σ ns) : RX K G F τ σ' H en vs os := by
  have hl : σ'.length = σ.length := by rw [← wipe_length σ' ns, hw, wipe_length]
  refine h.weakS hl fun i s hs hn => ?_
  have : i ∉ ns := fun hm => by rw [hu i hm] at hs; cases hs; exact hn rfl
  rw [← wipe_get (σ := σ') this, hw, wipe_get this]
end
section
variable {X : Cx} {W : WX} {elt tg iter : Expr} {ifs : List Expr} {scope : Scope} {own : List (Str × Nat)} {pos : Pos} {di : DI} {g : DG} {is : List Nat} {tt : DT} {te : DE}
theorem lc_lift {σ : St} {H : Hp} {Q : VK} (hs : ∀ i ∈ is, i ∈ own.map (·.2)) (q : liftE X.K W (eLc (own.map (·.2)) di g tt te) σ H Q) :
    tLc (liftI X.K W di) (liftG X.K is g) (liftT X.K W0 tt) (liftE X.K W0 te) (own.map (·.2)) σ H Q := by
  obtain ⟨G, F, τ, en, h, hp⟩ := q
  refine ⟨G, F, τ, en, h, ?_⟩
  unfold eLc at hp
  revert hp
  match di en with
  | .error .stuck => exact fun hp => hp
  | .error (.exn c e1) => exact fun hp => hp
  | .ok (xs, e1) =>
    intro hp G1 H1 J s1 h1 hJ D nD
    simp only [bd] at hp
    cases ew : wipeE (own.map (·.2)) e1 with
    | none => rw [ew] at hp; exact hp.elim
    | some e2 =>
      rw [ew] at hp
      dsimp only at hp
      obtain ⟨h2, _, u2⟩ := h1.wiped ew
      generalize own.map (·.2) = ns at *
      have h3 : RX X.K G1 F τ σ (upd H1 D (.lst [])) e2 [.ref D] [.own []] := RX.newL0 (vs := []) (os := []) h2 nD
      refine ⟨fun i m H' => ∃ G2 e3 os, Same G1 G2 ∧ RX X.K G2 F τ σ H' e3 [.ref D] [.own os] ∧ (∀ j ∈ ns, e3[j]? = some .un) ∧ i ≤ xs.length ∧ m = xs.length - i ∧ Post X.K G2 F τ σ W ob1 (q1 Q) (lcD ns g tt te (xs.drop i) e3 os),
        ⟨_, G1, e2, [], Same.refl _, h3, u2, Nat.zero_le _, rfl, by rw [List.drop_zero]; exact hp.mono s1⟩, ?_⟩
      rintro i m H2 ⟨G2, e3, os, s2, h4, u3, hi, rfl, hp2⟩
      by_cases hlt : i < xs.length
      · refine .inr ⟨hJ.go i H2 (s2.trans h4.same) hlt, _, fun H' z => ⟨xs.length - (i + 1), by omega, z⟩, fun x H' y => ?_⟩
        obtain ⟨F', h5, back⟩ := h4.hold
        obtain ⟨dd, G3, hd, s3, h6⟩ := hJ.yld i H2 x H' G2 F' τ σ e3 [] [] hlt s2 h5 y
        have hdrop : xs.drop i = dd :: xs.drop (i + 1) := by
          obtain ⟨_, e⟩ := List.getElem?_eq_some_iff.mp hd
          rw [← e, List.drop_eq_getElem_cons hlt]
        rw [hdrop] at hp2
        simp only [lcD] at hp2
        have h7 : RX X.K G3 F' τ (wipe σ ns) H' e3 [x] [.d dd] := h6.acrossW u3 wipe_wipe
        refine ⟨G3, F', τ, e3, dd, h7, ?_⟩
        cases eg : g dd e3 with
        | none => rw [eg] at hp2; exact hp2.elim
        | some e4 =>
          rw [eg] at hp2
          dsimp only at hp2 ⊢
          intro σ2 off h8
          have w2 : wipe σ2 ns = wipe σ ns := by rw [wipe_off off hs, wipe_wipe]
          refine ⟨w2, G3, F', τ, e4, h8, ?_⟩
          revert hp2
          match tt e4 with
          | .error _ => exact fun hp2 => hp2.elim
          | .ok (b, e5) =>
            intro hp2 G4 H4 _ s4 h9
            simp only [nx, bd] at hp2
            cases b with
            | false =>
              rw [if_neg Bool.false_ne_true] at hp2 ⊢
              cases ew2 : wipeE ns e5 with
              | none => rw [ew2] at hp2; exact hp2.elim
              | some e6 =>
                rw [ew2] at hp2
                obtain ⟨h10, _, u6⟩ := h9.nil.wiped ew2
                have h11 := back G4 H4 σ2 e6 [] [] (s3.trans s4) h10
                exact ⟨G4, e6, os, s2.trans (s3.trans s4), (RX.acrossW (vs := [.ref D]) (os := [OT.own os]) h11 u6 w2.symm), u6, by omega, rfl, hp2.mono (s3.trans s4)⟩
            | true =>
              rw [if_pos rfl] at hp2 ⊢
              refine ⟨G4, F', τ, e5, h9.nil, ?_⟩
              revert hp2
              match te e5 with
              | .error _ => exact fun hp2 => hp2.elim
              | .ok (o, e6) =>
                intro hp2 G5 H5 vs5 s5 h10 v ev
                subst ev
                dsimp only at hp2
                cases ew2 : wipeE ns e6 with
                | none => rw [ew2] at hp2; exact hp2.elim
                | some e7 =>
                  rw [ew2] at hp2
                  dsimp only at hp2
                  split at hp2
                  · rename_i hf
                    obtain ⟨h11, _, u7⟩ := RX.wiped (vs := [v]) (os := [o]) h10 ew2
                    have h12 := back G5 H5 σ2 e7 [v] [o] (s3.trans (s4.trans s5)) h11
                    have h13 : RX X.K G5 F τ σ H5 e7 [.ref D, v] [.own os, o] := RX.acrossW (vs := [.ref D, v]) (os := [OT.own os, o]) h12 u7 w2.symm
                    obtain ⟨a, acc, ea, hD, hl, h14⟩ := h13.openL
                    cases ea
                    refine ⟨acc, hD, by rw [hl]; exact few_lt hf, G5, e7, os ++ [o], s2.trans (s3.trans (s4.trans s5)), ?_, u7, by omega, rfl, hp2.mono (s3.trans (s4.trans s5))⟩
                    have h15 := h14.newL0 er_same
                    rw [upd_er] at h15
                    exact h15
                  · exact hp2.elim
      · have e : i = xs.length := by omega
        subst e
        refine .inl ⟨hJ.stop H2 (s2.trans h4.same), ?_⟩
        rw [List.drop_length] at hp2
        exact hp2 G2 H2 [.ref D] (Same.refl _) h4 (.ref D) rfl
theorem EX_lc (hc : X.calm = true) (hN : X.N.Nodup) (hi : IX X W tg iter di) (ok : BlkOk X.N X.env.scope scope own) (hs : ∀ i ∈ is, i ∈ own.map (·.2))
    (hg : ∀ (s : Shared) (H : Hp) (C : Addr) (cl : List (Str × Addr)) (fp : List Addr), GX (X.blk s H scope (PySem.compEnvC scope cl C X.env) fp) tg is g) (ht : ∀ (s : Shared) (H : Hp) (C : Addr) (cl : List (Str × Addr)) (fp : List Addr), PTs (X.blk s H scope (PySem.compEnvC scope cl C X.env) fp) ifs (liftT X.K W0 tt))
    (he : ∀ (s : Shared) (H : Hp) (C : Addr) (cl : List (Str × Addr)) (fp : List Addr), EX (X.blk s H scope (PySem.compEnvC scope cl C X.env) fp) W0 elt te) (hz : ∀ x, foldedSetIterable iter X.env x = pure x := by intro _; rfl) :
    EX X W (.ListComp elt [⟨tg, iter, ifs, 0⟩] scope pos) (eLc (own.map (·.2)) di g tt te) :=
  PE.imp (pe_lc hc hN hi ok hg ht he hz) fun σ H Q q => lc_lift hs q
theorem SX_setLc {i : Nat} {y : Str} {py spos : Pos} (hc : X.calm = true) (hN : X.N.Nodup) (hy : X.N[i]? = some y) (hyl : X.env.scope.names.lookup y = some .local)
    (hsw : swapsWith (.ListComp elt [⟨tg, iter, ifs, 0⟩] scope pos) (some (.Name y py)) spos.line X.env = pure true) (hi : IX X W tg iter di) (ok : BlkOk X.N X.env.scope scope own) (hs : ∀ i ∈ is, i ∈ own.map (·.2))
    (hg : ∀ (s : Shared) (H : Hp) (C : Addr) (cl : List (Str × Addr)) (fp : List Addr), GX (X.blk s H scope (PySem.compEnvC scope cl C X.env) fp) tg is g) (ht : ∀ (s : Shared) (H : Hp) (C : Addr) (cl : List (Str × Addr)) (fp : List Addr), PTs (X.blk s H scope (PySem.compEnvC scope cl C X.env) fp) ifs (liftT X.K W0 tt))
    (he : ∀ (s : Shared) (H : Hp) (C : Addr) (cl : List (Str × Addr)) (fp : List Addr), EX (X.blk s H scope (PySem.compEnvC scope cl C X.env) fp) W0 elt te) (hz : ∀ x, foldedSetIterable iter X.env x = pure x := by intro _; rfl) :
    SX X W (.Assign [.Name y py] (.ListComp elt [⟨tg, iter, ifs, 0⟩] scope pos) spos) (dSet i (eLc (own.map (·.2)) di g tt te)) :=
  PS.imp (ps_setLc hc hN hy hyl hsw hi ok hg ht he hz) fun D σ H q => by
    refine lc_lift (W := W) (di := di) (g := g) (tt := tt) (te := te) hs ?_
    obtain ⟨G, F, τ, en, h, hp⟩ := q
    refine bindES h hp fun o e1 hp1 G1 H1 v s1 h1 => ?_
    dsimp only at hp1
    split at hp1
    · rename_i e2 he2
      exact hp1 G1 _ H1 s1 (h1.stor he2)
    · exact hp1.elim
theorem TS_nil {K : PySem.W.Frag} : PTs X [] (liftT K W tYs) := ⟨fun pins s σ H Q I q => pts_nil.run pins s σ H Q I (by
  obtain ⟨G, F, τ, en, h, hp⟩ := q
  exact hp G H [] (Same.refl _) h)⟩
theorem TS_one {c : Expr} (h : TX X W c tt) : PTs X [c] (liftT X.K W tt) := pts_one h
end
end Lf
end
section
set_option Elab.async false
set_option linter.all false
set_option maxRecDepth 100000
set_option maxHeartbeats 2000000
namespace Lf
open PySem PySem.Spec L2
variable [Tabs]
/-! ### generator expressions -/
/-- the frame of a generator expression, woken under B -/
abbrev gxC (X : Cx) (B : Around) (s : Shared) (H : Hp) (cenv : Env) (fp : List Addr) : Cx := { X with s_0 := s, H_0 := H, A := B.deeper cenv, env := cenv, outer := X.stack, stack := cenv :: X.stack, ex := fp, fn := fun _ => false, pn := [], xe := fun _ _ => False }
abbrev gxE (X : Cx) (scope : Scope) (cl : List (Str × Addr)) (C : Addr) (code : Value) : Env := PySem.genEnv scope cl C code builtinsNs X.env
theorem over_gen {A : Around} {elt : Expr} {gs : List Comprehension} {scope : Scope} {pos : Pos} {it acc : Value} {env : Env} : A.over (.compLoop (.GeneratorExp elt gs scope pos) 0 it acc env) [] = A.deeper env := by
  first
    | rfl
    | (obtain ⟨hd, d, fr, gd, u⟩ := A; simp [Around.over, Around.deeper, marksOver, frameCount, unitsOf, envsOf, guardsOf, pushEnvs, pushGuards, Code.envs, Code.env?, Code.isFrame, Code.guards, Code.isGuard, Code.weight, Code.frames, Code.isCreation, Code.isCaller, Code.cUnits])
/-- the table at P has grown -/
structure TabX (P : Addr) (H H' : Hp) : Prop where
  at_ : ∃ ps more : Array Value, H P = some (.tbl ps) ∧ H' P = some (.tbl (ps ++ more)) ∧ TriplesOk (ps ++ more).toList
  ne : ∀ b, b ≠ P → H' b = H b
/-- a generator expression's scope -/
structure GOk (scope : Scope) : Prop where
  co : scope.isCoroutine = false
  cell : ∀ y ∈ scope.names, y.2 ≠ .cell
  dot : scope.names.lookup (".0" : Str) = some NameKind.local
section
variable {X : Cx} {pins : List (Addr × Obj)} {σ : St} {H : Hp} {s : Shared}
theorem gx_start {B : Around} {scope : Scope} {own : List (Str × Nat)} {fp : List Addr} {code : Value} {m0 : Str → Option Value} {s' : Shared} {a : Addr} {go : Obj} (I : Inv X pins σ H s) (ok : BlkOk X.N X.env.scope scope own) (gk : GOk scope) (hN : X.N.Nodup)
    (hfp : ∀ b ∈ fp, FpOk X pins H b ∧ b < s.heap.objs.size) (hB : B.handled = none) (hfr : B.frames = some X.stack)
    (hns : s'.heap.Ns s.heap.objs.size m0) (kp : ∀ b o, s.heap.get? b = some o → s'.heap.get? b = some o) (hg : PyProof.Rows.AllBare s'.gens) (hos : s'.os = s.os)
    (ha : s.heap.objs.size < a) (hgo : s'.heap.get? a = some go) (hgc : ∀ v, go.data ≠ .cell v) :
    Inv (gxC X B s H (gxE X scope (cloFrom X.env.cells scope.names []) s.heap.objs.size code) fp) [(a, go)] (wipe σ (own.map (·.2))) H s' := by
  have hfree : ∀ y ∈ scope.names, y.2 = .free → ∃ c, X.env.cells.lookup y.1 = some c := fun y hy e => by
    rcases ok.free y hy e with k | k
    · exact I.ok.has _ (.inl k)
    · exact I.ok.has _ (.inr k)
  have cm : ∀ {y c}, (y, c) ∈ cloFrom X.env.cells scope.names [] → X.env.cells.lookup y = some c ∧ c < s.heap.objs.size := fun {y c} hm => by
    rcases cloFrom_mem hm with hm | ⟨h1, rfl⟩
    · cases hm
    · obtain ⟨c, hc⟩ := hfree _ h1 rfl
      rw [hc]
      obtain ⟨w, z⟩ := I.cell _ _ hc
      exact ⟨rfl, z.lt⟩
  have mem : ∀ {y c}, (cloFrom X.env.cells scope.names []).lookup y = some c → X.env.cells.lookup y = some c ∧ c < s.heap.objs.size := fun {y c} e => cm (PySem.mem_of_lookup e)
  have look : ∀ {y}, scope.names.lookup y = some .free → ∃ c, (cloFrom X.env.cells scope.names []).lookup y = some c ∧ X.env.cells.lookup y = some c := fun {y} hl => by
    have hy : (y, NameKind.free) ∈ scope.names := PySem.mem_of_lookup hl
    obtain ⟨c', e'⟩ := mem_lookup (cloFrom_has (cells := X.env.cells) (acc := []) hy)
    exact ⟨c', e', (mem e').1⟩
  have okB : (gxC X B s H (gxE X scope (cloFrom X.env.cells scope.names []) s.heap.objs.size code) fp).Ok := by
    refine ⟨I.ok.mod, ok.kind, I.ok.glob, rfl, Nat.le_refl _, fun y z c e1 e2 => I.ok.inj y z c (mem e1).1 (mem e2).1, fun y hy => ?_, fun y c z e => (nomatch z), fun _ => hB, Around.frames_deeper hfr, .inr ⟨rfl, rfl⟩, fun b hb => ⟨Nat.ne_of_lt (hfp b hb).2, fun y c e z => (hfp b hb).1.2.2.2.2.1 y c (mem e).1 z⟩,
      I.bs, Nat.le_trans I.ok.bsz I.sz, fun b o e hb => ?_, fun b hb z => ?_, I.stack, I.stkFree⟩
    · have hy : scope.names.lookup y = some .cell ∨ scope.names.lookup y = some .free := hy
      rcases hy with hy | hy
      · exact absurd rfl (gk.cell _ (PySem.mem_of_lookup hy))
      · obtain ⟨c, e, _⟩ := look hy
        exact ⟨c, e⟩
    · rcases (hfp b hb).1.2.2.2.1 with z | z
      · exact I.ok.noex b o e z
      · exact absurd (Nat.lt_of_lt_of_le (Heap.lt_size e) (Nat.le_trans I.ok.bsz z)) (Nat.lt_irrefl _)
    · rcases List.mem_cons.mp (I.stkSub b z) with z | z
      · exact (hfp b hb).1.2.1 z
      · exact (hfp b hb).1.2.2.1 z
  refine ⟨okB, hos, hg, Un.kept kp, ⟨m0, hns, fun i y av e1 e2 e3 => ?_⟩, fun y c e => ?_, I.hok.fresh (Nat.le_refl _), fun y c e => I.freeC y c (mem e).1, fun p hp => ?_, I.hok.kept kp, by rw [wipe_length]; exact I.len⟩
  · obtain ⟨e2, hne⟩ := wipe_some e2
    have e3 : scope.names.lookup y = some .local ∨ scope.names.lookup y = some .cell ∨ scope.names.lookup y = some .free := e3
    have no : ∀ k, scope.names.lookup y = some k → ¬ (k = .local ∨ k = .cell) := fun k hk hh => by
      rcases ok.own _ (PySem.mem_of_lookup hk) hh with e' | e'
      · obtain ⟨p, hp, hpy⟩ := List.mem_map.mp e'
        have e4 := ok.ix p hp
        have : p.1 = y := hpy
        rw [this] at e4
        exact hne (List.mem_map.mpr ⟨p, hp, nodup_ix hN e4 e1⟩)
      · exact e' (List.mem_of_getElem? e1)
    have hl : scope.names.lookup y = some .free := by
      rcases e3 with e3 | e3 | e3
      · exact absurd (.inl rfl) (no _ e3)
      · exact absurd (.inr rfl) (no _ e3)
      · exact e3
    obtain ⟨m, hn, hll⟩ := I.loc
    have hvis : Vis X.env.scope y := (ok.free _ (PySem.mem_of_lookup hl) rfl).elim (fun k => .inr (.inl k)) (fun k => .inr (.inr k))
    obtain ⟨w, r, q⟩ := hll i y av e1 e2 hvis
    refine ⟨w, r, .inr ⟨.inr hl, ?_⟩⟩
    obtain ⟨c, h1, h2⟩ := look hl
    rcases q with ⟨k, _⟩ | ⟨_, c', e', z⟩
    · have k : X.env.scope.names.lookup y = some .local := k
      rcases ok.free _ (PySem.mem_of_lookup hl) rfl with k' | k' <;> rw [show X.env.scope.names.lookup y = _ from k'] at k <;> cases k
    · rw [h2] at e'; cases e'
      exact ⟨c, h1, z.keeps kp⟩
  · obtain ⟨w, z⟩ := I.cell y c (mem e).1
    exact ⟨w, z.keeps kp⟩
  · have hp : p ∈ ([] : List (Addr × Obj)) ++ [(a, go)] := hp
    obtain rfl : p = (a, go) := by simpa using hp
    exact ⟨hgo, I.hok.fresh (Nat.le_of_lt ha), Nat.ne_of_gt ha, fun z => by
      rcases List.mem_cons.mp (I.stkSub a z) with q | q
      · exact absurd I.lt (by rw [← q]; exact Nat.not_lt.mpr (Nat.le_of_lt ha))
      · exact I.nofs (Nat.le_of_lt ha) q, hgc⟩
end
/-- a generator expression's turn i, as it stands -/
def GAt (Y : Cx) (a : Addr) (go : Obj) (fp : List Addr) (tn : Nat → Heap → Prop) (σ0 : St) (i : Nat) (H : Hp) (s : Shared) : Prop := Inv Y [(a, go)] σ0 H s ∧ tn i s.heap ∧ ∀ b ∈ fp, H b = none
/-- ys: what it handed out; out: what is wanted when y is handed out too; fin: when no more comes -/
abbrev GOut := List V → V → Hp → (List V → Hp → Prop) → Prop
def GPr (Y : Cx) (a : Addr) (go : Obj) (fp : List Addr) (tn : Nat → Heap → Prop) (σ0 : St) (out : GOut) : Protocol := fun n s₀ v s kap =>
  ∃ i ys y H Nx, RelV y v ∧ GAt Y a go fp tn σ0 (i + 1) H s ∧ out ys y H Nx ∧ ∀ ys' H' s'', Nx ys' H' → GAt Y a go fp tn σ0 (i + 1) H' s'' → kap (.send .none) s''
def GFin (Y : Cx) (a : Addr) (go : Obj) (σ0 : St) (fin : List V → Hp → Prop) : Nat → Shared → Shared → Prop := fun n s₀ s1 => ∃ ys H, Inv Y [(a, go)] σ0 H s1 ∧ fin ys H
abbrev GRs (Y : Cx) (a : Addr) (go : Obj) (σ0 : St) (fin : List V → Hp → Prop) : GenEnd := fun n s₀ r s1 => r = .ok .next ∧ GFin Y a go σ0 fin n s₀ s1
/-- the turns -/
def GTurn (J : It) (g : TG) (tt : TT) (te : TE) (σ0 : St) (vs : List Nat) (out : GOut) (fin : List V → Hp → Prop) (W : Nat → List V → Nat → Hp → Prop) : Prop := ∀ i ys m H, W i ys m H →
  (J.stop i H ∧ fin ys H) ∨ (J.go i H ∧ ∃ Nx : List V → Hp → Prop, (∀ ys' H', Nx ys' H' → ∃ m', m' < m ∧ W (i + 1) ys' m' H') ∧ ∀ x H', J.yld i H x H' → g x σ0 H' fun σ2 H2 => wipe σ2 vs = σ0 ∧ tt σ2 H2 fun b H3 =>
    if b = true then te σ2 H3 fun y H4 => out ys y H4 Nx else Nx ys H3)
section
variable {X : Cx}
theorem pass0 {M : Model} {A : Around} {α : Type} {t : Sem α} {Q Q' : α → Shared → Prop} {E : Value → Shared → Prop} {s : Shared} (h : wpAny M A t Q (fun _ _ => False) s) (hQ : ∀ a s, Q a s → Q' a s) : wpAny M A t Q' E s := wpAny_mono h hQ fun _ _ z => False.elim z
theorem seg_gx {B : Around} {elt tg iter : Expr} {ifs : List Expr} {scope : Scope} {pos : Pos} {J : It} {fp : List Addr} {it a : Addr} {go : Obj} {tn : Nat → Heap → Prop} {s4 : Shared} {H4 : Hp} {cenv : Env} {g : TG} {tt : TT} {te : TE} {σ : St} {vs : List Nat} {out : GOut} {fin : List V → Hp → Prop} {W : Nat → List V → Nat → Hp → Prop}
    (hc : X.calm = true) (hco : cenv.scope.isCoroutine = false) (hafp : a ∉ fp) (T : Turn X.prog X.w X.K tg J fp it tn)
    (pg : PG (gxC X B s4 H4 cenv fp) tg g) (pt : PTs (gxC X B s4 H4 cenv fp) ifs tt) (pe : PE (gxC X B s4 H4 cenv fp) elt te)
    (turn : GTurn J g tt te (wipe σ vs) vs out fin W) :
    ∀ (m n i : Nat) (ys : List V) (s₀ s : Shared) (H : Hp), m < n → W i ys m H → GAt (gxC X B s4 H4 cenv fp) a go fp tn (wipe σ vs) i H s →
      Seg (model X.prog X.w) B (GRs (gxC X B s4 H4 cenv fp) a go (wipe σ vs) fin) (GPr (gxC X B s4 H4 cenv fp) a go fp tn (wipe σ vs) out) n s₀
        (.compLoop (.GeneratorExp elt [⟨tg, iter, ifs, 0⟩] scope pos) 0 (.ref it) .none cenv)
        ((model X.prog X.w).den (.compLoop (.GeneratorExp elt [⟨tg, iter, ifs, 0⟩] scope pos) 0 (.ref it) .none cenv)) [] s := by
  have stat : ∀ {σ' : St} {H' : Hp} {s' : Shared}, Inv (gxC X B s4 H4 cenv fp) [(a, go)] σ' H' s' → (∀ b ∈ fp, H' b = none) → ∀ b ∈ fp, FpOk (gxC X B s4 H4 cenv fp) [(a, go)] H' b := fun {σ' H' s'} I' hn b hb =>
    ⟨hn b hb, (I'.ok.exf b hb).1, I'.ok.exfs b hb, .inl hb, fun x c e => (I'.ok.exf b hb).2 x c e, fun p hp => by
      obtain rfl : p = (a, go) := by simpa using (show p ∈ ([] : List (Addr × Obj)) ++ [(a, go)] from hp)
      exact fun z => hafp (by rw [show a = b from z]; exact hb)⟩
  intro m
  induction m using Nat.strongRecOn with
  | ind m ih =>
    intro n i ys s₀ s H hmn w ⟨I, st, nf⟩
    show Seg _ B _ _ _ s₀ _ ((compTurn (.GeneratorExp elt [⟨tg, iter, ifs, 0⟩] scope pos) 0 (.ref it) .none cenv).onRaise (leaving cenv)) [] s
    rw [compTurn_gen, Sem.onRaise_eq_wrap]
    refine seg_bind_wrap (wpAny_standAt ?_)
    rcases turn i ys m H w with ⟨stop, qq⟩ | ⟨hgo, Nx, hNx, step⟩
    · refine seg_bind_wrap ?_
      rw [over_gen]
      refine pass0 (T.done (gxC X B s4 H4 cenv fp) rfl rfl rfl hc i [(a, go)] s _ H (fun _ _ => False) I (stat I nf) st stop) fun r s6 ⟨hr, I6⟩ => ?_
      subst hr
      exact seg_end (.ok .next) ⟨rfl, ys, H, I6, qq⟩
    · refine seg_bind_wrap ?_
      rw [over_gen]
      refine pass0 (T.item (gxC X B s4 H4 cenv fp) rfl rfl rfl hc i [(a, go)] s _ H (fun _ _ => False) I (stat I nf) st hgo) fun r s6 ⟨u, hr, h6⟩ => ?_
      subst hr
      refine seg_bind_wrap ?_
      rw [over_gen]
      refine pass0 h6 fun _ s7 ⟨x, H7, I7, r7, y7, st7, n7⟩ => ?_
      have I7' := I7.pinned (stat I7 n7) (T.obj _ _ st7)
      refine seg_bind_wrap ?_
      rw [over_gen]
      refine pass0 (pg.run _ s7 _ H7 x u _ I7' r7 (step x H7 y7)) fun _ s8 ⟨σ8, H8, I8, hw8, q8⟩ => ?_
      refine seg_bind_wrap ?_
      rw [over_gen]
      refine pass0 (pt.run _ s8 σ8 H8 _ I8 q8) fun b s9 ⟨H9, I9, q9⟩ => ?_
      -- the turn's end
      have back : ∀ {s' : Shared} {H' : Hp}, Inv (gxC X B s4 H4 cenv fp) ([(a, go)] ++ pinsAt fp s7.heap) σ8 H' s' → GAt (gxC X B s4 H4 cenv fp) a go fp tn (wipe σ vs) (i + 1) H' s' := fun {s' H'} I' => by
        have pin' : ∀ b ∈ fp, ∀ o, s7.heap.get? b = some o → s'.heap.get? b = some o ∧ H' b = none := fun b hb o e =>
          let z := I'.pin (b, o) (List.mem_append_right _ (List.mem_append_right _ (mem_pinsAt hb e)))
          ⟨z.1, z.2.1⟩
        have hl : (wipe σ vs).length = σ8.length := by rw [← hw8, wipe_length]
        refine ⟨(I'.unpinned (pins := [(a, go)])).weak hl (fun j v e => ?_), T.keep _ _ _ st7 fun b hb o e => (pin' b hb o e).1, fun b hb => ?_⟩
        · rw [← hw8] at e
          exact (wipe_some e).1
        · obtain ⟨o, e, _⟩ := T.obj _ _ st7 b hb
          exact (pin' b hb o e).2
      cases b with
      | false =>
        simp only [Bool.false_eq_true, if_false] at q9 ⊢
        obtain ⟨m', hm, w'⟩ := hNx ys H9 q9
        exact seg_again rfl (ih m' hm n (i + 1) ys s₀ s9 H9 (by omega) w' (back I9))
      | true =>
        simp only [if_true] at q9 ⊢
        have hy : ∀ v, yieldOut cenv v = yieldValue v := fun v => by simp only [yieldOut, hco, Bool.false_eq_true, if_false]
        simp only [hy]
        rw [Sem.bind_eq_wrap', Sem.bind_eq_wrap', Sem.wrap_wrap, Sem.wrap_wrap]
        refine seg_wrap ?_
        rw [over_gen]
        refine pass0 (pe.run _ s9 σ8 H9 _ I9 q9) fun z s10 ⟨yv, H10, I10, r10, hout⟩ => ?_
        cases n with
        | zero => exact absurd hmn (Nat.not_lt_zero _)
        | succ n =>
          refine seg_at (seg_yield rfl rfl rfl ⟨i, ys, yv, H10, Nx, r10, back I10, hout, fun ys' H' s'' nx hG => ?_⟩)
          obtain ⟨m', hm, w'⟩ := hNx ys' H' nx
          exact seg_again rfl (ih m' hm n (i + 1) ys' s'' s'' H' (by omega) w' hG)
end
end Lf
end
section
set_option Elab.async false
set_option linter.all false
set_option maxRecDepth 100000
set_option maxHeartbeats 2000000
namespace Lf
open PySem PySem.Spec L2
variable [Tabs]
section
variable {X : Cx}
theorem seg_gx0 {B : Around} {elt tg iter : Expr} {ifs : List Expr} {scope : Scope} {pos : Pos} {J : It} {fp : List Addr} {it a : Addr} {go : Obj} {tn : Nat → Heap → Prop} {s4 : Shared} {H4 : Hp} {cenv : Env} {g : TG} {tt : TT} {te : TE} {σ : St} {vs : List Nat} {out : GOut} {fin : List V → Hp → Prop} {W : Nat → List V → Nat → Hp → Prop}
    (hc : X.calm = true) (hco : cenv.scope.isCoroutine = false) (hafp : a ∉ fp) (T : Turn X.prog X.w X.K tg J fp it tn)
    (pg : PG (gxC X B s4 H4 cenv fp) tg g) (pt : PTs (gxC X B s4 H4 cenv fp) ifs tt) (pe : PE (gxC X B s4 H4 cenv fp) elt te)
    (turn : GTurn J g tt te (wipe σ vs) vs out fin W) {m n : Nat} {s₀ s : Shared} {H : Hp} (hm : m < n) (w : W 0 [] m H) (hG : GAt (gxC X B s4 H4 cenv fp) a go fp tn (wipe σ vs) 0 H s) :
      Seg (model X.prog X.w) B (GRs (gxC X B s4 H4 cenv fp) a go (wipe σ vs) fin) (GPr (gxC X B s4 H4 cenv fp) a go fp tn (wipe σ vs) out) n s₀
        (.compStart (.GeneratorExp elt [⟨tg, iter, ifs, 0⟩] scope pos) 0 (.ref it) .none cenv)
        ((model X.prog X.w).den (.compStart (.GeneratorExp elt [⟨tg, iter, ifs, 0⟩] scope pos) 0 (.ref it) .none cenv)) [] s := by
  have loop := seg_gx (iter := iter) (scope := scope) (pos := pos) hc hco hafp T pg pt pe turn m n 0 [] s₀ s H hm w hG
  show Seg _ B _ _ _ s₀ _ ((compStart (.GeneratorExp elt [⟨tg, iter, ifs, 0⟩] scope pos) 0 (.ref it) .none cenv).onRaise (leaving cenv)) [] s
  unfold compStart
  rw [Sem.onRaise_eq_wrap]
  show Seg _ B _ _ _ s₀ _ ((ask >>= _).wrap _ _ _ _) [] s
  refine seg_bind_wrap (wpAny_askSetting ?_)
  split
  · exact seg_again rfl loop
  · first
      | exact seg_bind_wrap (wpAny_rule (seg_bind_wrap (wpAny_standAt (seg_bind_wrap (T.self _ 0 s _ _ hG.2.1 (seg_again rfl loop))))))
      | (refine seg_bind_wrap (wpAny_rule ?_); show Seg _ B _ _ _ s₀ _ ((standAt iter.pos >>= _).wrap _ _ _ _) [] s; exact seg_bind_wrap (wpAny_standAt (seg_bind_wrap (T.self _ 0 s _ _ hG.2.1 (seg_again rfl loop)))))
/-- a generator expression's object has been made -/
structure GMk (X : Cx) (elt tg iter : Expr) (ifs : List Expr) (scope : Scope) (pos : Pos) (s4 : Shared) (it : Addr) (code : Value) (a : Addr) (go : Obj) (g : Nat) (s5 : Shared) : Prop where
  ns : ∃ m0, s5.heap.Ns s4.heap.objs.size m0
  kp : ∀ b o, s4.heap.get? b = some o → s5.heap.get? b = some o
  bare : PyProof.Rows.AllBare s5.gens
  os : s5.os = s4.os
  lt : s4.heap.objs.size < a
  obj : s5.heap.get? a = some go
  gen : ∃ nm qn, go.cls = .type "generator" ∧ go.data = .fields #[.int g 0, nm, qn] ∧ go.slots = #[]
  st : s5.gens[g]? = some (.fresh (.compStart (.GeneratorExp elt [⟨tg, iter, ifs, 0⟩] scope pos) 0 (.ref it) .none (gxE X scope (cloFrom X.env.cells scope.names []) s4.heap.objs.size code)))
theorem gx_make {pins : List (Addr × Obj)} {σ : St} {H : Hp} {s : Shared} {c P : Addr} {elt tg iter : Expr} {ifs : List Expr} {gpos : Pos} {scope : Scope} {own : List (Str × Nat)} {wi : TI} {Q' : Value → Shared → Prop} {Rr : It → Hp → Prop} {k : Nat}
    (hr : Room k X.A) (TB : GxR.TabB X.base X.mg c P) (hcode : X.env.code = .ref c) (ok : BlkOk X.N X.env.scope scope own) (gk : GOk scope) (hi : PI X tg iter wi) (hs : ∀ v, genFold iter X.env v = pure v)
    (I : Inv X pins σ H s) (h : wi σ H fun J H1 => GxR.TabG H1 P ∧ Rr J H1)
    (hQ : ∀ J H1 H4 it fp tn s4 code a go g s5, Rr J H1 → TabX P H1 H4 → Turn X.prog X.w X.K tg J fp it tn → Inv X pins σ H4 s4 → (∀ b ∈ fp, FpOk X pins H4 b ∧ b < s4.heap.objs.size) → tn 0 s4.heap →
      GMk X elt tg iter ifs scope gpos s4 it code a go g s5 → Q' (.ref a) s5) :
    wpAny (model X.prog X.w) X.A (eval (.GeneratorExp elt [⟨tg, iter, ifs, 0⟩] scope gpos) X.env) Q' X.xe s := by
  have hfree : ∀ y ∈ scope.names, y.2 = .free → ∃ c, X.env.cells.lookup y.1 = some c := fun y hy e => by
    rcases ok.free y hy e with k | k
    · exact I.ok.has _ (.inl k)
    · exact I.ok.has _ (.inr k)
  refine wpAny_GeneratorExp_make gk.co (closure_ok hfree) gk.cell gk.dot ok.kind (by have := hr.dp; omega) ?_ hs
  refine thn (hi.run pins s σ H _ I h) fun xv s1 hx => thn hx fun itv s2 h2 => ?_
  obtain ⟨it, fp, tn, J, H2, e, I2, T, st2, f2, ⟨ps, hP, ht⟩, q⟩ := h2
  subst e
  have hPs : s2.heap.get? P = some { cls := .none, data := .fields ps } := I2.hok P _ hP
  have cd : PySem.W.CodeHd s2.heap c P := TB.code.keeps I2.bk
  have nP : ∀ b ∈ fp, b ≠ P := fun b hb e => by
    have z := (f2 b hb).1
    rw [e, hP] at z; cases z
  have sz : ∀ b ∈ fp, b < s2.heap.objs.size := fun b hb => by
    obtain ⟨o, e, _⟩ := T.obj _ _ st2 b hb
    exact Heap.lt_size e
  have cont : ∀ (code : Value) (h3 : Heap) (tk : Nat) (ps' : Array Value), Heap.ExtBut P s2.heap h3 → s2.heap.objs.size ≤ h3.objs.size → h3.get? P = some { cls := .none, data := .fields ps' } → (∃ more, ps' = ps ++ more) → TriplesOk ps'.toList →
      wpAny (model X.prog X.w) X.A (builtinsFor X.env.globals X.env.builtins) (fun bi s₄ =>
        ∀ h', h'.Ns s₄.heap.objs.size (fun y => if y = ".0" then some (.ref it) else none) → Heap.SameBut s₄.heap.objs.size (s₄.heap.push { cls := .type "frame", data := .dict #[] }) h' →
          Q' (.ref h'.objs.size) { s₄ with
            gens := s₄.gens.push (.fresh (.compStart (.GeneratorExp elt [⟨tg, iter, ifs, 0⟩] scope gpos) 0 (.ref it) .none (genEnv scope (cloFrom X.env.cells scope.names []) s₄.heap.objs.size code bi X.env))),
            toks := s₄.toks + 1 + 1 + 1,
            heap := h'.push { cls := .type "generator", data := .fields #[.int s₄.gens.size 0, .str "<genexpr>" (s₄.toks + 1), .str (X.env.qual ++ "<genexpr>") (s₄.toks + 1 + 1)] } }) X.xe { s2 with heap := h3, toks := tk } := by
    intro code h3 tk ps' hx hsz hP3 hmore ht3
    obtain ⟨bm, ob, e1, e2, e3, e4, e5, e6, e7, e8⟩ := TB.bm
    obtain ⟨more, em⟩ := hmore
    refine wpAny_builtinsFor (m := X.mg) (by rw [I2.ok.glob]; exact (I2.mod.glob.keeps I2.bk).extBut hx TB.gP) e1 e2 (hx _ _ e4 (I2.bk _ _ e5)) e6 e7 e8 ?_
    intro h' hn' hs'
    have I4 := GxR.inv_tab (more := more) (h' := h3) (g' := s2.gens) (d' := s2.drawn) (t' := tk) I2 hP (fun b u hb e => hx b u hb e) (by rw [← em]; exact hP3) I2.bare
    have hsz' : h'.objs.size = h3.objs.size + 1 := by rw [hs'.1, Heap.size_push]
    have keep' : ∀ b o, h3.get? b = some o → h'.get? b = some o := fun b o e => hs'.extBut b o (Nat.ne_of_lt (Heap.lt_size e)) (Heap.get?_push_of_some _ e)
    refine hQ J H2 (upd H2 P (.tbl (ps ++ more))) it fp tn { s2 with heap := h3, toks := tk } code h'.objs.size _ s2.gens.size _ q ⟨⟨ps, more, hP, upd_same, by rw [← em]; exact ht3⟩, fun b hb => upd_ne hb⟩ T I4 (fun b hb => ⟨⟨?_, (f2 b hb).2⟩, Nat.lt_of_lt_of_le (sz b hb) hsz⟩)
      (T.keep _ _ _ st2 fun b hb o e => hx b o (nP b hb) e) ⟨⟨_, hn'.push _⟩, fun b o e => Heap.get?_push_of_some _ (keep' b o e), I2.bare.push rfl, rfl, ?_, Heap.get?_push_size _ rfl, ⟨_, _, rfl, rfl, rfl⟩, Array.getElem?_push_size ..⟩
    · rw [upd_ne (nP b hb)]
      exact (f2 b hb).1
    · show h3.objs.size < h'.objs.size
      omega
  refine ⟨I2.nolimit, ?_⟩
  cases hf : codeAmong gpos ps.toList with
  | none =>
    refine wpAny_genexprCodeX hcode (cd.code hPs ht) (cd.tab hPs) hf fun c' h' tk hx hge hlt hco' _ htab' _ => ?_
    obtain ⟨o1, vs, f1, tf, fl, tg', inF, tx, tt, op, _, _, _, _, _, _, _, _, _, htr, _⟩ := hco'
    exact cont _ h' tk _ hx (Nat.le_trans hge (Nat.le_of_lt hlt)) htab'.2 ⟨_, rfl⟩ htr
  | some cv =>
    refine wpAny_genexprCode_hit hcode (cd.code hPs ht) hf ?_
    exact cont cv s2.heap s2.toks ps (Heap.ExtBut.refl _ _) (Nat.le_refl _) hPs ⟨#[], by simp⟩ ht
end
end Lf
end
section
set_option Elab.async false
set_option linter.all false
set_option maxRecDepth 100000
set_option maxHeartbeats 2000000
namespace Lf
open PySem PySem.Spec L2
variable [Tabs]
section
variable {X : Cx}
theorem inv_gens {pins : List (Addr × Obj)} {σ : St} {H : Hp} {s s' : Shared} (I : Inv X pins σ H s) (hh : s'.heap = s.heap) (ho : s'.os = s.os) (hb : PyProof.Rows.AllBare s'.gens) : Inv X pins σ H s' := by
  obtain ⟨h, g, d, t, o⟩ := s'
  have hh : h = s.heap := hh
  have ho : o = s.os := ho
  subst hh ho
  exact ⟨I.ok, I.os, hb, I.base, I.loc, I.cell, I.free, I.freeC, I.pin, I.hok, I.len⟩
/-- one turn, seen by who consumes -/
theorem gx_next {A : Around} {a g n : Nat} {go : Obj} {fp : List Addr} {tn : Nat → Heap → Prop} {σ0 σ1 : St} {Y : Cx} {out : GOut} {fin : List V → Hp → Prop} {s : Shared} {H : Hp} {Q : Option Value → Shared → Prop} {E : Value → Shared → Prop}
    (hh : A.handled = none) (hroom : A.depth < recursionLimit) (hg : ∃ nm qn, go.cls = .type "generator" ∧ go.data = .fields #[.int g 0, nm, qn] ∧ go.slots = #[])
    (I : Inv Y [(a, go)] σ0 H s) (hgs : ∃ gs, s.gens[g]? = some gs ∧ gs.Goes (model Y.prog Y.w) A.in1 (GRs Y a go σ1 fin) (GPr Y a go fp tn σ1 out) n (.send .none) (s.setGen g .running))
    (hY : ∀ v s1 i ys y H1 Nx, RelV y v → GAt Y a go fp tn σ1 (i + 1) H1 s1 → out ys y H1 Nx  →
      (∀ ys' H', Nx ys' H' → H' = H1 → ∃ m, n = m + 1 ∧ ∃ gs, s1.gens[g]? = some gs ∧ gs.Goes (model Y.prog Y.w) A.in1 (GRs Y a go σ1 fin) (GPr Y a go fp tn σ1 out) m (.send .none) (s1.setGen g .running)) → Q (some v) s1)
    (hF : ∀ s1 ys H1, Inv Y [(a, go)] σ1 H1 s1 → fin ys H1 → Q none s1) : wpAny (model Y.prog Y.w) A (pyNext (.ref a)) Q E s := by
  have isg : ∀ {σ' : St} {H' : Hp} {s' : Shared}, Inv Y [(a, go)] σ' H' s' → s'.heap.IsGen a g := fun {σ' H' s'} I' => by
    obtain ⟨nm, qn, h1, h2, h3⟩ := hg
    exact ⟨go, nm, qn, (I'.pin (a, go) (List.mem_append_right _ List.mem_cons_self)).1, h1, h2, h3⟩
  obtain ⟨gs, hgs, hgo⟩ := hgs
  have hgl : g < s.gens.size := (Array.getElem?_eq_some_iff.mp hgs).1
  refine GenW.wpAny_gsz (n := g + 1) hgl (wpAny_pyNext_genexpQ (P := GFin Y a go σ1 fin) hh I.nolimit hroom (isg I) hgs hgo (fun v s₁ gs' hb hv hsz => ?_) fun s₁ hp h' hk _ => ?_)
  · obtain ⟨i, ys, y, H1, Nx, rv, ⟨I1, st1, nf1⟩, ho, hk⟩ := hv
    have hsz1 : g < s₁.gens.size := by
      have q : (s₁.setGen g gs').gens.size = s₁.gens.size := GenW.setGen_size _ _ _
      have hsz' : g + 1 ≤ (s₁.setGen g gs').gens.size := hsz
      omega
    have bare1 : PyProof.Rows.AllBare (s₁.setGen g gs').gens := allBare_setGen I1.bare hb
    refine hY v _ i ys y H1 Nx rv ⟨inv_gens I1 rfl rfl bare1, st1, nf1⟩ ho fun ys' H' nx e => ?_
    · subst e
      have G2 : GAt Y a go fp tn σ1 (i + 1) H' ((s₁.setGen g gs').setGen g .running) := ⟨inv_gens I1 rfl rfl (allBare_setGen bare1 rfl), st1, nf1⟩
      have z := hk ys' H' ((s₁.setGen g gs').setGen g .running) nx G2
      cases n with
      | zero => exact z.elim
      | succ m => exact ⟨m, rfl, gs', setGen_at hsz1, z⟩
  · obtain ⟨ys, H1, I1, hf⟩ := hp
    refine hF _ ys H1 ?_ hf
    exact inv_gens (I1.kept (t' := s₁.toks) hk) rfl rfl (allBare_setGen I1.bare rfl)
/-- all(test for .. in ..): b, what it comes to -/
def oAll (Q : VK) : GOut := fun ys y H Nx => ∃ b, y = .bl b ∧ if b = true then Nx (ys ++ [y]) H else Q (.bl false) H
theorem all_gx {A : Around} {a g : Nat} {go : Obj} {fp : List Addr} {tn : Nat → Heap → Prop} {σ1 : St} {Y : Cx} {Q : VK} {R : Result → Shared → Prop}
    (hh : A.handled = none) (hroom : A.depth < recursionLimit) (hg : ∃ nm qn, go.cls = .type "generator" ∧ go.data = .fields #[.int g 0, nm, qn] ∧ go.slots = #[])
    (hend : ∀ b s' H', Inv Y [(a, go)] σ1 H' s' → Q (.bl b) H' → R (.ok (.ret (.bool b))) s') :
    ∀ (n : Nat) (s : Shared) (σ0 : St) (H : Hp), Inv Y [(a, go)] σ0 H s → (∃ gs, s.gens[g]? = some gs ∧ gs.Goes (model Y.prog Y.w) A.in1.in1 (GRs Y a go σ1 fun _ H => Q (.bl true) H) (GPr Y a go fp tn σ1 (oAll Q)) n (.send .none) (s.setGen g .running)) →
      codeAny (model Y.prog Y.w) A (.builtin "all.loop" ⟨[.ref a], []⟩) R s := by
  intro n
  induction n using Nat.strongRecOn with
  | ind n ih =>
    intro s σ0 H I hgs
    refine codeAny_builtin F.entry_all_loop ?_
    rw [Around.under_plainId F.plain_all_loop _]
    show wpAny _ A.in1 (pyNext (.ref a) >>= _) _ _ s
    refine wpAny_bind (gx_next (A := A.in1) hh hroom hg I hgs (fun v s1 i ys y H1 Nx rv hG ho hk => ?_) fun s1 ys H1 I1 hf => ?_)
    · obtain ⟨b, rfl, ho⟩ := ho
      obtain rfl : v = Value.bool b := rv
      refine wpAny_bind (wpAny_holding (wpAny_truthy_bool ?_))
      refine wpAny_bind (wpAny_letGo ?_)
      cases b with
      | true =>
        simp only [if_true] at ho ⊢
        obtain ⟨m, rfl, hk2⟩ := hk _ H1 ho rfl
        exact wpAny_pure ⟨plainId_quiet F.plain_all_loop _, ih m (Nat.lt_succ_self m) s1 σ1 H1 hG.1 hk2⟩
      | false =>
        simp only [Bool.false_eq_true, if_false] at ho ⊢
        exact wpAny_bind (wpAny_rule (wpAny_pure (hend false s1 H1 hG.1 ho)))
    · exact wpAny_bind (wpAny_rule (wpAny_pure (hend true s1 H1 I1 hf)))
def tAllG (wi : TI) (g : TG) (tt : TT) (te : TE) (vs : List Nat) (P : Addr) : TE := fun σ H Q => wi σ H fun J H1 => GxR.TabG H1 P ∧ ∀ H2, TabX P H1 H2 →
  ∃ W, (∃ m, W 0 [] m H2) ∧ GTurn J g tt te (wipe σ vs) vs (oAll Q) (fun _ H => Q (.bl true) H) W
/-- all(test for .. in ..) -/
theorem pe_allG {c P : Addr} {elt tg iter : Expr} {ifs : List Expr} {gpos p pos : Pos} {scope : Scope} {own : List (Str × Nat)} {wi : TI} {g : TG} {tt : TT} {te : TE} {k : Nat}
    (hr : Rm (k + 3) X.A) (hgl : Gl X "all") (hm : X.mg "all" = none) (hb : bootBuiltins "all" = some (.builtin "all")) (TB : GxR.TabB X.base X.mg c P) (hcode : X.env.code = .ref c) (hc : X.calm = true) (hN : X.N.Nodup) (ok : BlkOk X.N X.env.scope scope own) (gk : GOk scope) (hi : PI X tg iter wi)
    (hg : ∀ (B : Around) (s : Shared) (H : Hp) (C : Addr) (cl : List (Str × Addr)) (cd : Value) (fp : List Addr), Rm k (B.deeper (gxE X scope cl C cd)) → PG (gxC X B s H (gxE X scope cl C cd) fp) tg g)
    (ht : ∀ (B : Around) (s : Shared) (H : Hp) (C : Addr) (cl : List (Str × Addr)) (cd : Value) (fp : List Addr), Rm k (B.deeper (gxE X scope cl C cd)) → PTs (gxC X B s H (gxE X scope cl C cd) fp) ifs tt)
    (he : ∀ (B : Around) (s : Shared) (H : Hp) (C : Addr) (cl : List (Str × Addr)) (cd : Value) (fp : List Addr), Rm k (B.deeper (gxE X scope cl C cd)) → PE (gxC X B s H (gxE X scope cl C cd) fp) elt te)
    (hs : ∀ v, genFold iter X.env v = pure v := by intro _; rfl)
    (hst : starEach [.GeneratorExp elt [⟨tg, iter, ifs, 0⟩] scope gpos] X.env = (false, eval (.GeneratorExp elt [⟨tg, iter, ifs, 0⟩] scope gpos) X.env) :: starEach [] X.env := by rfl) :
    PE X (.Call (.Name "all" p) [.GeneratorExp elt [⟨tg, iter, ifs, 0⟩] scope gpos] [] pos) (tAllG wi g tt te (own.map (·.2)) P) := by
  refine ⟨fun pins s σ H Q I h => ?_⟩
  refine wpAny_Call_Name_kw (ld_blt I hgl hm hb ?_)
  refine PyProof.Rows.callWith_builtin1 ?_ hst (by rfl)
  rw [hst]
  show wpAny _ _ (spliced ((false, eval (.GeneratorExp elt [⟨tg, iter, ifs, 0⟩] scope gpos) X.env) :: backTo pos (starEach [] X.env))) _ _ s
  refine Calls.spliced_cons (gx_make (own := own) (Rr := fun J H1 => ∀ H2, TabX P H1 H2 → ∃ W : Nat → List V → Nat → Hp → Prop, (∃ m, W 0 [] m H2) ∧ GTurn J g tt te (wipe σ (own.map fun x : Str × Nat => x.2)) (own.map fun x : Str × Nat => x.2) (oAll Q) (fun _ H => Q (.bl true) H) W) hr.hr TB hcode ok gk hi hs I h
    fun J H1 H4 it fp tn s4 code a go gn s5 hR hT T I4 hfp st4 M => ?_)
  refine Calls.spliced_nil ?_
  obtain ⟨W, ⟨m, w0⟩, turn⟩ := hR H4 hT
  obtain ⟨m0, hns⟩ := M.ns
  have hB : X.A.in1.in1.handled = none := hr.hr.hd
  have hgc : ∀ v, go.data ≠ .cell v := fun v q => by
    obtain ⟨nm, qn, _, h2, _⟩ := M.gen
    rw [h2] at q; cases q
  have I5 := gx_start (B := X.A.in1.in1) (own := own) (code := code) I4 ok gk hN hfp hB I4.ok.frames hns M.kp M.bare M.os M.lt M.obj hgc
  have rmB : Rm k (X.A.in1.in1.deeper (gxE X scope (cloFrom X.env.cells scope.names []) s4.heap.objs.size code)) := ⟨((hr.hr.in1).in1).deeper _, hr.gd⟩
  have hafp : a ∉ fp := fun z => Nat.lt_irrefl _ (Nat.lt_trans (hfp a z).2 M.lt)
  have st5 : tn 0 s5.heap := T.keep _ _ _ st4 fun b _ o e => M.kp b o e
  refine PySem.call_function_tree F.kind_all F.plain_all F.entry_all (F.args_all1 _) ?_
  unfold Builtin.«all»
  refine wpAny_bind (m := oneArg "all" _) (wpAny_pure ?_)
  obtain ⟨nm, qn, gg1, gg2, gg3⟩ := id M.gen
  refine wpAny_bind (wpAny_pyIter_gen (a := a) (g := gn) ⟨go, nm, qn, M.obj, gg1, gg2, gg3⟩ ?_)
  refine wpAny_pure ⟨plainId_quiet F.plain_all_loop _, ?_⟩
  refine all_gx (Y := gxC X X.A.in1.in1 s4 H4 (gxE X scope (cloFrom X.env.cells scope.names []) s4.heap.objs.size code) fp) (fp := fp) (tn := tn) (σ1 := wipe σ (own.map (·.2))) (Q := Q) (A := X.A) hr.hr.hd (by have := hr.hr.dp; omega) M.gen (fun b s' H' I' hq => ?_) (m + 1) s5 _ H4 I5 ⟨_, M.st, rfl, ?_⟩
  · exact ⟨.bl b, H', I4.call' (ch := fp) I'.os I'.base I'.hok I'.bare fun b hb => ⟨(hfp b hb).1.2.2.2.1, (hfp b hb).1.2.1, (hfp b hb).1.2.2.2.2.1, (hfp b hb).1.2.2.2.2.2⟩, rfl, hq⟩
  · refine seg_gx0 (X := X) (iter := iter) (scope := scope) (pos := gpos) hc gk.co hafp T (hg _ _ _ _ _ _ _ rmB) (ht _ _ _ _ _ _ _ rmB) (he _ _ _ _ _ _ _ rmB) turn (Nat.lt_succ_self m) w0 ⟨inv_gens I5 rfl rfl (allBare_setGen M.bare rfl), st5, fun b hb => (hfp b hb).1.1⟩
end
end Lf
end
section
set_option Elab.async false
set_option linter.all false
set_option maxRecDepth 100000
set_option maxHeartbeats 2000000
namespace Lf
open PySem PySem.Spec L2
variable [Tabs]
section
variable {K : PySem.W.Frag} {G H H' : Hp} {F : FS} {τ σ σ' : St} {en e1 : En} {vs : List V} {os : List OT}
theorem RX.tabG {P : Addr} (h : RX K G F τ σ H en vs os) (hP : P ∈ Tabs.ts) : GxR.TabG H P := let ⟨_, _, _, S, _⟩ := h; (S.tab P hP).2
theorem RX.tabX {P : Addr} (h : RX K G F τ σ H en vs os) (hP : P ∈ Tabs.ts) (t : TabX P H H') : RX K G F τ σ H' en vs os := by
  obtain ⟨M, φ, B, S, E, r, d⟩ := h
  obtain ⟨⟨ps, more, t1, t2, t3⟩, t4⟩ := t
  refine ⟨M, φ, B, ⟨fun a => ?_, S.nt, fun p hp => ⟨(S.tab p hp).1, ?_⟩, S.base, S.mb⟩, E, r, d⟩
  · by_cases e : a = P
    · obtain ⟨⟨qs, f1⟩, _⟩ := S.tab P hP
      rcases S.at_ a with ⟨_, h2, _⟩ | ⟨_, h2, _⟩ | ⟨h1, h2, h3⟩ | ⟨_, h2, _⟩
      · rw [e, f1] at h2; cases h2
      · rw [e, f1] at h2; cases h2
      · refine .inr (.inr (.inl ⟨h1, h2, up_trans h3 ?_⟩))
        rw [e, t1, t2]
        exact .inr ⟨ps, more, rfl, rfl⟩
      · rw [e, f1] at h2; cases h2
    · rw [t4 a e]; exact S.at_ a
  · by_cases e : p = P
    · rw [e]; exact ⟨_, t2, t3⟩
    · exact tabG_of (S.tab p hp).2 (t4 p e)
end
def allD (vs : List Nat) (g : DG) (tt : DT) (te : DE) : List PyData → En → R (Bool × En)
  | [], en => .ok (true, en)
  | x :: xs, en => match g x en with
    | none => .error .stuck
    | some e2 => bd (nx (tt e2)) fun p => if p.1 = true then bd (nx (te p.2)) fun q => match q.1, wipeE vs q.2 with
        | .d (.bool b), some e5 => if b = true then allD vs g tt te xs e5 else .ok (false, e5)
        | _, _ => .error .stuck
      else match wipeE vs p.2 with
        | some e5 => allD vs g tt te xs e5
        | none => .error .stuck
def okB (r : R (Bool × En)) : R (OT × En) := bd r fun r => .ok (.d (.bool r.1), r.2)
def eAll (vs : List Nat) (di : DI) (g : DG) (tt : DT) (te : DE) : DE := fun en => bd (di en) fun p => match wipeE vs p.2 with
  | some e2 => okB (allD vs g tt te p.1 e2)
  | none => .error .stuck
section
variable {X : Cx} {W : WX} {elt tg iter : Expr} {ifs : List Expr} {scope : Scope} {own : List (Str × Nat)} {pos : Pos} {di : DI} {g : DG} {is : List Nat} {tt : DT} {te : DE} {P : Addr}
theorem all_lift {ns : List Nat} {σ : St} {H : Hp} {Q : VK} (hP : P ∈ Tabs.ts) (hs : ∀ i ∈ is, i ∈ ns) (q : liftE X.K W (eAll ns di g tt te) σ H Q) :
    tAllG (liftI X.K W di) (liftG X.K is g) (liftT X.K W0 tt) (liftE X.K W0 te) ns P σ H Q := by
  obtain ⟨G, F, τ, en, h, hp⟩ := q
  refine ⟨G, F, τ, en, h, ?_⟩
  unfold eAll at hp
  revert hp
  match di en with
  | .error .stuck => exact fun hp => hp
  | .error (.exn c e1) => exact fun hp => hp
  | .ok (xs, e1) =>
    intro hp G1 H1 J s1 h1 hJ
    refine ⟨h1.tabG hP, fun H2 tx => ?_⟩
    replace h1 := h1.tabX hP tx
    simp only [bd] at hp
    cases ew : wipeE ns e1 with
    | none => rw [ew] at hp; exact hp.elim
    | some e2 =>
      rw [ew] at hp
      dsimp only at hp
      obtain ⟨h2, _, u2⟩ := h1.wiped ew
      refine ⟨fun i ys m H' => ∃ G2 e3, Same G1 G2 ∧ RX X.K G2 F τ σ H' e3 [] [] ∧ (∀ j ∈ ns, e3[j]? = some .un) ∧ i ≤ xs.length ∧ m = xs.length - i ∧ Post X.K G2 F τ σ W ob1 (q1 Q) (okB (allD ns g tt te (xs.drop i) e3)),
        ⟨_, G1, e2, Same.refl _, h2, u2, Nat.zero_le _, rfl, by rw [List.drop_zero]; exact hp.mono s1⟩, ?_⟩
      rintro i ys m H3 ⟨G2, e3, s2, h4, u3, hi, rfl, hp2⟩
      by_cases hlt : i < xs.length
      · refine .inr ⟨hJ.go i H3 (s2.trans h4.same) hlt, fun _ H' => ∃ G2 e3, Same G1 G2 ∧ RX X.K G2 F τ σ H' e3 [] [] ∧ (∀ j ∈ ns, e3[j]? = some .un) ∧ i + 1 ≤ xs.length ∧ Post X.K G2 F τ σ W ob1 (q1 Q) (okB (allD ns g tt te (xs.drop (i + 1)) e3)), fun _ H' ⟨G2, e3, z1, z2, z3, z4, z5⟩ => ⟨xs.length - (i + 1), by omega, G2, e3, z1, z2, z3, z4, rfl, z5⟩, fun x H' y => ?_⟩
        obtain ⟨dd, G3, hd, s3, h6⟩ := hJ.yld i H3 x H' G2 F τ σ e3 [] [] hlt s2 h4 y
        have hdrop : xs.drop i = dd :: xs.drop (i + 1) := by
          obtain ⟨_, e⟩ := List.getElem?_eq_some_iff.mp hd
          rw [← e, List.drop_eq_getElem_cons hlt]
        rw [hdrop] at hp2
        simp only [allD] at hp2
        have h7 : RX X.K G3 F τ (wipe σ ns) H' e3 [x] [.d dd] := h6.acrossW u3 wipe_wipe
        refine ⟨G3, F, τ, e3, dd, h7, ?_⟩
        cases eg : g dd e3 with
        | none => rw [eg] at hp2; exact hp2.elim
        | some e4 =>
          rw [eg] at hp2
          dsimp only at hp2 ⊢
          intro σ2 off h8
          have w2 : wipe σ2 ns = wipe σ ns := by rw [wipe_off off hs, wipe_wipe]
          refine ⟨w2, G3, F, τ, e4, h8, ?_⟩
          revert hp2
          match tt e4 with
          | .error _ => exact fun hp2 => hp2.elim
          | .ok (b, e5) =>
            intro hp2 G4 H4 _ s4 h9
            simp only [nx, bd] at hp2
            cases b with
            | false =>
              rw [if_neg Bool.false_ne_true] at hp2 ⊢
              cases ew2 : wipeE ns e5 with
              | none => rw [ew2] at hp2; exact hp2.elim
              | some e6 =>
                rw [ew2] at hp2
                obtain ⟨h10, _, u6⟩ := h9.nil.wiped ew2
                exact ⟨G4, e6, s2.trans (s3.trans s4), (RX.acrossW (vs := []) (os := []) h10 u6 w2.symm), u6, by omega, hp2.mono (s3.trans s4)⟩
            | true =>
              rw [if_pos rfl] at hp2 ⊢
              refine ⟨G4, F, τ, e5, h9.nil, ?_⟩
              revert hp2
              match te e5 with
              | .error _ => exact fun hp2 => hp2.elim
              | .ok (o, e6) =>
                intro hp2 G5 H5 vs5 s5 h10 v ev
                subst ev
                dsimp only at hp2
                split at hp2
                · rename_i b e7 ew2
                  obtain ⟨h11, _, u7⟩ := RX.wiped (vs := [v]) (os := [.d (.bool b)]) h10 ew2
                  have dv := RX.dataG (vs := []) (os := []) h11
                  cases dv
                  have h12 : RX X.K G5 F τ σ H5 e7 [] [] := RX.acrossW (vs := []) (os := []) h11.nil u7 w2.symm
                  refine ⟨b, rfl, ?_⟩
                  cases b with
                  | true =>
                    rw [if_pos rfl] at hp2 ⊢
                    exact ⟨G5, e7, s2.trans (s3.trans (s4.trans s5)), h12, u7, by omega, hp2.mono (s3.trans (s4.trans s5))⟩
                  | false =>
                    rw [if_neg Bool.false_ne_true] at hp2 ⊢
                    exact hp2 G5 H5 [.bl false] (s3.trans (s4.trans s5)) (h12.withD (.bl false)) _ rfl
                · exact hp2.elim
      · have e : i = xs.length := by omega
        subst e
        refine .inl ⟨hJ.stop H3 (s2.trans h4.same), ?_⟩
        rw [List.drop_length] at hp2
        exact hp2 G2 H3 [.bl true] (Same.refl _) (h4.withD (.bl true)) _ rfl
theorem EX_all {c : Addr} {gpos p : Pos} {k : Nat}
    (hP : P ∈ Tabs.ts) (hr : Rm (k + 3) X.A) (hgl : Gl X "all") (hm : X.mg "all" = none) (hb : bootBuiltins "all" = some (.builtin "all")) (TB : GxR.TabB X.base X.mg c P) (hcode : X.env.code = .ref c) (hc : X.calm = true) (hN : X.N.Nodup) (ok : BlkOk X.N X.env.scope scope own) (gk : GOk scope) (hi : IX X W tg iter di)
    (his : ∀ i ∈ is, i ∈ own.map (·.2))
    (hg : ∀ (B : Around) (s : Shared) (H : Hp) (C : Addr) (cl : List (Str × Addr)) (cd : Value) (fp : List Addr), Rm k (B.deeper (gxE X scope cl C cd)) → GX (gxC X B s H (gxE X scope cl C cd) fp) tg is g)
    (ht : ∀ (B : Around) (s : Shared) (H : Hp) (C : Addr) (cl : List (Str × Addr)) (cd : Value) (fp : List Addr), Rm k (B.deeper (gxE X scope cl C cd)) → PTs (gxC X B s H (gxE X scope cl C cd) fp) ifs (liftT X.K W0 tt))
    (he : ∀ (B : Around) (s : Shared) (H : Hp) (C : Addr) (cl : List (Str × Addr)) (cd : Value) (fp : List Addr), Rm k (B.deeper (gxE X scope cl C cd)) → EX (gxC X B s H (gxE X scope cl C cd) fp) W0 elt te)
    (hs : ∀ v, genFold iter X.env v = pure v := by intro _; rfl)
    (hst : starEach [.GeneratorExp elt [⟨tg, iter, ifs, 0⟩] scope gpos] X.env = (false, eval (.GeneratorExp elt [⟨tg, iter, ifs, 0⟩] scope gpos) X.env) :: starEach [] X.env := by rfl) :
    EX X W (.Call (.Name "all" p) [.GeneratorExp elt [⟨tg, iter, ifs, 0⟩] scope gpos] [] pos) (eAll (own.map (·.2)) di g tt te) :=
  PE.imp (pe_allG hr hgl hm hb TB hcode hc hN ok gk hi hg ht he hs hst) fun σ H Q q => all_lift hP his q
end
end Lf
end
section
set_option Elab.async false
set_option linter.all false
set_option maxRecDepth 100000
set_option maxHeartbeats 2000000
namespace Lf
open PySem PySem.Spec L2
variable [Tabs]
/-! ### a name's own list is written where it stands -/
def ownS : Slot → Option (Bool × List OT)
  | .v (.own os) => some (false, os)
  | .p (.own os) => some (true, os)
  | _ => none
def ownAt (en : En) (i : Nat) : Option (Bool × List OT) := en[i]?.bind ownS
def mkS (b : Bool) (o : OT) : Slot := if b then .p o else .v o
def gapS (b : Bool) : Slot := if b then .p .hole else .un
section
variable {K : PySem.W.Frag} {G G' H : Hp} {F : FS} {τ σ : St} {en : En} {vs ws xs : List V} {os ps qs : List OT}
theorem RepOs.rev {M : Hp} : ∀ {os : List OT} {vs : List V} {A : List Addr}, RepOs K G M vs os A → ∃ B, RepOs K G M vs.reverse os.reverse B ∧ ∀ a, a ∈ B ↔ a ∈ A
  | [], _, _, h => by cases h; exact ⟨[], .nil, fun _ => Iff.rfl⟩
  | o :: os, _, _, h => by
    cases h with
    | cons h1 h2 h3 =>
      rename_i v vs A B
      obtain ⟨C, r, m⟩ := RepOs.rev h2
      rw [List.reverse_cons, List.reverse_cons]
      refine ⟨C ++ (A ++ []), RepOs.app r (.cons h1 .nil fun _ _ z => nomatch z) fun a ha hb => ?_, fun a => ?_⟩
      · exact h3 a (by simpa using hb) ((m a).mp ha)
      · simp only [List.append_nil, List.mem_append, m a]
        exact Or.comm
theorem RX.rev (h : RX K G F τ σ H en (xs ++ vs) (qs ++ os)) (hl : xs.length = qs.length) : RX K G F τ σ H en (xs.reverse ++ vs) (qs.reverse ++ os) := by
  obtain ⟨M, φ, B, S, E, r, d⟩ := h
  obtain ⟨A, B, rfl, r1, r2, hd⟩ := RepOs.split hl r
  obtain ⟨C, r3, m⟩ := RepOs.rev r1
  exact ⟨M, φ, C ++ B, S, E, RepOs.app r3 r2 (fun a ha => hd a ((m a).mp ha)), fun i a ha => d i a (by
    simp only [List.mem_append] at ha ⊢
    exact ha.imp (m a).mp id)⟩
theorem RepOs.setAt {M : Hp} : ∀ {os : List OT} {vs : List V} {A : List Addr} (k : Nat) {v : V} {o : OT} {C : List Addr}, RepOs K G M vs os A → RepO K G M v o C → (∀ a ∈ C, a ∉ A) → k < os.length → ∃ B, RepOs K G M (vs.set k v) (os.set k o) B ∧ ∀ a ∈ B, a ∈ C ∨ a ∈ A
  | [], _, _, k, _, _, _, h, _, _, hk => by simp at hk
  | o' :: os, _, _, 0, v, o, C, h, hv, hd, _ => by
    cases h with
    | cons h1 h2 h3 =>
      rename_i v' vs A B
      refine ⟨C ++ B, .cons hv h2 (fun a ha hb => hd a ha (List.mem_append_right _ hb)), fun a ha => ?_⟩
      rcases List.mem_append.mp ha with ha | ha
      · exact .inl ha
      · exact .inr (List.mem_append_right _ ha)
  | o' :: os, _, _, k + 1, v, o, C, h, hv, hd, hk => by
    cases h with
    | cons h1 h2 h3 =>
      rename_i v' vs A B
      obtain ⟨D, r, m⟩ := RepOs.setAt k h2 hv (fun a ha hb => hd a ha (List.mem_append_right _ hb)) (by simpa using hk)
      refine ⟨A ++ D, .cons h1 r (fun a ha hb => ?_), fun a ha => ?_⟩
      · rcases m a hb with z | z
        · exact hd a z (List.mem_append_left _ ha)
        · exact h3 a ha z
      · rcases List.mem_append.mp ha with ha | ha
        · exact .inr (List.mem_append_left _ ha)
        · exact (m a ha).imp id (List.mem_append_right _)
theorem RX.setAt {k : Nat} {v : V} {o : OT} (h : RX K G F τ σ H en (xs ++ v :: vs) (qs ++ o :: os)) (hl : xs.length = qs.length) (hk : k < qs.length) : RX K G F τ σ H en (xs.set k v ++ vs) (qs.set k o ++ os) := by
  obtain ⟨M, φ, B, S, E, r, d⟩ := h
  obtain ⟨A, B, rfl, r1, r2, hd⟩ := RepOs.split hl r
  cases r2 with
  | cons r2 r3 hd2 =>
    rename_i C B
    obtain ⟨D, r4, m⟩ := RepOs.setAt k r1 r2 (fun a ha hb => hd a hb (List.mem_append_left _ ha)) hk
    refine ⟨M, φ, D ++ B, S, E, RepOs.app r4 r3 (fun a ha hb => ?_), fun i a ha => ?_⟩
    · rcases m a ha with z | z
      · exact hd2 a z hb
      · exact hd a z (List.mem_append_right _ hb)
    · refine d i a ?_
      simp only [List.mem_append]
      rcases List.mem_append.mp ha with ha | ha
      · rcases m a ha with z | z
        · exact .inr (.inl z)
        · exact .inl z
      · exact .inr (.inr ha)
/-- OPEN a name's own list -/
theorem RX.openS {i : Nat} {b : Bool} (h : RX K G F τ σ H en vs os) (hs : ownAt en i = some (b, qs)) : ∃ a xs, σ[i]? = some (some (.ref a)) ∧ H a = some (.lst xs) ∧ xs.length = qs.length ∧
    RX K G F τ σ (er H a) (en.set i (gapS b)) (xs ++ vs) (qs ++ os) ∧
    ∀ (G2 H2 : Hp) (zs ws : List V) (ps rs : List OT), H2 a = none → zs.length = ps.length → RX K G2 F τ σ H2 (en.set i (gapS b)) (zs ++ ws) (ps ++ rs) → RX K G2 F τ σ (upd H2 a (.lst zs)) (en.set i (mkS b (.own ps))) ws rs := by
  unfold ownAt at hs
  obtain ⟨s, hs, q⟩ := Option.bind_eq_some_iff.mp hs
  have hi := (List.getElem?_eq_some_iff.mp hs).1
  unfold ownS at q
  split at q
  · rename_i os'
    cases q
    obtain ⟨x, hx, h2⟩ := h.take hs
    obtain ⟨a, xs, rfl, hH, hl, h3⟩ := h2.openL
    exact ⟨a, xs, hx, hH, hl, h3, fun G2 H2 zs ws ps rs h0 hz hr => (hr.newL hz h0).putBack hi hx⟩
  · rename_i os'
    cases q
    obtain ⟨x, hx, hτ, h2⟩ := h.takeP hs
    obtain ⟨a, xs, rfl, hH, hl, h3⟩ := h2.openL
    exact ⟨a, xs, hx, hH, hl, h3, fun G2 H2 zs ws ps rs h0 hz hr => (hr.newL hz h0).putBackP hi hx hτ⟩
  · cases q
/-- the same list written -/
theorem RX.writeS {i : Nat} {b : Bool} {a : Addr} {zs : List V} (hc : ∀ (G2 H2 : Hp) (zs ws : List V) (ps rs : List OT), H2 a = none → zs.length = ps.length → RX K G2 F τ σ H2 (en.set i (gapS b)) (zs ++ ws) (ps ++ rs) → RX K G2 F τ σ (upd H2 a (.lst zs)) (en.set i (mkS b (.own ps))) ws rs)
    (hz : zs.length = ps.length) (h : RX K G F τ σ (er H a) (en.set i (gapS b)) (zs ++ ws) (ps ++ os)) : RX K G F τ σ (upd H a (.lst zs)) (en.set i (mkS b (.own ps))) ws os := by
  have q := hc G (er H a) zs ws ps os er_same hz h
  rwa [upd_er] at q
end
/-! ### append, reverse, pop, x[k] = .. -/
def eApp (i : Nat) (da : DE) : DE := fun en => match ownAt en i with
  | none => .error .stuck
  | some _ => bd (da en) fun p => match ownAt p.2 i with
    | some (b, os) => if few os.length then .ok (.d .none, p.2.set i (mkS b (.own (os ++ [p.1])))) else .error .stuck
    | none => .error .stuck
def eRev (i : Nat) : DE := fun en => match ownAt en i with
  | some (b, os) => .ok (.d .none, en.set i (mkS b (.own os.reverse)))
  | none => .error .stuck
section
variable {X : Cx} {W : WX} {i : Nat} {o e : Expr} {da : DE} {apos cpos : Pos}
theorem EX_app (ho : PE X o (tVar i)) (ha : EX X W e da)
    (hbase : attributeBase o "append" X.env (eval o X.env) = eval o X.env := by rfl)
    (hfew : ((backTo cpos (starEach [e] X.env)).all (fun x => !x.1) && (backToKw cpos (keywordEach [] X.env)).all (fun x => x.1.isSome)
      && decide ([e].length + ([] : List Keyword).length + (if ([] : List Keyword).isEmpty then 0 else 1) < 30)) = true := by rfl)
    (hline : (apos.endLine == cpos.line) = true := by rfl) (hs : starEach [e] X.env = (false, eval e X.env) :: starEach [] X.env := by rfl) (hplain : (backTo cpos (starEach [] X.env)).any (·.1) = false := by rfl) :
    EX X W (.Call (.Attribute o "append" apos) [e] [] cpos) (eApp i da) :=
  PE.imp (pe_bm PySem.F.plainAttrs_list PySem.F.slot_list_append PySem.F.type_list_append mt_append ho (pa_cons ha pa_nil hs) hbase hfew hline hs hplain) fun σ H Q q => by
  obtain ⟨G, F, τ, en, h, hp⟩ := q
  unfold eApp at hp
  split at hp
  · exact hp.elim
  · rename_i bo h0
    obtain ⟨a, xs, hx, hH, _, _⟩ := h.openS h0
    refine ⟨.ref a, hx, .inl ⟨rfl, xs, SqL.of hH⟩, ?_⟩
    refine bindE (vs := []) (os := []) h hp fun p e1 hp1 G1 H1 v s1 h1 => ?_
    have h1 : RX X.K G1 F τ σ H1 e1 [v] [p] := h1
    dsimp only at hp1
    split at hp1
    · rename_i b os h2
      split at hp1
      · rename_i hf
        obtain ⟨a', ys, hx', hH', hl', h3, hc⟩ := h1.openS h2
        rw [hx] at hx'
        cases hx'
        refine ⟨a, ys, v, rfl, rfl, hH', by rw [hl']; exact few_lt hf, ?_⟩
        have h4 : RX X.K G1 F τ σ (er H1 a) (e1.set i (gapS b)) ((ys ++ [v]) ++ []) ((os ++ [p]) ++ []) := by simpa using h3
        have h5 := RX.writeS hc (by simp [hl']) h4
        exact hp1 G1 _ [.non] s1 (h5.withD .non) .non rfl
      · exact hp1.elim
    · exact hp1.elim
end
end Lf
end
section
set_option Elab.async false
set_option linter.all false
set_option maxRecDepth 100000
set_option maxHeartbeats 2000000
namespace Lf
open PySem PySem.Spec L2
variable [Tabs]
section
variable {K : PySem.W.Frag} {G G' H : Hp} {F : FS} {τ σ : St} {en : En} {vs ws xs : List V} {os ps qs : List OT}
/-- one of those in front is frozen where it stands -/
theorem RX.frzAt {j : Nat} {o : OT} {x : PyData} (h : RX K G F τ σ H en (xs ++ vs) (qs ++ os)) (hl : xs.length = qs.length) (hj : qs[j]? = some o) (e : frz o = some x) :
    ∃ G' u, Same G G' ∧ xs[j]? = some u ∧ Dq K G' u x ∧ RX K G' F τ σ H en (xs ++ vs) (qs.set j (.d x) ++ os) := by
  have hjq := (List.getElem?_eq_some_iff.mp hj)
  obtain ⟨hlt, ho⟩ := hjq
  have hltx : j < xs.length := by omega
  have ex : xs = xs.take j ++ (xs[j] :: xs.drop (j + 1)) := by rw [← List.drop_eq_getElem_cons hltx, List.take_append_drop]
  have eq : qs = qs.take j ++ (qs[j] :: qs.drop (j + 1)) := by rw [← List.drop_eq_getElem_cons hlt, List.take_append_drop]
  have es : qs.set j (.d x) = qs.take j ++ (.d x :: qs.drop (j + 1)) := by
    rw [List.set_eq_take_append_cons_drop, if_pos hlt]
  have h1 : RX K G F τ σ H en (xs.take j ++ (xs[j] :: (xs.drop (j + 1) ++ vs))) (qs.take j ++ (qs[j] :: (qs.drop (j + 1) ++ os))) := by
    have e1 : xs.take j ++ (xs[j] :: (xs.drop (j + 1) ++ vs)) = xs ++ vs := by rw [← List.cons_append, ← List.append_assoc, ← ex]
    have e2 : qs.take j ++ (qs[j] :: (qs.drop (j + 1) ++ os)) = qs ++ os := by rw [← List.cons_append, ← List.append_assoc, ← eq]
    rw [e1, e2]
    exact h
  have lt : (xs.take j).length = (qs.take j).length := by simp; omega
  have h2 := RX.comm h1 lt
  obtain ⟨G', sg, h3⟩ := RX.freeze (vs := (xs.drop (j + 1) ++ vs) ++ xs.take j) (os := (qs.drop (j + 1) ++ os) ++ qs.take j) (by simpa using h2) (by rw [ho]; exact e)
  have dv := h3.dataG
  refine ⟨G', xs[j], sg, List.getElem?_eq_getElem hltx, dv, ?_⟩
  have lt2 : (xs[j] :: (xs.drop (j + 1) ++ vs)).length = (OT.d x :: (qs.drop (j + 1) ++ os)).length := by
    have := h1.vlen
    simp at this ⊢
    omega
  have h4 : RX K G' F τ σ H en (xs.take j ++ (xs[j] :: (xs.drop (j + 1) ++ vs))) (qs.take j ++ (.d x :: (qs.drop (j + 1) ++ os))) := RX.comm (vs := xs[j] :: (xs.drop (j + 1) ++ vs)) (os := .d x :: (qs.drop (j + 1) ++ os)) (by simpa using h3) lt2
  rw [es]
  have e2 : xs ++ vs = xs.take j ++ (xs[j] :: (xs.drop (j + 1) ++ vs)) := by rw [← List.cons_append, ← List.append_assoc, ← ex]
  rw [e2, List.append_assoc, List.cons_append]
  exact h4
/-- data put in front -/
theorem RX.withDs : ∀ {xs : List PyData} {us : List V}, RX K G F τ σ H en vs os → DqAll K G us xs → RX K G F τ σ H en (us ++ vs) (xs.map OT.d ++ os)
  | [], _, h, k => by cases k; exact h
  | x :: xs, _, h, k => by
    cases k with
    | cons k1 k2 => exact (RX.withDs h k2).withD k1
theorem upd_self {H : Hp} {a : Addr} {o : HO} (e : H a = some o) : upd H a o = H := by
  funext b
  unfold upd
  split
  · rename_i z; rw [z, e]
  · rfl
end
/-! ### x[k] of a name's own list: the item is data from now on -/
def eIxS (i : Nat) (db : DE) : DE := fun en => match ownAt en i with
  | none => .error .stuck
  | some _ => bd (db en) fun q => match q.1, ownAt q.2 i with
    | .d (.int k), some (b, os) => (match ixN os.length k with
      | some j => (match os[j]?.bind frz with
        | some x => .ok (.d x, q.2.set i (mkS b (.own (os.set j (.d x)))))
        | none => .error .stuck)
      | none => .error .stuck)
    | _, _ => .error .stuck
section
variable {X : Cx} {W : WX} {i : Nat} {o b : Expr} {db : DE} {pos : Pos}
theorem EX_ixS (ho : PE X o (tVar i)) (hb : EX X W b db) (hs : PlainIx b := by exact fun _ _ => rfl) : EX X W (.Subscript o b pos) (eIxS i db) := PE.imp (pe_ix ix_seq ho hb hs) fun σ H Q q => by
  obtain ⟨G, F, τ, en, h, hp⟩ := q
  unfold eIxS at hp
  split at hp
  · exact hp.elim
  · rename_i bo h0
    obtain ⟨a, xs, hx, hH, _, _⟩ := h.openS h0
    refine ⟨.ref a, hx, ?_⟩
    refine bindE (vs := []) (os := []) h hp fun p e1 hp1 G1 H1 v s1 h1 => ?_
    have h1 : RX X.K G1 F τ σ H1 e1 [v] [p] := h1
    dsimp only at hp1
    split at hp1
    · rename_i k bb os eo _
      split at hp1
      · rename_i j ej
        split at hp1
        · rename_i x ex
          obtain ⟨oj, hj, ef⟩ := Option.bind_eq_some_iff.mp ex
          have dv := RX.data (vs := []) (os := []) h1 (x := .int k) rfl
          cases dv
          obtain ⟨a', ys, hx', hH', hl', h3, hc⟩ := h1.nil.openS eo
          rw [hx] at hx'
          cases hx'
          obtain ⟨G2, u, s2, hu, du, h4⟩ := RX.frzAt h3 hl' hj ef
          have h5 := RX.writeS hc (by simp [hl']) h4
          rw [upd_self hH'] at h5
          refine .inl ⟨a, ys, k, u, rfl, rfl, SqL.of hH', ?_, hp1 G2 H1 [u] (s1.trans s2) (h5.withD du) u rfl⟩
          unfold atI
          rw [hl', ej]
          exact hu
        · exact hp1.elim
      · exact hp1.elim
    · exact hp1.elim
end
/-! ### x[k] = e -/
def dStI (i : Nat) (da db : DE) : DS := fun en => bd (da en) fun p => match ownAt p.2 i with
  | none => .error .stuck
  | some _ => bd (db p.2) fun q => match q.1, ownAt q.2 i with
    | .d (.int k), some (b, os) => (match ixN os.length k with
      | some j => .ok (.nx, q.2.set i (mkS b (.own (os.set j p.1))))
      | none => .error .stuck)
    | _, _ => .error .stuck
section
variable {X : Cx} {W : WX} {i : Nat} {o b e : Expr} {da db : DE} {pos p2 : Pos}
theorem SX_stI (ho : PE X o (tVar i)) (hb : EX X W b db) (he : EX X W e da)
    (hs : swapsWithSole [.Subscript o b p2] e pos.line X.env = pure false := by rfl) (hw : swappedStores [.Subscript o b p2] e X.env = pure none := by rfl) (h1 : (assignEach [.Subscript o b p2] X.env).map (·.2) = [assign (.Subscript o b p2) X.env] := by rfl)
    (ha : ∀ v, assign (.Subscript o b p2) X.env v = (do
      let ov ← holding [v] (eval o X.env)
      let iv ← holding [v, ov] (eval b X.env)
      standAt p2
      holding [v, ov, iv] (setItem ov iv v)
      release [v, ov, iv] []) := by intro _; rfl) : SX X W (.Assign [.Subscript o b p2] e pos) (dStI i da db) :=
  PS.imp (ps_asg he (pg_sub ho hb set_list ha) hs hw h1) fun D σ H q => by
  obtain ⟨G, F, τ, en, h, hp⟩ := q
  refine bindES h hp fun p e1 hp1 G1 H1 v s1 h1 => ?_
  have h1 : RX X.K G1 F τ σ H1 e1 [v] [p] := h1
  dsimp only at hp1
  split at hp1
  · exact hp1.elim
  · rename_i bo h0
    obtain ⟨a, xs, hx, hH, _, _⟩ := h1.openS h0
    refine ⟨.ref a, hx, ?_⟩
    obtain ⟨F', h2, back⟩ := h1.hold
    refine ⟨G1, F', τ, e1, h2, ?_⟩
    revert hp1
    match db e1 with
    | .error .stuck => exact fun hp1 => hp1.elim
    | .error (.exn c e2) => exact fun hp1 G2 H2 s2 x => (hp1 G2 σ H2 (s1.trans s2) (back _ _ _ _ _ _ s2 x).nil)
    | .ok (r, e2) =>
      intro hp1 G2 H2 us s2 x w ew
      subst ew
      have h3 := back _ _ _ _ _ _ s2 x
      have h3 : RX X.K G2 F τ σ H2 e2 [v, w] [p, r] := h3
      simp only [bd] at hp1
      split at hp1
      · rename_i k bb os eo _
        split at hp1
        · rename_i j ej
          have dw := RX.data (vs := []) (os := []) (RX.right (vs := [v]) (os := [p]) rfl h3) (x := .int k) rfl
          cases dw
          have h4 : RX X.K G2 F τ σ H2 e2 [v] [p] := RX.left (vs := [v]) (os := [p]) (ws := [.int k]) rfl h3
          obtain ⟨a', ys, hx', hH', hl', h5, hc⟩ := h4.openS eo
          rw [hx] at hx'
          cases hx'
          have hlt : j < os.length := by
            have := ixN_seq ej
            exact this.2.1
          have h6 := RX.setAt (vs := []) (os := []) h5 hl' hlt
          have h7 := RX.writeS hc (by simp [hl']) h6
          exact ⟨a, ys, k, j, rfl, rfl, hH', by rw [hl']; exact ej, hp1 G2 σ _ (s1.trans s2) h7⟩
        · exact hp1.elim
      · exact hp1.elim
end
end Lf
end
section
set_option Elab.async false
set_option linter.all false
set_option maxRecDepth 100000
set_option maxHeartbeats 2000000
namespace Lf
open PySem PySem.Spec L2
variable [Tabs]
/-! ### slices -/
abbrev DP := En → R (Option Int × En)
def liftP (K : PySem.W.Frag) (W : WX) (d : DP) : TO := fun σ H Q => ∃ G F τ en, RX K G F τ σ H en [] [] ∧ Post K G F τ σ W (fun _ => []) (fun o _ H' => Q o H') (d en)
abbrev PX (X : Cx) (W : WX) (e : Option Expr) (d : DP) : Prop := PO X e (liftP X.K W d)
def pNo : DP := fun en => .ok (none, en)
def pSm (da : DE) : DP := fun en => bd (da en) fun p => match p.1 with
  | .d (.int i) => .ok (some i, p.2)
  | _ => .error .stuck
def cutA {α : Type} (xs : List α) (lo hi : Option Int) : List α := (xs.drop (HT.sIx xs.length 0 lo)).take (HT.sIx xs.length xs.length hi - HT.sIx xs.length 0 lo)
theorem dpdrop {K : PySem.W.Frag} {H : Hp} : ∀ {vs : List V} {xs : List PyData} (n : Nat), DqAll K H vs xs → DqAll K H (vs.drop n) (xs.drop n)
  | _, _, 0, h => h
  | [], [], n + 1, h => by simpa using h
  | v :: vs, x :: xs, n + 1, h => by
    cases h with
    | cons h1 h2 => exact dpdrop n h2
  | [], _ :: _, _, h => by cases h
  | _ :: _, [], _, h => by cases h
theorem dptake {K : PySem.W.Frag} {H : Hp} : ∀ {vs : List V} {xs : List PyData} (n : Nat), DqAll K H vs xs → DqAll K H (vs.take n) (xs.take n)
  | _, _, 0, _ => by simpa using DqAll.nil
  | [], [], n + 1, h => by simpa using h
  | v :: vs, x :: xs, n + 1, h => by
    cases h with
    | cons h1 h2 => exact .cons h1 (dptake n h2)
  | [], _ :: _, _, h => by cases h
  | _ :: _, [], _, h => by cases h
theorem DqAll.cut {K : PySem.W.Frag} {H : Hp} {vs : List V} {xs : List PyData} (lo hi : Option Int) (h : DqAll K H vs xs) : DqAll K H (cutV vs lo hi) (cutA xs lo hi) := by
  unfold cutV cutA
  rw [h.length]
  exact dptake _ (dpdrop _ h)
theorem dprev {K : PySem.W.Frag} {H : Hp} : ∀ {vs : List V} {xs : List PyData}, DqAll K H vs xs → DqAll K H vs.reverse xs.reverse
  | [], [], h => by simpa using h
  | v :: vs, x :: xs, h => by
    cases h with
    | cons h1 h2 =>
      rw [List.reverse_cons, List.reverse_cons]
      exact DqAll.app (dprev h2) (.cons h1 .nil)
  | [], _ :: _, h => by cases h
  | _ :: _, [], h => by cases h
def eSl (da : DE) (dl dh : DP) : DE := fun en => bd (da en) fun p => bd (dl p.2) fun l => bd (dh l.2) fun u => match frz p.1 with
  | some (.list xs) => .ok (.own ((cutA xs l.1 u.1).map .d), u.2)
  | some (.tuple xs) => .ok (.d (.tuple (cutA xs l.1 u.1)), u.2)
  | _ => .error .stuck
section
variable {K : PySem.W.Frag} {G G' H : Hp} {F : FS} {τ σ : St} {W : WX} {en : En} {vs ws xs : List V} {os ps qs : List OT}
/-- a slice's part in front -/
theorem bindP {α : Type} {ob : α → List OT} {Q : α → List V → Hp → Prop} {dp : DP} {kk : Option Int × En → R (α × En)} {Rk : Option Int → Hp → Prop} (h : RX K G F τ σ H en vs os) (hp : Post K G F τ σ W ob Q (bd (dp en) kk))
    (hk : ∀ o e1, Post K G F τ σ W ob Q (kk (o, e1)) → ∀ G' H', Same G G' → RX K G' F τ σ H' e1 vs os → Rk o H') : liftP K W dp σ H Rk := by
  obtain ⟨F', h', back⟩ := h.hold
  refine ⟨G, F', τ, en, h', ?_⟩
  revert hp
  match dp en with
  | .ok (o, e1) =>
    exact fun hp G2 H2 vs2 s2 x => hk o e1 hp G2 H2 s2 (by
      have q := back _ _ _ _ _ _ s2 x.nil
      simpa using q)
  | .error .stuck => exact fun hp => hp
  | .error (.exn c e1) => exact fun hp G2 H2 s2 x => hp G2 H2 s2 (back _ _ _ _ _ _ s2 x).nil
theorem DqAll.same {H H' : Hp} {xs : List PyData} {us : List V} (e : Same H H') (h : DqAll K H us xs) : DqAll K H' us xs := dps_same e _ _ h
/-- frozen data at the front, its list -/
theorem RX.newD {p : Addr} {us : List V} {xs : List PyData} (h : RX K G F τ σ H en [] []) (k : DqAll K G us xs) (hp : H p = none) : RX K G F τ σ (upd H p (.lst us)) en [.ref p] [.own (xs.map .d)] := by
  have q := h.withDs k
  rw [List.append_nil, List.append_nil] at q
  exact q.newL0 hp
theorem RX.newT {p : Addr} {us : List V} {xs : List PyData} (h : RX K G F τ σ H en [] []) (k : DqAll K G us xs) (hp : H p = none) : ∃ G', Same G G' ∧ RX K G' F τ σ (upd H p (.tup us)) en [.ref p] [.d (.tuple xs)] := by
  obtain ⟨s3, h3⟩ := h.newG (u := .tup us) hp
  exact ⟨_, s3, h3.withD (.tup (SqT.of upd_same) (dps_same s3 _ _ k))⟩
end
section
variable {X : Cx} {W : WX} {a b e : Expr} {da db : DE} {lo hi : Option Expr} {dl dh : DP} {pos p2 : Pos}
theorem PX_no : PX X W none pNo := ⟨fun pins s σ H Q I q => po_none.run pins s σ H Q I (by
  obtain ⟨G, F, τ, en, h, hp⟩ := q
  exact hp G H [] (Same.refl _) h)⟩
theorem PX_sm (ha : EX X W e da) : PX X W (some e) (pSm da) := ⟨fun pins s σ H Q I q => (po_some ha).run pins s σ H Q I (by
  obtain ⟨G, F, τ, en, h, hp⟩ := q
  refine bindE (vs := []) (os := []) h hp fun o e1 hp1 G1 H1 v s1 h1 => ?_
  have h1 : RX X.K G1 F τ σ H1 e1 [v] [o] := h1
  dsimp only at hp1
  split at hp1
  · rename_i i _
    have dv := RX.data (vs := []) (os := []) h1 (x := .int i) rfl
    cases dv
    exact ⟨i, rfl, hp1 G1 H1 [] s1 h1.nil⟩
  · exact hp1.elim)⟩
theorem EX_sl (ha : EX X W a da) (hl : PX X W lo dl) (hh : PX X W hi dh) : EX X W (.Subscript a (.Slice lo hi none p2) pos) (eSl da dl dh) :=
  PE.imp (pe_slice (sl_list.or sl_tupA) ha hl hh) fun σ H Q q => by
  obtain ⟨G, F, τ, en, h, hp⟩ := q
  refine bindE h hp fun o e1 hp1 G1 H1 v s1 h1 => ?_
  have h1 : RX X.K G1 F τ σ H1 e1 [v] [o] := h1
  refine bindP h1 (hp1.mono s1) fun l e2 hp2 G2 H2 s2 h2 => ?_
  refine bindP h2 (hp2.mono s2) fun u e3 hp3 G3 H3 s3 h3 => ?_
  dsimp only at hp3
  split at hp3
  · rename_i xs ex
    obtain ⟨G4, s4, h4⟩ := RX.freeze (vs := []) (os := []) h3 ex
    have dv := h4.dataG
    cases dv with
    | lst hs hd => exact .inl ⟨_, _, rfl, h4.same.seq hs, fun p np => hp3 G4 _ [.ref p] (s3.trans s4) (RX.newD h4.nil (hd.cut l u) np) _ rfl⟩
  · rename_i xs ex
    obtain ⟨G4, s4, h4⟩ := RX.freeze (vs := []) (os := []) h3 ex
    have dv := h4.dataG
    cases dv with
    | tup hs hd =>
      refine .inr ⟨_, _, rfl, sqT_same h4.same hs, fun hw => ?_, fun _ p np => ?_⟩
      · have ec : cutA xs l u = xs := by
          unfold cutA
          rw [← hd.length, hw.1, hw.2]
          simp [hd.length]
        rw [ec] at hp3
        exact hp3 G4 H3 [.ref _] (s3.trans s4) (h4.nil.withD (.tup hs hd)) _ rfl
      · obtain ⟨G5, s5, h5⟩ := RX.newT h4.nil (hd.cut l u) np
        exact hp3 G5 _ [.ref p] (s3.trans (s4.trans s5)) h5 _ rfl
  · exact hp3.elim
/-! ### xs[::-1] of a list -/
end
/-! ### list + list, tuple + tuple -/
def rCatL (K : PySem.W.Frag) : R2 := fun x y H Q => ∃ l b xs zs, x = .ref l ∧ y = .ref b ∧ SqL K H l xs ∧ SqL K H b zs ∧ xs.length + zs.length ≤ sizeLine ∧ ∀ p, H p = none → Q (.ref p) (upd H p (.lst (xs ++ zs)))
theorem op_catL {X : Cx} : OpR X (binaryOp .Add) (rCatL X.K) := by
  intro pins s σ H x y v u Q I rx ry h
  obtain ⟨l, b, xs, zs, rfl, rfl, hA, hB, hz, q⟩ := h
  cases rx
  cases ry
  obtain ⟨its, r, pl, hz1⟩ := I.list hA
  obtain ⟨its2, r2, pl2, hz2⟩ := I.list hB
  have e1 := r.length
  have e2 := r2.length
  obtain ⟨⟨cls, dd, data, sl⟩, n, ho, hc, hd1, hd⟩ := pl
  obtain ⟨⟨cls2, dd2, data2, sl2⟩, n2, ho2, hc2, hd3, hd2⟩ := pl2
  simp only at hc hd hc2 hd2
  subst hc hd hc2 hd2
  have e : its.toArray ++ its2.toArray = (its ++ its2).toArray := by simp
  refine PySem.concat_meets ⟨_, ho, rfl⟩ ⟨_, ho2, rfl⟩ PySem.noFill_list_add PySem.seq_list_add PySem.F.slot_list_add PySem.F.entry_list_add (PySem.F.args_list_add_2 _ _) (PyProof.Rows.list_addW l b its.toArray its2.toArray n n2 dd dd2 sl sl2 (by rw [List.size_toArray, List.size_toArray]; omega)) ⟨ho, ho2, ?_⟩
  rw [e]
  exact ⟨.ref _, _, I.lnew (t' := s.toks) (r.append r2) (by rw [List.length_append]; omega), rfl, q _ I.fresh⟩
def eCat (da db : DE) : DE := fun en => bd (da en) fun p => bd (db p.2) fun q => match frz p.1, frz q.1 with
  | some (.list xs), some (.list ys) => if few (xs ++ ys).length then .ok (.own ((xs ++ ys).map .d), q.2) else .error .stuck
  | some (.tuple xs), some (.tuple ys) => if few (xs ++ ys).length then .ok (.d (.tuple (xs ++ ys)), q.2) else .error .stuck
  | _, _ => .error .stuck
section
variable {X : Cx} {W : WX} {a b e : Expr} {da db : DE} {pos : Pos}
theorem op_catLA : OpR X (binaryOp .Add) (fun x y H Q => rCatL X.K x y H Q ∨ rCatA X.K x y H Q) := fun pins s σ H x y v u Q I rx ry h => by
  rcases h with h | h
  · exact op_catL pins s σ H x y v u Q I rx ry h
  · exact op_catA pins s σ H x y v u Q I rx ry h
theorem EX_cat (ha : EX X W a da) (hb : EX X W b db) : EX X W (.BinOp a .Add b pos) (eCat da db) := PE.imp (pe_op op_catLA ha hb) fun σ H Q q => by
  obtain ⟨G, F, τ, en, h, hp⟩ := q
  refine bindE h hp fun o e1 hp1 G1 H1 v s1 h1 => ?_
  refine bindE (vs := [v]) (os := [o]) h1 (hp1.mono s1) fun p e2 hp2 G2 H2 w s2 h2 => ?_
  have h2 : RX X.K G2 F τ σ H2 e2 [v, w] [o, p] := h2
  dsimp only at hp2
  split at hp2
  · rename_i xs ys ex ey
    split at hp2
    · rename_i hf
      obtain ⟨G4, s4, h4⟩ := RX.freeze (vs := [w]) (os := [p]) h2 ex
      have dv := h4.dataG
      obtain ⟨G5, s5, h5⟩ := RX.freeze (vs := []) (os := []) (RX.right (vs := [v]) (os := [OT.d (.list xs)]) rfl h4) ey
      have dw := h5.dataG
      cases dv with
      | lst hs hd =>
        cases dw with
        | lst hs2 hd2 =>
          have hd' := hd.same s5
          refine .inl ⟨_, _, _, _, rfl, rfl, h5.same.seq (s5.seq hs), h5.same.seq hs2, ?_, fun p np => hp2 G5 _ [.ref p] (s2.trans (s4.trans s5)) (RX.newD h5.nil (hd'.app hd2) np) _ rfl⟩
          have := few_le hf
          rw [List.length_append, ← hd.length, ← hd2.length] at this
          exact this
    · exact hp2.elim
  · rename_i xs ys ex ey
    split at hp2
    · rename_i hf
      obtain ⟨G4, s4, h4⟩ := RX.freeze (vs := [w]) (os := [p]) h2 ex
      have dv := h4.dataG
      obtain ⟨G5, s5, h5⟩ := RX.freeze (vs := []) (os := []) (RX.right (vs := [v]) (os := [OT.d (.tuple xs)]) rfl h4) ey
      have dw := h5.dataG
      cases dv with
      | tup hs hd =>
        cases dw with
        | tup hs2 hd2 =>
          have hd' := hd.same s5
          rename_i va vb
          refine .inr ⟨_, _, _, _, rfl, rfl, sqT_same h5.same (sqT_same s5 hs), sqT_same h5.same hs2, ?_, fun e0 => ?_, fun _ e0 => ?_, fun _ _ p np => ?_⟩
          · have := few_le hf
            rw [List.length_append, ← hd.length, ← hd2.length] at this
            exact this
          · have : xs = [] := by
              have := hd.length
              rw [e0] at this
              exact List.length_eq_zero_iff.mp this.symm
            subst this
            exact hp2 G5 H2 [.ref _] (s2.trans (s4.trans s5)) (h5.nil.withD (.tup hs2 hd2)) _ rfl
          · have : ys = [] := by
              have := hd2.length
              rw [e0] at this
              exact List.length_eq_zero_iff.mp this.symm
            subst this
            rw [List.append_nil] at hp2
            exact hp2 G5 H2 [.ref _] (s2.trans (s4.trans s5)) (h5.nil.withD (.tup (sqT_same s5 hs) hd')) _ rfl
          · obtain ⟨G6, s6, h6⟩ := RX.newT h5.nil (hd'.app hd2) np
            exact hp2 G6 _ [.ref p] (s2.trans (s4.trans (s5.trans s6))) h6 _ rfl
    · exact hp2.elim
  · exact hp2.elim
/-! ### list(..), tuple(..), -x -/
def eLs (da : DE) : DE := fun en => bd (da en) fun p => match (frz p.1).bind dItems with
  | some xs => .ok (.own (xs.map .d), p.2)
  | none => .error .stuck
def eTp (da : DE) : DE := fun en => bd (da en) fun p => match (frz p.1).bind dItems with
  | some xs => .ok (.d (.tuple xs), p.2)
  | none => .error .stuck
theorem EX_tp {p : Pos} (hg : Gl X "tuple") (hm : X.mg "tuple" = none) (hbt : bootBuiltins "tuple" = some (.type "tuple")) (ha : EX X W a da) (he : starEach (a :: []) X.env = (false, eval a X.env) :: starEach [] X.env := by rfl) (hpl : (backTo pos (starEach [] X.env)).any (·.1) = false := by rfl) : EX X W (.Call (.Name "tuple" p) [a] [] pos) (eTp da) :=
  PE.imp (pe_callTy call_tuple_of hg hm hbt (pa_cons ha pa_nil he) (he := he) (hpl := hpl)) fun σ H Q q => by
  obtain ⟨G, F, τ, en, h, hp⟩ := q
  refine bindE h hp fun o e1 hp1 G1 H1 v s1 h1 => ?_
  have h1 : RX X.K G1 F τ σ H1 e1 [v] [o] := h1
  dsimp only at hp1
  cases ex : (frz o).bind dItems with
  | none => rw [ex] at hp1; exact hp1.elim
  | some xs =>
    rw [ex] at hp1
    obtain ⟨x, e1, e2⟩ := Option.bind_eq_some_iff.mp ex
    obtain ⟨G2, s2, h2⟩ := RX.freeze (vs := []) (os := []) h1 e1
    have dv := h2.dataG
    cases x with
    | list ys =>
      cases e2
      cases dv with
      | lst hs hd => exact ⟨_, _, rfl, .inl ⟨h2.same.seq hs, fun p np => let ⟨G3, s3, h3⟩ := RX.newT h2.nil hd np; hp1 G3 _ [.ref p] (s1.trans (s2.trans s3)) h3 _ rfl⟩⟩
    | tuple ys =>
      cases e2
      cases dv with
      | tup hs hd => exact ⟨_, _, rfl, .inr ⟨sqT_same h2.same hs, hp1 G2 H1 [.ref _] (s1.trans s2) (h2.nil.withD (.tup hs hd)) _ rfl⟩⟩
    | _ => cases e2
def eNeg (da : DE) : DE := fun en => bd (da en) fun p => match p.1 with
  | .d (.int i) => .ok (.d (.int (-i)), p.2)
  | _ => .error .stuck
theorem EX_neg (ha : EX X W a da) : EX X W (.UnaryOp .USub a pos) (eNeg da) := PE.imp (pe_un un_neg ha) fun σ H Q q => by
  obtain ⟨G, F, τ, en, h, hp⟩ := q
  refine bindE h hp fun o e1 hp1 G1 H1 v s1 h1 => ?_
  have h1 : RX X.K G1 F τ σ H1 e1 [v] [o] := h1
  dsimp only at hp1
  split at hp1
  · rename_i i _
    have dv := RX.data (vs := []) (os := []) h1 (x := .int i) rfl
    cases dv
    exact ⟨i, rfl, hp1 G1 H1 [.int (-i)] s1 (h1.nil.withD (.int _)) _ rfl⟩
  · exact hp1.elim
end
end Lf
end
section
set_option Elab.async false
set_option linter.all false
set_option maxRecDepth 100000
set_option maxHeartbeats 2000000
namespace Lf
open PySem PySem.Spec L2
/-! ### for x in a name's own list, its items lent -/
end Lf
end
section
set_option Elab.async false
set_option linter.all false
set_option maxRecDepth 100000
set_option maxHeartbeats 2000000
namespace Lf
open PySem PySem.Spec L2
end Lf
end
section
set_option Elab.async false
set_option linter.all false
set_option maxRecDepth 100000
set_option maxHeartbeats 2000000
namespace Lf
open PySem PySem.Spec L2
variable [Tabs]
/-! ### a name's thing read where it stands, the answer flat -/
section
variable {K : PySem.W.Frag} {G H : Hp} {F : FS} {τ σ : St} {en : En} {vs : List V} {os : List OT}
theorem RX.peekS {i : Nat} {x : PyData} (h : RX K G F τ σ H en vs os) (hs : sVar i en = some x) : ∃ v, σ[i]? = some (some v) ∧ Dq K H v x := by
  unfold sVar at hs
  split at hs
  · rename_i o e
    exact h.peek (.inl e) hs
  · rename_i o e
    exact h.peek (.inr e) hs
  · cases hs
end
section
variable {X : Cx} {W : WX} {i : Nat} {a b : Expr} {da db : DE} {pos p : Pos}
theorem tV_lift {K : PySem.W.Frag} {σ : St} {H : Hp} {Q : Bool → Hp → Prop} (q : liftT K W (tV da) σ H Q) : liftE K W da σ H fun x H1 => ∃ c, x = .bl c ∧ Q c H1 := by
  obtain ⟨G, F, τ, en, h, hp⟩ := q
  refine ⟨G, F, τ, en, h, ?_⟩
  unfold tV at hp
  revert hp
  match da en with
  | .ok (o, e1) =>
    intro hp G' H' vs s x v ev
    subst ev
    simp only [bd] at hp
    split at hp
    · rename_i bb
      cases RX.data (vs := []) (os := []) x rfl
      exact ⟨bb, rfl, hp G' H' [] s (RX.nil (vs := [.bl bb]) (os := [OT.d (.bool bb)]) x)⟩
    · exact hp.elim
  | .error .stuck => exact fun hp => hp
  | .error (.exn c e1) => exact fun hp => hp
/-- as a value, as a test -/
theorem both_cmp {op : CmpOp} {r : R2} {ta tb : TE} (ho : OpR X (compareOp op) r) (ha : PE X a ta) (hb : PE X b tb) (hm : behindInMarks op b = false) (k : ∀ σ H Q, liftE X.K W da σ H Q → tOp r ta tb σ H Q) :
    EX X W (.Compare a [op] [b] pos) da ∧ TX X W (.Compare a [op] [b] pos) (tV da) :=
  ⟨PE.imp (pe_cmpR ho ha hb hm) k, PT.imp (pt_cmpR ho ha hb hm) fun σ H Q q => k σ H _ (tV_lift q)⟩
theorem both_chn {c : Expr} {tc : TE} {op op' : CmpOp} {r r' : R2} {ta tb : TE} (ho : OpR X (compareOp op) r) (ho' : OpR X (compareOp op') r') (ha : PE X a ta) (hb : PE X b tb) (hc : PE X c tc) (hm : lastMarks [op, op'] [b, c] = false) (k : ∀ σ H Q, liftE X.K W da σ H Q → tChain r r' ta tb tc σ H Q) :
    EX X W (.Compare a [op, op'] [b, c] pos) da ∧ TX X W (.Compare a [op, op'] [b, c] pos) (tV da) :=
  ⟨PE.imp (pe_chain ho ho' ha hb hc hm) k, PT.imp (pt_chain ho ho' ha hb hc hm) fun σ H Q q => k σ H _ (tV_lift q)⟩
/-! ### repr -/
def showOk (x : PyData) : Bool := match x with
  | .list xs => PyData.showable (.list xs) && !PyData.hasDict (.list xs) && decide ((PyData.shown (.list xs)).length ≤ 100000) && decide (PyData.depth (.list xs) ≤ 30)
  | .tuple xs => PyData.showable (.tuple xs) && !PyData.hasDict (.tuple xs) && decide ((PyData.shown (.tuple xs)).length ≤ 100000) && decide (PyData.depth (.tuple xs) ≤ 30)
  | _ => false
def eRep (da : DE) : DE := fun en => bd (da en) fun p => match frz p.1 with
  | some x => if showOk x = true then .ok (.d (.str (PyData.shown x)), p.2) else .error .stuck
  | none => .error .stuck
/-! ### type(x) is T -/
def tyOf : PyData → Option String
  | .none => some "NoneType"
  | .bool _ => some "bool"
  | .int _ => some "int"
  | .str _ => some "str"
  | .list _ => some "list"
  | .tuple _ => some "tuple"
  | .dict _ => some "dict"
theorem tyB_of {K : PySem.W.Frag} {H : Hp} {v : V} {x : PyData} {T : String} (h : Dq K H v x) (e : tyOf x = some T) : TyB K H v T := by
  cases x with
  | none => cases h; cases e; exact .non
  | bool b => cases h; cases e; exact .bl b
  | int i => cases h; cases e; exact .int i
  | str s => cases h; cases e; exact .str s
  | list xs => cases e; cases h with | lst hs _ => exact .lst hs
  | tuple xs => cases e; cases h with | tup hs _ => exact .tup hs
  | dict _ =>
    cases e
    cases h with
    | dic q => exact .dK q
def eTyIs (T : String) (da : DE) : DE := fun en => bd (da en) fun p => match (frz p.1).bind tyOf with
  | some t => .ok (.d (.bool (decide (t = T))), p.2)
  | none => .error .stuck
def eTyNot (T : String) (da : DE) : DE := fun en => bd (da en) fun p => match (frz p.1).bind tyOf with
  | some t => .ok (.d (.bool (!decide (t = T))), p.2)
  | none => .error .stuck
theorem BX_tyIs {T : Str} {t : String} {p1 p2 p3 p4 : Pos} (hg : Gl X "type") (hm : X.mg "type" = none) (ha : EX X W a da) (hgT : Gl X T) (hmT : X.mg T = none) (hv : bootBuiltins T = some (.type t)) (hn : T ≠ "__name__" := by decide) (hd : (T == ("__debug__" : Str)) = false := by decide)
    (he : starEach (a :: []) X.env = (false, eval a X.env) :: starEach [] X.env := by rfl) (hpl : (backTo p2 (starEach [] X.env)).any (·.1) = false := by rfl) (hmk : behindInMarks .Is (.Name T p3) = false := by rfl) : EX X W (.Compare (.Call (.Name "type" p1) [a] [] p2) [.Is] [.Name T p3] p4) (eTyIs t da) ∧ TX X W (.Compare (.Call (.Name "type" p1) [a] [] p2) [.Is] [.Name T p3] p4) (tV (eTyIs t da)) :=
  both_cmp op_isTyB (pe_callTy call_type1 hg hm (by decide +kernel) (pa_cons ha pa_nil he) (he := he) (hpl := hpl)) (pe_bltn hgT hmT hv (v := .ty t) rfl hn hd) hmk fun σ H Q q => by
  obtain ⟨G, F, τ, en, h, hp⟩ := q
  refine bindE h hp fun o e1 hp1 G1 H1 v s1 h1 => ?_
  have h1 : RX X.K G1 F τ σ H1 e1 [v] [o] := h1
  dsimp only at hp1
  split at hp1
  · rename_i t' ex
    obtain ⟨x, e2, e3⟩ := Option.bind_eq_some_iff.mp ex
    exact ⟨v, t', rfl, tyB_of (RX.data (vs := []) (os := []) h1 e2) e3, t', t, rfl, rfl, hp1 G1 H1 [.bl _] s1 (h1.nil.withD (.bl _)) _ rfl⟩
  · exact hp1.elim
theorem BX_tyNot {T : Str} {t : String} {p1 p2 p3 p4 : Pos} (hg : Gl X "type") (hm : X.mg "type" = none) (ha : EX X W a da) (hgT : Gl X T) (hmT : X.mg T = none) (hv : bootBuiltins T = some (.type t)) (hn : T ≠ "__name__" := by decide) (hd : (T == ("__debug__" : Str)) = false := by decide)
    (he : starEach (a :: []) X.env = (false, eval a X.env) :: starEach [] X.env := by rfl) (hpl : (backTo p2 (starEach [] X.env)).any (·.1) = false := by rfl) (hmk : behindInMarks .IsNot (.Name T p3) = false := by rfl) : EX X W (.Compare (.Call (.Name "type" p1) [a] [] p2) [.IsNot] [.Name T p3] p4) (eTyNot t da) ∧ TX X W (.Compare (.Call (.Name "type" p1) [a] [] p2) [.IsNot] [.Name T p3] p4) (tV (eTyNot t da)) :=
  both_cmp op_notTyB (pe_callTy call_type1 hg hm (by decide +kernel) (pa_cons ha pa_nil he) (he := he) (hpl := hpl)) (pe_bltn hgT hmT hv (v := .ty t) rfl hn hd) hmk fun σ H Q q => by
  obtain ⟨G, F, τ, en, h, hp⟩ := q
  refine bindE h hp fun o e1 hp1 G1 H1 v s1 h1 => ?_
  have h1 : RX X.K G1 F τ σ H1 e1 [v] [o] := h1
  dsimp only at hp1
  split at hp1
  · rename_i t' ex
    obtain ⟨x, e2, e3⟩ := Option.bind_eq_some_iff.mp ex
    exact ⟨v, t', rfl, tyB_of (RX.data (vs := []) (os := []) h1 e2) e3, t', t, rfl, rfl, hp1 G1 H1 [.bl _] s1 (h1.nil.withD (.bl _)) _ rfl⟩
  · exact hp1.elim
/-! ### a <= b <= c -/
def eChn (f g : PyData → PyData → Option PyData) (da db dc : DE) : DE := fun en => bd (da en) fun p => bd (db p.2) fun q => match frz p.1, frz q.1 with
  | some x, some y => (match f x y with
    | some (.bool true) => bd (dc q.2) fun r => (match frz r.1 with
      | some z => (match g y z with
        | some w => .ok (.d w, r.2)
        | none => .error .stuck)
      | none => .error .stuck)
    | some (.bool false) => .ok (.d (.bool false), q.2)
    | _ => .error .stuck)
  | _, _ => .error .stuck
theorem BX_chn {c : Expr} {dc : DE} {op op' : CmpOp} {f g : PyData → PyData → Option PyData} {r r' : R2} (ho : OpR X (compareOp op) r) (ho' : OpR X (compareOp op') r') (hf : Flat2 X.K r f) (hf' : Flat2 X.K r' g) (ha : EX X W a da) (hb : EX X W b db) (hc : EX X W c dc)
    (hm : lastMarks [op, op'] [b, c] = false := by with_unfolding_all rfl) : EX X W (.Compare a [op, op'] [b, c] pos) (eChn f g da db dc) ∧ TX X W (.Compare a [op, op'] [b, c] pos) (tV (eChn f g da db dc)) :=
  both_chn ho ho' ha hb hc hm fun σ H Q q => by
  obtain ⟨G, F, τ, en, h, hp⟩ := q
  refine bindE h hp fun o e1 hp1 G1 H1 v s1 h1 => ?_
  refine bindE (vs := [v]) (os := [o]) h1 (hp1.mono s1) fun p e2 hp2 G2 H2 w s2 h2 => ?_
  have h2 : RX X.K G2 F τ σ H2 e2 [v, w] [o, p] := h2
  dsimp only at hp2
  split at hp2
  · rename_i x y ex ey
    have dx := RX.data (vs := [w]) (os := [p]) h2 ex
    split at hp2
    · rename_i ez
      obtain ⟨G3, s3, h3⟩ := RX.freeze (vs := []) (os := []) (RX.right (vs := [v]) (os := [o]) rfl h2) ey
      have dy := h3.dataG
      refine hf _ _ _ _ _ _ _ dx (dp_same h3.same _ _ dy) ez fun u hu => ?_
      obtain rfl : u = .bl true := by cases hu G; rfl
      refine ⟨true, rfl, ?_⟩
      rw [if_pos rfl]
      refine bindE (vs := [w]) (os := [.d y]) h3 (hp2.mono (s2.trans s3)) fun r e3 hp3 G4 H4 t s4 h4 => ?_
      have h4 : RX X.K G4 F τ σ H4 e3 [w, t] [.d y, r] := h4
      dsimp only at hp3
      split at hp3
      · rename_i z ez2
        split at hp3
        · rename_i u2 eu2
          have dy4 := RX.data (vs := [t]) (os := [r]) h4 (x := y) rfl
          have dz := RX.data (vs := []) (os := []) (RX.right (vs := [w]) (os := [OT.d y]) rfl h4) ez2
          exact hf' _ _ _ _ _ _ _ dy4 dz eu2 fun u3 hu3 => hp3 G4 H4 [u3] s4 (RX.withD h4.nil (hu3 G4)) u3 rfl
        · exact hp3.elim
      · exact hp3.elim
    · rename_i ez
      have dy := RX.data (vs := []) (os := []) (RX.right (vs := [v]) (os := [o]) rfl h2) ey
      refine hf _ _ _ _ _ _ _ dx dy ez fun u hu => ?_
      obtain rfl : u = .bl false := by cases hu G; rfl
      refine ⟨false, rfl, ?_⟩
      rw [if_neg Bool.false_ne_true]
      exact hp2 G2 H2 [.bl false] s2 (h2.nil.withD (.bl _)) _ rfl
    · exact hp2.elim
  · exact hp2.elim
end
end Lf
end
section
set_option Elab.async false
set_option linter.all false
set_option maxRecDepth 100000
set_option maxHeartbeats 2000000
namespace Lf
open PySem PySem.Spec L2
variable [Tabs]
/-! ### calls by keywords alone -/
abbrev KX (X : Cx) (W : WX) (kws : List Keyword) (d : DA) : Prop := PK X kws (liftA X.K W d)
end Lf
end
section
set_option Elab.async false
set_option linter.all false
set_option maxRecDepth 100000
set_option maxHeartbeats 2000000
namespace Lf
open PySem PySem.Spec L2
open PyProof.Rows (IntsAre)
section
variable [Tabs] {P : Program} {w : World} {K : PySem.W.Frag} {mg : Str → Option Value} {base : Heap}
/-- a def keeps the function of its body -/
theorem def_okD {x qual : Str} {params : Arguments} {bd : List Stmt} {scope : Scope} {f : Addr} {fd : FuncData} {N ps : List Str} {k n : Nat} {fl : List Bool} {body : DS} (F : FunD K x qual params bd scope [] [] f fd) (S : FnScope N ps scope) (hfl : ps.length = fl.length) (hN : N.length = fl.length + n)
    (hb : ∀ (c : Addr) (A : Around) (out : List Env) (s : Shared) (H : Hp) (E : XK), (∀ p : He.Defn, He.fAd K p = f → He.codeOf K p = c) → Rm k (A.deeper (PyProof.Rows.envOfC qual scope s.heap.objs.size f (.ref c))) →
      SXs (cxOf (L2N.CX P w) P w K mg base N qual scope f (.ref c) A out s H E) (WD E) bd body) : DefOk P w K mg base (k + 1) f fd ps (dFn fl n body) := by
  refine ⟨fun A out s H args us vs Q E hr hgd e0 bt rv hsp => ?_⟩
  obtain ⟨oc, od, dV, kV, doc, pm, an, cdv, ct, osl, rfl, lk, hcd, _, _⟩ := F.ex
  obtain ⟨c, rfl⟩ := He.codeIn_ref hcd
  have hc : ∀ p : He.Defn, He.fAd K p = f → He.codeOf K p = c := fun p hp => He.codeOf_eq (p := p) (by rw [hp]; exact lk) rfl
  obtain ⟨hv, G, F', os, hFb, hx, hp⟩ := hsp
  have keep0 : ∀ b o, base.get? b = some o → s.heap.get? b = some o := fun b o e => (e0.bs b o e).1
  have KX := e0.mod.kin.keeps keep0
  have lim := e0.mod.nolimit.keeps keep0
  have kinds : ∀ y ∈ ps.zip us, scope.names.lookup y.1 = some .local ∨ (scope.names.lookup y.1 = some .cell ∧ ((PySem.cellsFrom (s.heap.objs.size + 1) scope.names []).lookup y.1).isSome = true) := by
    rintro ⟨nm, u⟩ hy
    rcases S.par nm (List.of_mem_zip hy).1 with q | q
    · exact .inl q
    · exact .inr ⟨q, PySem.W.cellsFrom_some _ _ _ (.inl q)⟩
  refine codeAny_call_function hr.depth (KX _ _ lk) rfl S.co S.gen rfl (PySem.W.codeRec_of KX hcd) (bt _ _ _ _ ?_)
  refine wpAny_newFunctionEnv_cells S.kind kinds fun env he s1 ic => ?_
  subst he
  refine ⟨lim.keeps ic.toInCall.keep, codeAny_func ?_⟩
  have I := inv_start (CX := L2N.CX P w) (N := N) (E := E) S hr.hd e0 hv rv ic
  have body_t := hb c A out s H E hc ⟨hr.deeper _, by rw [guards_deeper]; exact hgd⟩
  have start_t : liftS K (WD E) body { nx := fun _ H' => Q .non H', rt := Q } (L2.start N vs) H := by
    unfold dFn at hp
    by_cases hl : os.length = fl.length
    · rw [if_pos hl] at hp
      have h2 := hx.start (N := N) (n := n) hl hN
      refine ⟨G, F', _, _, h2, ?_⟩
      generalize body (mkEn fl os ++ List.replicate n .un) = r at hp ⊢
      have give : ∀ (o : OT) (en : En), (match Lf.fin o (outs fl en) with
          | .ok (o, os') => ∀ G' H' v, Same G G' → RX K G' F' [] [] H' [] (v :: vs) (o :: os') → Q v H'
          | .error .stuck => False
          | .error (.exn c _) => ∀ G' H', Same G G' → RX K G' F' [] [] H' [] [] [] → E (clV K c) none H') → ∀ G' σ' H' v, Same G G' → RX K G' F' (L2.start N vs) σ' H' en [v] [o] → Q v H' := fun o en hq G' σ' H' v s x => by
        have y := x.leave (fl := fl) (by rw [hv, hfl])
        cases ef : Lf.fin o (outs fl en) with
        | error z =>
          unfold Lf.fin at ef hq
          split at ef
          · cases ef
          · split at ef
            · cases ef
            · rename_i n1 n2
              rw [if_neg n1, if_neg n2] at hq
              exact hq.elim
        | ok z =>
          obtain ⟨o', os'⟩ := z
          rw [ef] at hq
          obtain ⟨G2, sg, y2⟩ := RX.fin y ef
          rcases sg with sg | sg
          · exact hq G2 H' v (s.trans sg) y2
          · exact hq G2 H' v (by rw [← hFb]; exact sg) y2
      match r, hp with
      | .ok (.rt o, en), hp => exact give o en hp
      | .ok (.nx, en), hp => exact fun G' σ' H' s x => give (.d .none) en hp G' σ' H' .non s (RX.withD x .non)
      | .error (.exn c en), hp =>
        intro G' σ' H' s x
        obtain ⟨M, φ, B, S, E, r, d⟩ := x
        exact hp G' H' s ⟨M, fun _ => [], [], S, ⟨rfl, fun i s hs => by simp at hs, fun _ _ => rfl, fun _ _ _ a ha => by simp at ha⟩, .nil, fun _ _ z => nomatch z⟩
    · rw [if_neg hl] at hp
      exact hp.elim
  refine wpAny_mono (body_t.run [] s1 (L2.start N vs) H _ I start_t) (fun fl s' hs => ?_) fun e s' hs => hs
  match fl, hs with
  | .ret u, ⟨v, σ', H', J, rv, q⟩ => exact ⟨v, H', J.os, J.bare, J.base, J.hok, rv, q⟩
  | .next, ⟨σ', H', J, q⟩ => exact ⟨.non, H', J.os, J.bare, J.base, J.hok, rfl, q⟩
  | .brk, ⟨_, _, _, q⟩ => exact False.elim q
  | .cont, ⟨_, _, _, q⟩ => exact False.elim q
end
/-! ### the law's end -/
/-- what is tracked when the law begins: empty tables, and the script where it isn't the top's -/
def H0 (T : List Addr) (a : Addr) (inK : Bool) (ob : Obj) (xs : List V) : Hp := fun b => if b ∈ T then some (.tbl #[]) else if b = a ∧ inK = false then some (.frz ob (.lst xs)) else none
theorem ints_dp {K : PySem.W.Frag} {G : Hp} : ∀ ns : List Int, DqAll K G (ns.map V.int) (ns.map PyData.int)
  | [] => .nil
  | n :: ns => .cons (.int n) (ints_dp ns)
theorem law_callD {P : Program} {w : World} {K : PySem.W.Frag} {mg mb : Str → Option Value} {k : Nat} {fa a : Addr} {cs : List (Addr × Addr)} {fd : FuncData} {x : Str} {g : DF} {s1 : Shared} {us : List Value} {ns : List Int}
    (KX : K.In s1.heap) (hns : s1.heap.Ns mainGlobals mg) (hb : s1.heap.Ns builtinsNs mb) (hbb : ∀ x : Str, x ≠ "__name__" → mb x = bootBuiltins x) (hlim : s1.heap.NoLimit) (hg : s1.gens = #[])
    (hT : ∀ p ∈ cs, s1.heap.get? p.2 = some { cls := .none, data := .fields #[] }) (nT : ∀ p ∈ cs, K.lookup p.2 = none) (C : ∀ p ∈ cs, PySem.W.CodeHd s1.heap p.1 p.2)
    (hbm : ∃ (bm : Addr) (ob : Obj), mg "__builtins__" = some (.ref bm) ∧ bm ≠ builtinsNs ∧ s1.heap.get? bm = some ob ∧ ob.cls = .type "module" ∧ ob.dict = some builtinsNs ∧ ob.data = .plain)
    (ha : s1.heap.get? a = some { cls := .type "list", data := .seq us.toArray }) (hi : IntsAre us ns) (hl : ns.length ≤ sizeLine) (hr : Room k callerA) (hgd : callerA.guards = some [])
    (F : ∀ base : Heap, K.In base → base.Ns mainGlobals mg → (∀ p ∈ cs, GxR.TabB base mg p.1 p.2) → @DefOk ⟨cs.map (·.2)⟩ P w K mg base k fa fd [x] g) (hbind : ∀ (s : Shared) (u : Value), BindsTo s fd ⟨[u], []⟩ [(x, u)])
    (hsp : ∃ os, g [.d (.list (ns.map .int))] = .ok (.d (.bool true), os)) :
    codeAny (model P w) callerA (.call (.ref fa) ⟨[.ref a], []⟩) (fun r s' => r = .ok (.ret (.bool true)) ∧ OldK s1.heap s'.heap ∧ s'.os = s1.os ∧ PyProof.Rows.AllBare s'.gens) s1 := by
  have rv := vals_ints hi
  have lenV := hi.length
  generalize hts : cs.map (·.2) = T at F
  have isT : ∀ b ∈ T, s1.heap.get? b = some { cls := .none, data := .fields #[] } := fun b hb => by
    rw [← hts] at hb
    obtain ⟨p, hp, e⟩ := List.mem_map.mp hb
    rw [← e]
    exact hT p hp
  have aT : a ∉ T := fun z => by
    have q := isT a z
    rw [ha] at q
    have z' : Data.seq us.toArray _ = Data.fields #[] := congrArg Obj.data (Option.some.inj q)
    cases z'
  generalize hob : ({ cls := .type "list", data := .seq us.toArray } : Obj) = ob at ha
  have obd : ob.data = .seq us.toArray := by rw [← hob]
  generalize hH : H0 T a (K.lookup a).isSome ob (ns.map V.int) = H
  have Ht : ∀ b ∈ T, H b = some (.tbl #[]) := fun b hb => by rw [← hH]; exact if_pos hb
  have Hn : ∀ b, b ∉ T → b ≠ a → H b = none := fun b h1 h2 => by rw [← hH]; unfold H0; rw [if_neg h1, if_neg fun z => h2 z.1]
  have Ha : (K.lookup a).isSome = false → H a = some (.frz ob (.lst (ns.map V.int))) := fun e => by rw [← hH]; unfold H0; rw [if_neg aT, if_pos ⟨rfl, e⟩]
  have HaK : (K.lookup a).isSome = true → H a = none := fun e => by rw [← hH]; unfold H0; rw [if_neg aT, if_neg fun z => by rw [e] at z; cases z.2]
  -- what else stands is not tracked
  have free : ∀ {b : Addr} {o : Obj}, s1.heap.get? b = some o → (∀ vs n, o.data ≠ .seq vs n) → o.data ≠ .fields #[] → H b = none := fun {b o} e h1 h2 => by
    by_cases hbT : b ∈ T
    · rw [isT b hbT] at e; cases e; exact absurd rfl h2
    · by_cases hba : b = a
      · rw [hba, ha] at e; cases e; exact absurd obd (h1 _ _)
      · exact Hn b hbT hba
  have freeD : ∀ {b : Addr} {o : Obj} {es : Array DictEntry} {ep : Nat}, s1.heap.get? b = some o → o.data = .dict es ep → H b = none := fun e d => free e (fun vs n z => by rw [d] at z; cases z) fun z => by rw [d] at z; cases z
  have nsK : ∀ {b : Addr} {m : Str → Option Value}, s1.heap.Ns b m → (hidT s1.heap H).Ns b m := fun ⟨o, es, ep, e, d, r⟩ => ⟨o, es, ep, hidT_get e (freeD e d), d, r⟩
  have freeK : ∀ {b : Addr} {o : Obj}, K.lookup b = some o → H b = none := fun {b o} e => by
    by_cases hbT : b ∈ T
    · rw [← hts] at hbT
      obtain ⟨p, hp, ep⟩ := List.mem_map.mp hbT
      rw [← ep, nT p hp] at e
      cases e
    · by_cases hba : b = a
      · rw [hba] at e ⊢
        exact HaK (by rw [e]; rfl)
      · exact Hn b hbT hba
  have hKb : K.In (hidT s1.heap H) := fun b o e => hidT_get (KX b o e) (freeK e)
  have hM : L2.Mod K mg (hidT s1.heap H) := ⟨hKb, nsK hns, ⟨mb, nsK hb, hbb⟩, let ⟨mc, h1, h2⟩ := hlim; ⟨mc, nsK h1, h2⟩⟩
  have TB : ∀ p ∈ cs, GxR.TabB (hidT s1.heap H) mg p.1 p.2 := fun p hp => by
    have hTp := hT p hp
    obtain ⟨go, ges, gep, g1, g2, _⟩ := hns
    refine ⟨?_, ?_, fun z => ?_⟩
    · obtain ⟨o, vs, file, tf, flags, tg, inF, text, tt, e1, r1, r2, r3, r⟩ := C p hp
      exact ⟨o, vs, file, tf, flags, tg, inF, text, tt, hidT_get e1 (free e1 (fun _ _ z => by rw [r2] at z; cases z) fun z => by rw [r2] at z; cases z; simp at r3), r1, r2, r3, r⟩
    · obtain ⟨bm, o, b1, b2, b3, b4, b5, b6⟩ := hbm
      refine ⟨bm, o, b1, b2, fun q => ?_, fun q => ?_, hidT_get b3 (free b3 (fun _ _ z => by rw [b6] at z; cases z) fun z => by rw [b6] at z; cases z), b4, b5, b6⟩
      · rw [q, g1] at b3; cases b3; rw [g2] at b6; cases b6
      · rw [q, hTp] at b3; cases b3; cases b6
    · rw [z, hTp] at g1; cases g1; cases g2
  have hok : HOk P w H s1.heap := fun b u z => by
    by_cases hbT : b ∈ T
    · rw [Ht b hbT] at z; cases z; exact isT b hbT
    · by_cases hba : b = a
      · rw [hba] at z ⊢
        cases q : (K.lookup a).isSome with
        | true => rw [HaK q] at z; cases z
        | false =>
          rw [Ha q] at z; cases z
          exact ⟨ha, by rw [List.length_map]; exact hl, us, _, rv, by rw [hob]; exact ha⟩
      · rw [Hn b hbT hba] at z; cases z
  have e0 : Env0 P w K mg (hidT s1.heap H) callerA [] s1 H := ⟨rfl, hM, fun b o e => of_hidT e, Nat.le_of_eq (hidT_size _ _), trivial, fun b hb => absurd (show b ∈ ([] : List Addr) from hb) (by simp), hok, .of_eq hg⟩
  letI : Tabs := ⟨T⟩
  obtain ⟨os', hgo⟩ := hsp
  -- the script as data, the tables as others'
  have hspL : spL K 1 g [V.ref a] H (fun v _ => v = .bl true) (fun _ _ _ => False) := by
    refine ⟨rfl, fun b => if b ∈ T then none else H b, ⟨fun b => if b ∈ T then H b else none, fun b => if b ∈ T then none else H b⟩, [.d (.list (ns.map .int))], rfl, ⟨fun _ => none, fun _ => [], [], ⟨fun b => ?_, fun _ _ z => (nomatch z), fun b hb => ⟨⟨#[], (if_pos (show b ∈ T from hb)).trans (Ht b hb)⟩, #[], Ht b hb, ?_⟩, Same.refl _, fun _ _ z => (nomatch z)⟩, ⟨rfl, fun i s hs => by simp at hs, fun _ _ => rfl, fun _ _ _ c hc => by simp at hc⟩, .cons (A := []) (.d ?_) .nil (fun _ z => nomatch z), fun _ _ z => nomatch z⟩, ?_⟩
    · by_cases hbT : b ∈ T
      · exact .inr (.inr (.inl ⟨if_pos hbT, rfl, by show Up (if b ∈ T then H b else none) (H b); rw [if_pos hbT]; exact up_refl⟩))
      · exact .inl ⟨rfl, if_neg hbT, (if_neg hbT).symm⟩
    · first
        | trivial
        | exact trivial
        | decide
        | simp [TriplesOk]
    · refine .lst (a := a) (vs := ns.map V.int) ?_ (ints_dp ns)
      cases q : K.lookup a with
      | some o =>
        have e := KX a o q
        rw [ha] at e
        cases e
        exact .inr ⟨_, us.toArray, _, q, by rw [← hob], by rw [← hob], obd, by rw [List.size_toArray, lenV]; exact hl, by simpa using rv⟩
      | none => exact .inl (.inr ⟨ob, by show (if a ∈ T then none else H a) = _; rw [if_neg aT]; exact Ha (by rw [q]; rfl)⟩)
    · rw [hgo]
      intro G' H' v s x
      have d := x.dataG
      cases d
      rfl
  refine codeAny_mono ((F _ hKb (nsK hns) TB).run callerA [] s1 H ⟨[.ref a], []⟩ [.ref a] [.ref a] _ _ hr hgd e0 (hbind s1 (.ref a)) (.cons rfl .nil) hspL) fun r s' h => ?_
  match r, h with
  | .error e, h =>
    obtain ⟨_, _, _, _, _, _, _, _, _, _, _, _, z⟩ := h
    exact z.elim
  | .ok .next, h => exact False.elim h
  | .ok .brk, h => exact False.elim h
  | .ok .cont, h => exact False.elim h
  | .ok (.ret u), ⟨v, H', os, bare, un, hok', r', q⟩ =>
    have q' : v = .bl true := q
    subst q'
    obtain rfl : u = Value.bool true := r'
    have grown : ∀ b ∈ T, ∃ more : Array Value, s'.heap.get? b = some { cls := .none, data := .fields more } := fun b hb => by
      obtain ⟨more, z⟩ := un.tbls b #[] (Ht b hb)
      exact ⟨_, hok' b _ z⟩
    have key : ∀ b o, b ∉ T → s1.heap.get? b = some o → s'.heap.get? b = some o := fun b o nb e => by
      cases q : H b with
      | none => exact un.keep b o e q (by intro z; exact absurd (show b ∈ ([] : List Addr) from z) (by simp)) (by simp)
      | some u =>
        have hba : b = a := by
          by_cases z : b = a
          · exact z
          · rw [Hn b nb z] at q; cases q
        rw [hba] at e q ⊢
        rw [ha] at e
        cases e
        cases q2 : (K.lookup a).isSome with
        | true => rw [HaK q2] at q; cases q
        | false => exact (hok' a _ (un.frzs a ob _ (Ha q2))).1
    refine ⟨rfl, ⟨fun b o e => ?_, fun b o e => ?_⟩, os, bare⟩
    · by_cases hbT : b ∈ T
      · obtain ⟨more, hm⟩ := grown b hbT
        have hbT' := hbT
        rw [← hts] at hbT'
        obtain ⟨p, hp, ep⟩ := List.mem_map.mp hbT'
        have e2 := e
        rw [isT b hbT] at e2
        cases e2
        subst ep
        exact .inr (.inl ⟨((C p hp).tab (hT p hp)).isCodeTable, rfl, #[], more, rfl, by rw [Array.empty_append]; exact hm⟩)
      · exact .inl (key b o hbT e)
    · by_cases hbT : b ∈ T
      · obtain ⟨more, hm⟩ := grown b hbT
        exact ⟨_, hm⟩
      · exact ⟨o, key b o hbT e⟩
/-- what is told of the law at the head's heap -/
def LawD (l : PySem.W.OpenLaw) (w : World) (K : PySem.W.Frag) (k n : Nat) (x : Str) (mg : Str → Option Value) (fa : Addr) (h : Heap) : Prop :=
  ∃ (fd : FuncData) (cs : List (Addr × Addr)) (g : DF), (∀ p ∈ cs, h.get? p.2 = some { cls := .none, data := .fields #[] }) ∧ (∀ p ∈ cs, K.lookup p.2 = none) ∧ (∀ p ∈ cs, PySem.W.CodeHd h p.1 p.2) ∧ (∀ (s : Shared) (u : Value), BindsTo s fd ⟨[u], []⟩ [(x, u)]) ∧
    (∀ ns : List Int, ns.length ≤ n → (∀ z ∈ ns, Builtin.Int.intBits z ≤ 1048576) → ∃ os, g [.d (.list (ns.map .int))] = .ok (.d (.bool true), os)) ∧
    ∀ base : Heap, K.In base → base.Ns mainGlobals mg → (∀ p ∈ cs, GxR.TabB base mg p.1 p.2) → @DefOk ⟨cs.map (·.2)⟩ l.prog w K mg base k fa fd [x] g
theorem walk_D {l : PySem.W.OpenLaw} {n k : Nat} {q : Program} {loose : List Str} {XP : (Str → Option Value) → Heap → Prop} {YP : World → Heap → Prop} {d : DefRec} {x : Str}
    (hn : l.most = some n) (hn2 : n ≤ sizeLine) (hdf : d.params.defaults = []) (hr : Room k callerA) (hgd : callerA.guards = some [])
    (F : ∀ (w : World) (mg : Str → Option Value) (fa : Addr) (h : Heap), YP w h → h.Ns mainGlobals mg → mg d.name = some (.ref fa) → ∃ K : PySem.W.Frag, K.In h ∧ LawD l w K k n x mg fa h) :
    PySem.W.WalkO q loose XP YP l.row.toRowW d [] (fun f vs => PySem.call f vs) := by
  refine Att.attach_callB hn hdf fun w s₀ s1 mg mb fa o pm cd doc a vs ns G Y ho hd hcd hmg hobj hints hlen hbits hg => ?_
  obtain ⟨K, KX, fd, cs, g, hT, nT, C, hb, hsp, hF⟩ := F w mg fa _ Y G.T.g hmg
  exact law_callD KX G.T.g G.T.b G.T.builtins G.T.nolimit hg hT nT C G.T.bmain hobj hints (Nat.le_trans hlen hn2) hr hgd hF hb (hsp ns hlen hbits)
end Lf
end
section
set_option Elab.async false
set_option linter.all false
set_option maxRecDepth 100000
set_option maxHeartbeats 2000000
namespace Lf
open PySem PySem.Spec L2
variable [Tabs]
mutual
/-- one's own lists as data for now -/
def fz : OT → OT
  | .own xs => .fr (fzs xs)
  | .fr xs => .fr (fzs xs)
  | .d x => .d x
  | .opq v => .opq v
  | .dic t kvs => .dic t kvs
  | .lkd t kvs => .lkd t kvs
  | .tp xs => .tp (fzs xs)
  | .leaf t xs => .leaf t xs
  | .hole => .hole
def fzs : List OT → List OT
  | [] => []
  | o :: os => fz o :: fzs os
end
/-- a name: what it stands for is handed on, the name reads it from now on -/
def eMovK (i : Nat) : DE := fun en => match en[i]? with
  | some (.v o) => (match frz o with
    | some x => .ok (fz o, en.set i (.v (.d x)))
    | none => .error .stuck)
  | _ => .error .stuck
end Lf
end
section
set_option Elab.async false
set_option linter.all false
set_option maxRecDepth 100000
set_option maxHeartbeats 2000000
namespace Lf
open PySem PySem.Spec L2
variable [Tabs]
section
variable {X : Cx} {W : WX} {k n : Nat} {f : Addr} {fd : FuncData} {ps ks : List Str} {perm : List Nat} {g : DF} {x : Str} {p pos : Pos} {e : Expr} {es : List Expr} {kws : List Keyword} {da : DA}
/-! ### the rules by the wanted function -/
theorem XC (F : DefOk X.prog X.w X.K X.mg X.base k f fd ps g) (hr : Rm k X.A) (hg : Gl X x) (hm : X.mg x = some (.ref f)) (hk : PySem.W.keepIn X.K (.ref f) = true) (hb : Binds X.K fd ps []) (tk : L2N.Takes X W)
    (ha : AX X W (e :: es) da) (hn : ps.length = n := by rfl) (hdb : (x == ("__debug__" : Str)) = false := by decide) (he : starEach (e :: es) X.env = (false, eval e X.env) :: starEach es X.env := by rfl) (hpl : (backTo pos (starEach es X.env)).any (·.1) = false := by rfl) :
    EX X W (.Call (.Name x p) (e :: es) [] pos) (eCl n g da) := hn ▸ EX_call F hr hg hm hk hb tk ha hdb he hpl
theorem XCB {i : Nat} (F : DefOk X.prog X.w X.K X.mg X.base k f fd ps g) (hr : Rm k X.A) (hg : Gl X x) (hm : X.mg x = some (.ref f)) (hk : PySem.W.keepIn X.K (.ref f) = true) (hb : Binds X.K fd ps []) (tk : L2N.Takes X W)
    (h1 : PE X e (tVar i)) (ha : AX X W es da) (hn : ps.length = n := by rfl) (hdb : (x == ("__debug__" : Str)) = false := by decide) (he : starEach (e :: es) X.env = (false, eval e X.env) :: starEach es X.env := by rfl) (hpl : (backTo pos (starEach es X.env)).any (·.1) = false := by rfl) :
    EX X W (.Call (.Name x p) (e :: es) [] pos) (eClB n g i da) := hn ▸ EX_callB F hr hg hm hk hb tk h1 ha hdb he hpl
end
section
variable {X : Cx} {W : WX} {elt tg iter : Expr} {ifs : List Expr} {scope : Scope} {pos : Pos} {di : DI} {g : DG} {is vs : List Nat} {tt : DT} {te : DE}
theorem XL (own : List (Str × Nat)) (hv : own.map (·.2) = vs) (hc : X.calm = true) (hN : X.N.Nodup) (hi : IX X W tg iter di) (ok : BlkOk X.N X.env.scope scope own) (hs : ∀ i ∈ is, i ∈ own.map (·.2))
    (hg : ∀ (s : Shared) (H : Hp) (C : Addr) (cl : List (Str × Addr)) (fp : List Addr), GX (X.blk s H scope (PySem.compEnvC scope cl C X.env) fp) tg is g) (ht : ∀ (s : Shared) (H : Hp) (C : Addr) (cl : List (Str × Addr)) (fp : List Addr), PTs (X.blk s H scope (PySem.compEnvC scope cl C X.env) fp) ifs (liftT X.K W0 tt))
    (he : ∀ (s : Shared) (H : Hp) (C : Addr) (cl : List (Str × Addr)) (fp : List Addr), EX (X.blk s H scope (PySem.compEnvC scope cl C X.env) fp) W0 elt te) (hz : ∀ x, foldedSetIterable iter X.env x = pure x := by intro _; rfl) :
    EX X W (.ListComp elt [⟨tg, iter, ifs, 0⟩] scope pos) (eLc vs di g tt te) := hv ▸ EX_lc hc hN hi ok hs hg ht he hz
theorem XA {P c : Addr} {gpos p : Pos} {k : Nat} (own : List (Str × Nat)) (hv : own.map (·.2) = vs)
    (hP : P ∈ Tabs.ts) (hr : Rm (k + 3) X.A) (hgl : Gl X "all") (hm : X.mg "all" = none) (TB : GxR.TabB X.base X.mg c P) (hcode : X.env.code = .ref c) (hc : X.calm = true) (hN : X.N.Nodup) (ok : BlkOk X.N X.env.scope scope own) (gk : GOk scope) (hi : IX X W tg iter di)
    (his : ∀ i ∈ is, i ∈ own.map (·.2))
    (hg : ∀ (B : Around) (s : Shared) (H : Hp) (C : Addr) (cl : List (Str × Addr)) (cd : Value) (fp : List Addr), Rm k (B.deeper (gxE X scope cl C cd)) → GX (gxC X B s H (gxE X scope cl C cd) fp) tg is g)
    (ht : ∀ (B : Around) (s : Shared) (H : Hp) (C : Addr) (cl : List (Str × Addr)) (cd : Value) (fp : List Addr), Rm k (B.deeper (gxE X scope cl C cd)) → PTs (gxC X B s H (gxE X scope cl C cd) fp) ifs (liftT X.K W0 tt))
    (he : ∀ (B : Around) (s : Shared) (H : Hp) (C : Addr) (cl : List (Str × Addr)) (cd : Value) (fp : List Addr), Rm k (B.deeper (gxE X scope cl C cd)) → EX (gxC X B s H (gxE X scope cl C cd) fp) W0 elt te)
    (hs : ∀ v, genFold iter X.env v = pure v := by intro _; rfl)
    (hst : starEach [.GeneratorExp elt [⟨tg, iter, ifs, 0⟩] scope gpos] X.env = (false, eval (.GeneratorExp elt [⟨tg, iter, ifs, 0⟩] scope gpos) X.env) :: starEach [] X.env := by rfl) :
    EX X W (.Call (.Name "all" p) [.GeneratorExp elt [⟨tg, iter, ifs, 0⟩] scope gpos] [] pos) (eAll vs di g tt te) := hv ▸ EX_all hP hr hgl hm (by decide +kernel) TB hcode hc hN ok gk hi his hg ht he hs hst
end
/-! ### a block's names, checked -/
def blkB (N : List Str) (sc scope : Scope) (own : List (Str × Nat)) : Bool :=
  decide (scope.kind = .function) && (scope.names.all fun y => decide (scope.names.lookup y.1 = some y.2)) && (own.all fun p => decide (N[p.2]? = some p.1)) &&
  (scope.names.all fun y => !decide (y.2 = .free) || (decide (sc.names.lookup y.1 = some .cell) || decide (sc.names.lookup y.1 = some .free))) &&
  (scope.names.all fun y => !(decide (y.2 = .local) || decide (y.2 = .cell)) || (decide (y.1 ∈ own.map (·.1)) || decide (y.1 ∉ N)))
theorem blk_ok {N : List Str} {sc scope : Scope} {own : List (Str × Nat)} (h : blkB N sc scope own = true) : BlkOk N sc scope own := by
  simp only [blkB, Bool.and_eq_true, decide_eq_true_eq, List.all_eq_true, Bool.or_eq_true, Bool.not_eq_true', decide_eq_false_iff_not] at h
  obtain ⟨⟨⟨⟨h1, h2⟩, h3⟩, h4⟩, h5⟩ := h
  refine ⟨h1, h2, h3, fun y hy e => ?_, fun y hy e => ?_⟩
  · rcases h4 y hy with z | z
    · exact absurd e z
    · exact z
  · rcases h5 y hy with z | z
    · rcases e with e | e <;> simp [e] at z
    · exact z
def gokB (scope : Scope) : Bool := !scope.isCoroutine && (scope.names.all fun y => !decide (y.2 = .cell)) && decide (scope.names.lookup (".0" : Str) = some NameKind.local)
theorem gok_ok {scope : Scope} (h : gokB scope = true) : GOk scope := by
  simp only [gokB, Bool.and_eq_true, Bool.not_eq_true', List.all_eq_true, decide_eq_true_eq, decide_eq_false_iff_not] at h
  exact ⟨h.1.1, h.1.2, h.2⟩
end Lf
end
section
set_option Elab.async false
set_option linter.all false
set_option maxRecDepth 100000
set_option maxHeartbeats 2000000
namespace Lf
open PySem PySem.Spec L2
variable [Tabs]
/-! ### a slice of a name's own list, whose items are data from now on -/
section
variable {X : Cx} {W : WX} {i : Nat} {a : Expr} {lo hi : Option Expr} {dl dh : DP} {pos p2 : Pos}
/-- len of a name's own list -/
def eLenS (i : Nat) : DE := fun en => match ownAt en i with
  | some (_, os) => .ok (.d (.int os.length), en)
  | none => .error .stuck
end
end Lf
end
section
set_option Elab.async false
set_option linter.all false
set_option maxRecDepth 100000
set_option maxHeartbeats 2000000
namespace Lf
open PySem PySem.Spec L2
variable [Tabs]
theorem units_ok {k : Nat} {A : Around} (hr : Rm k A) : A.units + 64 < cLine := hr.hr.units
section
variable {X : Cx} {W : WX} {elt tg iter : Expr} {ifs : List Expr} {scope : Scope} {pos : Pos} {di : DI} {g : DG} {is vs : List Nat} {tt : DT} {te : DE}
theorem XSL {i : Nat} {y : Str} {py spos : Pos} (own : List (Str × Nat)) (hv : own.map (·.2) = vs) (hc : X.calm = true) (hN : X.N.Nodup) (hy : X.N[i]? = some y) (hyl : X.env.scope.names.lookup y = some .local)
    (hsw : swapsWith (.ListComp elt [⟨tg, iter, ifs, 0⟩] scope pos) (some (.Name y py)) spos.line X.env = pure true) (hi : IX X W tg iter di) (ok : BlkOk X.N X.env.scope scope own) (hs : ∀ i ∈ is, i ∈ own.map (·.2))
    (hg : ∀ (s : Shared) (H : Hp) (C : Addr) (cl : List (Str × Addr)) (fp : List Addr), GX (X.blk s H scope (PySem.compEnvC scope cl C X.env) fp) tg is g) (ht : ∀ (s : Shared) (H : Hp) (C : Addr) (cl : List (Str × Addr)) (fp : List Addr), PTs (X.blk s H scope (PySem.compEnvC scope cl C X.env) fp) ifs (liftT X.K W0 tt))
    (he : ∀ (s : Shared) (H : Hp) (C : Addr) (cl : List (Str × Addr)) (fp : List Addr), EX (X.blk s H scope (PySem.compEnvC scope cl C X.env) fp) W0 elt te) (hz : ∀ x, foldedSetIterable iter X.env x = pure x := by intro _; rfl) :
    SX X W (.Assign [.Name y py] (.ListComp elt [⟨tg, iter, ifs, 0⟩] scope pos) spos) (dSet i (eLc vs di g tt te)) := hv ▸ SX_setLc hc hN hy hyl hsw hi ok hs hg ht he hz
end
theorem EX_gi {X : Cx} {W : WX} {x : Str} {i : Int} {pos : Pos} (hg : Gl X x) (h : ∃ u, X.mg x = some u ∧ RelV (.int i) u) (hd : (x == ("__debug__" : Str)) = false := by decide) : EX X W (.Name x pos) (eD (.int i)) := by
  obtain ⟨u, e, r⟩ := h
  exact EX_D (pe_glob hg e r hd) fun _ => .int i
end Lf
namespace Lf
open PySem PySem.Spec L2
/-- one function object stands at an address -/
theorem fun_one {K : PySem.W.Frag} {x q x' q' : Str} {pa pa' : Arguments} {b b' : List Stmt} {sc sc' : Scope} {d d' : List V} {k k' : List (Str × V)} {f : Addr} {fd fd' : FuncData} (F : FunD K x q pa b sc d k f fd) (F' : FunD K x' q' pa' b' sc' d' k' f fd') : fd = fd' := by
  obtain ⟨_, _, _, _, _, _, _, _, _, _, _, l, _⟩ := F.ex
  obtain ⟨_, _, _, _, _, _, _, _, _, _, _, l', _⟩ := F'.ex
  rw [l] at l'
  cases l'
  rfl
end Lf
end
section
set_option Elab.async false
set_option linter.all false
set_option maxRecDepth 100000
set_option maxHeartbeats 2000000
namespace Lf
open PySem PySem.Spec L2
variable [Tabs]
/-! ### target = data -/
def dAsg (g : DG) (da : DE) : DS := fun en => bd (da en) fun p => match frz p.1 with
  | some x => (match g x p.2 with
    | some e1 => .ok (.nx, e1)
    | none => .error .stuck)
  | none => .error .stuck
section
variable {X : Cx} {W : WX} {tg e : Expr} {da : DE} {g : DG} {gs : List Nat} {pos : Pos}
theorem SX_asg (he : EX X W e da) (hg : GX X tg gs g) (hs : swapsWithSole [tg] e pos.line X.env = pure false := by rfl) (hw : swappedStores [tg] e X.env = pure none := by rfl)
    (h1 : (assignEach [tg] X.env).map (·.2) = [assign tg X.env] := by rfl) : SX X W (.Assign [tg] e pos) (dAsg g da) :=
  PS.imp (ps_asg he hg hs hw h1) fun D σ H q => by
  obtain ⟨G, F, τ, en, h, hp⟩ := q
  refine bindES h hp fun o e1 hp1 G1 H1 v s1 h1 => ?_
  dsimp only at hp1
  split at hp1
  · rename_i x hx
    obtain ⟨G2, s2, h2⟩ := h1.freeze hx
    refine ⟨G2, F, τ, e1, x, h2, ?_⟩
    split at hp1
    · rename_i e2 he2
      try rw [he2]
      exact fun σ' _ h3 => hp1 G2 σ' H1 (s1.trans s2) h3
    · exact hp1.elim
  · exact hp1.elim
end
/-! ### a, b = x, y -/
def dPar (i j : Nat) (da : DA) : DS := fun en => bd (da en) fun p => match p.1 with
  | [o, q] => (match (stor i o p.2).bind (stor j q) with
    | some e1 => .ok (.nx, e1)
    | none => .error .stuck)
  | _ => .error .stuck
/-! ### is None -/
def isN : PyData → Bool
  | .none => true
  | _ => false
def fIsN : PyData → PyData → Option PyData
  | x, .none => some (.bool (isN x))
  | _, _ => none
def fNotN : PyData → PyData → Option PyData
  | x, .none => some (.bool (!isN x))
  | _, _ => none
/-! ### x += e on ints -/
def dAug (i : Nat) (f : PyData → PyData → Option PyData) (da : DE) : DS := fun en => match sVar i en with
  | some (.int k) => bd (da en) fun p => (match frz p.1 with
    | some y => (match f (.int k) y with
      | some z => (match stor i (.d z) p.2 with
        | some e1 => .ok (.nx, e1)
        | none => .error .stuck)
      | none => .error .stuck)
    | none => .error .stuck)
  | _ => .error .stuck
section
variable {X : Cx} {W : WX} {e : Expr} {da : DE} {pos pos' : Pos}
theorem aug_lift {i : Nat} {f : Int → Int → Int} {D : Ends} {σ : St} {H : Hp} (q : liftS X.K W (dAug i (fI fun a b => some (.int (f a b))) da) D σ H) : tAug i (liftE X.K W da) (ipI f) D σ H := by
  obtain ⟨G, F, τ, en, h, hp⟩ := q
  unfold dAug at hp
  split at hp
  · rename_i k hk
    have hs : ∃ o, (en[i]? = some (.v o) ∨ en[i]? = some (.p o)) ∧ frz o = some (.int k) := by
      unfold sVar at hk
      split at hk
      · rename_i o ho; exact ⟨o, .inl ho, hk⟩
      · rename_i o ho; exact ⟨o, .inr ho, hk⟩
      · cases hk
    obtain ⟨o, ho, hf⟩ := hs
    obtain ⟨v, hv, dv⟩ := h.peek ho hf
    cases dv
    refine ⟨_, hv, ?_⟩
    refine bindES h hp fun o2 e1 hp1 G1 H1 w s1 h1 => ?_
    dsimp only at hp1
    split at hp1
    · rename_i y hy
      have dw := h1.data hy
      split at hp1
      · rename_i z hz
        unfold fI at hz
        split at hz
        · rename_i a b ea
          cases ea
          cases hz
          cases dw
          split at hp1
          · rename_i e2 he2
            refine ⟨_, _, rfl, rfl, hp1 G1 _ H1 s1 ?_⟩
            exact (RX.withD h1.nil (v := .int (f k b)) (.int _)).stor he2
          · exact hp1.elim
        · cases hz
      · exact hp1.elim
    · exact hp1.elim
  · exact hp.elim
theorem SX_augAdd {i : Nat} {x : Str} (hN : X.N.Nodup) (hi : X.N[i]? = some x) (hx : Loc X.env.scope x) (he : EX X W e da) (hf : X.fn x = true ∨ X.env.scope.names.lookup x = some .local := by first | exact .inl rfl | exact .inr rfl | assumption) :
    SX X W (.AugAssign (.Name x pos') .Add e pos) (dAug i fAdd da) := PS.imp (ps_aug hN hi hx he ip_add hf) fun D σ H q => aug_lift (f := fun i j => i + j) q
theorem SX_augSub {i : Nat} {x : Str} (hN : X.N.Nodup) (hi : X.N[i]? = some x) (hx : Loc X.env.scope x) (he : EX X W e da) (hf : X.fn x = true ∨ X.env.scope.names.lookup x = some .local := by first | exact .inl rfl | exact .inr rfl | assumption) :
    SX X W (.AugAssign (.Name x pos') .Sub e pos) (dAug i fSub da) := PS.imp (ps_aug hN hi hx he ip_sub hf) fun D σ H q => aug_lift (f := fun i j => i - j) q
end
end Lf
end
section
set_option Elab.async false
set_option linter.all false
set_option maxRecDepth 100000
set_option maxHeartbeats 2000000
namespace Lf
open PySem PySem.Spec L2
variable [Tabs]
/-! ### a list display over a name's own list of data, which stays one's own -/
def dats : List OT → Option (List PyData)
  | [] => some []
  | .d x :: os => (dats os).map (x :: ·)
  | _ :: _ => none
section
variable {K : PySem.W.Frag} {G M : Hp}
theorem dats_dp : ∀ {qs : List OT} {vs : List V} {A : List Addr} {xs : List PyData}, RepOs K G M vs qs A → dats qs = some xs → DqAll K G vs xs
  | [], _, _, xs, h, e => by
    cases h
    simp only [dats, Option.some.injEq] at e
    subst e
    exact .nil
  | .d x :: os, _, _, xs, h, e => by
    cases h with
    | cons h1 h2 h3 =>
      simp only [dats, Option.map_eq_some_iff] at e
      obtain ⟨ys, e, rfl⟩ := e
      cases h1 with
      | d h1 => exact .cons h1 (dats_dp h2 e)
  | .own _ :: _, _, _, _, _, e => by simp [dats] at e
  | .fr _ :: _, _, _, _, _, e => by simp [dats] at e
  | .opq _ :: _, _, _, _, _, e => by simp [dats] at e
  | .dic _ _ :: _, _, _, _, _, e => by simp [dats] at e
  | .lkd _ _ :: _, _, _, _, _, e => by simp [dats] at e
  | .tp _ :: _, _, _, _, _, e => by simp [dats] at e
  | .leaf _ _ :: _, _, _, _, _, e => by simp [dats] at e
  | .hole :: _, _, _, _, _, e => by simp [dats] at e
theorem RX.items {H : Hp} {F : FS} {τ σ : St} {en : En} {a : Addr} {qs : List OT} {xs : List PyData} {vs : List V} {os : List OT} (h : RX K G F τ σ H en (.ref a :: vs) (.own qs :: os)) (e : dats qs = some xs) : ∃ us, H a = some (.lst us) ∧ DqAll K G us xs := by
  obtain ⟨M, φ, B, S, E, r, d⟩ := h
  cases r with
  | cons r1 r2 hd =>
    cases r1 with
    | own h1 h2 h3 => exact ⟨_, S.m _ _ h1, dats_dp h2 e⟩
end
end Lf
end
section
set_option Elab.async false
set_option linter.all false
set_option maxRecDepth 100000
set_option maxHeartbeats 2000000
namespace Lf
open PySem PySem.Spec L2 PyProof.Rows
/-! ### sum, max, min of a tuple of ints -/
section
variable {prog : Program} {w : World} {A : Around} {E : Value → Shared → Prop} {s : Shared} {t : Addr} {xs : Array (Int × Tok)} {its : List Value} {ns : List Int} {Q : Value → Shared → Prop}
theorem old_keptT {h' : Heap} {o0 : Obj} (hk : ∀ b o, b ∉ [s.heap.objs.size] → (s.heap.push o0).get? b = some o → h'.get? b = some o) :
    ∀ b o, s.heap.get? b = some o → h'.get? b = some o := fun b o e => by
  refine hk b o (fun hm => ?_) (Heap.get?_push_of_some _ e)
  rcases List.mem_cons.mp hm with e1 | hm
  · exact absurd (e1 ▸ Heap.lt_size e) (Nat.lt_irrefl _)
  · cases hm
theorem iter_intTup (ht : s.heap.IsTuple t (intItems xs))
    (h : ∀ s₂ : Shared, s₂ = { s with heap := s.heap.push { cls := .type "tuple_iterator", data := .fields #[.ref t, .int 0 0] } } →
      (s₂.heap.IsTupleIter s.heap.objs.size t 0 ∧ s₂.heap.IsTuple t (intItems xs)) → (∀ b ∈ [s.heap.objs.size, t], b < s₂.heap.objs.size) → t ≠ s.heap.objs.size → Q (.ref s.heap.objs.size) s₂) :
    wpAny (model prog w) A (pyIter (.ref t)) Q E s := by
  have hlt : t < s.heap.objs.size := by obtain ⟨_, e, _⟩ := ht; exact Heap.lt_size e
  refine wpAny_pyIter_tuple ht (h _ rfl ⟨⟨_, Heap.get?_push_size _ rfl, rfl, rfl⟩, ht.push _⟩ (fun b hb => ?_) (Nat.ne_of_lt hlt))
  show b < (s.heap.push _).objs.size
  rw [Heap.size_push]
  rcases List.mem_cons.mp hb with rfl | hb
  · exact Nat.lt_succ_self _
  · rcases List.mem_cons.mp hb with rfl | hb
    · exact Nat.lt_succ_of_lt hlt
    · cases hb
theorem sum_intTup (hh : A.handled = none) (ht : s.heap.IsTuple t (intItems xs))
    (h : ∀ h' tk t', (∀ b o, s.heap.get? b = some o → h'.get? b = some o) → Q (.int (preSum (numAt xs) xs.size) t') { s with heap := h', toks := tk }) :
    wpAny (model prog w) A (call (.builtin "sum") [.ref t]) Q E s := by
  refine call_sum_walkG (iter_intTup ht fun s₂ e st hfp hne => ?_)
  subst e
  refine ⟨_, _, _, _, _, _, numAt xs, rfl, Walks.tuple (A := A.in1) hh _ t hne (intItems xs), st, hfp, (fun _ _ => intItems_at), fun h' tk t' hk => ?_⟩
  have := h h' tk t' (old_keptT hk)
  simpa [intItems] using this
theorem max_intTup (hh : A.handled = none) (ht : s.heap.IsTuple t (intItems xs)) (hne : 0 < xs.size)
    (h : ∀ v h' tk, (intItems xs)[argBest (fun i j => decide (numAt xs i > numAt xs j)) (xs.size - 1)]? = some v → (∀ b o, s.heap.get? b = some o → h'.get? b = some o) → Q v { s with heap := h', toks := tk }) :
    wpAny (model prog w) A (call (.builtin "max") [.ref t]) Q E s := by
  refine call_max_walk (iter_intTup ht fun s₂ e st hfp hlI => ?_)
  subst e
  refine ⟨_, _, _, _, _, _, _, rfl, Walks.tuple (A := A.in1) hh _ t hlI (intItems xs), st, hfp, by simpa [intItems] using hne, CmpOf.ints_gt (numAt xs) (fun _ _ => intItems_at), fun v h' tk hP hk => ?_⟩
  exact h v h' tk (by simpa [intItems] using hP) (old_keptT hk)
theorem sum_rawT (hh : A.handled = none) (hl : s.heap.IsTuple t its.toArray) (hi : IntsAre its ns)
    (h : ∀ h' tk t', (∀ b o, s.heap.get? b = some o → h'.get? b = some o) → Q (.int ns.sum t') { s with heap := h', toks := tk }) : wpAny (model prog w) A (call (.builtin "sum") [.ref t]) Q E s := by
  obtain ⟨xs, e⟩ := hi.allInts.items
  have hn : numsOf (intItems xs).toList = ns := by rw [← e]; exact hi.numsOf
  rw [nums_intItems] at hn
  rw [e] at hl
  refine sum_intTup hh hl fun h' tk t' hk => ?_
  have := h h' tk t' hk
  rw [preSum_eq, List.take_of_length_le (by simp), hn]; exact this
theorem max_rawT (hh : A.handled = none) (hl : s.heap.IsTuple t its.toArray) (hi : IntsAre its ns) (hne : 0 < ns.length)
    (h : ∀ h' tk M t', (∀ b o, s.heap.get? b = some o → h'.get? b = some o) → M ∈ ns → (∀ a, a ∈ ns → a ≤ M) → Q (.int M t') { s with heap := h', toks := tk }) : wpAny (model prog w) A (call (.builtin "max") [.ref t]) Q E s := by
  obtain ⟨xs, e⟩ := hi.allInts.items
  have hn : numsOf (intItems xs).toList = ns := by rw [← e]; exact hi.numsOf
  rw [nums_intItems] at hn
  subst hn
  rw [e] at hl
  have hsz : 0 < xs.size := by simpa using hne
  refine max_intTup hh hl hsz fun v h' tk hv hk => ?_
  obtain ⟨t, rfl⟩ := intItems_at hv
  obtain ⟨h1, h2⟩ := argBest_gt (numAt xs) (xs.size - 1)
  refine h h' tk _ t hk ?_ fun a ha => ?_
  · rw [numAt_eq]; exact PySem.getD_mem (by rw [List.length_map, Array.length_toList]; omega)
  · obtain ⟨j, hj, rfl⟩ := mem_getD ha
    rw [List.length_map, Array.length_toList] at hj
    rw [← numAt_eq]; exact h2 j (by omega)
end
section
variable {X : Cx}
/-- of a list or a tuple -/
def SqA (K : PySem.W.Frag) (H : Hp) (a : Addr) (xs : List V) : Prop := SqL K H a xs ∨ SqT K H a xs
def rSumA (K : PySem.W.Frag) : List V → Hp → VK → Prop := fun vs H Q => ∃ (a : Addr) (ns : List Int), vs = [V.ref a] ∧ SqA K H a (ns.map V.int) ∧ Q (.int ns.sum) H
def rMaxA (K : PySem.W.Frag) : List V → Hp → VK → Prop := fun vs H Q => ∃ (a : Addr) (ns : List Int), vs = [V.ref a] ∧ SqA K H a (ns.map V.int) ∧ 0 < ns.length ∧ ∀ m, m ∈ ns → (∀ y, y ∈ ns → y ≤ m) → Q (.int m) H
theorem cr_sumA (hc : X.calm = true) : CallR X (.builtin "sum") (rSumA X.K) := by
  intro pins s σ H vs us Q I r h
  obtain ⟨a, ns, e, hs | hs, q⟩ := h
  · exact cr_sum hc pins s σ H vs us Q I r ⟨a, ns, e, hs, q⟩
  · subst e
    obtain ⟨its, rv, hl, _⟩ := I.tuple hs
    rw [Vals.ref1 r]
    exact sum_rawT (I.ok.hd hc) (show s.heap.IsTuple a its.toArray from hl) rv.ints fun h' tk t' hk => ⟨.int _, H, I.kept hk, ⟨_, rfl⟩, q⟩
theorem cr_maxA (hc : X.calm = true) : CallR X (.builtin "max") (rMaxA X.K) := by
  intro pins s σ H vs us Q I r h
  obtain ⟨a, ns, e, hs | hs, hne, q⟩ := h
  · exact cr_max hc pins s σ H vs us Q I r ⟨a, ns, e, hs, hne, q⟩
  · subst e
    obtain ⟨its, rv, hl, _⟩ := I.tuple hs
    rw [Vals.ref1 r]
    exact max_rawT (I.ok.hd hc) (show s.heap.IsTuple a its.toArray from hl) rv.ints hne fun h' tk m t' hk h1 h2 => ⟨.int _, H, I.kept hk, ⟨_, rfl⟩, q m h1 h2⟩
end
def seqInts : List PyData → Option (List Int)
  | [.list xs] => ints? xs
  | [.tuple xs] => ints? xs
  | _ => none
def fSumA (xs : List PyData) : Option PyData := (seqInts xs).map fun ns => .int ns.sum
def fMaxA (xs : List PyData) : Option PyData := ((seqInts xs).bind foldMax).map .int
section
variable [Tabs] {K : PySem.W.Frag}
theorem seqInts_v {H : Hp} {vs : List V} {xs : List PyData} {ns : List Int} (h : DqAll K H vs xs) (e : seqInts xs = some ns) : ∃ a, vs = [V.ref a] ∧ SqA K H a (ns.map V.int) := by
  unfold seqInts at e
  split at e
  · cases h with
    | cons h1 h2 =>
      cases h2
      cases h1 with
      | lst hs ha =>
        have := ints_vs e ha
        subst this
        exact ⟨_, rfl, .inl hs⟩
  · cases h with
    | cons h1 h2 =>
      cases h2
      cases h1 with
      | tup hs ha =>
        have := ints_vs e ha
        subst this
        exact ⟨_, rfl, .inr hs⟩
  · cases e
theorem flat_sumA : FlatC K (rSumA K) fSumA := by
  intro H vs xs z Q h e q
  obtain ⟨ns, e1, rfl⟩ := Option.map_eq_some_iff.mp e
  obtain ⟨a, rfl, hs⟩ := seqInts_v h e1
  exact ⟨a, ns, rfl, hs, q _ fun _ => .int _⟩
theorem flat_maxA : FlatC K (rMaxA K) fMaxA := by
  intro H vs xs z Q h e q
  obtain ⟨m, e1, rfl⟩ := Option.map_eq_some_iff.mp e
  obtain ⟨ns, e2, em⟩ := Option.bind_eq_some_iff.mp e1
  obtain ⟨a, rfl, hs⟩ := seqInts_v h e2
  cases ns with
  | nil => cases em
  | cons i r =>
    cases em
    refine ⟨_, i :: r, rfl, hs, by simp, fun m hm hy => ?_⟩
    obtain ⟨k1, k2⟩ := foldMax_spec r i
    have : m = r.foldl max i := Int.le_antisymm (k2 m hm) (hy _ k1)
    subst this
    exact q _ fun _ => .int _
end
/-! ### xs[::-1], t[::-1], t[i::-1] -/
section
variable {prog : Program} {w : World} {A : Around} {E : Value → Shared → Prop} {s : Shared}
/-- how many items lie from the start on to the left -/
def revN (n : Nat) : Option Int → Nat
  | none => n
  | some v => if v < 0 then (v + n + 1).toNat else min (v.toNat + 1) n
theorem adjust_rev (lo : Option Int) (n : Nat) : Builtin.Slice.sliceAdjust lo none (-1) (n : Int) = (((revN n lo : Nat) : Int) - 1, -1) := by
  unfold Builtin.Slice.sliceAdjust
  have h1 : ((-1 : Int) < 0) := by omega
  simp only [h1, if_true]
  refine Prod.ext ?_ rfl
  cases lo with
  | none => rfl
  | some v =>
    show (if v < 0 then max (v + (n : Int)) (-1) else min v ((n : Int) - 1)) = _
    simp only [revN]
    by_cases hv : v < 0
    · rw [if_pos hv, if_pos hv]; omega
    · rw [if_neg hv, if_neg hv]; omega
theorem places_rev (j : Nat) : Builtin.Slice.slicePlaces ((j : Int) - 1) (-1) (-1) = j := by
  unfold Builtin.Slice.slicePlaces
  have h1 : ¬ ((-1 : Int) > 0) := by omega
  simp only [h1, if_false]
  by_cases h : ((j : Int) - 1 > -1)
  · rw [if_pos h]
    have : ((j : Int) - 1 - -1 - 1) / (- -1) + 1 = j := by
      rw [show (- -1 : Int) = 1 from rfl, Int.ediv_one]; omega
    rw [this]; simp
  · rw [if_neg h]; simp; omega
theorem sliceApplied_rev {sl : Addr} {vl vs : Value} {lo : Option Int} {n : Nat} {Q : Int × Int × Nat → Shared → Prop} (hs : s.heap.IsSliceOf sl vl .none vs) (pl : IsPart vl lo) (ps : IsPart vs (some (-1)))
    (h : Q (((revN n lo : Nat) : Int) - 1, -1, revN n lo) s) : wpAny (model prog w) A (Builtin.Slice.sliceApplied (.ref sl) (pure (n : Int))) Q E s := by
  obtain ⟨os, hos, hcs, hds⟩ := id hs
  unfold Builtin.Slice.sliceApplied Builtin.Slice.sliceFields
  refine wpAny_bind (wpAny_bind (wpAny_field hos hds (x := vl) rfl (wpAny_bind (wpAny_field hos hds (x := .none) rfl (wpAny_bind (wpAny_field hos hds (x := vs) rfl (wpAny_pure ?_)))))))
  refine wpAny_bind (HT.slicePart_ ps ?_)
  show wpAny _ _ (if ((-1 : Int) == 0) = true then _ else _) _ _ s
  rw [if_neg (by decide)]
  refine wpAny_bind (HT.slicePart_ pl (wpAny_bind (HT.slicePart_ IsPart.none (wpAny_bind (wpAny_pure ?_)))))
  show wpAny _ _ (match Builtin.Slice.sliceAdjust lo none (-1) (n : Int) with | (lo, hi) => pure (lo, (-1 : Int), Builtin.Slice.slicePlaces lo hi (-1))) _ _ s
  rw [adjust_rev lo n]
  show wpAny _ _ (pure (((revN n lo : Nat) : Int) - 1, (-1 : Int), Builtin.Slice.slicePlaces (((revN n lo : Nat) : Int) - 1) (-1) (-1))) _ _ s
  rw [places_rev]
  exact wpAny_pure h
theorem fm_eq {α β : Type} {f : α → Option β} {g : α → β} : ∀ (l : List α), (∀ x ∈ l, f x = some (g x)) → l.filterMap f = l.map g
  | [], _ => rfl
  | x :: l, h => by
    rw [List.filterMap_cons_some (h x (List.mem_cons_self ..)), List.map_cons, fm_eq l fun y hy => h y (List.mem_cons_of_mem _ hy)]
theorem pick_rev (xs : Array Value) : ∀ (j : Nat), j ≤ xs.size → ((List.range j).filterMap fun (k : Nat) => xs[(((j : Int) - 1) + (k : Int) * -1).toNat]?) = (xs.toList.take j).reverse := by
  intro j hj
  apply List.ext_getElem?
  intro i
  have hmap : ((List.range j).filterMap fun (k : Nat) => xs[(((j : Int) - 1) + (k : Int) * -1).toNat]?) = (List.range j).map fun k => xs.getD (j - 1 - k) .none := by
    apply fm_eq
    intro k hk
    have hk : k < j := by simpa using hk
    have e : (((j : Int) - 1) + (k : Int) * -1).toNat = j - 1 - k := by omega
    rw [e, Array.getElem?_eq_getElem (by omega)]
    simp [Array.getD, show j - 1 - k < xs.size by omega]
  rw [hmap]
  by_cases hi : i < j
  · rw [List.getElem?_map, List.getElem?_range hi, List.getElem?_reverse (by simp; omega)]
    simp only [List.length_take, Array.length_toList, Option.map_some]
    rw [List.getElem?_take, if_pos (by omega), show min j xs.size - 1 - i = j - 1 - i by omega]
    rw [Array.getElem?_toList, Array.getElem?_eq_getElem (by omega)]
    simp [Array.getD, show j - 1 - i < xs.size by omega]
  · rw [List.getElem?_eq_none (by simp; omega), List.getElem?_eq_none (by simp; omega)]
theorem revN_le (n : Nat) (lo : Option Int) : revN n lo ≤ n := by
  cases lo with
  | none => exact Nat.le_refl _
  | some v =>
    simp only [revN]
    split <;> omega
theorem getItem_tuple_rev {t sl : Addr} {items : Array Value} {vl vs : Value} {lo : Option Int} {Q : Value → Shared → Prop} (ht : IsTup s.heap t items) (hs : s.heap.IsSliceOf sl vl .none vs) (pl : IsPart vl lo) (ps : IsPart vs (some (-1)))
    (h : Q (.ref s.heap.objs.size) { s with heap := s.heap.push { cls := .type "tuple", data := .seq (items.toList.take (revN items.size lo)).reverse.toArray } })
    (hsz : items.size ≤ sizeLine) : wpAny (model prog w) A (getItem (.ref t) (.ref sl)) Q E s := by
  have hj := revN_le items.size lo
  have htake : sizeOk (.seq (items.toList.take (revN items.size lo)).reverse.toArray) := by
    show ((items.toList.take (revN items.size lo)).reverse.toArray).size ≤ sizeLine
    rw [List.size_toArray, List.length_reverse, List.length_take, Array.length_toList]
    omega
  obtain ⟨os, hos, hcs, hds⟩ := id hs
  have hTs : s.TypeIs (.ref sl) "slice" := ⟨os, hos, hcs⟩
  unfold getItem
  try with_reducible refine wpAny_holding ?_
  first | refine wpAny_bind (wpAny_pure ?_) | skip
  refine wpAny_bind (wpAny_sequenceKey ht.typeIs (by decide) ?_)
  refine wpAny_bind (wpAny_callSpecial?_slot (name := Str.ofString "__getitem__") ht.typeIs PyProof.Rows.slot_tuple_getitem
    (wpAny_call_entry PyProof.Rows.slot_tuple_getitem ht.typeIs entry_tuple_getitem ?_ (args_tuple_getitem _ _)))
  show wpAny _ _ (Builtin.Tuple.tupleItemsOf (.ref t) >>= _) _ _ s
  refine wpAny_bind (tupleItemsOf_ ht ?_)
  refine wpAny_bind (wpAny_typeOf hTs ?_)
  rw [if_pos (by decide)]
  refine wpAny_bind (sliceApplied_rev hs pl ps ?_)
  have hno : ¬ (((((revN items.size lo : Nat) : Int) - 1) == 0 && (-1 : Int) == 1 && (revN items.size lo) == items.size) = true) := by
    intro q
    rw [Bool.and_eq_true, Bool.and_eq_true] at q
    exact absurd q.1.2 (by decide)
  show wpAny _ _ (if ((((revN items.size lo : Nat) : Int) - 1) == 0 && (-1 : Int) == 1 && (revN items.size lo) == items.size) = true then _ else _) _ _ s
  rw [if_neg hno, pick_rev items _ hj]
  first
    | exact wpAny_bind (m := Builtin.Tuple.tupleExact _) (wpAny_newObj_type (wpAny_pure ⟨_, rfl, wpAny_pure h⟩) htake)
    | exact wpAny_bind (m := Builtin.Tuple.tupleExact _) (wpAny_newObj_type (wpAny_bind (wpAny_pure (wpAny_pure ⟨_, rfl, wpAny_pure h⟩))) htake)
    | exact wpAny_bind (wpAny_bind (m := Builtin.Tuple.tupleExact _) (wpAny_newObj_type (wpAny_pure (wpAny_pure ⟨_, rfl, wpAny_pure h⟩)) htake))
    | exact wpAny_bind (wpAny_bind (m := Builtin.Tuple.tupleExact _) (wpAny_newObj_type (wpAny_pure ⟨_, rfl, wpAny_pure h⟩) htake))
end
end Lf
namespace Lf
open PySem PySem.Spec L2 PyProof.Rows
section
variable {X : Cx}
def tRevA (K : PySem.W.Frag) (te : TE) : TE := fun σ H Q => te σ H fun x H1 => (∃ a xs, x = .ref a ∧ SqL K H1 a xs ∧ ∀ p, H1 p = none → Q (.ref p) (upd H1 p (.lst xs.reverse))) ∨ (∃ a xs, x = .ref a ∧ SqT K H1 a xs ∧ ∀ p, H1 p = none → Q (.ref p) (upd H1 p (.tup xs.reverse)))
theorem pe_revA {e : Expr} {te : TE} {k : Nat} {p1 p2 p3 pos : Pos} (he : PE X e te) : PE X (.Subscript e (.Slice none none (some (.UnaryOp .USub (.Constant (.int 1) k p1) p2)) p3) pos) (tRevA X.K te) := by
  refine ⟨fun pins s σ H Q I h => ?_⟩
  refine Subscript_ (thn (he.run pins s σ H _ I h) fun v s1 ⟨x, H1, I1, r1, q1⟩ => ?_)
  have hst : PO X (some (.UnaryOp .USub (.Constant (.int 1) k p1) p2)) (tPart (tUn (rU fun i => .int (-i)) (tC (.int 1)))) := po_some (pe_un un_neg pe_int)
  refine wpAny_Slice (thn (po_none.run pins s1 σ H1 (fun o H2 => o = none ∧ H2 = H1) I1 ⟨rfl, rfl⟩) fun vl s2 ⟨l, H2, I2, pl, el, e2⟩ => ?_)
  subst el e2
  refine thn (po_none.run pins s2 σ H2 (fun o H3 => o = none ∧ H3 = H2) I2 ⟨rfl, rfl⟩) fun vu s3 ⟨u, H3, I3, pu, eu, e3⟩ => ?_
  subst eu e3
  refine thn (hst.run pins s3 σ H3 (fun o H4 => o = some (-1) ∧ H4 = H3) I3 ⟨1, rfl, -1, rfl, rfl, rfl⟩) fun vs s4 ⟨o, H4, I4, ps, eo, e4⟩ => ?_
  subst eo e4
  cases pl
  cases pu
  have I5 : Inv X pins σ H4 { s4 with heap := s4.heap.push { cls := .type "slice", data := .fields #[.none, .none, vs] } } := I4.kept (t' := s4.toks) fun b ob q => Heap.get?_push_of_some _ q
  rcases q1 with ⟨a, xs, ex, hx, q⟩ | ⟨a, xs, ex, hx, q⟩
  · subst ex
    cases r1
    obtain ⟨its, r, ht, hz⟩ := I5.list hx
    have hlen := r.length
    show wpAny (model X.prog X.w) X.A (subscriptTail e (.Slice none none (some (.UnaryOp .USub (.Constant (.int 1) k p1) p2)) p3) (.ref a) (.ref s4.heap.objs.size)) (EP X pins σ Q) X.xe { s4 with heap := s4.heap.push { cls := .type "slice", data := .fields #[.none, .none, vs] } }
    refine tail_any (ops := [.ref a, .ref s4.heap.objs.size]) ht.isList.typeIs (PySem.slot_list_getitem.lookup) ?_ (by with_unfolding_all rfl)
    refine wpAny_getItem_list_slice ht.isList (Heap.IsSliceOf.new _ .none .none vs) .none .none ps (by decide) ?_ (by rw [List.size_toArray]; omega)
    rw [PySem.W.krv_pick]
    refine ⟨.ref _, _, I5.laid (t' := s4.toks) (o := .lst xs.reverse) (fun b ob q => Heap.get?_push_of_some _ q) (Nat.le_refl _) ?_, rfl, q _ (I5.hok.fresh (Nat.le_refl _))⟩
    exact ⟨by rw [List.length_reverse]; exact hz, _, 0, r.reverse, Heap.get?_push_size _ rfl⟩
  · subst ex
    cases r1
    obtain ⟨its, r, ht, hz⟩ := I5.tuple hx
    have hlen := r.length
    show wpAny (model X.prog X.w) X.A (subscriptTail e (.Slice none none (some (.UnaryOp .USub (.Constant (.int 1) k p1) p2)) p3) (.ref a) (.ref s4.heap.objs.size)) (EP X pins σ Q) X.xe { s4 with heap := s4.heap.push { cls := .type "slice", data := .fields #[.none, .none, vs] } }
    refine tail_any (ops := [.ref a, .ref s4.heap.objs.size]) ht.typeIs (PyProof.Rows.slot_tuple_getitem.lookup) ?_ (by with_unfolding_all rfl)
    refine getItem_tuple_rev (lo := none) ht (Heap.IsSliceOf.new _ .none .none vs) .none ps ?_ (by rw [List.size_toArray]; omega)
    have hn : (its.toArray.toList.take (revN its.toArray.size none)) = its := by
      simp only [revN]
      rw [List.take_of_length_le (by simp)]
    rw [hn]
    refine ⟨.ref _, _, I5.laid (t' := s4.toks) (o := .tup xs.reverse) (fun b ob q => Heap.get?_push_of_some _ q) (Nat.le_refl _) ?_, rfl, q _ (I5.hok.fresh (Nat.le_refl _))⟩
    exact ⟨by rw [List.length_reverse]; exact hz, _, r.reverse, IsTup.new _ _⟩
end
/-! ### the same, by things -/
def eRv (da : DE) : DE := fun en => bd (da en) fun p => match frz p.1 with
  | some (.list xs) => .ok (.own (xs.reverse.map .d), p.2)
  | some (.tuple xs) => .ok (.d (.tuple xs.reverse), p.2)
  | _ => .error .stuck
section
variable [Tabs] {X : Cx} {W : WX} {a : Expr} {da : DE} {dl : DP} {lower : Option Expr}
theorem DqAll.take {K : PySem.W.Frag} {H : Hp} : ∀ {vs : List V} {xs : List PyData} (n : Nat), DqAll K H vs xs → DqAll K H (vs.take n) (xs.take n)
  | _, [], n, h => by cases h; cases n <;> exact .nil
  | _, x :: xs, 0, h => .nil
  | _, x :: xs, n + 1, h => by cases h with | cons h1 h2 => exact .cons h1 (DqAll.take n h2)
theorem EX_rv {k : Nat} {p1 p2 p3 pos : Pos} (ha : EX X W a da) : EX X W (.Subscript a (.Slice none none (some (.UnaryOp .USub (.Constant (.int 1) k p1) p2)) p3) pos) (eRv da) :=
  PE.imp (pe_revA ha) fun σ H Q q => by
  obtain ⟨G, F, τ, en, h, hp⟩ := q
  refine bindE h hp fun o e1 hp1 G1 H1 v s1 h1 => ?_
  have h1 : RX X.K G1 F τ σ H1 e1 [v] [o] := h1
  dsimp only at hp1
  split at hp1
  · rename_i xs ex
    obtain ⟨G4, s4, h4⟩ := RX.freeze (vs := []) (os := []) h1 ex
    have dv := h4.dataG
    cases dv with
    | lst hs hd => exact .inl ⟨_, _, rfl, h4.same.seq hs, fun p np => hp1 G4 _ [.ref p] (s1.trans s4) (RX.newD h4.nil (dprev hd) np) _ rfl⟩
  · rename_i xs ex
    obtain ⟨G4, s4, h4⟩ := RX.freeze (vs := []) (os := []) h1 ex
    have dv := h4.dataG
    cases dv with
    | tup hs hd =>
      refine .inr ⟨_, _, rfl, sqT_same h4.same hs, fun p np => ?_⟩
      obtain ⟨G5, s5, h5⟩ := RX.newT h4.nil (dprev hd) np
      exact hp1 G5 _ [.ref p] (s1.trans (s4.trans s5)) h5 _ rfl
  · exact hp1.elim
end
/-! ### xs.extend([..]) -/
def extK (i : Nat) (p : OT) (e1 : En) : R (OT × En) := match ownAt e1 i with
  | none => .error .stuck
  | some (b, os) => (match p with
    | .own ps => if few (os.length + ps.length) then .ok (.d .none, e1.set i (mkS b (.own (os ++ ps)))) else .error .stuck
    | _ => .error .stuck)
def eExt (i : Nat) (da : DE) : DE := fun en => match ownAt en i with
  | none => .error .stuck
  | some _ => bd (da en) fun p => extK i p.1 p.2
end Lf
namespace Lf
open PySem PySem.Spec L2 PyProof.Rows
theorem tuple_mul1 (l : Addr) (items : Array Value) (n : Nat) (dd : Option Addr) (sl : Array (Option Value)) (u : Tok) :
    Meets (Builtin.«tuple.__mul__» ⟨[.ref l, .int 1 u], []⟩) (fun _ R s => s.heap.get? l = some { cls := .type "tuple", dict := dd, data := .seq items n, slots := sl } ∧
      R (.ok (.ret (Value.ref l))) s) :=
  .of_wp fun prog w A R s h => by
    obtain ⟨hp, g, d, tk, os⟩ := s
    obtain ⟨hl, h⟩ := h
    have f1 := AutoSeq1.idx_int
    wp_walk using wpAny_loadPart' hl
    exact ⟨_, rfl, h⟩
section
variable {X : Cx}
def rRepA (K : PySem.W.Frag) : R2 := fun x y H Q => rRep x y H Q ∨ rRepT K x y H Q ∨ (∃ l xs, x = .ref l ∧ y = .int 1 ∧ SqT K H l xs ∧ Q (.ref l) H)
theorem op_repA : OpR X (binaryOp .Mult) (rRepA X.K) := by
  intro pins s σ H x y v u Q I rx ry h
  rcases h with h | h | h
  · exact op_rep pins s σ H x y v u Q I rx ry h
  · exact op_repT pins s σ H x y v u Q I rx ry h
  · obtain ⟨l, xs, rfl, rfl, hT, q⟩ := h
    cases rx
    obtain ⟨t, rfl⟩ := ry
    obtain ⟨its, r, ⟨⟨cls, dd, data, sl⟩, ho, hc, n, hd⟩, hs⟩ := I.tuple hT
    simp only at hc hd
    subst hc hd
    refine wpAny_binaryOp_repeat_ref (T := "tuple") (U := "int") (by decide) ⟨_, ho, rfl⟩ (fun s' => typeIs_int s' 1 t) noFill_tuple_mul F.fills_int_mul F.slot_int_rmul repeat_tuple F.slot_int_index.lookup
      (call_meets F.slot_int_rmul (typeIs_int s 1 t) F.entry_int_rmul (F.args_int_rmul_2 _ _) (int_rmul_tuple 1 t l its.toArray n dd sl)
        ⟨ho, rfl, ⟨_, ho, rfl⟩, call_meets F.slot_tuple_mul ⟨_, ho, rfl⟩ F.entry_tuple_mul (F.args_tuple_mul_2 _ _) (tuple_mul1 l its.toArray n dd sl t) ⟨ho, ?_⟩⟩)
    exact ⟨.ref l, H, I, rfl, q⟩
end
/-! ### xs * k -/
def mulK (p q : OT) (e : En) : R (OT × En) := match q with
  | .d (.int k) => if 1 ≤ k ∧ k ≤ 100 then (match p with
    | .own os => (match dats os with
      | some xs => if os.length ≤ 100 then .ok (.own ((List.replicate k.toNat xs).flatten.map .d), e) else .error .stuck
      | none => .error .stuck)
    | .d (.tuple xs) => if xs ≠ [] ∧ xs.length ≤ 100 then .ok (.d (.tuple (List.replicate k.toNat xs).flatten), e) else .error .stuck
    | _ => .error .stuck) else .error .stuck
  | _ => .error .stuck
def eMul (da db : DE) : DE := fun en => bd (da en) fun p => bd (db p.2) fun q => mulK p.1 q.1 q.2
section
variable [Tabs] {K : PySem.W.Frag} {H : Hp}
theorem DqAll.rep {vs : List V} {xs : List PyData} (h : DqAll K H vs xs) : ∀ n : Nat, DqAll K H (List.replicate n vs).flatten (List.replicate n xs).flatten
  | 0 => .nil
  | n + 1 => by
    rw [List.replicate_succ, List.replicate_succ, List.flatten_cons, List.flatten_cons]
    exact DqAll.app h (DqAll.rep h n)
end
section
variable [Tabs] {X : Cx} {W : WX} {a b : Expr} {da db : DE} {pos : Pos}
theorem EX_mul (ha : EX X W a da) (hb : EX X W b db) : EX X W (.BinOp a .Mult b pos) (eMul da db) :=
  PE.imp (pe_op op_repA ha hb) fun σ H Q q => by
  obtain ⟨G, F, τ, en, h, hp⟩ := q
  refine bindE h hp fun o e1 hp1 G1 H1 v s1 h1 => ?_
  refine bindE (vs := [v]) (os := [o]) h1 (hp1.mono s1) fun p e2 hp2 G2 H2 w s2 h2 => ?_
  have h2 : RX X.K G2 F τ σ H2 e2 [v, w] [o, p] := h2
  unfold mulK at hp2
  dsimp only at hp2
  cases p with
  | d y =>
    cases y with
    | int kk =>
      dsimp only at hp2
      split at hp2
      · rename_i hk
        have dw := RX.data (vs := []) (os := []) (RX.right (vs := [v]) (os := [o]) rfl h2) rfl
        cases dw
        cases o with
        | own os =>
          dsimp only at hp2
          cases hx : dats os with
          | none => rw [hx] at hp2; exact hp2.elim
          | some xs =>
            rw [hx] at hp2
            dsimp only at hp2
            split at hp2
            · rename_i hl
              obtain ⟨a, xs', e, hH', hl', _⟩ := h2.openL
              subst e
              obtain ⟨us, hH, hd⟩ := h2.items hx
              have eu : us = xs' := by rw [hH] at hH'; cases hH'; rfl
              subst eu
              refine .inl ⟨a, _, us, rfl, rfl, hH, by omega, by omega, ?_, fun p np => ?_⟩
              · rw [hl', sizeLine_eq]
                have := Nat.mul_le_mul hl (show kk.toNat ≤ 100 by omega)
                omega
              · exact hp2 G2 _ [.ref p] s2 (RX.newD h2.nil (DqAll.rep hd kk.toNat) np) _ rfl
            · exact hp2.elim
        | d x =>
          cases x with
          | tuple xs =>
            dsimp only at hp2
            split at hp2
            · rename_i hl
              have dv := h2.dataG
              cases dv with
              | tup hs hd =>
                by_cases k1 : kk = 1
                · subst k1
                  refine .inr (.inr ⟨_, _, rfl, rfl, sqT_same h2.same hs, ?_⟩)
                  have e : (List.replicate (Int.toNat 1) xs).flatten = xs := by simp
                  rw [e] at hp2
                  exact hp2 G2 H2 [.ref _] s2 (h2.nil.withD (.tup hs hd)) _ rfl
                · refine .inr (.inl ⟨_, _, _, rfl, rfl, sqT_same h2.same hs, fun e => hl.1 ?_, by omega, by omega, ?_, fun p np => ?_⟩)
                  · have := DqAll.length hd
                    rw [e] at this
                    exact List.eq_nil_of_length_eq_zero this.symm
                  · rw [DqAll.length hd]; omega
                  · obtain ⟨G5, s5, h5⟩ := RX.newT h2.nil (DqAll.rep hd kk.toNat) np
                    exact hp2 G5 _ [.ref p] (s2.trans s5) h5 _ rfl
            · exact hp2.elim
          | _ => exact hp2.elim
        | _ => exact hp2.elim
      · exact hp2.elim
    | _ => exact hp2.elim
  | _ => exact hp2.elim
end
end Lf
end
section
set_option Elab.async false
set_option linter.all false
set_option maxRecDepth 100000
set_option maxHeartbeats 2000000
/-! ### data that are shown, compared: bounds by shape -/
namespace Lf
open PySem PySem.Spec L2
mutual
/-- what data cost when they are shown -/
def cost : PyData → Nat
  | .none => 4
  | .bool _ => 5
  | .int i => if i.natAbs < 10 ^ 60 then 61 else if i.natAbs < 10 ^ 500 then 501 else 1000000
  | .str s => if PyData.strOk (PyData.shown (.str s)) = true then (PyData.shown (.str s)).length else 1000000
  | .list xs => costs xs + 2
  | .tuple xs => costs xs + 3
  | .dict kvs => if kvs.isEmpty = true then 3 else 1000000
def costs : List PyData → Nat
  | [] => 0
  | x :: xs => cost x + 2 + costs xs
end
theorem textFrom_le : ∀ (ts : List Str) (k : Nat) (acc : Str), (textFrom k acc ts).length ≤ acc.length + piled ts
  | [], _, acc => by simp [textFrom, piled_nil]
  | t :: ts, k, acc => by
    have h := textFrom_le ts (k + 1) (acc ++ (if k > 0 then ", " else "" : String) ++ t)
    have e : (acc ++ (if k > 0 then ", " else "" : String) ++ t).length ≤ acc.length + 2 + t.length := by
      rw [strLen_append, strLen_append]
      split <;> simp [ofString_length]
      have : ", ".length = 2 := rfl
      omega
    rw [piled_cons]
    simp only [textFrom]
    omega
theorem listText_le (ts : List Str) : (listText ts).length ≤ piled ts + 2 := by
  have h := textFrom_le ts 0 "["
  unfold listText
  rw [strLen_append, ofString_length]
  rw [ofString_length] at h
  have e1 : "[".length = 1 := rfl
  have e2 : "]".length = 1 := rfl
  omega
theorem tupleText_le (ts : List Str) : (tupleText ts).length ≤ piled ts + 3 := by
  have h : (Str.join ", " ts).length ≤ piled ts := by
    by_cases e : ts = []
    · subst e; decide
    · have := join_length_add ts e
      omega
  unfold tupleText
  rw [strLen_append, strLen_append, ofString_length]
  have e1 : "(".length = 1 := rfl
  split <;> (simp [ofString_length]; try omega)
  · have e2 : ",)".length = 2 := rfl
    omega
  · have e2 : ")".length = 1 := rfl
    omega
mutual
theorem shown_le : ∀ x : PyData, cost x < 1000000 → (PyData.shown x).length ≤ cost x ∧ PyData.showable x = true
  | .none, _ => by decide
  | .bool b, _ => by cases b <;> decide
  | .int i, h => by
    simp only [cost] at h ⊢
    by_cases hi : i.natAbs < 10 ^ 60
    · rw [if_pos hi]
      have := int_text_length_le10 (a := i) (k := 60) (by decide) hi
      refine ⟨?_, ?_⟩
      · simp only [PyData.shown, ofString_length]
        exact this
      · simp only [PyData.showable, decide_eq_true_eq]
        by_cases h0 : i.natAbs = 0
        · rw [h0]; decide
        · have : i.natAbs.log2 < 200 := (Nat.log2_lt h0).mpr (Nat.lt_of_lt_of_le hi (by decide))
          omega
    · rw [if_neg hi] at h ⊢
      by_cases hj : i.natAbs < 10 ^ 500
      · rw [if_pos hj]
        have := int_text_length_le10 (a := i) (k := 500) (by decide) hj
        refine ⟨?_, ?_⟩
        · simp only [PyData.shown, ofString_length]
          exact this
        · simp only [PyData.showable, decide_eq_true_eq]
          have h0 : i.natAbs ≠ 0 := fun z => hi (by rw [z]; decide)
          have : i.natAbs.log2 < 1700 := (Nat.log2_lt h0).mpr (Nat.lt_of_lt_of_le hj (by decide +kernel))
          omega
      · rw [if_neg hj] at h; omega
  | .str s, h => by
    simp only [cost] at h ⊢
    split at h
    · rename_i e
      rw [if_pos e]
      exact ⟨Nat.le_refl _, by simp [PyData.showable]⟩
    · omega
  | .list xs, h => by
    simp only [cost] at h ⊢
    obtain ⟨h1, h2⟩ := shown_les xs (by omega)
    refine ⟨?_, by simp [PyData.showable, h2]⟩
    simp only [PyData.shown]
    have := listText_le (PyData.shownAll xs)
    omega
  | .tuple xs, h => by
    simp only [cost] at h ⊢
    obtain ⟨h1, h2⟩ := shown_les xs (by omega)
    refine ⟨?_, by simp [PyData.showable, h2]⟩
    simp only [PyData.shown]
    have := tupleText_le (PyData.shownAll xs)
    omega
  | .dict [], _ => ⟨by decide +kernel, by decide +kernel⟩
  | .dict (_ :: _), h => by simp [cost] at h
theorem shown_les : ∀ xs : List PyData, costs xs < 1000000 → piled (PyData.shownAll xs) ≤ costs xs ∧ PyData.showableAll xs = true
  | [], _ => by simp [PyData.shownAll, costs, piled_nil, PyData.showableAll]
  | x :: xs, h => by
    simp only [costs] at h ⊢
    obtain ⟨h1, h2⟩ := shown_le x (by omega)
    obtain ⟨k1, k2⟩ := shown_les xs (by omega)
    refine ⟨?_, by simp [PyData.showableAll, h2, k2]⟩
    simp only [PyData.shownAll, piled_cons]
    omega
end
/-- data of bounded cost and depth -/
structure Nice (k d : Nat) (x : PyData) : Prop where
  c : PyData.canLay0 x = true
  k : cost x ≤ k
  d : PyData.depth x ≤ d
theorem Nice.mono {k d k' d' : Nat} {x : PyData} (h : Nice k d x) (a : k ≤ k') (b : d ≤ d') : Nice k' d' x := ⟨h.c, Nat.le_trans h.k a, Nat.le_trans h.d b⟩
theorem nice_int {i : Int} (h : i.natAbs < 10 ^ 60) : Nice 61 0 (.int i) := ⟨by simp [PyData.canLay0], by simp [cost, h], by simp [PyData.depth]⟩
theorem nice_all {k d : Nat} : ∀ (xs : List PyData), (∀ x ∈ xs, Nice k d x) → PyData.canLayAll0 xs = true ∧ costs xs ≤ xs.length * (k + 2) ∧ PyData.depthAll xs ≤ d
  | [], _ => by simp [PyData.canLayAll0, costs, PyData.depthAll]
  | x :: xs, h => by
    obtain ⟨h1, h2, h3⟩ := nice_all xs fun y hy => h y (List.mem_cons_of_mem _ hy)
    obtain ⟨k1, k2, k3⟩ := h x (List.mem_cons_self ..)
    refine ⟨by simp [PyData.canLayAll0, h1, k1], ?_, by simp only [PyData.depthAll]; omega⟩
    simp only [costs, List.length_cons, Nat.add_mul, Nat.one_mul]
    omega
theorem nice_tuple {k d n : Nat} {xs : List PyData} (h : ∀ x ∈ xs, Nice k d x) (hn : xs.length ≤ n) : Nice (n * (k + 2) + 3) (d + 1) (.tuple xs) := by
  obtain ⟨h1, h2, h3⟩ := nice_all xs h
  have := Nat.mul_le_mul_right (k + 2) hn
  exact ⟨by simp [PyData.canLay0, h1], by simp only [cost]; omega, by simp only [PyData.depth]; omega⟩
theorem nice_intt {n : Nat} {r : List Int} (h : ∀ i ∈ r, i.natAbs < 10 ^ 60) (hn : r.length ≤ n) : Nice (n * 63 + 3) 1 (.tuple (r.map .int)) := nice_tuple (k := 61) (d := 0) (fun x hx => by obtain ⟨i, hi, rfl⟩ := List.mem_map.mp hx; exact nice_int (h i hi)) (by simpa using hn)
theorem strOk_of (s : String) : PyData.strOk (Str.ofString s) = true := by
  rw [Str.ofString_eq_toList]
  simp only [PyData.strOk]
  rw [List.all_toArray, List.all_eq_true]
  intro x hx
  obtain ⟨c, _, rfl⟩ := List.mem_map.mp hx
  have hc : c.val.toNat < 1114112 := by
    have h := c.valid
    simp only [UInt32.isValidChar, Nat.isValidChar] at h
    omega
  exact decide_eq_true hc
theorem strOk_app {s t : Str} (h : PyData.strOk s = true) (k : PyData.strOk t = true) : PyData.strOk (s ++ t) = true := by
  have e : (s ++ t).cps = s.cps ++ t.cps := rfl
  simp only [PyData.strOk, e, Array.all_append, Bool.and_eq_true] at *
  exact ⟨h, k⟩
theorem strOk_from : ∀ (ts : List Str) (k : Nat) (acc : Str), (∀ t ∈ ts, PyData.strOk t = true) → PyData.strOk acc = true → PyData.strOk (textFrom k acc ts) = true
  | [], _, acc, _, h => h
  | t :: ts, k, acc, h, k2 => by
    simp only [textFrom]
    exact strOk_from ts _ _ (fun u hu => h u (List.mem_cons_of_mem _ hu)) (strOk_app (strOk_app k2 (strOk_of _)) (h t (List.mem_cons_self ..)))
theorem strOk_join : ∀ ts : List Str, (∀ t ∈ ts, PyData.strOk t = true) → PyData.strOk (Str.join ", " ts) = true
  | [], _ => by simp [Str.join, Str.empty, PyData.strOk]
  | [t], h => h t (List.mem_cons_self ..)
  | t :: u :: ts, h => by
    simp only [Str.join]
    exact strOk_app (strOk_app (h t (List.mem_cons_self ..)) (strOk_of _)) (strOk_join (u :: ts) fun v hv => h v (List.mem_cons_of_mem _ hv))
mutual
theorem shown_ok : ∀ x : PyData, cost x < 1000000 → PyData.strOk (PyData.shown x) = true
  | .none, _ => by simp only [PyData.shown]; exact strOk_of _
  | .bool b, _ => by simp only [PyData.shown]; split <;> exact strOk_of _
  | .int i, h => by simp only [PyData.shown]; exact strOk_of _
  | .str s, h => by
    simp only [cost] at h
    split at h
    · rename_i e; exact e
    · omega
  | .list xs, h => by
    simp only [cost] at h
    simp only [PyData.shown, listText]
    exact strOk_app (strOk_from _ _ _ (shown_oks xs (by omega)) (strOk_of _)) (strOk_of _)
  | .tuple xs, h => by
    simp only [cost] at h
    simp only [PyData.shown, tupleText]
    refine strOk_app (strOk_app (strOk_of _) (strOk_join _ (shown_oks xs (by omega)))) ?_
    split <;> exact strOk_of _
  | .dict [], _ => by decide +kernel
  | .dict (_ :: _), h => by simp [cost] at h
theorem shown_oks : ∀ xs : List PyData, costs xs < 1000000 → ∀ t ∈ PyData.shownAll xs, PyData.strOk t = true
  | [], _, t, ht => by simp [PyData.shownAll] at ht
  | x :: xs, h, t, ht => by
    simp only [costs] at h
    simp only [PyData.shownAll, List.mem_cons] at ht
    rcases ht with rfl | ht
    · exact shown_ok x (by omega)
    · exact shown_oks xs (by omega) t ht
end
theorem str_shaped {s : Str} (h : PyData.strOk s = true) : SeqAt.shaped (.str s) = true := by simp [SeqAt.shaped, PyData.canLay0, h, PyData.depth]
theorem str_ne {s : Str} (h : PyData.strOk s = true) : fNe (.str s) (.str s) = some (.bool false) := by simp [fNe, str_shaped h, PyData.eqv]
/-- the same for data that may hold dicts without entries -/
structure Fine (k d : Nat) (x : PyData) : Prop where
  k : cost x ≤ k
  d : PyData.depth x ≤ d
theorem Nice.fine {k d : Nat} {x : PyData} (h : Nice k d x) : Fine k d x := ⟨h.k, h.d⟩
theorem Fine.mono {k d k' d' : Nat} {x : PyData} (h : Fine k d x) (a : k ≤ k') (b : d ≤ d') : Fine k' d' x := ⟨Nat.le_trans h.k a, Nat.le_trans h.d b⟩
theorem fine_all {k d : Nat} : ∀ (xs : List PyData), (∀ x ∈ xs, Fine k d x) → costs xs ≤ xs.length * (k + 2) ∧ PyData.depthAll xs ≤ d
  | [], _ => by simp [costs, PyData.depthAll]
  | x :: xs, h => by
    obtain ⟨h2, h3⟩ := fine_all xs fun y hy => h y (List.mem_cons_of_mem _ hy)
    obtain ⟨k2, k3⟩ := h x (List.mem_cons_self ..)
    refine ⟨?_, by simp only [PyData.depthAll]; omega⟩
    simp only [costs, List.length_cons, Nat.add_mul, Nat.one_mul]
    omega
theorem fine_tuple {k d n : Nat} {xs : List PyData} (h : ∀ x ∈ xs, Fine k d x) (hn : xs.length ≤ n) : Fine (n * (k + 2) + 3) (d + 1) (.tuple xs) := by
  obtain ⟨h2, h3⟩ := fine_all xs h
  have := Nat.mul_le_mul_right (k + 2) hn
  exact ⟨by simp only [cost]; omega, by simp only [PyData.depth]; omega⟩
theorem fine_ne {k d : Nat} {x : PyData} (h : Fine k d x) (hk : k ≤ 100000) : fNe (.str (PyData.shown x)) (.str (PyData.shown x)) = some (.bool false) := str_ne (shown_ok x (by have := h.k; omega))
end Lf
end
section
set_option Elab.async false
set_option linter.all false
set_option maxRecDepth 100000
set_option maxHeartbeats 2000000
namespace Cp
open PySem PySem.Spec L2 Lf
def D_is_whole : DS := (dRt (eAn (eTyIs "int" (eVar 0)) (eOp2 fGe (eVar 0) (eD (.int 0)))))
def f_is_whole : DF := dFn [false] 0 D_is_whole
def D_is_short_tuple : DS := (dRt (eAn (eTyIs "tuple" (eVar 0)) (eChn fLe fLe (eD (.int 1)) (eLen (eVar 0)) (eD (.int 8)))))
def f_is_short_tuple : DF := dFn [false] 0 D_is_short_tuple
def D_is_row : DS := (dRt (eAn (eCl 1 f_is_short_tuple (aCons (eVar 0) aNil)) (eAll [1] (iSq (eVar 0)) (gNm 1) tYs (eCl 1 f_is_whole (aCons (eVar 1) aNil)))))
def f_is_row : DF := dFn [false] 1 D_is_row
def D_is_hall : DS := (dSq (dIf (tOr' (tNt (tV (eCl 1 f_is_short_tuple (aCons (eVar 0) aNil)))) (tNt (tV (eAll [1] (iSq (eVar 0)) (gNm 1) tYs (eCl 1 f_is_row (aCons (eVar 1) aNil)))))) (dRt (eD (.bool false))) dNx) (dRt (eAll [1] (iSq (eVar 0)) (gNm 1) tYs (eOp2 fEq (eLen (eVar 1)) (eLen (eIx (eVar 0) (eD (.int 0))))))))
def f_is_hall : DF := dFn [false] 1 D_is_hall
def D_is_day : DS := (dSq (dIf (tOr' (tV (eTyNot "list" (eVar 1))) (tV (eOp2 fNe (eLen (eVar 1)) (eLen (eIx (eVar 0) (eD (.int 0))))))) (dRt (eD (.bool false))) dNx) (dSq (dIf (tNt (tV (eAll [2] (iSq (eVar 1)) (gNm 2) tYs (eCl 1 f_is_whole (aCons (eVar 2) aNil))))) (dRt (eD (.bool false))) dNx) (dRt (eAll [3] (iR2 (aCons (eD (.int 1)) (aCons (eLen (eVar 1)) aNil))) (gNm 3) tYs (eOp2 fLe (eIx (eVar 1) (eOp2 fSub (eVar 3) (eD (.int 1)))) (eIx (eVar 1) (eVar 3)))))))
def f_is_day : DF := dFn [false, false] 2 D_is_day
def D_check_hall : DS := (dIf (tNt (tV (eCl 1 f_is_hall (aCons (eVar 0) aNil)))) (fun en => .error (.exn "NoHall" en)) dNx)
def f_check_hall : DF := dFn [false] 0 D_check_hall
def D_check_day : DS := (dIf (tNt (tV (eCl 2 f_is_day (aCons (eVar 0) (aCons (eVar 1) aNil))))) (fun en => .error (.exn "NoDay" en)) dNx)
def f_check_day : DF := dFn [false, false] 0 D_check_day
def D_served : DS := (dSq (dSet 2 (eD (.int 0))) (dSq (dSet 3 (eLst aNil)) (dSq (dFor (iZ2 (aCons (eVar 0) (aCons (eVar 1) aNil))) (gTp [4, 5]) (dSq (dSet 2 (eOp2 fAdd (eCb fMax2 (aCons (eVar 2) (aCons (eVar 5) aNil))) (eVar 4))) (dEx (eApp 3 (eVar 2))))) (dRt (eMov 3)))))
def f_served : DF := dFn [false, false] 4 D_served
def D_gone_through : DS := (dSq (dSet 2 (eLst aNil)) (dSq (dSet 3 (eVar 1)) (dSq (dFor (iSq (eVar 0)) (gNm 4) (dSq (dSet 3 (eCl 2 f_served (aCons (eVar 4) (aCons (eVar 3) aNil)))) (dEx (eApp 2 (eMovK 3))))) (dRt (eMov 2)))))
def f_gone_through : DF := dFn [false, false] 3 D_gone_through
def D_cell_ahead : DS := (dSq (dAsg (gTp [3, 4]) (eVar 2)) (dSq (dIf (tV (eOp2 fEq (eVar 3) (eD (.int 0)))) (dSq (dIf (tOr' (tV (eOp2 fEq (eVar 4) (eD (.int 0)))) (tV (eOp2 fLe (eIx (eIx (eVar 0) (eD (.int 0))) (eOp2 fSub (eVar 4) (eD (.int 1)))) (eIx (eVar 1) (eVar 4))))) (dRt (eD .none)) dNx) (dRt (eTup (aCons (eD (.int 0)) (aCons (eOp2 fSub (eVar 4) (eD (.int 1))) aNil))))) dNx) (dSq (dIf (tAn (tV (eOp2 fGt (eVar 4) (eD (.int 0)))) (tV (eOp2 fGe (eIx (eIx (eVar 0) (eVar 3)) (eOp2 fSub (eVar 4) (eD (.int 1)))) (eIx (eIx (eVar 0) (eOp2 fSub (eVar 3) (eD (.int 1)))) (eVar 4))))) (dRt (eTup (aCons (eVar 3) (aCons (eOp2 fSub (eVar 4) (eD (.int 1))) aNil)))) dNx) (dRt (eTup (aCons (eOp2 fSub (eVar 3) (eD (.int 1))) (aCons (eVar 4) aNil)))))))
def f_cell_ahead : DF := dFn [false, false, false] 2 D_cell_ahead
end Cp
end
section
set_option Elab.async false
set_option linter.all false
set_option maxRecDepth 100000
set_option maxHeartbeats 2000000
namespace Ca
open PySem PySem.Spec L2 Lf
def D__law_dip : DS := (dSq (dIf (tV (eOp2 fGt (eIxS 0 (eD (.int 0))) (eD (.int 0)))) (dSq (dSet 2 (eOp2 fMod (eIxS 0 (eD (.int 0))) (eVar 1))) (dSq (dStI 0 (eOp2 fDiv (eIxS 0 (eD (.int 0))) (eVar 1)) (eD (.int 0))) (dRt (eMov 2)))) dNx) (dSq (dStI 0 (eOp2 fAdd (eIxS 0 (eD (.int 2))) (eD (.int 1))) (eD (.int 2))) (dSq (dSet 3 (eOp2 fMod (eOp2 fPow (eOp2 fAdd (eIxS 0 (eD (.int 1))) (eOp2 fMul (eD (.int 49979687)) (eIxS 0 (eD (.int 2))))) (eD (.int 3))) (eOp2 fAdd (eOp2 fPow (eD (.int 10)) (eD (.int 38))) (eD (.int 133))))) (dSq (dSet 3 (eOp2 fMod (eOp2 fPow (eOp2 fAdd (eVar 3) (eOp2 fMul (eD (.int 160481183)) (eIxS 0 (eD (.int 2))))) (eD (.int 3))) (eOp2 fAdd (eOp2 fPow (eD (.int 10)) (eD (.int 35))) (eD (.int 69))))) (dRt (eOp2 fMod (eOp2 fDiv (eVar 3) (eD (.int 131071))) (eVar 1)))))))
def f__law_dip : DF := dFn [true, false] 2 D__law_dip
def D__law_hall : DS := (dSq (dSet 4 (eClB 2 f__law_dip 0 (aCons (eD (.int 3)) aNil))) (dSq (dSet 5 (eOp2 fAdd (eD (.int 1)) (eClB 2 f__law_dip 0 (aCons (eVar 2) aNil)))) (dSq (dSet 6 (eLst aNil)) (dSq (dFor (iR1 (aCons (eOp2 fAdd (eD (.int 1)) (eClB 2 f__law_dip 0 (aCons (eVar 1) aNil))) aNil)) (gNm 7) (dSq (dSet 8 (eLst aNil)) (dSq (dFor (iR1 (aCons (eVar 5) aNil)) (gNm 9) (dEx (eApp 8 (eIx (eLst (aCons (eClB 2 f__law_dip 0 (aCons (eD (.int 4)) aNil)) (aCons (eClB 2 f__law_dip 0 (aCons (eD (.int 12)) aNil)) (aCons (eClB 2 f__law_dip 0 (aCons (eVar 3) aNil)) aNil)))) (eClB 2 f__law_dip 0 (aCons (eOp2 fAdd (eD (.int 1)) (eVar 4)) aNil)))))) (dEx (eApp 6 (eTp (eVar 8))))))) (dRt (eTp (eVar 6)))))))
def f__law_hall : DF := dFn [true, false, false, false] 6 D__law_hall
end Ca
end
section
set_option Elab.async false
set_option linter.all false
set_option maxRecDepth 100000
set_option maxHeartbeats 2000000
namespace Pl
open PySem PySem.Spec L2 Lf Cp Ca
abbrev I (i : Int) : OT := .d (.int i)
abbrev W (a b c : Int) : OT := .own [I a, I b, I c]
theorem bits_le {i : Int} {k : Nat} (h : i.natAbs < 2 ^ k) : Builtin.Int.intBits i ≤ k := by
  unfold Builtin.Int.intBits
  split
  · omega
  · rename_i h0
    have := (Nat.log2_lt (by simpa using h0)).mpr h
    omega
theorem log_le {i : Int} {k : Nat} (h : i.natAbs < 2 ^ k) : i.natAbs.log2 ≤ k := by
  by_cases h0 : i.natAbs = 0
  · rw [h0]; simp [Nat.log2_def]
  · exact Nat.le_of_lt ((Nat.log2_lt h0).mpr h)
theorem pow_ok {i : Int} (h : i.natAbs < 2 ^ 200) : (Builtin.Int.intBits i : Int) * 3 ≤ 2 ^ 27 := by
  have := bits_le h
  omega
/-- a well: three numbers, of which the last one has come to t at the most -/
def WOk (t : Int) (o : OT) : Prop := ∃ a b c, o = W a b c ∧ 0 ≤ a ∧ (0 ≤ b ∧ b < 10 ^ 40) ∧ 0 ≤ c ∧ c ≤ t
theorem WOk.mono {t u : Int} {o : OT} (h : WOk t o) (hu : t ≤ u) : WOk u o := by
  obtain ⟨a, b, c, e, h1, h2, h3, h4⟩ := h
  exact ⟨a, b, c, e, h1, h2, h3, by omega⟩
end Pl
end
section
set_option Elab.async false
set_option linter.all false
set_option maxRecDepth 100000
set_option maxHeartbeats 2000000
namespace Pl
open PySem PySem.Spec L2 Lf Cp Ca
theorem inR_nat {n : Nat} (h : n ≤ 1000) : inR (n : Int) = true := by
  have h2 : (n : Int) ≤ 1000 := by omega
  have h1 : (0 : Int) ≤ n := by omega
  generalize (n : Int) = z at h1 h2
  exact decide_eq_true ⟨by omega, by omega⟩
theorem forD_inv {g : DG} {body : DS} (P : Nat → En → Prop) : ∀ (xs : List PyData) (k : Nat) (en : En), P k en → (∀ (i : Nat) (x : PyData) (e : En), xs[i]? = some x → P (k + i) e → ∃ e1 e2, g x e = some e1 ∧ body e1 = .ok (.nx, e2) ∧ P (k + i + 1) e2) → ∃ e', forD g body xs en = .ok (.nx, e') ∧ P (k + xs.length) e'
  | [], k, en, h, _ => ⟨en, rfl, h⟩
  | x :: xs, k, en, h, st => by
    obtain ⟨e1, e2, h1, h2, h3⟩ := st 0 x en rfl h
    obtain ⟨e', h4, h5⟩ := forD_inv P xs (k + 1) e2 h3 fun i y e hy hp => by
      have := st (i + 1) y e (by simpa using hy)
      rw [show k + (i + 1) = k + 1 + i by omega] at this
      exact this hp
    refine ⟨e', by simp [forD, h1, h2, bd, h4], ?_⟩
    rw [show k + (x :: xs).length = k + 1 + xs.length by simp; omega]
    exact h5
theorem forR {g : DG} {body : DS} {en : En} (P : Nat → En → Prop) (n : Nat) (h0 : P 0 en) (st : ∀ (i : Nat) (e : En), i < n → P i e → ∃ e1 e2, g (.int i) e = some e1 ∧ body e1 = .ok (.nx, e2) ∧ P (i + 1) e2) : ∃ e', forD g body (rng 0 n) en = .ok (.nx, e') ∧ P n e' := by
  obtain ⟨e', h1, h2⟩ := forD_inv P (rng 0 n) 0 en h0 fun i x e hx hp => by
    obtain ⟨hi, rfl⟩ : i < n ∧ .int i = x := by
      obtain ⟨hj, rfl⟩ := List.getElem?_eq_some_iff.mp hx
      have hn : i < n := by simpa [rng] using hj
      exact ⟨hn, by simp [rng]⟩
    rw [Nat.zero_add] at hp ⊢
    exact st i e hi hp
  refine ⟨e', h1, ?_⟩
  simpa [rng] using h2
theorem WOk.noFr {t : Int} {o : OT} (h : WOk t o) : noFr o = true := by
  obtain ⟨a, b, c, rfl, _⟩ := h
  simp [Lf.noFr, noFrs]
/-- a name that may be unbound -/
def sl : Option OT → Slot
  | some o => .v o
  | none => .un
def hEn (o : OT) (cu cs wide lean many : Int) (rows : List OT) (s7 s8 s9 : Option OT) : En := [.p o, .v (I cu), .v (I cs), .v (I wide), .v (I lean), .v (I many), .v (.own rows), sl s7, sl s8, sl s9]
/-- a row of n numbers below wide -/
def ROk (n : Nat) (wide : Int) (r : List Int) : Prop := r.length = n ∧ ∀ x ∈ r, 0 ≤ x ∧ x < wide
abbrev rowP (r : List Int) : PyData := .tuple (r.map .int)
theorem frzs_d : ∀ xs : List PyData, frzs (xs.map .d) = some xs
  | [] => rfl
  | x :: xs => by simp [frzs, frz, frzs_d xs]
theorem frzs_I (xs : List Int) : frzs (xs.map I) = some (xs.map .int) := by
  have := frzs_d (xs.map .int)
  rw [List.map_map] at this
  exact this
theorem st1 {o : OT} {cu cs wide lean many : Int} {rows : List OT} {s7 s8 s9 : Option OT} : dSet 8 (eLst aNil) (hEn o cu cs wide lean many rows s7 s8 s9) = .ok (.nx, hEn o cu cs wide lean many rows s7 (some (.own [])) s9) := by
  have hk0 : few 0 = true := rfl
  cases s8 <;> simp [dSet, eLst, aNil, bd, hk0, hEn, sl, stor]
theorem dFor_I {da : DA} {g : DG} {B : DS} {en en' : En} {j : Int} (h1 : da en = .ok ([I j], en')) (hj : inR j = true) : dFor (iR1 da) g B en = forD g B (rng 0 j.toNat) en' := by simp [dFor, iR1, h1, bd, hj]
theorem dFor_N {da : DA} {g : DG} {B : DS} {en en' : En} {n : Nat} (h1 : da en = .ok ([I n], en')) (hn : n ≤ 1000) : dFor (iR1 da) g B en = forD g B (rng 0 n) en' := by
  have := dFor_I (g := g) (B := B) h1 (inR_nat hn)
  rw [Int.toNat_natCast] at this
  exact this
theorem st2 {o : OT} {cu cs wide lean : Int} {n : Nat} {rows : List OT} {s7 s8 s9 : Option OT} {B : DS} (hn : n ≤ 8) : dFor (iR1 (aCons (eVar 5) aNil)) (gNm 9) B (hEn o cu cs wide lean n rows s7 s8 s9) = forD (gNm 9) B (rng 0 n) (hEn o cu cs wide lean n rows s7 s8 s9) := dFor_N rfl (by omega)
end Pl
end
section
set_option Elab.async false
set_option linter.all false
set_option maxRecDepth 100000
set_option maxHeartbeats 2000000
namespace Pl
open PySem PySem.Spec L2 Lf Cp Ca
/-- n times that don't fall, none over top -/
def TOk (n : Nat) (most : Int) (r : List Int) : Prop := r.length = n ∧ r.Pairwise (· ≤ ·) ∧ ∀ x ∈ r, 0 ≤ x ∧ x ≤ most
end Pl
end
section
set_option Elab.async false
set_option linter.all false
set_option maxRecDepth 100000
set_option maxHeartbeats 2000000
namespace Pl
open PySem PySem.Spec L2 Lf Cp Ca
theorem allD_true {vs : List Nat} {g : DG} {te : DE} {en : En} : ∀ (xs : List PyData), (∀ x ∈ xs, ∃ e2 e3, g x en = some e2 ∧ te e2 = .ok (.d (.bool true), e3) ∧ wipeE vs e3 = some en) → allD vs g tYs te xs en = .ok (true, en)
  | [], _ => rfl
  | x :: xs, h => by
    obtain ⟨e2, e3, h1, h2, h3⟩ := h x (List.mem_cons_self ..)
    have := allD_true (te := te) xs fun y hy => h y (List.mem_cons_of_mem _ hy)
    simp [allD, h1, tYs, bd, nx, h2, h3]
    simpa [tYs] using this
abbrev yes : OT := .d (.bool true)
theorem is_whole {i : Int} (h : 0 ≤ i) : f_is_whole [I i] = .ok (yes, [.hole]) := by
  simp [f_is_whole, D_is_whole, dFn, mkEn, dRt, eAn, eTyIs, eVar, bd, frz, tyOf, eOp2, eD, fGe, fI, h, outs, fin, noFrs, noFr]
theorem is_short_tuple {xs : List PyData} (h1 : 1 ≤ xs.length) (h8 : xs.length ≤ 8) : f_is_short_tuple [.d (.tuple xs)] = .ok (yes, [.hole]) := by
  have a : (1 : Int) ≤ xs.length := by omega
  have b : (xs.length : Int) ≤ 8 := by omega
  simp [f_is_short_tuple, D_is_short_tuple, dFn, mkEn, dRt, eAn, eTyIs, eVar, bd, frz, tyOf, eChn, eLen, dlen, eD, fLe, fI, a, b, outs, fin, noFrs, noFr]
theorem is_row {n : Nat} {wide : Int} {r : List Int} (h : ROk n wide r) (h1 : 1 ≤ n) (h8 : n ≤ 8) : f_is_row [.d (rowP r)] = .ok (yes, [.hole]) := by
  have a := is_short_tuple (xs := r.map .int) (by simp [h.1, h1]) (by simp [h.1, h8])
  have b : allD [1] (gNm 1) tYs (eCl 1 f_is_whole (aCons (eVar 1) aNil)) (r.map .int) [.v (.d (rowP r)), .un] = .ok (true, [.v (.d (rowP r)), .un]) := by
    refine allD_true _ fun x hx => ?_
    obtain ⟨i, hi, rfl⟩ := List.mem_map.mp hx
    have := is_whole (h.2 i hi).1
    exact ⟨[.v (.d (rowP r)), .v (I i)], [.v (.d (rowP r)), .v (I i)], rfl, by simp [eCl, aCons, eVar, aNil, bd, ar, noFrs, noFr, this], rfl⟩
  simp [f_is_row, D_is_row, dFn, mkEn, dRt, eAn, eCl, aCons, eVar, aNil, bd, ar, noFrs, noFr, a]
  simp [eCl] at b
  simp [eAll, iSq, eVar, bd, frz, dItems, wipeE, b, okB, outs, fin, noFrs, noFr]
/-- the halls that the law makes -/
structure HOk (m n : Nat) (wide : Int) (rs : List (List Int)) : Prop where
  len : rs.length = m
  m1 : 1 ≤ m
  m8 : m ≤ 8
  n1 : 1 ≤ n
  n8 : n ≤ 8
  rows : ∀ r ∈ rs, ROk n wide r
abbrev hallP (rs : List (List Int)) : PyData := .tuple (rs.map rowP)
theorem is_hall {m n : Nat} {wide : Int} {rs : List (List Int)} (h : HOk m n wide rs) : f_is_hall [.d (hallP rs)] = .ok (yes, [.hole]) := by
  have a := is_short_tuple (xs := rs.map rowP) (by simp [h.len, h.m1]) (by simp [h.len, h.m8])
  have b : allD [1] (gNm 1) tYs (eCl 1 f_is_row (aCons (eVar 1) aNil)) (rs.map rowP) [.v (.d (hallP rs)), .un] = .ok (true, [.v (.d (hallP rs)), .un]) := by
    refine allD_true _ fun x hx => ?_
    obtain ⟨r, hr, rfl⟩ := List.mem_map.mp hx
    have := is_row (h.rows r hr) h.n1 h.n8
    exact ⟨[.v (.d (hallP rs)), .v (.d (rowP r))], [.v (.d (hallP rs)), .v (.d (rowP r))], rfl, by simp [eCl, aCons, eVar, aNil, bd, ar, noFrs, noFr, this], rfl⟩
  obtain ⟨r0, rs', hrs⟩ : ∃ r0 rs', rs = r0 :: rs' := by
    cases rs with
    | nil => have := h.len; have := h.m1; simp at *; omega
    | cons r0 rs' => exact ⟨_, _, rfl⟩
  have c : allD [1] (gNm 1) tYs (eOp2 fEq (eLen (eVar 1)) (eLen (eIx (eVar 0) (eD (.int 0))))) (rs.map rowP) [.v (.d (hallP rs)), .un] = .ok (true, [.v (.d (hallP rs)), .un]) := by
    refine allD_true _ fun x hx => ?_
    obtain ⟨r, hr, rfl⟩ := List.mem_map.mp hx
    have e1 := (h.rows r hr).1
    have e2 := (h.rows r0 (by simp [hrs])).1
    refine ⟨[.v (.d (hallP rs)), .v (.d (rowP r))], [.v (.d (hallP rs)), .v (.d (rowP r))], rfl, ?_, rfl⟩
    simp [eOp2, eLen, eVar, eIx, eD, bd, dlen, atI, ixN, frz, hrs, fEq, SeqAt.shaped, PyData.eqv, PyData.canLay0, PyData.depth, e1, e2]
  simp [f_is_hall, D_is_hall, dFn, mkEn, dSq, dIf, tOr', tNt, tV, eCl, aCons, aNil, eAll, iSq, eVar, bd, ar, noFrs, noFr, a, frz, dItems, wipeE, b, c, okB, dNx, dRt, outs, fin]
end Pl
end
section
set_option Elab.async false
set_option linter.all false
set_option maxRecDepth 100000
set_option maxHeartbeats 2000000
namespace Pl
open PySem PySem.Spec L2 Lf Cp Ca
abbrev dayP (r : List Int) : PyData := .list (r.map .int)
theorem atI_nat {α : Type} {xs : List α} {i : Nat} (h : i < xs.length) : atI xs (i : Int) = some xs[i] := by
  have a : ¬ ((i : Int) < 0) := by omega
  simp [atI, ixN, h, a]
theorem dRt_ok {da : DE} {en e1 : En} {o : OT} (h : da en = .ok (o, e1)) : dRt da en = .ok (.rt o, e1) := by simp [dRt, h, bd]
theorem fn_ok {fl : List Bool} {k : Nat} {B : DS} {os : List OT} {o : OT} {en : En} (hl : os.length = fl.length) (h : B (mkEn fl os ++ List.replicate k .un) = .ok (.rt o, en)) (hf : noFrs (o :: outs fl en) = true) : dFn fl k B os = .ok (o, outs fl en) := by
  unfold dFn fin
  simp only [hl, if_true, h, hf]
end Pl
end
section
set_option Elab.async false
set_option linter.all false
set_option maxRecDepth 100000
set_option maxHeartbeats 2000000
namespace Pl
open PySem PySem.Spec L2 Lf Cp Ca
/-! ### tools -/
def np : Slot → Bool
  | .p _ => false
  | _ => true
theorem stor_eq (i : Nat) (o : OT) (en : En) : stor i o en = match en[i]? with | some s => if np s = true then some (en.set i (.v o)) else none | none => none := by
  unfold stor
  split <;> simp_all [np]
@[simp] theorem np_v (o : OT) : np (.v o) = true := rfl
@[simp] theorem np_un : np .un = true := rfl
theorem if_max (i j : Int) : (if i < j then j else i) = max i j := by omega
theorem if_min (i j : Int) : (if j < i then j else i) = min i j := by omega
theorem few_of {n : Nat} (h : n ≤ 100000) : few n = true := decide_eq_true h
theorem noFrs_d : ∀ xs : List PyData, noFrs (xs.map .d) = true
  | [] => rfl
  | x :: xs => by simp [noFrs, noFr, noFrs_d xs]
@[simp] theorem noFrs_I (xs : List Int) : noFrs (xs.map I) = true := by
  have := noFrs_d (xs.map .int)
  rw [List.map_map] at this
  exact this
@[simp] theorem frzs_I' (xs : List Int) : frzs (xs.map I) = some (xs.map .int) := frzs_I xs
/-- a for whose items are of one kind, by what is left of them -/
theorem forD_rest {α : Type} {item : α → PyData} {g : DG} {body : DS} (P : List α → En → Prop) (st : ∀ a as en, P (a :: as) en → ∃ e1 e2, g (item a) en = some e1 ∧ body e1 = .ok (.nx, e2) ∧ P as e2) : ∀ as en, P as en → ∃ en', forD g body (as.map item) en = .ok (.nx, en') ∧ P [] en'
  | [], en, h => ⟨en, rfl, h⟩
  | a :: as, en, h => by
    obtain ⟨e1, e2, h1, h2, h3⟩ := st a as en h
    obtain ⟨en', h4, h5⟩ := forD_rest P st as e2 h3
    exact ⟨en', by simp [forD, h1, h2, bd, h4], h5⟩
/-- a list display whose items are of one kind -/
theorem lcD_map {α : Type} {item : α → PyData} {vs : List Nat} {g : DG} {te : DE} {en : En} (o : α → OT) : ∀ (as : List α) (acc : List OT), acc.length + as.length ≤ 100000 → (∀ a ∈ as, ∃ e2 e3, g (item a) en = some e2 ∧ te e2 = .ok (o a, e3) ∧ wipeE vs e3 = some en) → lcD vs g tYs te (as.map item) en acc = .ok (.own (acc ++ as.map o), en)
  | [], acc, _, _ => by simp [lcD]
  | a :: as, acc, hl, h => by
    obtain ⟨e2, e3, h1, h2, h3⟩ := h a (List.mem_cons_self ..)
    have hf : few acc.length = true := few_of (by simp at hl; omega)
    have := lcD_map (te := te) o as (acc ++ [o a]) (by simp at hl ⊢; omega) fun b hb => h b (List.mem_cons_of_mem _ hb)
    simp only [List.map_cons, lcD, h1, tYs, bd, nx, h2, h3, hf, if_true]
    simp [tYs] at this ⊢
    rw [this]
theorem zip2_map {α β : Type} (f : α → PyData) (g : β → PyData) : ∀ (xs : List α) (ys : List β), zip2 (xs.map f) (ys.map g) = (xs.zip ys).map fun p => .tuple [f p.1, g p.2]
  | [], _ => by simp [zip2]
  | _ :: _, [] => by simp [zip2]
  | x :: xs, y :: ys => by
    have := zip2_map f g xs ys
    simp [zip2] at this ⊢
    exact this
/-! ### one counter -/
def servedP : Int → List (Int × Int) → List Int
  | free, p :: ps => (max free p.2 + p.1) :: servedP (max free p.2 + p.1) ps
  | _, [] => []
abbrev servedL (rs cs : List Int) : List Int := servedP 0 (rs.zip cs)
/-! ### all counters -/
abbrev OW (r : List Int) : OT := .own (r.map I)
theorem noFrs_OW (rs : List (List Int)) : noFrs (rs.map OW) = true := by induction rs <;> simp_all [noFrs, noFr]
theorem check_hall {m n : Nat} {wide : Int} {rs : List (List Int)} (h : HOk m n wide rs) : f_check_hall [.d (hallP rs)] = .ok (.d .none, [.hole]) := by
  simp [f_check_hall, D_check_hall, dFn, mkEn, dIf, tNt, tV, eCl, aCons, aNil, eVar, bd, ar, noFrs, noFr, is_hall h, dNx, outs, fin]
end Pl
end
section
set_option Elab.async false
set_option linter.all false
set_option maxRecDepth 100000
set_option maxHeartbeats 2000000
/-! ### how what is run comes out, piece by piece -/
namespace Ev
open PySem PySem.Spec L2 Lf
/-- an item -/
def ixV : OT → Int → Option OT
  | .d (.list xs), k => (atI xs k).map .d
  | .d (.tuple xs), k => (atI xs k).map .d
  | .own os, k => atI os k
  | _, _ => none
def catV : PyData → PyData → Option OT
  | .list xs, .list ys => if few (xs ++ ys).length = true then some (.own ((xs ++ ys).map .d)) else none
  | .tuple xs, .tuple ys => if few (xs ++ ys).length = true then some (.d (.tuple (xs ++ ys))) else none
  | _, _ => none
def slV : PyData → Option Int → Option Int → Option OT
  | .list xs, l, u => some (.own ((cutA xs l u).map .d))
  | .tuple xs, l, u => some (.d (.tuple (cutA xs l u)))
  | _, _, _ => none
theorem ixVl {xs : List PyData} {k : Int} {x : PyData} (h : atI xs k = some x) : ixV (.d (.list xs)) k = some (.d x) := by simp [ixV, h]
theorem ixVt {xs : List PyData} {k : Int} {x : PyData} (h : atI xs k = some x) : ixV (.d (.tuple xs)) k = some (.d x) := by simp [ixV, h]
theorem ixVo {os : List OT} {k : Int} {o : OT} (h : atI os k = some o) : ixV (.own os) k = some o := by simp [ixV, h]
theorem catVl {xs ys : List PyData} (h : few (xs ++ ys).length = true) : catV (.list xs) (.list ys) = some (.own ((xs ++ ys).map .d)) := by unfold catV; simp only [h, if_true]
theorem catVt {xs ys : List PyData} (h : few (xs ++ ys).length = true) : catV (.tuple xs) (.tuple ys) = some (.d (.tuple (xs ++ ys))) := by unfold catV; simp only [h, if_true]
theorem stor_np {i : Nat} {o : OT} {en e1 : En} {s : Slot} (h : en[i]? = some s) (k : Pl.np s = true) (hr : en.set i (.v o) = e1) : stor i o en = some e1 := by simp [Pl.stor_eq, h, k, hr]
theorem frz_own {os : List OT} {xs : List PyData} (h : frzs os = some xs) : frz (.own os) = some (.list xs) := by simp [frz, h]
theorem frzs_cons {o : OT} {os : List OT} {x : PyData} {xs : List PyData} (h : frz o = some x) (k : frzs os = some xs) : frzs (o :: os) = some (x :: xs) := by simp [frzs, h, k]
section
variable {en e1 e2 e3 : En} {o p q : OT} {os ps qs : List OT} {x y z : PyData} {xs ys : List PyData} {i j : Nat} {k : Int} {da db dc : DE} {dr : DA} {b : Bool}
theorem d_ : eD x en = .ok (.d x, en) := rfl
theorem var (h : en[i]? = some (.v (.d x))) : eVar i en = .ok (.d x, en) := by simp [eVar, h]
theorem varp (h : en[i]? = some (.p (.d x))) : eVar i en = .ok (.d x, en) := by simp [eVar, h]
theorem varo (h : en[i]? = some (.v (.own os))) (f : frzs os = some xs) (hr : en.set i (.v (.d (.list xs))) = e1) : eVar i en = .ok (.d (.list xs), e1) := by simp [eVar, h, frz, f, hr]
theorem mov (h : en[i]? = some (.v o)) (hr : en.set i .un = e1) : eMov i en = .ok (o, e1) := by simp [eMov, h, hr]
theorem nil_ : aNil en = .ok ([], en) := rfl
theorem cons_ (h : da en = .ok (o, e1)) (k : dr e1 = .ok (os, e2)) : aCons da dr en = .ok (o :: os, e2) := by simp [aCons, h, k, bd]
theorem lst (h : dr en = .ok (os, e1)) (f : few os.length = true) : eLst dr en = .ok (.own os, e1) := by simp [eLst, h, bd, f]
theorem tup (h : dr en = .ok (os, e1)) (k : frzs os = some xs) (f : few os.length = true) : eTup dr en = .ok (.d (.tuple xs), e1) := by simp [eTup, h, bd, f, k]
theorem ix (h : da en = .ok (p, e1)) (g : db e1 = .ok (.d (.int k), e2)) (f : ixV p k = some o) : eIx da db en = .ok (o, e2) := by
  unfold ixV at f
  simp only [eIx, h, g, bd]
  split at f
  · obtain ⟨x, hx, rfl⟩ := Option.map_eq_some_iff.mp f
    simp [hx]
  · obtain ⟨x, hx, rfl⟩ := Option.map_eq_some_iff.mp f
    simp [hx]
  · simp [f]
  · cases f
theorem len_ {n : Nat} (h : da en = .ok (o, e1)) (f : dlen o = some n) : eLen da en = .ok (.d (.int n), e1) := by simp [eLen, h, f, bd]
theorem op2 {f : PyData → PyData → Option PyData} (h : da en = .ok (p, e1)) (g : db e1 = .ok (q, e2)) (fp : frz p = some x) (fq : frz q = some y) (hz : f x y = some z) : eOp2 f da db en = .ok (.d z, e2) := by simp [eOp2, h, g, bd, fp, fq, hz]
theorem cb {f : List PyData → Option PyData} (h : dr en = .ok (os, e1)) (fp : frzs os = some xs) (hz : f xs = some z) : eCb f dr en = .ok (.d z, e1) := by simp [eCb, h, bd, fp, hz]
theorem cl {n : Nat} {f : DF} (h : dr en = .ok (os, e1)) (hn : os.length = n) (hf : noFrs os = true) (hz : f os = .ok (o, ps)) : eCl n f dr en = .ok (o, e1) := by simp [eCl, h, bd, ar, hn, hf, hz]
theorem clB {n : Nat} {f : DF} {p' : OT} (h0 : en[i]? = some (mkS b q)) (h : dr en = .ok (os, e1)) (h1 : e1[i]? = some (mkS b p)) (hn : os.length + 1 = n) (hf : noFrs (p :: os) = true) (hz : f (p :: os) = .ok (o, p' :: ps)) (hr : e1.set i (mkS b p') = e2) : eClB n f i dr en = .ok (o, e2) := by
  subst hr
  cases b <;> simp [eClB, h, bd, ar, hn, hf, hz, h0, h1, mkS] <;> simp_all [mkS]
theorem neg (h : da en = .ok (.d (.int k), e1)) : eNeg da en = .ok (.d (.int (-k)), e1) := by simp [eNeg, h, bd]
theorem ls (h : da en = .ok (o, e1)) (f : (frz o).bind dItems = some xs) (hr : xs.map .d = os) : eLs da en = .ok (.own os, e1) := by simp [eLs, h, bd, f, hr]
theorem tp (h : da en = .ok (o, e1)) (f : (frz o).bind dItems = some xs) : eTp da en = .ok (.d (.tuple xs), e1) := by simp [eTp, h, bd, f]
theorem rep (h : da en = .ok (o, e1)) (f : frz o = some x) (g : showOk x = true) : eRep da en = .ok (.d (.str (PyData.shown x)), e1) := by simp [eRep, h, bd, f, g]
theorem cat (h : da en = .ok (p, e1)) (g : db e1 = .ok (q, e2)) (fp : frz p = some x) (fq : frz q = some y) (f : catV x y = some o) : eCat da db en = .ok (o, e2) := by
  unfold catV at f
  unfold eCat
  simp only [h, g, bd, fp, fq]
  split at f
  · split at f
    · cases f; rename_i hf; simp only [hf, if_true]
    · cases f
  · split at f
    · cases f; rename_i hf; simp only [hf, if_true]
    · cases f
  · cases f
theorem rv (h : da en = .ok (o, e1)) (f : frz o = some (.list xs)) (hr : xs.reverse.map .d = os) : eRv da en = .ok (.own os, e1) := by subst hr; simp [eRv, h, bd, f]
theorem rvT (h : da en = .ok (o, e1)) (f : frz o = some (.tuple xs)) (hr : xs.reverse = ys) : eRv da en = .ok (.d (.tuple ys), e1) := by subst hr; simp [eRv, h, bd, f]
theorem ext (h0 : ownAt en i = some (b, ps)) (h : da en = .ok (.own qs, e1)) (h1 : ownAt e1 i = some (b, os)) (f : few (os.length + qs.length) = true) (hr : e1.set i (mkS b (.own (os ++ qs))) = e2) : eExt i da en = .ok (.d .none, e2) := by simp [eExt, extK, h0, h, bd, h1, f, hr]
theorem asg {g : DG} (h : da en = .ok (o, e1)) (f : frz o = some x) (k : g x e1 = some e2) : dAsg g da en = .ok (.nx, e2) := by simp [dAsg, h, bd, f, k]
theorem par (h : dr en = .ok ([o, p], e1)) (k1 : stor i o e1 = some e2) (k2 : stor j p e2 = some e3) : dPar i j dr en = .ok (.nx, e3) := by simp [dPar, h, bd, k1, k2]
theorem aug {f : PyData → PyData → Option PyData} (h0 : sVar i en = some (.int k)) (h : da en = .ok (o, e1)) (g : frz o = some y) (hf : f (.int k) y = some z) (hr : stor i (.d z) e1 = some e2) : dAug i f da en = .ok (.nx, e2) := by simp [dAug, h0, h, bd, g, hf, hr]
theorem pno : pNo en = .ok (none, en) := rfl
theorem psm (h : da en = .ok (.d (.int k), e1)) : pSm da en = .ok (some k, e1) := by simp [pSm, h, bd]
theorem sl_ {dl dh : DP} {l u : Option Int} (h : da en = .ok (p, e1)) (h1 : dl e1 = .ok (l, e2)) (h2 : dh e2 = .ok (u, e3)) (f : frz p = some x) (g : slV x l u = some o) : eSl da dl dh en = .ok (o, e3) := by
  unfold slV at g
  simp only [eSl, h, h1, h2, bd, f]
  split at g
  · cases g; rfl
  · cases g; rfl
  · cases g
theorem app (h0 : ownAt en i = some (b, ps)) (h : da en = .ok (o, e1)) (h1 : ownAt e1 i = some (b, os)) (f : few os.length = true) (hr : e1.set i (mkS b (.own (os ++ [o]))) = e2) : eApp i da en = .ok (.d .none, e2) := by simp [eApp, h0, h, bd, h1, f, hr]
theorem rev_ (h0 : ownAt en i = some (b, ps)) (hr : en.set i (mkS b (.own ps.reverse)) = e1) : eRev i en = .ok (.d .none, e1) := by simp [eRev, h0, hr]
theorem tyIs {T t : String} (h : da en = .ok (o, e1)) (f : (frz o).bind tyOf = some t) : eTyIs T da en = .ok (.d (.bool (decide (t = T))), e1) := by simp [eTyIs, h, bd, f]
theorem tyNot {T t : String} (h : da en = .ok (o, e1)) (f : (frz o).bind tyOf = some t) : eTyNot T da en = .ok (.d (.bool (!decide (t = T))), e1) := by simp [eTyNot, h, bd, f]
/-! tests -/
theorem tv (h : da en = .ok (.d (.bool b), e1)) : tV da en = .ok (b, e1) := by simp [tV, h, bd]
theorem nt {d : DT} (h : d en = .ok (b, e1)) : tNt d en = .ok (!b, e1) := by simp [tNt, h, bd]
theorem orN {c d : DT} {r : R (Bool × En)} (h : c en = .ok (false, e1)) (k : d e1 = r) : tOr' c d en = r := by simp [tOr', h, bd, k]
theorem orY {c d : DT} (h : c en = .ok (true, e1)) : tOr' c d en = .ok (true, e1) := by simp [tOr', h, bd]
theorem anY {c d : DT} {r : R (Bool × En)} (h : c en = .ok (true, e1)) (k : d e1 = r) : tAn c d en = r := by simp [tAn, h, bd, k]
theorem anN {c d : DT} (h : c en = .ok (false, e1)) : tAn c d en = .ok (false, e1) := by simp [tAn, h, bd]
theorem eanY {r : R (OT × En)} (h : da en = .ok (.d (.bool true), e1)) (k : db e1 = r) : eAn da db en = r := by simp [eAn, h, bd, k]
theorem eanN (h : da en = .ok (.d (.bool false), e1)) : eAn da db en = .ok (.d (.bool false), e1) := by simp [eAn, h, bd]
theorem ifY {c : DT} {r : R (OT × En)} (h : c en = .ok (true, e1)) (k : da e1 = r) : eIf c da db en = r := by simp [eIf, h, bd, k]
theorem ifN {c : DT} {r : R (OT × En)} (h : c en = .ok (false, e1)) (k : db e1 = r) : eIf c da db en = r := by simp [eIf, h, bd, k]
/-! statements -/
variable {d e : DS} {r : R (Fl × En)}
theorem sq (h : d en = .ok (.nx, e1)) (k : e e1 = r) : dSq d e en = r := by simp [dSq, h, bd, k]
theorem sqR (h : d en = .ok (.rt o, e1)) : dSq d e en = .ok (.rt o, e1) := by simp [dSq, h, bd]
theorem set_ (h : da en = .ok (o, e1)) (k : stor i o e1 = some e2) : dSet i da en = .ok (.nx, e2) := by simp [dSet, h, bd, k]
theorem rt (h : da en = .ok (o, e1)) : dRt da en = .ok (.rt o, e1) := by simp [dRt, h, bd]
theorem ex (h : da en = .ok (o, e1)) : dEx da en = .ok (.nx, e1) := by simp [dEx, h, bd]
theorem nx_ : dNx en = .ok (.nx, en) := rfl
theorem difY {c : DT} (h : c en = .ok (true, e1)) (k : d e1 = r) : dIf c d e en = r := by simp [dIf, h, bd, k]
theorem difN {c : DT} (h : c en = .ok (false, e1)) (k : e e1 = r) : dIf c d e en = r := by simp [dIf, h, bd, k]
theorem for_ {di : DI} {g : DG} (h : di en = .ok (xs, e1)) (k : forD g d xs e1 = r) : dFor di g d en = r := by simp [dFor, h, bd, k]
theorem forN {da : DA} {g : DG} {n : Nat} (h1 : da en = .ok ([.d (.int n)], e1)) (hn : n ≤ 1000) (k : forD g d (rng 0 n) e1 = r) : dFor (iR1 da) g d en = r := (Pl.dFor_N h1 hn).trans k
theorem lenS (h0 : ownAt en i = some (b, ps)) : eLenS i en = .ok (.d (.int ps.length), en) := by simp [eLenS, h0]
/-! what is walked -/
theorem iSq_ (h : da en = .ok (o, e1)) (f : (frz o).bind dItems = some xs) : iSq da en = .ok (xs, e1) := by simp [iSq, h, bd, f]
end
end Ev
end
section
set_option Elab.async false
set_option linter.all false
set_option maxRecDepth 100000
set_option maxHeartbeats 2000000
namespace Cm
open PySem PySem.Spec L2 Lf
def D_check_counter : DS := (dIf (tOr' (tNt (tV (eCl 1 Cp.f_is_whole (aCons (eVar 1) aNil)))) (tV (eOp2 fGe (eVar 1) (eLen (eVar 0))))) (fun en => .error (.exn "NoCounter" en)) dNx)
def f_check_counter : DF := dFn [false, false] 0 D_check_counter
def D_check_neighbours : DS := (dSq (dEx (eCl 1 Cp.f_check_hall (aCons (eVar 0) aNil))) (dEx (eCl 2 f_check_counter (aCons (eSl (eVar 0) pNo (pSm (eNeg (eD (.int 1))))) (aCons (eVar 1) aNil)))))
def f_check_neighbours : DF := dFn [false, false] 0 D_check_neighbours
def D_leads : DS := (dSq (dSet 2 (eD (.int 0))) (dSq (dSet 3 (eLst aNil)) (dSq (dFor (iZ2 (aCons (eVar 0) (aCons (eVar 1) aNil))) (gTp [4, 5]) (dSq (dAug 2 fAdd (eVar 4)) (dSq (dEx (eApp 3 (eVar 2))) (dAug 2 fSub (eVar 5))))) (dRt (eMov 3)))))
def f_leads : DF := dFn [false, false] 4 D_leads
def D_most_moves : DS := (dSq (dSet 2 (eCb fMaxA (aCons (eCl 2 f_leads (aCons (eVar 0) (aCons (eVar 1) aNil))) aNil))) (dRt (eTup (aCons (eVar 2) (aCons (eOp2 fSub (eOp2 fAdd (eVar 2) (eCb fSumA (aCons (eVar 1) aNil))) (eCb fSumA (aCons (eVar 0) aNil))) aNil)))))
def f_most_moves : DF := dFn [false, false] 1 D_most_moves
def D_going_on : DS := (dSq (dSet 3 (eCl 2 f_leads (aCons (eVar 0) (aCons (eVar 1) aNil)))) (dSq (dSet 4 (eOp2 fSub (eCb fMaxA (aCons (eVar 3) aNil)) (eVar 2))) (dSq (dSet 5 (eLst aNil)) (dSq (dFor (iSq (eVar 3)) (gNm 6) (dSq (dEx (eApp 5 (eCb fMax2 (aCons (eOp2 fSub (eVar 6) (eVar 4)) (aCons (eD (.int 0)) aNil))))) (dSet 4 (eCb fMax2 (aCons (eVar 4) (aCons (eVar 6) aNil)))))) (dRt (eMov 5))))))
def f_going_on : DF := dFn [false, false, false] 4 D_going_on
def D_going_back : DS := (dRt (eRv (eCl 3 f_going_on (aCons (eRv (eVar 1)) (aCons (eRv (eVar 0)) (aCons (eVar 2) aNil))))))
def f_going_back : DF := dFn [false, false, false] 0 D_going_back
def D_carried : DS := (dSq (dSet 3 (eIx (eVar 0) (eVar 1))) (dSq (dSet 4 (eIx (eVar 0) (eOp2 fAdd (eVar 1) (eD (.int 1))))) (dSq (dIf (tV (eOp2 fGe (eVar 2) (eD (.int 0)))) (dSet 5 (eCl 3 f_going_on (aCons (eVar 3) (aCons (eVar 4) (aCons (eVar 2) aNil))))) (dSet 5 (eLc [8] (iSq (eCl 3 f_going_back (aCons (eVar 3) (aCons (eVar 4) (aCons (eNeg (eVar 2)) aNil))))) (gNm 8) tYs (eNeg (eVar 8))))) (dSq (dSet 6 (eTp (eLc [8, 9] (iZ2 (aCons (eVar 3) (aCons (eVar 5) aNil))) (gTp [8, 9]) tYs (eOp2 fSub (eVar 8) (eVar 9))))) (dSq (dSet 7 (eTp (eLc [8, 9] (iZ2 (aCons (eVar 4) (aCons (eVar 5) aNil))) (gTp [8, 9]) tYs (eOp2 fAdd (eVar 8) (eVar 9))))) (dRt (eCat (eCat (eSl (eVar 0) pNo (pSm (eVar 1))) (eTup (aCons (eVar 6) (aCons (eVar 7) aNil)))) (eSl (eVar 0) (pSm (eOp2 fAdd (eVar 1) (eD (.int 2)))) pNo))))))))
def f_carried : DF := dFn [false, false, false] 7 D_carried
def D_can_move : DS := (dSq (dEx (eCl 2 f_check_neighbours (aCons (eVar 0) (aCons (eVar 1) aNil)))) (dRt (eCl 2 f_most_moves (aCons (eIx (eVar 0) (eVar 1)) (aCons (eIx (eVar 0) (eOp2 fAdd (eVar 1) (eD (.int 1)))) aNil)))))
def f_can_move : DF := dFn [false, false] 0 D_can_move
def D_moved : DS := (dSq (dEx (eCl 2 f_check_neighbours (aCons (eVar 0) (aCons (eVar 1) aNil)))) (dSq (dIf (tV (eTyNot "int" (eVar 2))) (fun en => .error (.exn "NoNumber" en)) dNx) (dSq (dAsg (gTp [3, 4]) (eCl 2 f_most_moves (aCons (eIx (eVar 0) (eVar 1)) (aCons (eIx (eVar 0) (eOp2 fAdd (eVar 1) (eD (.int 1)))) aNil)))) (dSq (dIf (tOr' (tV (eOp2 fGt (eVar 2) (eVar 3))) (tV (eOp2 fGt (eNeg (eVar 2)) (eVar 4)))) (dRt (eD .none)) dNx) (dRt (eCl 3 f_carried (aCons (eVar 0) (aCons (eVar 1) (aCons (eVar 2) aNil)))))))))
def f_moved : DF := dFn [false, false, false] 2 D_moved
end Cm
end
section
set_option Elab.async false
set_option linter.all false
set_option maxRecDepth 100000
set_option maxHeartbeats 2000000
namespace Cb
open PySem PySem.Spec L2 Lf
def D__law_cell_at : DS := (dSq (dIf (tV (eOp2 fLt (eVar 1) (eLen (eVar 0)))) (dRt (eIx (eVar 0) (eVar 1))) dNx) (dRt (eD (.int 0))))
def f__law_cell_at : DF := dFn [false, false] 0 D__law_cell_at
def D__law_bag : DS := (dRt (eLst (aCons (eCb fMax2 (aCons (eD (.int 1)) (aCons (eOp2 fSub (eVar 0) (eOp2 fPow (eD (.int 10)) (eD (.int 18)))) aNil))) (aCons (eOp2 fMod (eVar 0) (eOp2 fAdd (eOp2 fPow (eD (.int 10)) (eD (.int 40))) (eD (.int 121)))) (aCons (eD (.int 0)) aNil)))))
def f__law_bag : DF := dFn [false] 0 D__law_bag
def D__law_draw : DS := (dSq (dIf (tV (eOp2 fGt (eIxS 0 (eD (.int 0))) (eD (.int 1)))) (dSq (dSet 2 (eOp2 fMod (eIxS 0 (eD (.int 0))) (eVar 1))) (dSq (dStI 0 (eOp2 fDiv (eIxS 0 (eD (.int 0))) (eVar 1)) (eD (.int 0))) (dRt (eMov 2)))) dNx) (dSq (dStI 0 (eOp2 fAdd (eIxS 0 (eD (.int 2))) (eD (.int 1))) (eD (.int 2))) (dSq (dSet 2 (eOp2 fMod (eOp2 fPow (eOp2 fAdd (eIxS 0 (eD (.int 1))) (eOp2 fMul (eIxS 0 (eD (.int 2))) (eD (.int 982451653)))) (eD (.int 5))) (eOp2 fAdd (eOp2 fPow (eD (.int 10)) (eD (.int 39))) (eD (.int 3))))) (dSq (dSet 2 (eOp2 fMod (eOp2 fPow (eOp2 fAdd (eVar 2) (eOp2 fMul (eIxS 0 (eD (.int 2))) (eD (.int 15485863)))) (eD (.int 3))) (eOp2 fAdd (eOp2 fPow (eD (.int 10)) (eD (.int 36))) (eD (.int 67))))) (dRt (eOp2 fMod (eOp2 fDiv (eVar 2) (eD (.int 1024))) (eVar 1)))))))
def f__law_draw : DF := dFn [true, false] 1 D__law_draw
def D__law_minutes : DS := (dSq (dSet 2 (eIx (eLst (aCons (eD (.int 2)) (aCons (eD (.int 4)) (aCons (eD (.int 20)) (aCons (eOp2 fPow (eD (.int 10)) (eD (.int 14))) (aCons (eD (.int 0)) aNil)))))) (eVar 1))) (dSq (dIf (tV (eOp2 fEq (eVar 2) (eD (.int 0)))) (dSet 2 (eIx (eLst (aCons (eD (.int 1)) (aCons (eD (.int 2)) (aCons (eD (.int 4)) (aCons (eD (.int 30)) (aCons (eOp2 fPow (eD (.int 10)) (eD (.int 14))) aNil)))))) (eClB 2 f__law_draw 0 (aCons (eD (.int 5)) aNil)))) dNx) (dRt (eOp2 fMul (eClB 2 f__law_draw 0 (aCons (eVar 2) aNil)) (eCb fMin2 (aCons (eD (.int 1)) (aCons (eClB 2 f__law_draw 0 (aCons (eD (.int 4)) aNil)) aNil)))))))
def f__law_minutes : DF := dFn [true, false] 1 D__law_minutes
def D__law_hall : DS := (dSq (dAsg (gTp [4, 5]) (eTup (aCons (eOp2 fAdd (eD (.int 1)) (eClB 2 f__law_draw 0 (aCons (eVar 1) aNil))) (aCons (eOp2 fAdd (eD (.int 1)) (eClB 2 f__law_draw 0 (aCons (eVar 2) aNil))) aNil)))) (dSq (dSet 6 (eClB 2 f__law_draw 0 (aCons (eIf (tV (eVar 3)) (eD (.int 2)) (eD (.int 5))) aNil))) (dRt (eTp (eLc [7] (iR1 (aCons (eVar 4) aNil)) (gNm 7) tYs (eTp (eLc [8] (iR1 (aCons (eVar 5) aNil)) (gNm 8) tYs (eClB 2 f__law_minutes 0 (aCons (eVar 6) aNil)))))))))
def f__law_hall : DF := dFn [true, false, false, false] 5 D__law_hall
end Cb
end
section
set_option Elab.async false
set_option linter.all false
set_option maxRecDepth 100000
set_option maxHeartbeats 2000000
namespace Pl
open PySem PySem.Spec L2 Lf Cp Ca
theorem eLc_I {da : DA} {g : DG} {vs : List Nat} {tt : DT} {te : DE} {en e1 e2 : En} {j : Int} (h1 : da en = .ok ([I j], e1)) (hj : inR j = true) (hw : wipeE vs e1 = some e2) : eLc vs (iR1 da) g tt te en = lcD vs g tt te (rng 0 j.toNat) e2 [] := by simp [eLc, iR1, h1, bd, hj, hw]
theorem eLc_N {da : DA} {g : DG} {vs : List Nat} {tt : DT} {te : DE} {en e1 e2 : En} {n : Nat} (h1 : da en = .ok ([I n], e1)) (hj : n ≤ 1000) (hw : wipeE vs e1 = some e2) : eLc vs (iR1 da) g tt te en = lcD vs g tt te (rng 0 n) e2 [] := by
  have := eLc_I (g := g) (tt := tt) (te := te) h1 (inR_nat hj) hw
  rwa [Int.toNat_natCast] at this
/-! ### waits -/
theorem cutA_init {α : Type} {xs : List α} (h : xs ≠ []) : cutA xs none (some (-1)) = xs.dropLast := by
  have hl : 0 < xs.length := List.length_pos_iff.mpr h
  unfold cutA
  have e : HT.sIx xs.length xs.length (some (-1)) = xs.length - 1 := by
    simp only [HT.sIx]
    rw [if_pos (by omega)]
    omega
  rw [e, HT.sIx_none, List.drop_zero, Nat.sub_zero, List.dropLast_eq_take]
theorem atI_map {α β : Type} {f : α → β} {xs : List α} {i : Nat} (h : i < xs.length) : atI (xs.map f) (i : Int) = some (f xs[i]) := by
  rw [atI_nat (by simpa using h)]
  simp
theorem rng0 (n : Nat) : rng 0 n = (List.range n).map fun (i : Nat) => PyData.int i := by simp [rng]
theorem atI_getD {α β : Type} {f : α → β} {xs : List α} {i : Nat} {d : α} (h : i < xs.length) : atI (xs.map f) (i : Int) = some (f (xs.getD i d)) := by
  rw [atI_map h]
  simp [List.getD_eq_getElem?_getD, h]
end Pl
end
section
set_option Elab.async false
set_option linter.all false
set_option maxRecDepth 100000
set_option maxHeartbeats 2000000
namespace Pl
open PySem PySem.Spec L2 Lf Cp Ca
local macro_rules | `(tactic| trivial) => `(tactic| first
  | exact Ev.d_ | exact Ev.nil_ | exact Ev.pno | exact Ev.nx_
  | exact Ev.var rfl | exact Ev.varp rfl | apply Ev.varo rfl
  | apply Ev.cons_ | apply Ev.lst | apply Ev.tup
  | apply Ev.ix | apply Ev.len_ | apply Ev.op2 | apply Ev.cb
  | apply Ev.cl | apply Ev.neg | apply Ev.ls | apply Ev.tp | apply Ev.rep
  | apply Ev.cat | apply Ev.rv | apply Ev.psm | apply Ev.sl_
  | apply Ev.tyIs | apply Ev.tyNot | apply Ev.tv | apply Ev.nt
  | apply Ev.app rfl | apply Ev.rev_ rfl | apply Ev.set_ | apply Ev.rt | apply Ev.ex
  | apply Ev.ixVl | apply Ev.ixVt | apply Ev.ixVo | apply Ev.catVl | apply Ev.catVt
  | apply atI_map | exact frzs_I _ | exact frzs_d _ | apply Ev.frz_own | apply Ev.frzs_cons | rfl)
/-! ### the law's own going -/
theorem ints_map : ∀ xs : List Int, ints? (xs.map .int) = some xs
  | [] => rfl
  | x :: xs => by simp [ints?, ints_map xs]
end Pl
end
section
set_option Elab.async false
set_option linter.all false
set_option maxRecDepth 100000
set_option maxHeartbeats 2000000
namespace Pl
open PySem PySem.Spec L2 Lf Cp Ca
local macro_rules | `(tactic| trivial) => `(tactic| first
  | exact Ev.d_ | exact Ev.nil_ | exact Ev.pno | exact Ev.nx_
  | exact Ev.var rfl | exact Ev.varp rfl | apply Ev.varo rfl
  | apply Ev.cons_ | apply Ev.lst | apply Ev.tup
  | apply Ev.ix | apply Ev.len_ | apply Ev.op2 | apply Ev.cb
  | apply Ev.cl | apply Ev.neg | apply Ev.ls | apply Ev.tp | apply Ev.rep
  | apply Ev.cat | apply Ev.rv | apply Ev.psm | apply Ev.sl_
  | apply Ev.tyIs | apply Ev.tyNot | apply Ev.tv | apply Ev.nt
  | apply Ev.app rfl | apply Ev.rev_ rfl | apply Ev.set_ | apply Ev.rt | apply Ev.ex
  | apply Ev.ixVl | apply Ev.ixVt | apply Ev.ixVo | apply Ev.catVl | apply Ev.catVt
  | apply atI_map | exact frzs_I _ | exact frzs_d _ | apply Ev.frz_own | apply Ev.frzs_cons | rfl)
/-- data of a depth -/
def Sh (d : Nat) (x : PyData) : Prop := PyData.canLay0 x = true ∧ PyData.depth x ≤ d
theorem sh_all {d : Nat} : ∀ (xs : List PyData), (∀ x ∈ xs, Sh d x) → PyData.canLayAll0 xs = true ∧ PyData.depthAll xs ≤ d
  | [], _ => by simp [PyData.canLayAll0, PyData.depthAll]
  | x :: xs, h => by
    obtain ⟨h1, h2⟩ := sh_all xs fun y hy => h y (List.mem_cons_of_mem _ hy)
    obtain ⟨k1, k2⟩ := h x (List.mem_cons_self ..)
    exact ⟨by simp [PyData.canLayAll0, h1, k1], by simp only [PyData.depthAll]; omega⟩
theorem sh_list {d : Nat} {xs : List PyData} (h : ∀ x ∈ xs, Sh d x) : Sh (d + 1) (.list xs) := by
  obtain ⟨h1, h2⟩ := sh_all xs h
  exact ⟨by simp [PyData.canLay0, h1], by simp only [PyData.depth]; omega⟩
theorem sh_map {α : Type} {f : α → PyData} {d : Nat} {xs : List α} (h : ∀ a, Sh d (f a)) : ∀ x ∈ xs.map f, Sh d x := fun x hx => by
  obtain ⟨a, _, rfl⟩ := List.mem_map.mp hx
  exact h a
theorem Sh.shaped {d : Nat} {x : PyData} (h : Sh d x) (hd : d ≤ 64) : SeqAt.shaped x = true := by
  have := h.2
  simp only [SeqAt.shaped, h.1, Bool.true_and, decide_eq_true_eq]
  omega
theorem ne_nil {f : List Int → PyData} {rs : List (List Int)} (h : ∀ a, Sh 1 (f a)) : fNe (.list (rs.map f)) (.list []) = some (.bool (!decide (rs = []))) := by
  have h1 : SeqAt.shaped (.list (rs.map f)) = true := (sh_list (sh_map h)).shaped (by omega)
  have h2 : SeqAt.shaped (.list []) = true := rfl
  unfold fNe
  rw [if_pos ⟨h1, h2⟩]
  cases rs <;> rfl
/-! ### the law's own going, all counters -/
abbrev DY (r : List Int) : OT := .d (dayP r)
end Pl
end
section
set_option Elab.async false
set_option linter.all false
set_option maxRecDepth 100000
set_option maxHeartbeats 2000000
namespace Pl
open PySem PySem.Spec L2 Lf Cp Ca
local macro_rules | `(tactic| trivial) => `(tactic| first
  | exact Ev.d_ | exact Ev.nil_ | exact Ev.pno | exact Ev.nx_
  | exact Ev.var rfl | exact Ev.varp rfl | apply Ev.varo rfl
  | apply Ev.cons_ | apply Ev.lst | apply Ev.tup
  | apply Ev.ix | apply Ev.len_ | apply Ev.op2 | apply Ev.cb
  | apply Ev.cl | apply Ev.neg | apply Ev.ls | apply Ev.tp | apply Ev.rep
  | apply Ev.cat | apply Ev.rv | apply Ev.psm | apply Ev.sl_
  | apply Ev.tyIs | apply Ev.tyNot | apply Ev.tv | apply Ev.nt
  | apply Ev.app rfl | apply Ev.rev_ rfl | apply Ev.set_ | apply Ev.rt | apply Ev.ex
  | apply Ev.ixVl | apply Ev.ixVt | apply Ev.ixVo | apply Ev.catVl | apply Ev.catVt
  | apply atI_map | exact frzs_I _ | exact frzs_d _ | apply Ev.frz_own | apply Ev.frzs_cons | rfl)
/-! ### bounds -/
/-! ### the law's marks -/
end Pl
end
section
set_option Elab.async false
set_option linter.all false
set_option maxRecDepth 100000
set_option maxHeartbeats 2000000
namespace Pl
open PySem PySem.Spec L2 Lf Cp Ca
local macro_rules | `(tactic| trivial) => `(tactic| first
  | exact Ev.d_ | exact Ev.nil_ | exact Ev.pno | exact Ev.nx_
  | exact Ev.var rfl | exact Ev.varp rfl | apply Ev.varo rfl
  | apply Ev.cons_ | apply Ev.lst | apply Ev.tup
  | apply Ev.ix | apply Ev.len_ | apply Ev.op2 | apply Ev.cb
  | apply Ev.cl | apply Ev.neg | apply Ev.ls | apply Ev.tp | apply Ev.rep
  | apply Ev.cat | apply Ev.rv | apply Ev.psm | apply Ev.sl_
  | apply Ev.tyIs | apply Ev.tyNot | apply Ev.tv | apply Ev.nt
  | apply Ev.app rfl | apply Ev.rev_ rfl | apply Ev.set_ | apply Ev.rt | apply Ev.ex
  | apply Ev.ixVl | apply Ev.ixVt | apply Ev.ixVo | apply Ev.catVl | apply Ev.catVt
  | apply atI_map | exact frzs_I _ | exact frzs_d _ | apply Ev.frz_own | apply Ev.frzs_cons | rfl)
/-! ### loops by while -/
theorem asg {da : DE} {g : DG} {en e1 e2 : En} {o : OT} {x : PyData} (h : da en = .ok (o, e1)) (f : frz o = some x) (k : g x e1 = some e2) : dAsg g da en = .ok (.nx, e2) := by simp [dAsg, h, bd, f, k]
theorem fEq_int {a b : Int} : fEq (.int a) (.int b) = some (.bool (decide (a = b))) := by
  unfold fEq
  rw [if_pos ⟨rfl, rfl⟩]
  simp [PyData.eqv]
  by_cases h : a = b <;> simp [h]
/-! ### a table of times by place -/
abbrev at2 (G : List (List Int)) (c k : Nat) : Int := (G.getD c []).getD k 0
/-! ### who holds whom -/
end Pl
end
section
set_option Elab.async false
set_option linter.all false
set_option maxRecDepth 100000
set_option maxHeartbeats 2000000
namespace Pl
open PySem PySem.Spec L2 Lf Cp Ca
/-! ### held_by -/
def hW : DS := dSq (dEx (eApp 5 (eVar 4))) (dSet 4 (eCl 3 f_cell_ahead (aCons (eVar 3) (aCons (eVar 1) (aCons (eVar 4) aNil)))))
def hC : DT := tV (eOp2 fNotN (eVar 4) (eD .none))
end Pl
end
section
set_option Elab.async false
set_option linter.all false
set_option maxRecDepth 100000
set_option maxHeartbeats 2000000
namespace Pl
open PySem PySem.Spec L2 Lf Cp Ca
local macro_rules | `(tactic| trivial) => `(tactic| first
  | exact Ev.d_ | exact Ev.nil_ | exact Ev.pno | exact Ev.nx_
  | exact Ev.var rfl | exact Ev.varp rfl | apply Ev.varo rfl
  | apply Ev.cons_ | apply Ev.lst | apply Ev.tup
  | apply Ev.ix | apply Ev.len_ | apply Ev.op2 | apply Ev.cb
  | apply Ev.cl | apply Ev.neg | apply Ev.ls | apply Ev.tp | apply Ev.rep
  | apply Ev.cat | apply Ev.rv | apply Ev.psm | apply Ev.sl_
  | apply Ev.tyIs | apply Ev.tyNot | apply Ev.tv | apply Ev.nt
  | apply Ev.app rfl | apply Ev.rev_ rfl | apply Ev.set_ | apply Ev.rt | apply Ev.ex
  | apply Ev.ixVl | apply Ev.ixVt | apply Ev.ixVo | apply Ev.catVl | apply Ev.catVt
  | apply atI_map | exact frzs_I _ | exact frzs_d _ | apply Ev.frz_own | apply Ev.frzs_cons | rfl)
end Pl
end
section
set_option Elab.async false
set_option linter.all false
set_option maxRecDepth 100000
set_option maxHeartbeats 2000000
namespace Pl
open PySem PySem.Spec L2 Lf Cp Ca
/-! ### halls cut, and put in -/
/-! ### ways through a table -/
/-- a way from (i, j) to (c, k), of this worth -/
inductive Way (a : Nat → Nat → Int) (i j : Nat) : Nat → Nat → Int → Prop
  | one : Way a i j i j (a i j)
  | down {c k : Nat} {w : Int} : Way a i j c k w → Way a i j (c + 1) k (w + a (c + 1) k)
  | right {c k : Nat} {w : Int} : Way a i j c k w → Way a i j c (k + 1) (w + a c (k + 1))
theorem Way.le {a : Nat → Nat → Int} {i j c k : Nat} {w : Int} (h : Way a i j c k w) : i ≤ c ∧ j ≤ k := by
  induction h with
  | one => simp
  | down _ ih => omega
  | right _ ih => omega
theorem Way.predown {a : Nat → Nat → Int} {i j c k : Nat} {w : Int} (h : Way a (i + 1) j c k w) : Way a i j c k (a i j + w) := by
  induction h with
  | one => exact (Way.one (i := i) (j := j)).down
  | down _ ih => rw [← Int.add_assoc]; exact ih.down
  | right _ ih => rw [← Int.add_assoc]; exact ih.right
theorem Way.preright {a : Nat → Nat → Int} {i j c k : Nat} {w : Int} (h : Way a i (j + 1) c k w) : Way a i j c k (a i j + w) := by
  induction h with
  | one => exact (Way.one (i := i) (j := j)).right
  | down _ ih => rw [← Int.add_assoc]; exact ih.down
  | right _ ih => rw [← Int.add_assoc]; exact ih.right
theorem Way.congr {a b : Nat → Nat → Int} {i j c k : Nat} {w : Int} (h : Way a i j c k w) (e : ∀ p q, p ≤ c → q ≤ k → a p q = b p q) : Way b i j c k w := by
  induction h with
  | one => rw [e i j (Nat.le_refl _) (Nat.le_refl _)]; exact .one
  | @down c k w h ih => rw [e (c + 1) k (Nat.le_refl _) (Nat.le_refl _)]; exact (ih fun p q hp hq => e p q (by omega) hq).down
  | @right c k w h ih => rw [e c (k + 1) (Nat.le_refl _) (Nat.le_refl _)]; exact (ih fun p q hp hq => e p q hp (by omega)).right
theorem Way.rev {a : Nat → Nat → Int} {M N i j c k : Nat} {w : Int} (h : Way a i j c k w) (hc : c ≤ M) (hk : k ≤ N) : Way (fun p q => a (M - p) (N - q)) (M - c) (N - k) (M - i) (N - j) w := by
  induction h with
  | one =>
    have := Way.one (a := fun p q => a (M - p) (N - q)) (i := M - i) (j := N - j)
    simp only [show M - (M - i) = i by omega, show N - (N - j) = j by omega] at this
    exact this
  | @down c k w h ih =>
    have q := ih (by omega) hk
    rw [show M - c = M - (c + 1) + 1 by omega] at q
    have := q.predown
    simp only [show M - (M - (c + 1)) = c + 1 by omega, show N - (N - k) = k by omega] at this
    rw [Int.add_comm]
    exact this
  | @right c k w h ih =>
    have q := ih hc (by omega)
    rw [show N - k = N - (k + 1) + 1 by omega] at q
    have := q.preright
    simp only [show M - (M - c) = c by omega, show N - (N - (k + 1)) = k + 1 by omega] at this
    rw [Int.add_comm]
    exact this
/-- the greatest worth -/
def Most (a : Nat → Nat → Int) (i j c k : Nat) (v : Int) : Prop := Way a i j c k v ∧ ∀ w, Way a i j c k w → w ≤ v
theorem Most.one_only {a : Nat → Nat → Int} {i j c k : Nat} {v u : Int} (h : Most a i j c k v) (h' : Most a i j c k u) : v = u := Int.le_antisymm (h'.2 _ h.1) (h.2 _ h'.1)
theorem Most.start {a : Nat → Nat → Int} {i j : Nat} : Most a i j i j (a i j) := ⟨.one, fun w h => by
  generalize hc : i = c at h
  generalize hk : j = k at h
  cases h with
  | one => exact Int.le_refl _
  | down h => have := h.le; omega
  | right h => have := h.le; omega⟩
end Pl
end
section
set_option Elab.async false
set_option linter.all false
set_option maxRecDepth 100000
set_option maxHeartbeats 2000000
namespace Pl
open PySem PySem.Spec L2 Lf Cp Ca
/-! ### halls made of halls -/
section
variable {m n s t : Nat} {wide top : Int} {rs : List (List Int)} {r : List Int}
theorem HOk.take (h : HOk m n wide rs) (h1 : 1 ≤ s) (hs : s ≤ m) : HOk s n wide (rs.take s) := ⟨by simp [h.len]; omega, h1, by have := h.m8; omega, h.n1, h.n8, fun r hr => h.rows r (List.mem_of_mem_take hr)⟩
theorem HOk.drop (h : HOk m n wide rs) (hs : s < m) : HOk (m - s) n wide (rs.drop s) := ⟨by simp [h.len], by omega, by have := h.m8; omega, h.n1, h.n8, fun r hr => h.rows r (List.mem_of_mem_drop hr)⟩
theorem HOk.rev (h : HOk m n wide rs) : HOk m n wide (rs.reverse.map List.reverse) := ⟨by simp [h.len], h.m1, h.m8, h.n1, h.n8, fun q hq => by
  obtain ⟨r, hr, rfl⟩ := List.mem_map.mp hq
  have := h.rows r (List.mem_reverse.mp hr)
  exact ⟨by simp [this.1], fun x hx => this.2 x (List.mem_reverse.mp hx)⟩⟩
theorem TOk.same {once : Int} (h : 0 ≤ once) : TOk n once (List.replicate n once) := ⟨by simp, by simp [List.pairwise_replicate], fun x hx => by rw [List.eq_of_mem_replicate hx]; omega⟩
theorem at2_nn (h : HOk m n wide rs) (c k : Nat) : 0 ≤ at2 rs c k := by
  unfold at2
  by_cases hc : c < rs.length
  · have hr := h.rows rs[c] (List.getElem_mem hc)
    have e : rs.getD c [] = rs[c] := by rw [List.getD_eq_getElem?_getD, List.getElem?_eq_getElem hc]; rfl
    rw [e]
    by_cases hk : k < rs[c].length
    · rw [List.getD_eq_getElem?_getD, List.getElem?_eq_getElem hk]
      exact (hr.2 _ (List.getElem_mem _)).1
    · rw [List.getD_eq_getElem?_getD, List.getElem?_eq_none (Nat.le_of_not_lt hk)]
      exact Int.le_refl _
  · have e : rs.getD c [] = [] := by rw [List.getD_eq_getElem?_getD, List.getElem?_eq_none (by omega)]; rfl
    rw [e]
    simp
end
/-! ### who holds whom, in a hall cut -/
end Pl
end
section
set_option Elab.async false
set_option linter.all false
set_option maxRecDepth 100000
set_option maxHeartbeats 2000000
namespace Pl
open PySem PySem.Spec L2 Lf Cp Ca
local macro_rules | `(tactic| trivial) => `(tactic| first
  | exact Ev.d_ | exact Ev.nil_ | exact Ev.pno | exact Ev.nx_
  | exact Ev.var rfl | exact Ev.varp rfl | apply Ev.varo rfl
  | apply Ev.cons_ | apply Ev.lst | apply Ev.tup
  | apply Ev.ix | apply Ev.len_ | apply Ev.op2 | apply Ev.cb
  | apply Ev.cl | apply Ev.neg | apply Ev.ls | apply Ev.tp | apply Ev.rep
  | apply Ev.cat | apply Ev.rv | apply Ev.psm | apply Ev.sl_
  | apply Ev.tyIs | apply Ev.tyNot | apply Ev.tv | apply Ev.nt
  | apply Ev.app rfl | apply Ev.rev_ rfl | apply Ev.set_ | apply Ev.rt | apply Ev.ex
  | apply Ev.ixVl | apply Ev.ixVt | apply Ev.ixVo | apply Ev.catVl | apply Ev.catVt
  | apply atI_map | exact frzs_I _ | exact frzs_d _ | apply Ev.frz_own | apply Ev.frzs_cons | rfl)
/-! ### slices by places -/
theorem cutA_take {α : Type} {xs : List α} {s : Nat} {z : Int} (hz : z = s) : cutA xs none (some z) = xs.take s := by
  subst hz
  unfold cutA
  rw [HT.sIx_none, HT.sIx_nat, List.drop_zero, Nat.sub_zero]
  by_cases h : s ≤ xs.length
  · rw [Nat.min_eq_left h]
  · rw [Nat.min_eq_right (by omega), List.take_of_length_le (Nat.le_refl _), List.take_of_length_le (by omega)]
theorem cutA_drop {α : Type} {xs : List α} {s : Nat} {z : Int} (hz : z = s) : cutA xs (some z) none = xs.drop s := by
  subst hz
  unfold cutA
  rw [HT.sIx_none, HT.sIx_nat]
  by_cases h : s ≤ xs.length
  · rw [Nat.min_eq_left h, List.take_of_length_le (by simp)]
  · rw [Nat.min_eq_right (by omega), List.drop_of_length_le (Nat.le_refl _), List.drop_of_length_le (by omega)]
    simp
theorem sl_takeT {α : Type} {f : α → PyData} {xs : List α} {s : Nat} {z : Int} (hz : z = s) : Ev.slV (.tuple (xs.map f)) none (some z) = some (.d (.tuple ((xs.take s).map f))) := by
  simp only [Ev.slV]; rw [cutA_take hz, List.map_take]
theorem sl_dropT {α : Type} {f : α → PyData} {xs : List α} {s : Nat} {z : Int} (hz : z = s) : Ev.slV (.tuple (xs.map f)) (some z) none = some (.d (.tuple ((xs.drop s).map f))) := by
  simp only [Ev.slV]; rw [cutA_drop hz, List.map_drop]
theorem frzs_fn {α : Type} (f : α → PyData) (xs : List α) : frzs (xs.map fun x => OT.d (f x)) = some (xs.map f) := by
  have := frzs_d (xs.map f)
  rwa [List.map_map] at this
end Pl
end
section
set_option Elab.async false
set_option linter.all false
set_option maxRecDepth 100000
set_option maxHeartbeats 1000000
/-! Minutes moved between two neighbours: why nothing of it is seen behind them. Plain lists of integers only. -/
namespace Pl
open PySem PySem.Spec L2 Lf Cp Ca
/-- two counters behind one another, the first free from a on, the second from b on -/
def two (a b : Int) (rs ss cs : List Int) : List Int := servedP b (ss.zip (servedP a (rs.zip cs)))
theorem two_cons {a b r s c : Int} {rs ss cs : List Int} : two a b (r :: rs) (s :: ss) (c :: cs) = (max b (max a c + r) + s) :: two (max a c + r) (max b (max a c + r) + s) rs ss cs := by simp [two, servedP]
theorem two_nil {a b : Int} {rs ss : List Int} : two a b rs ss [] = [] := by simp [two, servedP]
theorem two_nilr {a b : Int} {ss cs : List Int} : two a b [] ss cs = [] := by simp [two, servedP]
theorem two_nils {a b : Int} {rs cs : List Int} : two a b rs [] cs = [] := by simp [two, servedP]
/-- the leads, from a lead on -/
def leadsL : Int → List Int → List Int → List Int
  | l, r :: rs, s :: ss => (l + r) :: leadsL (l + r - s) rs ss
  | _, _, _ => []
/-- what is moved on: the growth of the greatest lead -/
def onL : Int → List Int → List Int
  | p, t :: ts => max (t - p) 0 :: onL (max p t) ts
  | _, [] => []
/-- the greatest from here to the end, at least p -/
def sgm (p : Int) : List Int → Int
  | t :: ts => max (sgm p ts) t
  | [] => p
/-- what is moved back -/
def bkL (p : Int) : List Int → List Int
  | t :: ts => (sgm p (t :: ts) - sgm p ts) :: bkL p ts
  | [] => []
def addL : List Int → List Int → List Int := List.zipWith (· + ·)
def subL : List Int → List Int → List Int := List.zipWith (· - ·)
theorem leadsL_len : ∀ {l : Int} {rs ss : List Int}, (leadsL l rs ss).length = min rs.length ss.length
  | _, [], _ => by simp [leadsL]
  | _, _ :: _, [] => by simp [leadsL]
  | _, _ :: _, _ :: _ => by simp [leadsL, leadsL_len]
theorem onL_len : ∀ {p : Int} {ts : List Int}, (onL p ts).length = ts.length
  | _, [] => rfl
  | _, _ :: _ => by simp [onL, onL_len]
theorem bkL_len : ∀ {p : Int} {ts : List Int}, (bkL p ts).length = ts.length
  | _, [] => rfl
  | _, _ :: _ => by simp [bkL, bkL_len]
/-- moved on: unseen -/
theorem on_unseen : ∀ (rs ss cs : List Int) (a a' b l p : Int), a = max a' (b + l - p) → two a' b (subL rs (onL p (leadsL l rs ss))) (addL ss (onL p (leadsL l rs ss))) cs = two a b rs ss cs
  | [], ss, cs, a, a', b, l, p, _ => by simp [leadsL, onL, subL, addL, two_nilr, two_nils]
  | r :: rs, [], cs, a, a', b, l, p, _ => by simp [leadsL, onL, subL, addL, two_nilr, two_nils]
  | r :: rs, s :: ss, [], a, a', b, l, p, _ => by rw [two_nil, two_nil]
  | r :: rs, s :: ss, c :: cs, a, a', b, l, p, h => by
    simp only [leadsL, onL, subL, addL, List.zipWith_cons_cons, two_cons]
    have e1 : max b (max a' c + (r - max (l + r - p) 0)) + (s + max (l + r - p) 0) = max b (max a c + r) + s := by omega
    rw [e1]
    congr 1
    exact on_unseen rs ss cs _ _ _ _ _ (by omega)
/-- moved back: unseen -/
theorem bk_unseen (p : Int) : ∀ (rs ss cs : List Int) (a a' b l : Int), a' = max a (b + l - sgm p (leadsL l rs ss)) → two a' b (addL rs (bkL p (leadsL l rs ss))) (subL ss (bkL p (leadsL l rs ss))) cs = two a b rs ss cs
  | [], ss, cs, a, a', b, l, _ => by simp [leadsL, bkL, subL, addL, two_nilr, two_nils]
  | r :: rs, [], cs, a, a', b, l, _ => by simp [leadsL, bkL, subL, addL, two_nilr, two_nils]
  | r :: rs, s :: ss, [], a, a', b, l, _ => by rw [two_nil, two_nil]
  | r :: rs, s :: ss, c :: cs, a, a', b, l, h => by
    simp only [leadsL, bkL, subL, addL, List.zipWith_cons_cons, two_cons, sgm] at h ⊢
    generalize hq : sgm p (leadsL (l + r - s) rs ss) = q at *
    have e1 : max b (max a' c + (r + (max q (l + r) - q))) + (s - (max q (l + r) - q)) = max b (max a c + r) + s := by omega
    rw [e1]
    congr 1
    exact bk_unseen p rs ss cs _ _ _ _ (by rw [hq]; omega)
/-! ### what is moved is there -/
theorem on_le : ∀ (rs ss : List Int) (l p : Int), l ≤ p → (∀ x ∈ rs, 0 ≤ x) → (∀ x ∈ ss, 0 ≤ x) → (∀ x ∈ subL rs (onL p (leadsL l rs ss)), 0 ≤ x) ∧ ∀ x ∈ addL ss (onL p (leadsL l rs ss)), 0 ≤ x
  | [], ss, l, p, _, _, _ => by simp [leadsL, onL, subL, addL]
  | _ :: _, [], l, p, _, _, _ => by simp [leadsL, onL, subL, addL]
  | r :: rs, s :: ss, l, p, h, hr, hs => by
    simp only [List.forall_mem_cons] at hr hs
    have ih := on_le rs ss (l + r - s) (max p (l + r)) (by omega) hr.2 hs.2
    simp only [leadsL, onL, subL, addL, List.zipWith_cons_cons, List.forall_mem_cons] at ih ⊢
    exact ⟨⟨by omega, ih.1⟩, ⟨by omega, ih.2⟩⟩
/-- the lead after the last -/
def leadE : Int → List Int → List Int → Int
  | l, r :: rs, s :: ss => leadE (l + r - s) rs ss
  | l, _, _ => l
theorem leadE_sum : ∀ (rs ss : List Int) (l : Int), rs.length = ss.length → leadE l rs ss = l + rs.sum - ss.sum
  | [], [], l, _ => by simp [leadE]
  | r :: rs, s :: ss, l, h => by
    simp only [leadE, List.sum_cons]
    rw [leadE_sum rs ss _ (by simpa using h)]
    omega
theorem le_sgm (p : Int) : ∀ (rs ss : List Int) (l : Int), rs.length = ss.length → (∀ x ∈ rs, 0 ≤ x) → leadE l rs ss ≤ p → l ≤ sgm p (leadsL l rs ss)
  | [], [], l, _, _, h => by simpa [leadsL, sgm, leadE] using h
  | r :: rs, s :: ss, l, _, hr, h => by
    simp only [List.forall_mem_cons] at hr
    simp only [leadsL, sgm]
    omega
theorem bk_le (p : Int) : ∀ (rs ss : List Int) (l : Int), rs.length = ss.length → (∀ x ∈ rs, 0 ≤ x) → (∀ x ∈ ss, 0 ≤ x) → leadE l rs ss ≤ p → (∀ x ∈ addL rs (bkL p (leadsL l rs ss)), 0 ≤ x) ∧ ∀ x ∈ subL ss (bkL p (leadsL l rs ss)), 0 ≤ x
  | [], [], l, _, _, _, _ => by simp [leadsL, bkL, subL, addL]
  | r :: rs, s :: ss, l, hl, hr, hs, h => by
    simp only [List.forall_mem_cons] at hr hs
    have ih := bk_le p rs ss (l + r - s) (by simpa using hl) hr.2 hs.2 (by simpa [leadE] using h)
    have k := le_sgm p rs ss (l + r - s) (by simpa using hl) hr.2 (by simpa [leadE] using h)
    simp only [leadsL, bkL, subL, addL, List.zipWith_cons_cons, List.forall_mem_cons, sgm] at ih ⊢
    exact ⟨⟨by omega, ih.1⟩, ⟨by omega, ih.2⟩⟩
/-! ### from the end -/
def reach (p : Int) (ts : List Int) : Int := ts.foldl max p
theorem onL_app : ∀ (ts us : List Int) (p : Int), onL p (ts ++ us) = onL p ts ++ onL (reach p ts) us
  | [], us, p => by simp [onL, reach]
  | t :: ts, us, p => by simp only [List.cons_append, onL, onL_app ts us]; rfl
theorem reach_rev (p : Int) : ∀ ts : List Int, reach p ts.reverse = sgm p ts
  | [] => rfl
  | t :: ts => by
    have := reach_rev p ts
    simp only [reach, List.reverse_cons, List.foldl_append, List.foldl_cons, List.foldl_nil, sgm] at this ⊢
    rw [this]
theorem onL_rev (p : Int) : ∀ ts : List Int, (onL p ts.reverse).reverse = bkL p ts
  | [] => rfl
  | t :: ts => by
    rw [List.reverse_cons, onL_app, reach_rev, List.reverse_append, onL_rev p ts]
    simp only [onL, bkL, sgm, List.reverse_cons, List.reverse_nil, List.nil_append, List.singleton_append, List.cons.injEq, and_true]
    omega
theorem onL_shift (k : Int) : ∀ (ts : List Int) (p : Int), onL (p + k) (ts.map (· + k)) = onL p ts
  | [], _ => rfl
  | t :: ts, p => by
    simp only [List.map_cons, onL]
    rw [show max (p + k) (t + k) = max p t + k by omega, onL_shift k ts]
    congr 1
    omega
theorem leadsL_app : ∀ (rs ss rs' ss' : List Int) (l : Int), rs.length = ss.length → leadsL l (rs ++ rs') (ss ++ ss') = leadsL l rs ss ++ leadsL (leadE l rs ss) rs' ss'
  | [], [], rs', ss', l, _ => by simp [leadsL, leadE]
  | r :: rs, s :: ss, rs', ss', l, h => by
    simp only [List.cons_append, leadsL, leadE]
    rw [leadsL_app rs ss rs' ss' _ (by simpa using h)]
theorem leads_rev : ∀ (rs ss : List Int) (l : Int), rs.length = ss.length → leadsL 0 ss.reverse rs.reverse = ((leadsL l rs ss).map (· + (ss.sum - rs.sum - l))).reverse
  | [], [], l, _ => by simp [leadsL]
  | r :: rs, s :: ss, l, h => by
    have h' : rs.length = ss.length := by simpa using h
    rw [List.reverse_cons, List.reverse_cons, leadsL_app _ _ _ _ _ (by simp [h']), leads_rev rs ss (l + r - s) h', leadE_sum _ _ _ (by simp [h'])]
    simp only [leadsL, List.map_cons, List.reverse_cons, List.sum_cons, List.sum_reverse]
    congr 1
    · congr 1
      apply List.map_congr_left
      intro x _
      omega
    · simp only [List.cons.injEq, and_true]
      omega
end Pl
end
section
set_option Elab.async false
set_option linter.all false
set_option maxRecDepth 100000
set_option maxHeartbeats 1000000
/-! Halls alike: what all their customers' last counters say, also of some customers only. -/
namespace Pl
open PySem PySem.Spec L2 Lf Cp Ca
theorem two_take : ∀ (rs ss cs : List Int) (a b : Int) (k : Nat), two a b (rs.take k) (ss.take k) cs = (two a b rs ss cs).take k
  | [], ss, cs, a, b, k => by simp [two_nilr]
  | r :: rs, [], cs, a, b, k => by simp [two_nils]
  | r :: rs, s :: ss, [], a, b, k => by simp [two_nil]
  | r :: rs, s :: ss, c :: cs, a, b, 0 => by simp [two_nilr]
  | r :: rs, s :: ss, c :: cs, a, b, k + 1 => by simp only [List.take_succ_cons, two_cons, two_take rs]
/-- some of the customers -/
def cutR (f k : Nat) (r : List Int) : List Int := (r.drop f).take k
theorem on_drop : ∀ (f : Nat) (rs ss : List Int) (l p : Int), l ≤ p → (∀ x ∈ ss, 0 ≤ x) → ∃ l' p', l' ≤ p' ∧ (subL rs (onL p (leadsL l rs ss))).drop f = subL (rs.drop f) (onL p' (leadsL l' (rs.drop f) (ss.drop f))) ∧ (addL ss (onL p (leadsL l rs ss))).drop f = addL (ss.drop f) (onL p' (leadsL l' (rs.drop f) (ss.drop f)))
  | 0, rs, ss, l, p, h, _ => ⟨l, p, h, rfl, rfl⟩
  | f + 1, [], ss, l, p, h, _ => ⟨l, p, h, by simp [leadsL, onL, subL], by simp [leadsL, onL, addL]⟩
  | f + 1, _ :: _, [], l, p, h, _ => ⟨l, p, h, by simp [leadsL, onL, subL], by simp [leadsL, onL, addL]⟩
  | f + 1, r :: rs, s :: ss, l, p, h, hs => by
    simp only [List.forall_mem_cons] at hs
    obtain ⟨l', p', q1, q2, q3⟩ := on_drop f rs ss (l + r - s) (max p (l + r)) (by omega) hs.2
    exact ⟨l', p', q1, by simpa [leadsL, onL, subL] using q2, by simpa [leadsL, onL, addL] using q3⟩
theorem bk_drop (p : Int) : ∀ (f : Nat) (rs ss : List Int) (l : Int), rs.length = ss.length → (∀ x ∈ rs, 0 ≤ x) → leadE l rs ss ≤ p → ∃ l', leadE l' (rs.drop f) (ss.drop f) ≤ p ∧ (addL rs (bkL p (leadsL l rs ss))).drop f = addL (rs.drop f) (bkL p (leadsL l' (rs.drop f) (ss.drop f))) ∧ (subL ss (bkL p (leadsL l rs ss))).drop f = subL (ss.drop f) (bkL p (leadsL l' (rs.drop f) (ss.drop f)))
  | 0, rs, ss, l, _, _, h => ⟨l, h, rfl, rfl⟩
  | f + 1, [], [], l, _, _, h => ⟨l, by simpa [leadE] using h, by simp [leadsL, bkL, addL], by simp [leadsL, bkL, subL]⟩
  | f + 1, r :: rs, s :: ss, l, hl, hr, h => by
    simp only [List.forall_mem_cons] at hr
    obtain ⟨l', q1, q2, q3⟩ := bk_drop p f rs ss (l + r - s) (by simpa using hl) hr.2 (by simpa [leadE] using h)
    exact ⟨l', by simpa using q1, by simpa [leadsL, bkL, addL] using q2, by simpa [leadsL, bkL, subL] using q3⟩
/-- two rows in place of two: nothing of it is seen -/
structure Unseen (n : Nat) (r s r' s' : List Int) : Prop where
  lr : r'.length = n
  ls : s'.length = n
  nr : ∀ x ∈ r', 0 ≤ x
  ns : ∀ x ∈ s', 0 ≤ x
  col : ∀ i, r'.getD i 0 + s'.getD i 0 = r.getD i 0 + s.getD i 0
  cut : ∀ f k c, servedL (cutR f k s') (servedL (cutR f k r') c) = servedL (cutR f k s) (servedL (cutR f k r) c)
theorem on_col : ∀ (rs ss g : List Int) (i : Nat), rs.length = ss.length → g.length = rs.length → (subL rs g).getD i 0 + (addL ss g).getD i 0 = rs.getD i 0 + ss.getD i 0
  | [], [], _, i, _, _ => by simp [subL, addL]
  | r :: rs, s :: ss, x :: g, 0, _, _ => by simp [subL, addL]; omega
  | r :: rs, s :: ss, x :: g, i + 1, h, h' => by
    have := on_col rs ss g i (by simpa using h) (by simpa using h')
    simpa [subL, addL] using this
theorem on_ok {n : Nat} {r s : List Int} {p : Int} (hr : r.length = n) (hs : s.length = n) (nr : ∀ x ∈ r, 0 ≤ x) (ns : ∀ x ∈ s, 0 ≤ x) (hp : 0 ≤ p) : Unseen n r s (subL r (onL p (leadsL 0 r s))) (addL s (onL p (leadsL 0 r s))) := by
  have hl : (onL p (leadsL 0 r s)).length = n := by rw [onL_len, leadsL_len]; omega
  have h0 := on_le r s 0 p hp nr ns
  refine ⟨by simp [subL, hl, hr], by simp [addL, hl, hs], h0.1, h0.2, fun i => on_col r s _ i (by omega) (by omega), fun f k c => ?_⟩
  obtain ⟨l', p', q1, q2, q3⟩ := on_drop f r s 0 p hp ns
  unfold cutR
  rw [q2, q3]
  have e := on_unseen (r.drop f) (s.drop f) c 0 0 0 l' p' (by omega)
  have e2 := congrArg (List.take k) e
  rw [← two_take, ← two_take] at e2
  exact e2
theorem bk_ok {n : Nat} {r s : List Int} {p : Int} (hr : r.length = n) (hs : s.length = n) (nr : ∀ x ∈ r, 0 ≤ x) (ns : ∀ x ∈ s, 0 ≤ x) (hp : r.sum - s.sum ≤ p) : Unseen n r s (addL r (bkL p (leadsL 0 r s))) (subL s (bkL p (leadsL 0 r s))) := by
  have hl : (bkL p (leadsL 0 r s)).length = n := by rw [bkL_len, leadsL_len]; omega
  have hE : leadE 0 r s ≤ p := by rw [leadE_sum _ _ _ (by omega)]; omega
  have h0 := bk_le p r s 0 (by omega) nr ns hE
  refine ⟨by simp [addL, hl, hr], by simp [subL, hl, hs], h0.1, h0.2, fun i => ?_, fun f k c => ?_⟩
  · have := on_col s r (bkL p (leadsL 0 r s)) i (by omega) (by omega)
    omega
  · obtain ⟨l', q1, q2, q3⟩ := bk_drop p f r s 0 (by omega) nr hE
    unfold cutR
    rw [q2, q3]
    have k1 := le_sgm p (r.drop f) (s.drop f) l' (by simp; omega) (fun x hx => nr x (List.mem_of_mem_drop hx)) q1
    have e := bk_unseen p (r.drop f) (s.drop f) c 0 0 0 l' (by omega)
    have e2 := congrArg (List.take k) e
    rw [← two_take, ← two_take] at e2
    exact e2
/-! ### through all counters -/
def thru (H : List (List Int)) (c : List Int) : List Int := H.foldl (fun c r => servedL r c) c
theorem thru_app (A B : List (List Int)) (c : List Int) : thru (A ++ B) c = thru B (thru A c) := by simp [thru]
structure Alike (H H' : List (List Int)) : Prop where
  len : H'.length = H.length
  cut : ∀ f k c, thru (H'.map (cutR f k)) c = thru (H.map (cutR f k)) c
  col : ∀ i, (H'.map (·.getD i 0)).sum = (H.map (·.getD i 0)).sum
theorem Alike.refl (H : List (List Int)) : Alike H H := ⟨rfl, fun _ _ _ => rfl, fun _ => rfl⟩
theorem Alike.trans {H J K : List (List Int)} (h : Alike H J) (k : Alike J K) : Alike H K := ⟨k.len.trans h.len, fun f n c => (k.cut f n c).trans (h.cut f n c), fun i => (k.col i).trans (h.col i)⟩
theorem Unseen.alike {n : Nat} {r s r' s' : List Int} (u : Unseen n r s r' s') (A B : List (List Int)) : Alike (A ++ r :: s :: B) (A ++ r' :: s' :: B) where
  len := by simp
  cut := fun f k c => by
    simp only [List.map_append, List.map_cons, thru_app]
    have e := u.cut f k (thru (A.map (cutR f k)) c)
    exact congrArg (thru (B.map (cutR f k))) e
  col := fun i => by
    have := u.col i
    simp only [List.map_append, List.map_cons, List.sum_append, List.sum_cons]
    omega
/-- a hall of nought or more minutes, each customer with less than W in all -/
structure Few (m n : Nat) (W : Int) (H : List (List Int)) : Prop where
  len : H.length = m
  rows : ∀ r ∈ H, r.length = n ∧ ∀ x ∈ r, 0 ≤ x
  col : ∀ i, (H.map (·.getD i 0)).sum < W
theorem sum_ge : ∀ {L : List Int}, (∀ x ∈ L, 0 ≤ x) → 0 ≤ L.sum ∧ ∀ x ∈ L, x ≤ L.sum
  | [], _ => by simp
  | a :: L, h => by
    simp only [List.forall_mem_cons] at h
    obtain ⟨h1, h2⟩ := sum_ge h.2
    simp only [List.sum_cons, List.forall_mem_cons]
    exact ⟨by omega, by omega, fun x hx => by have := h2 x hx; omega⟩
theorem Few.hok {m n : Nat} {W : Int} {H : List (List Int)} (h : Few m n W H) (m1 : 1 ≤ m) (m8 : m ≤ 8) (n1 : 1 ≤ n) (n8 : n ≤ 8) : HOk m n W H := ⟨h.len, m1, m8, n1, n8, fun r hr => ⟨(h.rows r hr).1, fun x hx => ⟨(h.rows r hr).2 x hx, by
  obtain ⟨i, hi, rfl⟩ := List.mem_iff_getElem.mp hx
  have e : r.getD i 0 = r[i] := by simp [List.getD_eq_getElem?_getD, hi]
  have h1 := (sum_ge (L := H.map (·.getD i 0)) (fun y hy => by
    obtain ⟨q, hq, rfl⟩ := List.mem_map.mp hy
    by_cases hk : i < q.length
    · have : q.getD i 0 = q[i] := by simp [List.getD_eq_getElem?_getD, hk]
      rw [this]
      exact (h.rows q hq).2 _ (List.getElem_mem hk)
    · simp [List.getD_eq_getElem?_getD, List.getElem?_eq_none (Nat.le_of_not_lt hk)])).2 (r.getD i 0) (List.mem_map.mpr ⟨r, hr, rfl⟩)
  have := h.col i
  omega⟩⟩⟩
theorem Unseen.few {m n : Nat} {W : Int} {r s r' s' : List Int} {A B : List (List Int)} (u : Unseen n r s r' s') (h : Few m n W (A ++ r :: s :: B)) : Few m n W (A ++ r' :: s' :: B) where
  len := by have := h.len; simp at this ⊢; omega
  rows := fun q hq => by
    simp only [List.mem_append, List.mem_cons] at hq
    rcases hq with hq | rfl | rfl | hq
    · exact h.rows q (by simp [hq])
    · exact ⟨u.lr, u.nr⟩
    · exact ⟨u.ls, u.ns⟩
    · exact h.rows q (by simp [hq])
  col := fun i => by rw [(u.alike A B).col i]; exact h.col i
/-! ### how many can be moved -/
theorem foldMaxS : ∀ (r : List Int) (i : Int), (r.foldl max i ∈ i :: r) ∧ ∀ y ∈ i :: r, y ≤ r.foldl max i
  | [], i => ⟨by simp, by simp⟩
  | j :: r, i => by
    obtain ⟨h1, h2⟩ := foldMaxS r (max i j)
    rw [List.foldl_cons]
    refine ⟨?_, fun y hy => ?_⟩
    · rcases List.mem_cons.mp h1 with e | e
      · rw [e]
        by_cases c : i ≤ j
        · rw [Int.max_eq_right c]; simp
        · rw [Int.max_eq_left (by omega)]; simp
      · exact List.mem_cons_of_mem _ (List.mem_cons_of_mem _ e)
    · have hm := h2 (max i j) List.mem_cons_self
      rcases List.mem_cons.mp hy with rfl | hy
      · omega
      · rcases List.mem_cons.mp hy with rfl | hy
        · omega
        · exact h2 y (List.mem_cons_of_mem _ hy)
theorem maxL_ge {l : Int} {rs ss : List Int} {M : Int} (h : foldMax (leadsL l rs ss) = some M) : ∀ x ∈ leadsL l rs ss, x ≤ M := by
  cases q : leadsL l rs ss with
  | nil => simp
  | cons t ts =>
    rw [q] at h
    simp only [foldMax, Option.some.injEq] at h
    rw [← h]
    exact (foldMaxS ts t).2
theorem on_nn {r s : Int} {rs ss : List Int} {M : Int} (hr : 0 ≤ r) (h : foldMax (leadsL 0 (r :: rs) (s :: ss)) = some M) : 0 ≤ M := by
  have := maxL_ge h r (by simp [leadsL])
  omega
theorem off_nn : ∀ {rs ss : List Int} {l M : Int}, rs.length = ss.length → rs ≠ [] → (∀ x ∈ ss, 0 ≤ x) → (∀ x ∈ leadsL l rs ss, x ≤ M) → leadE l rs ss ≤ M
  | [r], [s], l, M, _, _, hs, h => by
    simp only [List.forall_mem_cons, leadsL] at hs h
    simp only [leadE]
    omega
  | r :: r2 :: rs, s :: s2 :: ss, l, M, hl, _, hs, h => by
    simp only [leadE]
    have := off_nn (rs := r2 :: rs) (ss := s2 :: ss) (l := l + r - s) (M := M) (by simpa using hl) (by simp) (fun x hx => hs x (List.mem_cons_of_mem _ hx)) (fun x hx => h x (by simp only [leadsL, List.mem_cons] at hx ⊢; exact .inr hx))
    simpa [leadE] using this
theorem foldMax_iff {L : List Int} {M : Int} : foldMax L = some M ↔ M ∈ L ∧ ∀ x ∈ L, x ≤ M := by
  cases L with
  | nil => simp [foldMax]
  | cons t ts =>
    obtain ⟨h1, h2⟩ := foldMaxS ts t
    simp only [foldMax, Option.some.injEq]
    constructor
    · rintro rfl; exact ⟨h1, h2⟩
    · rintro ⟨k1, k2⟩
      have a := h2 M k1
      have b := k2 _ h1
      omega
/-- from the end: as many as can be moved back, and what is moved -/
theorem max_rev {rs ss : List Int} {M : Int} (hl : rs.length = ss.length) (h : foldMax (leadsL 0 rs ss) = some M) : foldMax (leadsL 0 ss.reverse rs.reverse) = some (M + (ss.sum - rs.sum)) := by
  rw [leads_rev rs ss 0 hl]
  obtain ⟨h1, h2⟩ := foldMax_iff.mp h
  refine foldMax_iff.mpr ⟨?_, fun x hx => ?_⟩
  · simp only [List.mem_reverse, List.mem_map]
    exact ⟨M, h1, by omega⟩
  · simp only [List.mem_reverse, List.mem_map] at hx
    obtain ⟨y, hy, rfl⟩ := hx
    have := h2 y hy
    omega
theorem back_eq {rs ss : List Int} {p : Int} (hl : rs.length = ss.length) : (onL (p + (ss.sum - rs.sum)) (leadsL 0 ss.reverse rs.reverse)).reverse = bkL p (leadsL 0 rs ss) := by
  rw [leads_rev rs ss 0 hl, ← List.map_reverse]
  rw [show ss.sum - rs.sum - 0 = ss.sum - rs.sum by omega, onL_shift, onL_rev]
end Pl
end
section
set_option Elab.async false
set_option linter.all false
set_option maxRecDepth 100000
set_option maxHeartbeats 2000000
/-! The bag: a list of one's own of three numbers that sides are drawn from. -/
namespace Pl
open PySem PySem.Spec L2 Lf Cp Ca
open Cb (f__law_draw D__law_draw f__law_bag D__law_bag f__law_cell_at D__law_cell_at f__law_minutes D__law_minutes)
theorem draw_pos {a b c wide : Int} (ha : 1 < a) (hw : 0 < wide) (hl : wide.natAbs.log2 < 9000) : f__law_draw [W a b c, I wide] = .ok (I (a % wide), [W (a / wide) b c, .hole]) := by
  simp [f__law_draw, D__law_draw, dFn, mkEn, dSq, dIf, tV, eOp2, eIxS, ownAt, ownS, bd, eD, eVar, fGt, fI, frz, ixN, mkS, dSet, stor, dStI, dRt, eMov, fMod, fDiv, outs, fin, noFr, noFrs, ha, hw, hl]
def mixB (b c wide : Int) : Int := ((b + c * 982451653) ^ 5 % (10 ^ 39 + 3) + c * 15485863) ^ 3 % (10 ^ 36 + 67) / 1024 % wide
theorem pow_ok5 {i : Int} (h : i.natAbs < 2 ^ 200) : (Builtin.Int.intBits i : Int) * 5 ≤ 2 ^ 27 := by
  have := bits_le h
  omega
theorem draw_nul {a b c wide : Int} (ha : a ≤ 1) (hb : 0 ≤ b ∧ b < 10 ^ 41) (hc : 0 ≤ c ∧ c < 10 ^ 9) (hw : 0 < wide) : f__law_draw [W a b c, I wide] = .ok (I (mixB b (c + 1) wide), [W a b (c + 1), .hole]) := by
  have h1 : (c + 1).natAbs.log2 + (982451653 : Int).natAbs.log2 < 1000000 := by
    have e1 : (982451653 : Int).natAbs.log2 ≤ 30 := log_le (by decide)
    have e2 : (c + 1).natAbs.log2 ≤ 30 := log_le (by omega)
    omega
  have h2 : (Builtin.Int.intBits (b + (c + 1) * 982451653) : Int) * 5 ≤ 2 ^ 27 := pow_ok5 (by omega)
  have h3 : (c + 1).natAbs.log2 + (15485863 : Int).natAbs.log2 < 1000000 := by
    have e1 : (15485863 : Int).natAbs.log2 ≤ 24 := log_le (by decide)
    have e2 : (c + 1).natAbs.log2 ≤ 30 := log_le (by omega)
    omega
  have h4 : (Builtin.Int.intBits ((b + (c + 1) * 982451653) ^ 5 % (10 ^ 39 + 3) + (c + 1) * 15485863) : Int) * 3 ≤ 2 ^ 27 := by
    refine pow_ok ?_
    generalize (b + (c + 1) * 982451653) ^ 5 = z
    omega
  have h5 : (Builtin.Int.intBits 10 : Int) * 39 ≤ 2 ^ 27 := by decide
  have h6 : (Builtin.Int.intBits 10 : Int) * 36 ≤ 2 ^ 27 := by decide
  have h7 : (1024 : Int).natAbs.log2 < 9000 := by
    have := log_le (i := 1024) (k := 11) (by decide)
    omega
  have h8 : ¬ 1 < a := by omega
  simp at h1 h2 h3 h4 h5 h6 h7
  simp [f__law_draw, D__law_draw, dFn, mkEn, dSq, dIf, tV, eOp2, eIxS, ownAt, ownS, bd, eD, eVar, fGt, fI, frz, ixN, mkS, dSet, stor, dStI, dRt, eMov, fMod, fDiv, fMul, fAdd, fPow, outs, fin, noFr, noFrs, dNx, h1, h2, h3, h4, h5, h6, h7, h8, hw, mixB]
def BOk (t : Int) (o : OT) : Prop := ∃ a b c, o = W a b c ∧ 0 ≤ a ∧ (0 ≤ b ∧ b < 10 ^ 41) ∧ 0 ≤ c ∧ c ≤ t
theorem BOk.mono {t u : Int} {o : OT} (h : BOk t o) (hu : t ≤ u) : BOk u o := by
  obtain ⟨a, b, c, e, h1, h2, h3, h4⟩ := h
  exact ⟨a, b, c, e, h1, h2, h3, by omega⟩
theorem BOk.noFr {t : Int} {o : OT} (h : BOk t o) : noFr o = true := by
  obtain ⟨a, b, c, rfl, _⟩ := h
  simp [Lf.noFr, noFrs]
theorem draw {t wide : Int} {o : OT} (h : BOk t o) (ht : t < 10 ^ 9) (hw : 0 < wide) (hl : wide < 10 ^ 20) : ∃ v o', f__law_draw [o, I wide] = .ok (I v, [o', .hole]) ∧ 0 ≤ v ∧ v < wide ∧ BOk (t + 1) o' := by
  obtain ⟨a, b, c, rfl, h1, h2, h3, h4⟩ := h
  by_cases ha : 1 < a
  · refine ⟨_, _, draw_pos ha hw ?_, Int.emod_nonneg _ (by omega), Int.emod_lt_of_pos _ hw, a / wide, b, c, rfl, Int.ediv_nonneg h1 (by omega), h2, h3, by omega⟩
    have := log_le (i := wide) (k := 70) (by omega)
    omega
  · exact ⟨_, _, draw_nul (by omega) h2 ⟨h3, by omega⟩ hw, Int.emod_nonneg _ (by omega), Int.emod_lt_of_pos _ hw, a, b, c + 1, rfl, by omega, h2, by omega, by omega⟩
/-- the draw as a call -/
theorem drawE {t wide : Int} {o : OT} {en en' : En} {i : Nat} {b : Bool} {da : DA} (h : BOk t o) (ht : t < 10 ^ 9) (hw : 0 < wide) (hl : wide < 10 ^ 20) (h1 : en[i]? = some (mkS b o)) (h2 : da en = .ok ([I wide], en')) (h3 : en'[i]? = some (mkS b o)) : ∃ v o', eClB 2 f__law_draw i da en = .ok (I v, en'.set i (mkS b o')) ∧ 0 ≤ v ∧ v < wide ∧ BOk (t + 1) o' := by
  obtain ⟨v, o', e, h5⟩ := draw h ht hw hl
  refine ⟨v, o', ?_, h5⟩
  have hf := h.noFr
  cases b <;> simp [eClB, h1, h2, h3, bd, ar, mkS, noFrs, noFr, hf, e]
theorem cell_at {ns : List Int} {k : Nat} : f__law_cell_at [.d (.list (ns.map .int)), I k] = .ok (I (ns.getD k 0), [.hole, .hole]) := by
  by_cases h : k < ns.length
  · have hx : (ns.map PyData.int)[k]? = some (.int ns[k]) := by simp [h]
    simp [f__law_cell_at, D__law_cell_at, dFn, mkEn, dSq, dIf, tV, eOp2, eVar, eLen, dlen, fLt, fI, frz, eIx, atI, ixN, h, hx, dRt, bd, outs, fin, noFr, noFrs, dNx, List.getD_eq_getElem?_getD]
  · simp [f__law_cell_at, D__law_cell_at, dFn, mkEn, dSq, dIf, tV, eOp2, eVar, eLen, dlen, fLt, fI, frz, eIx, atI, ixN, h, dRt, bd, outs, fin, noFr, noFrs, dNx, List.getD_eq_getElem?_getD, List.getElem?_eq_none (Nat.le_of_not_lt h), eD]
theorem bag (cell : Int) : ∃ o, f__law_bag [I cell] = .ok (o, [.hole]) ∧ BOk 0 o := by
  have c1 : (Builtin.Int.intBits 10 : Int) * 18 ≤ 2 ^ 27 := by decide
  have c2 : (Builtin.Int.intBits 10 : Int) * 40 ≤ 2 ^ 27 := by decide
  simp at c1 c2
  refine ⟨W (max 1 (cell - 10 ^ 18)) (cell % (10 ^ 40 + 121)) 0, ?_, _, _, _, rfl, by omega, ?_, by omega, by omega⟩
  · simp [f__law_bag, D__law_bag, dFn, mkEn, dRt, eLst, eD, bd, eOp2, eVar, fI, frz, aCons, aNil, eCb, frzs, fMax2, fSub, fPow, fMod, fAdd, few, outs, fin, noFr, noFrs, c1, c2]
    all_goals (first | omega | (split <;> omega) | skip)
  · have := Int.emod_nonneg cell (b := 10 ^ 40 + 121) (by decide)
    have := Int.emod_lt_of_pos cell (b := 10 ^ 40 + 121) (by decide)
    omega
end Pl
end
section
set_option Elab.async false
set_option linter.all false
set_option maxRecDepth 100000
set_option maxHeartbeats 2000000
namespace Pl
open PySem PySem.Spec L2 Lf Cp Ca
open Cb (f__law_draw D__law_draw f__law_bag D__law_bag f__law_cell_at D__law_cell_at f__law_minutes D__law_minutes f__law_hall D__law_hall)
theorem lcD_ex {α β : Type} {item : α → PyData} {vs : List Nat} {g : DG} {te : DE} (out : β → OT) (P : Nat → En → Prop) (Q : β → Prop) : ∀ (as : List α) (i : Nat) (en : En) (acc : List OT), acc.length + as.length ≤ 100000 → (∀ a ∈ as, ∀ j en, j < i + as.length → P j en → ∃ e2 e3 e4 b, g (item a) en = some e2 ∧ te e2 = .ok (out b, e3) ∧ wipeE vs e3 = some e4 ∧ Q b ∧ P (j + 1) e4) → P i en → ∃ (bs : List β) (en' : En), lcD vs g tYs te (as.map item) en acc = .ok (.own (acc ++ bs.map out), en') ∧ bs.length = as.length ∧ (∀ b ∈ bs, Q b) ∧ P (i + as.length) en'
  | [], i, en, acc, _, _, h => ⟨[], en, by simp [lcD], rfl, by simp, h⟩
  | a :: as, i, en, acc, hl, h, hp => by
    obtain ⟨e2, e3, e4, b, h1, h2, h3, hQ, h4⟩ := h a (List.mem_cons_self ..) i en (by simp) hp
    have hf : few acc.length = true := few_of (by simp at hl; omega)
    obtain ⟨bs, en', h5, h6, h7, h8⟩ := lcD_ex (te := te) out P Q as (i + 1) e4 (acc ++ [out b]) (by simp at hl ⊢; omega) (fun x hx j en hj => h x (List.mem_cons_of_mem _ hx) j en (by simp only [List.length_cons]; omega)) h4
    refine ⟨b :: bs, en', ?_, by simp [h6], by simpa using ⟨hQ, h7⟩, by rw [show i + (a :: as).length = i + 1 + as.length by simp; omega]; exact h8⟩
    simp only [List.map_cons, lcD, h1, tYs, bd, nx, h2, h3, hf, if_true]
    simp [tYs] at h5 ⊢
    rw [h5]
theorem pow14 : fPow (.int 10) (.int 14) = some (.int (10 ^ 14)) := by
  have h2 : (0 : Int) ≤ 14 ∧ (Builtin.Int.intBits 10 : Int) * 14 ≤ 2 ^ 27 := by decide
  unfold fPow fI
  simp only [if_pos h2]
  rfl
theorem mul_small {a b : Int} (ha : 0 ≤ a ∧ a < 10 ^ 20) (hb : 0 ≤ b ∧ b < 10 ^ 20) : fMul (.int a) (.int b) = some (.int (a * b)) := by
  have e1 : a.natAbs.log2 ≤ 70 := log_le (by omega)
  have e2 : b.natAbs.log2 ≤ 70 := log_le (by omega)
  unfold fMul fI
  simp only [if_pos (show a.natAbs.log2 + b.natAbs.log2 < 1000000 by omega)]
def mnT : DE := eOp2 fMul (eClB 2 f__law_draw 0 (aCons (eVar 2) aNil)) (eCb fMin2 (aCons (eD (.int 1)) (aCons (eClB 2 f__law_draw 0 (aCons (eD (.int 4)) aNil)) aNil)))
theorem mnT_ok {t most : Int} {o : OT} {s1 : Slot} (h : BOk t o) (ht : t < 2 * 10 ^ 8) (hm : 1 ≤ most ∧ most ≤ 10 ^ 14) : ∃ v o', mnT [.p o, s1, .v (I most)] = .ok (I v, [.p o', s1, .v (I most)]) ∧ 0 ≤ v ∧ v < 10 ^ 14 ∧ BOk (t + 2) o' := by
  obtain ⟨v, o1, e1, a1, b1, w1⟩ := drawE (wide := most) (en := [.p o, s1, .v (I most)]) (i := 0) (b := true) (da := aCons (eVar 2) aNil) h (by omega) (by omega) (by omega) rfl (Ev.cons_ (Ev.var rfl) Ev.nil_) rfl
  obtain ⟨u, o2, e2, a2, b2, w2⟩ := drawE (wide := 4) (en := [.p o1, s1, .v (I most)]) (i := 0) (b := true) (da := aCons (eD (.int 4)) aNil) w1 (by omega) (by omega) (by omega) rfl (Ev.cons_ Ev.d_ Ev.nil_) rfl
  have hz : (if u < 1 then u else 1) = 0 ∨ (if u < 1 then u else 1) = 1 := by split <;> omega
  have e3 : mnT [.p o, s1, .v (I most)] = .ok (I (v * (if u < 1 then u else 1)), [.p o2, s1, .v (I most)]) :=
    Ev.op2 e1 (Ev.cb (Ev.cons_ Ev.d_ (Ev.cons_ e2 Ev.nil_)) rfl rfl) rfl rfl (mul_small (by omega) (by omega))
  refine ⟨_, o2, e3, ?_, ?_, w2.mono (by omega)⟩
  · rcases hz with hz | hz <;> rw [hz] <;> omega
  · rcases hz with hz | hz <;> rw [hz] <;> omega
theorem minutes {t lot : Int} {o : OT} (h : BOk t o) (ht : t < 10 ^ 8) (h0 : 0 ≤ lot) (h5 : lot < 5) : ∃ v o', f__law_minutes [o, I lot] = .ok (I v, [o', .hole]) ∧ 0 ≤ v ∧ v < 10 ^ 14 ∧ BOk (t + 3) o' := by
  have fin : ∀ {o1 : OT} {most : Int}, BOk (t + 1) o1 → (1 ≤ most ∧ most ≤ 10 ^ 14) → (∀ r, mnT [.p o1, .v (I lot), .v (I most)] = r → D__law_minutes [.p o, .v (I lot), .un] = dRt mnT [.p o1, .v (I lot), .v (I most)]) → ∃ v o', f__law_minutes [o, I lot] = .ok (I v, [o', .hole]) ∧ 0 ≤ v ∧ v < 10 ^ 14 ∧ BOk (t + 3) o' := by
    intro o1 most w hm he
    obtain ⟨v, o', e, a, b, w2⟩ := mnT_ok (s1 := .v (I lot)) w (by omega) hm
    refine ⟨v, o', ?_, a, b, w2.mono (by omega)⟩
    have e2 : D__law_minutes [.p o, .v (I lot), .un] = .ok (.rt (I v), [.p o', .v (I lot), .v (I most)]) := (he _ rfl).trans (Ev.rt e)
    have nf := w2.noFr
    exact fn_ok (fl := [true, false]) (k := 1) (B := D__law_minutes) (os := [o, I lot]) rfl e2 (by simp [outs, noFrs, noFr, nf])
  have L5 : eLst (aCons (eD (.int 2)) (aCons (eD (.int 4)) (aCons (eD (.int 20)) (aCons (eOp2 fPow (eD (.int 10)) (eD (.int 14))) (aCons (eD (.int 0)) aNil))))) [.p o, .v (I lot), .un] = .ok (.own [I 2, I 4, I 20, I (10 ^ 14), I 0], [.p o, .v (I lot), .un]) :=
    Ev.lst (Ev.cons_ Ev.d_ (Ev.cons_ Ev.d_ (Ev.cons_ Ev.d_ (Ev.cons_ (Ev.op2 Ev.d_ Ev.d_ rfl rfl pow14) (Ev.cons_ Ev.d_ Ev.nil_))))) rfl
  have q : ∀ m : Int, atI [I 2, I 4, I 20, I (10 ^ 14), I 0] lot = some (I m) → dSet 2 (eIx (eLst (aCons (eD (.int 2)) (aCons (eD (.int 4)) (aCons (eD (.int 20)) (aCons (eOp2 fPow (eD (.int 10)) (eD (.int 14))) (aCons (eD (.int 0)) aNil)))))) (eVar 1)) [.p o, .v (I lot), .un] = .ok (.nx, [.p o, .v (I lot), .v (I m)]) := fun m hm =>
    Ev.set_ (Ev.ix L5 (Ev.var rfl) (Ev.ixVo hm)) rfl
  have small : ∀ m : Int, atI [I 2, I 4, I 20, I (10 ^ 14), I 0] lot = some (I m) → (1 ≤ m ∧ m ≤ 10 ^ 14) → ∃ v o', f__law_minutes [o, I lot] = .ok (I v, [o', .hole]) ∧ 0 ≤ v ∧ v < 10 ^ 14 ∧ BOk (t + 3) o' := fun m hm hb =>
    fin (h.mono (by omega)) hb fun r _ => by
      have hne : fEq (.int m) (.int 0) = some (.bool false) := by rw [fEq_int]; simp; omega
      exact Ev.sq (q m hm) (Ev.sq (Ev.difN (Ev.tv (Ev.op2 (Ev.var rfl) Ev.d_ rfl rfl hne)) Ev.nx_) rfl)
  have hl : lot = 0 ∨ lot = 1 ∨ lot = 2 ∨ lot = 3 ∨ lot = 4 := by omega
  rcases hl with rfl | rfl | rfl | rfl | rfl
  · exact small 2 rfl (by omega)
  · exact small 4 rfl (by omega)
  · exact small 20 rfl (by omega)
  · exact small (10 ^ 14) rfl (by decide)
  · obtain ⟨u, o2, e2, a2, b2, w2⟩ := drawE (wide := 5) (en := [.p o, .v (I 4), .v (I 0)]) (i := 0) (b := true) (da := aCons (eD (.int 5)) aNil) h (by omega) (by omega) (by omega) rfl (Ev.cons_ Ev.d_ Ev.nil_) rfl
    have L6 : eLst (aCons (eD (.int 1)) (aCons (eD (.int 2)) (aCons (eD (.int 4)) (aCons (eD (.int 30)) (aCons (eOp2 fPow (eD (.int 10)) (eD (.int 14))) aNil))))) [.p o, .v (I 4), .v (I 0)] = .ok (.own [I 1, I 2, I 4, I 30, I (10 ^ 14)], [.p o, .v (I 4), .v (I 0)]) :=
      Ev.lst (Ev.cons_ Ev.d_ (Ev.cons_ Ev.d_ (Ev.cons_ Ev.d_ (Ev.cons_ Ev.d_ (Ev.cons_ (Ev.op2 Ev.d_ Ev.d_ rfl rfl pow14) Ev.nil_))))) rfl
    obtain ⟨m, hm, hb⟩ : ∃ m : Int, atI [I 1, I 2, I 4, I 30, I (10 ^ 14)] u = some (I m) ∧ (1 ≤ m ∧ m ≤ 10 ^ 14) := by
      have hu : u = 0 ∨ u = 1 ∨ u = 2 ∨ u = 3 ∨ u = 4 := by omega
      rcases hu with rfl | rfl | rfl | rfl | rfl
      · exact ⟨1, rfl, by omega⟩
      · exact ⟨2, rfl, by omega⟩
      · exact ⟨4, rfl, by omega⟩
      · exact ⟨30, rfl, by omega⟩
      · exact ⟨10 ^ 14, rfl, by decide⟩
    exact fin w2 hb fun r _ => by
      have heq : fEq (.int 0) (.int 0) = some (.bool true) := by rw [fEq_int]; simp
      exact Ev.sq (q 0 rfl) (Ev.sq (Ev.difY (Ev.tv (Ev.op2 (Ev.var rfl) Ev.d_ rfl rfl heq)) (Ev.set_ (Ev.ix L6 e2 (Ev.ixVo hm)) rfl)) rfl)
/-- the minutes as a call -/
theorem minutesE {t lot : Int} {o : OT} {en en' : En} {i : Nat} {b : Bool} {da : DA} (h : BOk t o) (ht : t < 10 ^ 8) (h0 : 0 ≤ lot) (h5 : lot < 5) (h1 : en[i]? = some (mkS b o)) (h2 : da en = .ok ([I lot], en')) (h3 : en'[i]? = some (mkS b o)) : ∃ v o', eClB 2 f__law_minutes i da en = .ok (I v, en'.set i (mkS b o')) ∧ 0 ≤ v ∧ v < 10 ^ 14 ∧ BOk (t + 3) o' := by
  obtain ⟨v, o', e, h6⟩ := minutes h ht h0 h5
  refine ⟨v, o', ?_, h6⟩
  have hf := h.noFr
  cases b <;> simp [eClB, h1, h2, h3, bd, ar, mkS, noFrs, noFr, hf, e]
end Pl
end
section
set_option Elab.async false
set_option linter.all false
set_option maxRecDepth 100000
set_option maxHeartbeats 2000000
namespace Pl
open PySem PySem.Spec L2 Lf Cp
open Cb (f__law_draw D__law_draw f__law_minutes D__law_minutes f__law_hall D__law_hall)
theorem frz_I (r : List Int) : (frz (.own (r.map I))).bind dItems = some (r.map .int) := by rw [Ev.frz_own (frzs_I r)]; rfl
/-- a row of minutes -/
theorem rowB {t lot : Int} {o : OT} {s1 s2 s3 s4 s7 : Slot} {n : Nat} (h : BOk t o) (ht : t < 10 ^ 7) (h0 : 0 ≤ lot) (h5 : lot < 5) (hn : n ≤ 8) :
    ∃ r o', eTp (eLc [8] (iR1 (aCons (eVar 5) aNil)) (gNm 8) tYs (eClB 2 f__law_minutes 0 (aCons (eVar 6) aNil))) [.p o, s1, s2, s3, s4, .v (I n), .v (I lot), s7, .un] = .ok (.d (rowP r), [.p o', s1, s2, s3, s4, .v (I n), .v (I lot), s7, .un]) ∧ ROk n (10 ^ 14) r ∧ BOk (t + 24) o' := by
  obtain ⟨r, en', e1, e2, e3, o', rfl, w⟩ := lcD_ex (item := fun k : Nat => .int k) (vs := [8]) (g := gNm 8) (te := eClB 2 f__law_minutes 0 (aCons (eVar 6) aNil)) I
    (fun j en => ∃ o', en = [.p o', s1, s2, s3, s4, .v (I n), .v (I lot), s7, .un] ∧ BOk (t + 3 * j) o') (fun v => 0 ≤ v ∧ v < 10 ^ 14) (List.range n) 0 [.p o, s1, s2, s3, s4, .v (I n), .v (I lot), s7, .un] [] (by simp; omega) (by
      rintro k hk j en hj ⟨o1, rfl, w⟩
      simp only [List.length_range] at hj
      obtain ⟨v, o2, e, a, b, w2⟩ := minutesE (en := [.p o1, s1, s2, s3, s4, .v (I n), .v (I lot), s7, .v (I k)]) (i := 0) (b := true) (da := aCons (eVar 6) aNil) w (by omega) h0 h5 rfl (Ev.cons_ (Ev.var rfl) Ev.nil_) rfl
      exact ⟨_, _, [.p o2, s1, s2, s3, s4, .v (I n), .v (I lot), s7, .un], v, rfl, e, rfl, ⟨a, b⟩, o2, rfl, w2.mono (by omega)⟩) ⟨o, rfl, h.mono (by omega)⟩
  refine ⟨r, o', Ev.tp ((eLc_N (n := n) (e1 := [.p o, s1, s2, s3, s4, .v (I n), .v (I lot), s7, .un]) (Ev.cons_ (Ev.var rfl) Ev.nil_) (by omega) rfl).trans (by rw [rng0]; exact e1)) (frz_I r), ⟨by simpa using e2, e3⟩, w.mono (by simp; omega)⟩
theorem hallB {t ru up : Int} {o : OT} {fw : Bool} (h : BOk t o) (ht : t < 10 ^ 6) (h1 : 1 ≤ ru ∧ ru ≤ 8) (h2 : 1 ≤ up ∧ up ≤ 8) :
    ∃ (rs : List (List Int)) (n : Nat) (o' : OT), f__law_hall [o, I ru, I up, .d (.bool fw)] = .ok (.d (hallP rs), [o', .hole, .hole, .hole]) ∧ (1 ≤ rs.length ∧ (rs.length : Int) ≤ ru) ∧ (1 ≤ n ∧ (n : Int) ≤ up) ∧ (∀ r ∈ rs, ROk n (10 ^ 14) r) ∧ BOk (t + 400) o' := by
  obtain ⟨v1, o1, e1, a1, b1, w1⟩ := drawE (wide := ru) (en := [.p o, .v (I ru), .v (I up), .v (.d (.bool fw)), .un, .un, .un, .un, .un]) (i := 0) (b := true) (da := aCons (eVar 1) aNil) h (by omega) (by omega) (by omega) rfl (Ev.cons_ (Ev.var rfl) Ev.nil_) rfl
  obtain ⟨v2, o2, e2, a2, b2, w2⟩ := drawE (wide := up) (en := [.p o1, .v (I ru), .v (I up), .v (.d (.bool fw)), .un, .un, .un, .un, .un]) (i := 0) (b := true) (da := aCons (eVar 2) aNil) w1 (by omega) (by omega) (by omega) rfl (Ev.cons_ (Ev.var rfl) Ev.nil_) rfl
  obtain ⟨m, hm⟩ : ∃ m : Nat, 1 + v1 = m := ⟨(1 + v1).toNat, by omega⟩
  obtain ⟨n, hn⟩ : ∃ n : Nat, 1 + v2 = n := ⟨(1 + v2).toNat, by omega⟩
  have b3 : dAsg (gTp [4, 5]) (eTup (aCons (eOp2 fAdd (eD (.int 1)) (eClB 2 f__law_draw 0 (aCons (eVar 1) aNil))) (aCons (eOp2 fAdd (eD (.int 1)) (eClB 2 f__law_draw 0 (aCons (eVar 2) aNil))) aNil))) [.p o, .v (I ru), .v (I up), .v (.d (.bool fw)), .un, .un, .un, .un, .un] = .ok (.nx, [.p o2, .v (I ru), .v (I up), .v (.d (.bool fw)), .v (I m), .v (I n), .un, .un, .un]) := by
    rw [← hm, ← hn]
    exact Ev.asg (Ev.tup (os := [I (1 + v1), I (1 + v2)]) (Ev.cons_ (Ev.op2 Ev.d_ e1 rfl rfl rfl) (Ev.cons_ (Ev.op2 Ev.d_ e2 rfl rfl rfl) Ev.nil_)) rfl rfl) rfl rfl
  obtain ⟨lot, o3, b4, l0, l5, w3⟩ : ∃ lot o3, dSet 6 (eClB 2 f__law_draw 0 (aCons (eIf (tV (eVar 3)) (eD (.int 2)) (eD (.int 5))) aNil)) [.p o2, .v (I ru), .v (I up), .v (.d (.bool fw)), .v (I m), .v (I n), .un, .un, .un] = .ok (.nx, [.p o3, .v (I ru), .v (I up), .v (.d (.bool fw)), .v (I m), .v (I n), .v (I lot), .un, .un]) ∧ 0 ≤ lot ∧ lot < 5 ∧ BOk (t + 3) o3 := by
    cases fw with
    | true =>
      obtain ⟨v, o3, e, a, b, w⟩ := drawE (wide := 2) (en := [.p o2, .v (I ru), .v (I up), .v (.d (.bool true)), .v (I m), .v (I n), .un, .un, .un]) (i := 0) (b := true) (da := aCons (eIf (tV (eVar 3)) (eD (.int 2)) (eD (.int 5))) aNil) w2 (by omega) (by omega) (by omega) rfl (Ev.cons_ (Ev.ifY (Ev.tv (Ev.var rfl)) Ev.d_) Ev.nil_) rfl
      exact ⟨v, o3, Ev.set_ e rfl, a, by omega, w.mono (by omega)⟩
    | false =>
      obtain ⟨v, o3, e, a, b, w⟩ := drawE (wide := 5) (en := [.p o2, .v (I ru), .v (I up), .v (.d (.bool false)), .v (I m), .v (I n), .un, .un, .un]) (i := 0) (b := true) (da := aCons (eIf (tV (eVar 3)) (eD (.int 2)) (eD (.int 5))) aNil) w2 (by omega) (by omega) (by omega) rfl (Ev.cons_ (Ev.ifN (Ev.tv (Ev.var rfl)) Ev.d_) Ev.nil_) rfl
      exact ⟨v, o3, Ev.set_ e rfl, a, by omega, w.mono (by omega)⟩
  obtain ⟨rs, en', e3, k1, k2, o4, rfl, w4⟩ := lcD_ex (item := fun k : Nat => .int k) (vs := [7]) (g := gNm 7) (te := eTp (eLc [8] (iR1 (aCons (eVar 5) aNil)) (gNm 8) tYs (eClB 2 f__law_minutes 0 (aCons (eVar 6) aNil)))) (fun r => .d (rowP r))
    (fun j en => ∃ o', en = [.p o', .v (I ru), .v (I up), .v (.d (.bool fw)), .v (I m), .v (I n), .v (I lot), .un, .un] ∧ BOk (t + 3 + 24 * j) o') (ROk n (10 ^ 14)) (List.range m) 0 [.p o3, .v (I ru), .v (I up), .v (.d (.bool fw)), .v (I m), .v (I n), .v (I lot), .un, .un] [] (by simp; omega) (by
      rintro k hk j en hj ⟨o1, rfl, w⟩
      simp only [List.length_range] at hj
      obtain ⟨r, o2, e, q, w2⟩ := rowB (s1 := .v (I ru)) (s2 := .v (I up)) (s3 := .v (.d (.bool fw))) (s4 := .v (I m)) (s7 := .v (I k)) w (by omega) l0 l5 (n := n) (by omega)
      exact ⟨_, _, [.p o2, .v (I ru), .v (I up), .v (.d (.bool fw)), .v (I m), .v (I n), .v (I lot), .un, .un], r, rfl, e, rfl, q, o2, rfl, w2.mono (by omega)⟩) ⟨o3, rfl, w3.mono (by omega)⟩
  have b5 : eTp (eLc [7] (iR1 (aCons (eVar 4) aNil)) (gNm 7) tYs (eTp (eLc [8] (iR1 (aCons (eVar 5) aNil)) (gNm 8) tYs (eClB 2 f__law_minutes 0 (aCons (eVar 6) aNil))))) [.p o3, .v (I ru), .v (I up), .v (.d (.bool fw)), .v (I m), .v (I n), .v (I lot), .un, .un] = .ok (.d (hallP rs), [.p o4, .v (I ru), .v (I up), .v (.d (.bool fw)), .v (I m), .v (I n), .v (I lot), .un, .un]) :=
    Ev.tp ((eLc_N (n := m) (e1 := [.p o3, .v (I ru), .v (I up), .v (.d (.bool fw)), .v (I m), .v (I n), .v (I lot), .un, .un]) (Ev.cons_ (Ev.var rfl) Ev.nil_) (by omega) rfl).trans (by rw [rng0]; exact e3)) (by
      simp only [List.nil_append]
      rw [Ev.frz_own (frzs_fn rowP rs)]
      rfl)
  have nf := w4.noFr
  simp only [List.length_range] at k1
  refine ⟨rs, n, o4, ?_, by omega, by omega, k2, w4.mono (by simp; omega)⟩
  exact fn_ok (fl := [true, false, false, false]) (k := 5) (B := D__law_hall) (os := [o, I ru, I up, .d (.bool fw)]) rfl (Ev.sq b3 (Ev.sq b4 (Ev.rt b5))) (by simp [outs, noFrs, noFr, nf])
end Pl
end
section
set_option Elab.async false
set_option linter.all false
set_option maxRecDepth 100000
set_option maxHeartbeats 2000000
namespace Pl
open PySem PySem.Spec L2 Lf Cp
open Cm (f_leads D_leads f_most_moves D_most_moves f_going_on D_going_on f_going_back D_going_back f_check_counter D_check_counter f_check_neighbours D_check_neighbours f_can_move D_can_move f_carried D_carried f_moved D_moved)
theorem nfW (L : List Int) : noFr (OW L) = true := by
  show noFrs (L.map I) = true
  have := noFrs_d (L.map .int)
  rwa [List.map_map] at this
theorem noFr_hole : noFr .hole = true := rfl
theorem max2 {i j : Int} : fMax2 [.int i, .int j] = some (.int (max i j)) := by simp only [fMax2, gt_iff_lt, if_max]
def leadsP : Int → List (Int × Int) → List Int
  | l, p :: ps => (l + p.1) :: leadsP (l + p.1 - p.2) ps
  | _, [] => []
theorem leadsP_zip : ∀ (rs ss : List Int) (l : Int), leadsP l (rs.zip ss) = leadsL l rs ss
  | [], _, _ => by simp [leadsP, leadsL]
  | _ :: _, [], _ => by simp [leadsP, leadsL]
  | r :: rs, s :: ss, l => by simp only [List.zip_cons_cons, leadsP, leadsL, leadsP_zip rs]
def ldB : DS := dSq (dAug 2 fAdd (eVar 4)) (dSq (dEx (eApp 3 (eVar 2))) (dAug 2 fSub (eVar 5)))
theorem leads_step {A B : OT} {m c l : Int} {told : List Int} (hl : told.length ≤ 1000) : ldB [.v A, .v B, .v (I l), .v (.own (told.map I)), .v (I m), .v (I c)] = .ok (.nx, [.v A, .v B, .v (I (l + m - c)), .v (.own ((told ++ [l + m]).map I)), .v (I m), .v (I c)]) := by
  have b1 : dAug 2 fAdd (eVar 4) [.v A, .v B, .v (I l), .v (.own (told.map I)), .v (I m), .v (I c)] = .ok (.nx, [.v A, .v B, .v (I (l + m)), .v (.own (told.map I)), .v (I m), .v (I c)]) := Ev.aug rfl (Ev.var rfl) rfl rfl rfl
  have b2 : dEx (eApp 3 (eVar 2)) [.v A, .v B, .v (I (l + m)), .v (.own (told.map I)), .v (I m), .v (I c)] = .ok (.nx, [.v A, .v B, .v (I (l + m)), .v (.own ((told ++ [l + m]).map I)), .v (I m), .v (I c)]) := Ev.ex (Ev.app (b := false) rfl (Ev.var rfl) rfl (few_of (by simp; omega)) (by simp [mkS]))
  exact Ev.sq b1 (Ev.sq b2 (Ev.aug rfl (Ev.var rfl) rfl rfl rfl))
theorem leads {r s : List Int} (hl : r.length ≤ 1000) : f_leads [.d (rowP r), .d (rowP s)] = .ok (OW (leadsL 0 r s), [.hole, .hole]) := by
  obtain ⟨e, h1, l, told, s4, s5, rfl, _, _, h2, _⟩ := forD_rest (item := fun p : Int × Int => .tuple [.int p.1, .int p.2]) (g := gTp [4, 5]) (body := ldB)
    (fun rest en => ∃ l told s4 s5, en = [.v (.d (rowP r)), .v (.d (rowP s)), .v (I l), .v (.own (told.map I)), s4, s5] ∧ np s4 = true ∧ np s5 = true ∧ told ++ leadsP l rest = leadsL 0 r s ∧ told.length + rest.length ≤ 1000)
    (by
      rintro ⟨m, c⟩ rest en ⟨l, told, s4, s5, rfl, n4, n5, h, hl⟩
      simp only [List.length_cons] at hl
      exact ⟨[.v (.d (rowP r)), .v (.d (rowP s)), .v (I l), .v (.own (told.map I)), .v (I m), .v (I c)], _, by simp [gTp, gNms, stor_eq, n4, n5], leads_step (by omega), _, _, _, _, rfl, rfl, rfl, by simpa [leadsP] using h, by simp; omega⟩)
    (r.zip s) _ ⟨0, [], .un, .un, rfl, rfl, rfl, by simp [leadsP_zip], by simp; omega⟩
  have hz : iZ2 (aCons (eVar 0) (aCons (eVar 1) aNil)) [.v (.d (rowP r)), .v (.d (rowP s)), .v (I 0), .v (.own []), .un, .un] = .ok ((r.zip s).map fun p => .tuple [.int p.1, .int p.2], [.v (.d (rowP r)), .v (.d (rowP s)), .v (I 0), .v (.own []), .un, .un]) := by
    simp [iZ2, aCons, aNil, eVar, bd, frzs, frz, dItems, zip2_map]
  have he : told = leadsL 0 r s := by simpa [leadsP] using h2
  rw [he] at h1
  have b : D_leads [.v (.d (rowP r)), .v (.d (rowP s)), .un, .un, .un, .un] = .ok (.rt (OW (leadsL 0 r s)), _) := Ev.sq (Ev.set_ Ev.d_ rfl) (Ev.sq (Ev.set_ (Ev.lst Ev.nil_ rfl) rfl) (Ev.sq (Ev.for_ hz h1) (Ev.rt (Ev.mov rfl rfl))))
  exact fn_ok (fl := [false, false]) (k := 4) (B := D_leads) (os := [.d (rowP r), .d (rowP s)]) rfl b (by simp [outs, noFrs, nfW, noFr_hole])
theorem maxA_L {L : List Int} {M : Int} (h : foldMax L = some M) : fMaxA [.list (L.map .int)] = some (.int M) := by simp only [fMaxA, seqInts, ints_map, Option.bind_some, h, Option.map_some]
theorem sumA_T {L : List Int} : fSumA [.tuple (L.map .int)] = some (.int L.sum) := by simp only [fSumA, seqInts, ints_map, Option.map_some]
theorem most_moves {r s : List Int} {M : Int} (hl : r.length ≤ 1000) (h : foldMax (leadsL 0 r s) = some M) : f_most_moves [.d (rowP r), .d (rowP s)] = .ok (.d (.tuple [.int M, .int (M + s.sum - r.sum)]), [.hole, .hole]) := by
  have e1 := leads (r := r) (s := s) hl
  have b : D_most_moves [.v (.d (rowP r)), .v (.d (rowP s)), .un] = .ok (.rt (.d (.tuple [.int M, .int (M + s.sum - r.sum)])), [.v (.d (rowP r)), .v (.d (rowP s)), .v (I M)]) :=
    Ev.sq (Ev.set_ (Ev.cb (Ev.cons_ (Ev.cl (Ev.cons_ (Ev.var rfl) (Ev.cons_ (Ev.var rfl) Ev.nil_)) rfl rfl e1) Ev.nil_) (Ev.frzs_cons (Ev.frz_own (frzs_I _)) rfl) (maxA_L h)) rfl) (Ev.rt (Ev.tup (os := [I M, I (M + s.sum - r.sum)]) (Ev.cons_ (Ev.var rfl) (Ev.cons_ (Ev.op2 (Ev.op2 (Ev.var rfl) (Ev.cb (Ev.cons_ (Ev.var rfl) Ev.nil_) rfl sumA_T) rfl rfl rfl) (Ev.cb (Ev.cons_ (Ev.var rfl) Ev.nil_) rfl sumA_T) rfl rfl rfl) Ev.nil_)) rfl rfl))
  exact fn_ok (fl := [false, false]) (k := 1) (B := D_most_moves) (os := [.d (rowP r), .d (rowP s)]) rfl b rfl
def goB : DS := dSq (dEx (eApp 5 (eCb fMax2 (aCons (eOp2 fSub (eVar 6) (eVar 4)) (aCons (eD (.int 0)) aNil))))) (dSet 4 (eCb fMax2 (aCons (eVar 4) (aCons (eVar 6) aNil))))
theorem go_step {A B C D : OT} {p t : Int} {ms : List Int} (hl : ms.length ≤ 1000) : goB [.v A, .v B, .v C, .v D, .v (I p), .v (.own (ms.map I)), .v (I t)] = .ok (.nx, [.v A, .v B, .v C, .v D, .v (I (max p t)), .v (.own ((ms ++ [max (t - p) 0]).map I)), .v (I t)]) := by
  have b1 : dEx (eApp 5 (eCb fMax2 (aCons (eOp2 fSub (eVar 6) (eVar 4)) (aCons (eD (.int 0)) aNil)))) [.v A, .v B, .v C, .v D, .v (I p), .v (.own (ms.map I)), .v (I t)] = .ok (.nx, [.v A, .v B, .v C, .v D, .v (I p), .v (.own ((ms ++ [max (t - p) 0]).map I)), .v (I t)]) :=
    Ev.ex (Ev.app (b := false) rfl (Ev.cb (Ev.cons_ (Ev.op2 (Ev.var rfl) (Ev.var rfl) rfl rfl rfl) (Ev.cons_ Ev.d_ Ev.nil_)) rfl max2) rfl (few_of (by simp; omega)) (by simp [mkS]))
  exact Ev.sq b1 (Ev.set_ (Ev.cb (Ev.cons_ (Ev.var rfl) (Ev.cons_ (Ev.var rfl) Ev.nil_)) rfl max2) rfl)
theorem going_on {r s : List Int} {M many : Int} (hl : r.length ≤ 1000) (h : foldMax (leadsL 0 r s) = some M) : f_going_on [.d (rowP r), .d (rowP s), I many] = .ok (OW (onL (M - many) (leadsL 0 r s)), [.hole, .hole, .hole]) := by
  have e1 := leads (r := r) (s := s) hl
  have hL : (leadsL 0 r s).length ≤ 1000 := by rw [leadsL_len]; omega
  generalize leadsL 0 r s = L at *
  obtain ⟨e, h1, p, ms, s6, rfl, _, h2, _⟩ := forD_rest (item := fun t : Int => .int t) (g := gNm 6) (body := goB)
    (fun rest en => ∃ p ms s6, en = [.v (.d (rowP r)), .v (.d (rowP s)), .v (I many), .v (.d (.list (L.map .int))), .v (I p), .v (.own (ms.map I)), s6] ∧ np s6 = true ∧ ms ++ onL p rest = onL (M - many) L ∧ ms.length + rest.length ≤ 1000)
    (by
      rintro t rest en ⟨p, ms, s6, rfl, n6, h, hl⟩
      simp only [List.length_cons] at hl
      exact ⟨[.v (.d (rowP r)), .v (.d (rowP s)), .v (I many), .v (.d (.list (L.map .int))), .v (I p), .v (.own (ms.map I)), .v (I t)], _, by simp [gNm, stor_eq, n6], go_step (by omega), _, _, _, rfl, rfl, by simpa [onL] using h, by simp; omega⟩)
    L _ ⟨M - many, [], .un, rfl, rfl, by simp, by simp; omega⟩
  have he : ms = onL (M - many) L := by simpa [onL] using h2
  rw [he] at h1
  have b3 : dSet 3 (eCl 2 f_leads (aCons (eVar 0) (aCons (eVar 1) aNil))) [.v (.d (rowP r)), .v (.d (rowP s)), .v (I many), .un, .un, .un, .un] = .ok (.nx, [.v (.d (rowP r)), .v (.d (rowP s)), .v (I many), .v (OW L), .un, .un, .un]) := Ev.set_ (Ev.cl (Ev.cons_ (Ev.var rfl) (Ev.cons_ (Ev.var rfl) Ev.nil_)) rfl rfl e1) rfl
  have b4 : dSet 4 (eOp2 fSub (eCb fMaxA (aCons (eVar 3) aNil)) (eVar 2)) [.v (.d (rowP r)), .v (.d (rowP s)), .v (I many), .v (OW L), .un, .un, .un] = .ok (.nx, [.v (.d (rowP r)), .v (.d (rowP s)), .v (I many), .v (.d (.list (L.map .int))), .v (I (M - many)), .un, .un]) := Ev.set_ (Ev.op2 (Ev.cb (Ev.cons_ (Ev.varo (os := L.map I) rfl (frzs_I _) rfl) Ev.nil_) rfl (maxA_L h)) (Ev.var rfl) rfl rfl rfl) rfl
  have b : D_going_on [.v (.d (rowP r)), .v (.d (rowP s)), .v (I many), .un, .un, .un, .un] = .ok (.rt (OW (onL (M - many) L)), _) := Ev.sq b3 (Ev.sq b4 (Ev.sq (Ev.set_ (Ev.lst Ev.nil_ rfl) rfl) (Ev.sq (Ev.for_ (Ev.iSq_ (Ev.var rfl) rfl) h1) (Ev.rt (Ev.mov rfl rfl)))))
  exact fn_ok (fl := [false, false, false]) (k := 4) (B := D_going_on) (os := [.d (rowP r), .d (rowP s), I many]) rfl b (by simp [outs, noFrs, nfW, noFr_hole])
theorem going_back {r s : List Int} {M many : Int} (hl : r.length ≤ 1000) (hs : r.length = s.length) (h : foldMax (leadsL 0 r s) = some M) : f_going_back [.d (rowP r), .d (rowP s), I many] = .ok (OW (bkL (M - many) (leadsL 0 r s)), [.hole, .hole, .hole]) := by
  have e1 := going_on (r := s.reverse) (s := r.reverse) (many := many) (by simp; omega) (max_rev hs h)
  have e2 : (onL (M + (s.sum - r.sum) - many) (leadsL 0 s.reverse r.reverse)).reverse = bkL (M - many) (leadsL 0 r s) := by
    rw [← back_eq hs]
    congr 2
    omega
  have rr : ∀ q : List Int, (q.map PyData.int).reverse = q.reverse.map .int := fun q => by rw [List.map_reverse]
  have b : D_going_back [.v (.d (rowP r)), .v (.d (rowP s)), .v (I many)] = .ok (.rt (OW (bkL (M - many) (leadsL 0 r s))), [.v (.d (rowP r)), .v (.d (rowP s)), .v (I many)]) :=
    Ev.rt (Ev.rv (Ev.cl (Ev.cons_ (Ev.rvT (Ev.var rfl) rfl (rr s)) (Ev.cons_ (Ev.rvT (Ev.var rfl) rfl (rr r)) (Ev.cons_ (Ev.var rfl) Ev.nil_))) rfl rfl e1) (Ev.frz_own (frzs_I _)) (by rw [rr, e2, List.map_map]; rfl))
  exact fn_ok (fl := [false, false, false]) (k := 0) (B := D_going_back) (os := [.d (rowP r), .d (rowP s), I many]) rfl b (by simp [outs, noFrs, nfW, noFr_hole])
end Pl
end
section
set_option Elab.async false
set_option linter.all false
set_option maxRecDepth 100000
set_option maxHeartbeats 2000000
namespace Pl
open PySem PySem.Spec L2 Lf Cp
open Cm (f_leads D_leads f_most_moves D_most_moves f_going_on D_going_on f_going_back D_going_back f_check_counter D_check_counter f_check_neighbours D_check_neighbours f_can_move D_can_move f_carried D_carried f_moved D_moved)
theorem catT {α : Type} {f : α → PyData} {xs ys : List α} (h : xs.length + ys.length ≤ 1000) : Ev.catV (.tuple (xs.map f)) (.tuple (ys.map f)) = some (.d (.tuple ((xs ++ ys).map f))) := by
  rw [Ev.catVt (few_of (by simp; omega)), List.map_append]
theorem fn_ok0 {fl : List Bool} {k : Nat} {B : DS} {os : List OT} {en : En} (hl : os.length = fl.length) (h : B (mkEn fl os ++ List.replicate k .un) = .ok (.nx, en)) (hf : noFrs (.d .none :: outs fl en) = true) : dFn fl k B os = .ok (.d .none, outs fl en) := by
  unfold dFn fin
  simp only [hl, if_true, h, hf]
theorem check_counter {xs : List PyData} {c : Nat} (h : c < xs.length) : f_check_counter [.d (.tuple xs), I c] = .ok (.d .none, [.hole, .hole]) := by
  have e1 := is_whole (i := (c : Int)) (by omega)
  have hge : fGe (.int c) (.int xs.length) = some (.bool false) := by
    have : decide ((xs.length : Int) ≤ c) = false := by simp; omega
    simp only [fGe, fI, ge_iff_le, this]
  have b : D_check_counter [.v (.d (.tuple xs)), .v (I c)] = .ok (.nx, [.v (.d (.tuple xs)), .v (I c)]) :=
    Ev.difN (Ev.orN (Ev.nt (b := true) (Ev.tv (Ev.cl (Ev.cons_ (Ev.var rfl) Ev.nil_) rfl rfl e1))) (Ev.tv (Ev.op2 (Ev.var rfl) (Ev.len_ (n := xs.length) (Ev.var rfl) rfl) rfl rfl hge))) Ev.nx_
  exact fn_ok0 (fl := [false, false]) (k := 0) (B := D_check_counter) (os := [.d (.tuple xs), I c]) rfl b rfl
theorem check_neighbours {m n c : Nat} {wide : Int} {H : List (List Int)} (h : HOk m n wide H) (hc : c + 1 < m) : f_check_neighbours [.d (hallP H), I c] = .ok (.d .none, [.hole, .hole]) := by
  have e1 := check_hall h
  have hl := h.len
  have e2 := check_counter (xs := (H.map rowP).take ((H.map rowP).length - 1)) (c := c) (by simp; omega)
  have hs : Ev.slV (hallP H) none (some (-1)) = some (.d (.tuple ((H.map rowP).take ((H.map rowP).length - 1)))) := by
    simp only [Ev.slV]
    rw [cutA_init (by intro q; have := congrArg List.length q; simp at this; simp [this] at hl; omega), List.dropLast_eq_take]
  have b : D_check_neighbours [.v (.d (hallP H)), .v (I c)] = .ok (.nx, [.v (.d (hallP H)), .v (I c)]) :=
    Ev.sq (Ev.ex (Ev.cl (Ev.cons_ (Ev.var rfl) Ev.nil_) rfl rfl e1)) (Ev.ex (Ev.cl (Ev.cons_ (Ev.sl_ (Ev.var rfl) Ev.pno (Ev.psm (Ev.neg Ev.d_)) rfl hs) (Ev.cons_ (Ev.var rfl) Ev.nil_)) rfl rfl e2))
  exact fn_ok0 (fl := [false, false]) (k := 0) (B := D_check_neighbours) (os := [.d (hallP H), I c]) rfl b rfl
section
variable {m n c : Nat} {wide M : Int} {A B : List (List Int)} {r s : List Int}
theorem at_c (hc : A.length = c) : atI ((A ++ r :: s :: B).map rowP) (c : Int) = some (rowP r) := by
  subst hc
  have : atI ((A ++ r :: s :: B).map rowP) (A.length : Int) = some (rowP ((A ++ r :: s :: B).getD A.length [])) := atI_getD (by simp)
  rw [this]
  simp
theorem at_c1 (hc : A.length = c) : atI ((A ++ r :: s :: B).map rowP) ((c : Int) + 1) = some (rowP s) := by
  subst hc
  have : atI ((A ++ r :: s :: B).map rowP) ((A.length + 1 : Nat) : Int) = some (rowP ((A ++ r :: s :: B).getD (A.length + 1) [])) := atI_getD (by simp)
  rw [show (A.length : Int) + 1 = ((A.length + 1 : Nat) : Int) by omega, this]
  simp [List.getD_eq_getElem?_getD]
theorem can_move (h : HOk m n wide (A ++ r :: s :: B)) (hc : A.length = c) (hM : foldMax (leadsL 0 r s) = some M) : f_can_move [.d (hallP (A ++ r :: s :: B)), I c] = .ok (.d (.tuple [.int M, .int (M + s.sum - r.sum)]), [.hole, .hole]) := by
  have hl := h.len
  have hr := (h.rows r (by simp)).1
  have hn := h.n8
  have e1 := check_neighbours h (c := c) (by simp at hl; omega)
  have e2 := most_moves (by omega) hM
  have b : D_can_move [.v (.d (hallP (A ++ r :: s :: B))), .v (I c)] = .ok (.rt (.d (.tuple [.int M, .int (M + s.sum - r.sum)])), [.v (.d (hallP (A ++ r :: s :: B))), .v (I c)]) :=
    Ev.sq (Ev.ex (Ev.cl (Ev.cons_ (Ev.var rfl) (Ev.cons_ (Ev.var rfl) Ev.nil_)) rfl rfl e1)) (Ev.rt (Ev.cl (Ev.cons_ (Ev.ix (Ev.var rfl) (Ev.var rfl) (Ev.ixVt (at_c hc))) (Ev.cons_ (Ev.ix (Ev.var rfl) (Ev.op2 (Ev.var rfl) Ev.d_ rfl rfl rfl) (Ev.ixVt (at_c1 hc))) Ev.nil_)) rfl rfl e2))
  exact fn_ok (fl := [false, false]) (k := 0) (B := D_can_move) (os := [.d (hallP (A ++ r :: s :: B)), I c]) rfl b rfl
/-- the rest, once it is known what is moved -/
def crR : DS := dSq (dSet 6 (eTp (eLc [8, 9] (iZ2 (aCons (eVar 3) (aCons (eVar 5) aNil))) (gTp [8, 9]) tYs (eOp2 fSub (eVar 8) (eVar 9))))) (dSq (dSet 7 (eTp (eLc [8, 9] (iZ2 (aCons (eVar 4) (aCons (eVar 5) aNil))) (gTp [8, 9]) tYs (eOp2 fAdd (eVar 8) (eVar 9))))) (dRt (eCat (eCat (eSl (eVar 0) pNo (pSm (eVar 1))) (eTup (aCons (eVar 6) (aCons (eVar 7) aNil)))) (eSl (eVar 0) (pSm (eOp2 fAdd (eVar 1) (eD (.int 2)))) pNo))))
theorem zipRow {op : Int → Int → Int} {f : PyData → PyData → Option PyData} (hf : ∀ a b, f (.int a) (.int b) = some (.int (op a b))) {i : Nat} {en e1 : En} {q g : List Int} (hq : q.length ≤ 1000) (h10 : en.length = 10) (h1 : aCons (eVar i) (aCons (eVar 5) aNil) en = .ok ([.d (rowP q), .d (dayP g)], e1)) (hw : wipeE [8, 9] e1 = some e1) (st : ∀ a b, gTp [8, 9] (.tuple [.int a, .int b]) e1 = some ((e1.set 8 (.v (I a))).set 9 (.v (I b)))) (hl : e1.length = 10) (hw2 : ∀ a b, wipeE [8, 9] ((e1.set 8 (.v (I a))).set 9 (.v (I b))) = some e1) :
    eTp (eLc [8, 9] (iZ2 (aCons (eVar i) (aCons (eVar 5) aNil))) (gTp [8, 9]) tYs (eOp2 f (eVar 8) (eVar 9))) en = .ok (.d (rowP (List.zipWith op q g)), e1) := by
  have e := lcD_map (vs := [8, 9]) (g := gTp [8, 9]) (te := eOp2 f (eVar 8) (eVar 9)) (en := e1) (item := fun p : Int × Int => .tuple [.int p.1, .int p.2]) (fun p => I (op p.1 p.2)) (q.zip g) [] (by simp; omega) (by
    rintro ⟨a, b⟩ _
    refine ⟨_, _, st a b, Ev.op2 (Ev.var ?_) (Ev.var ?_) rfl rfl (hf a b), hw2 a b⟩
    · rw [List.getElem?_set_ne (by omega), List.getElem?_set_self (by omega)]
    · rw [List.getElem?_set_self (by simp; omega)])
  have hz : iZ2 (aCons (eVar i) (aCons (eVar 5) aNil)) en = .ok ((q.zip g).map fun p => .tuple [.int p.1, .int p.2], e1) := by
    simp only [iZ2, h1, bd]
    simp [frzs, frz, dItems, zip2_map]
  have hm : (q.zip g).map (fun p => I (op p.1 p.2)) = (List.zipWith op q g).map I := by simp [List.zip, List.map_zipWith]
  refine Ev.tp (o := OW (List.zipWith op q g)) (e1 := e1) ?_ (frz_I _)
  unfold eLc
  rw [hz]
  simp only [bd, hw]
  rw [e, hm]
  rfl
theorem crR_ok {k : Int} {g : List Int} (h : HOk m n wide (A ++ r :: s :: B)) (hc : A.length = c) : ∃ s0 s1 s2 e, crR [.v (.d (hallP (A ++ r :: s :: B))), .v (I c), .v (I k), .v (.d (rowP r)), .v (.d (rowP s)), .v (OW g), .un, .un, .un, .un] = .ok (.rt (.d (hallP (A ++ subL r g :: addL s g :: B))), s0 :: s1 :: s2 :: e) := by
  have hl := h.len
  have hm8 := h.m8
  have hn8 := h.n8
  have hr := (h.rows r (by simp)).1
  have hs := (h.rows s (by simp)).1
  simp only [List.length_append, List.length_cons] at hl
  have z1 := zipRow (op := (· - ·)) (f := fSub) (fun a b => rfl) (i := 3) (q := r) (g := g) (en := [.v (.d (hallP (A ++ r :: s :: B))), .v (I c), .v (I k), .v (.d (rowP r)), .v (.d (rowP s)), .v (OW g), .un, .un, .un, .un]) (e1 := [.v (.d (hallP (A ++ r :: s :: B))), .v (I c), .v (I k), .v (.d (rowP r)), .v (.d (rowP s)), .v (.d (dayP g)), .un, .un, .un, .un]) (by omega) rfl (Ev.cons_ (Ev.var rfl) (Ev.cons_ (Ev.varo (os := g.map I) rfl (frzs_I _) rfl) Ev.nil_)) rfl (fun a b => rfl) rfl (fun a b => rfl)
  have z2 := zipRow (op := (· + ·)) (f := fAdd) (fun a b => rfl) (i := 4) (q := s) (g := g) (en := [.v (.d (hallP (A ++ r :: s :: B))), .v (I c), .v (I k), .v (.d (rowP r)), .v (.d (rowP s)), .v (.d (dayP g)), .v (.d (rowP (subL r g))), .un, .un, .un]) (e1 := [.v (.d (hallP (A ++ r :: s :: B))), .v (I c), .v (I k), .v (.d (rowP r)), .v (.d (rowP s)), .v (.d (dayP g)), .v (.d (rowP (subL r g))), .un, .un, .un]) (by omega) rfl (Ev.cons_ (Ev.var rfl) (Ev.cons_ (Ev.var rfl) Ev.nil_)) rfl (fun a b => rfl) rfl (fun a b => rfl)
  have tk : (A ++ r :: s :: B).take c = A := by subst hc; simp
  have dr : (A ++ r :: s :: B).drop (c + 2) = B := by
    subst hc
    rw [List.drop_append, List.drop_eq_nil_of_le (by omega), show A.length + 2 - A.length = 2 by omega]
    rfl
  have c1 : Ev.catV (.tuple (((A ++ r :: s :: B).take c).map rowP)) (.tuple ([subL r g, addL s g].map rowP)) = some (.d (.tuple ((A ++ [subL r g, addL s g]).map rowP))) := by
    rw [tk, catT (by simp; omega)]
  have c2 : Ev.catV (.tuple ((A ++ [subL r g, addL s g]).map rowP)) (.tuple (((A ++ r :: s :: B).drop (c + 2)).map rowP)) = some (.d (hallP (A ++ subL r g :: addL s g :: B))) := by
    rw [dr, catT (by simp; omega)]
    simp
  exact ⟨_, _, _, _, Ev.sq (Ev.set_ z1 rfl) (Ev.sq (Ev.set_ z2 rfl) (Ev.rt (Ev.cat (Ev.cat (Ev.sl_ (Ev.var rfl) Ev.pno (Ev.psm (Ev.var rfl)) rfl (sl_takeT rfl)) (Ev.tup (os := [.d (rowP (subL r g)), .d (rowP (addL s g))]) (Ev.cons_ (Ev.var rfl) (Ev.cons_ (Ev.var rfl) Ev.nil_)) rfl rfl) rfl rfl c1) (Ev.sl_ (Ev.var rfl) (Ev.psm (Ev.op2 (Ev.var rfl) Ev.d_ rfl rfl rfl)) Ev.pno rfl (sl_dropT (s := c + 2) (by omega))) rfl rfl c2)))⟩
theorem sub_neg : ∀ (r g : List Int), subL r (g.map (- ·)) = addL r g
  | [], _ => by simp [subL, addL]
  | _ :: _, [] => by simp [subL, addL]
  | a :: r, b :: g => by
    have := sub_neg r g
    simp only [subL, addL, List.map_cons, List.zipWith_cons_cons] at this ⊢
    rw [this]
    congr 1
    omega
theorem add_neg : ∀ (r g : List Int), addL r (g.map (- ·)) = subL r g
  | [], _ => by simp [subL, addL]
  | _ :: _, [] => by simp [subL, addL]
  | a :: r, b :: g => by
    have := add_neg r g
    simp only [subL, addL, List.map_cons, List.zipWith_cons_cons] at this ⊢
    rw [this]
    congr 1
/-- what is left, and what the next has, after so many minutes are moved -/
def lft (M k : Int) (r s : List Int) : List Int := if 0 ≤ k then subL r (onL (M - k) (leadsL 0 r s)) else addL r (bkL (M + k) (leadsL 0 r s))
def nxt (M k : Int) (r s : List Int) : List Int := if 0 ≤ k then addL s (onL (M - k) (leadsL 0 r s)) else subL s (bkL (M + k) (leadsL 0 r s))
theorem carried {k : Int} (h : HOk m n wide (A ++ r :: s :: B)) (hc : A.length = c) (hM : foldMax (leadsL 0 r s) = some M) : f_carried [.d (hallP (A ++ r :: s :: B)), I c, I k] = .ok (.d (hallP (A ++ lft M k r s :: nxt M k r s :: B)), [.hole, .hole, .hole]) := by
  have hr := (h.rows r (by simp)).1
  have hs := (h.rows s (by simp)).1
  have hn8 := h.n8
  have b3 : dSet 3 (eIx (eVar 0) (eVar 1)) [.v (.d (hallP (A ++ r :: s :: B))), .v (I c), .v (I k), .un, .un, .un, .un, .un, .un, .un] = .ok (.nx, [.v (.d (hallP (A ++ r :: s :: B))), .v (I c), .v (I k), .v (.d (rowP r)), .un, .un, .un, .un, .un, .un]) := Ev.set_ (Ev.ix (Ev.var rfl) (Ev.var rfl) (Ev.ixVt (at_c hc))) rfl
  have b4 : dSet 4 (eIx (eVar 0) (eOp2 fAdd (eVar 1) (eD (.int 1)))) [.v (.d (hallP (A ++ r :: s :: B))), .v (I c), .v (I k), .v (.d (rowP r)), .un, .un, .un, .un, .un, .un] = .ok (.nx, [.v (.d (hallP (A ++ r :: s :: B))), .v (I c), .v (I k), .v (.d (rowP r)), .v (.d (rowP s)), .un, .un, .un, .un, .un]) := Ev.set_ (Ev.ix (Ev.var rfl) (Ev.op2 (Ev.var rfl) Ev.d_ rfl rfl rfl) (Ev.ixVt (at_c1 hc))) rfl
  have t5 : tV (eOp2 fGe (eVar 2) (eD (.int 0))) [.v (.d (hallP (A ++ r :: s :: B))), .v (I c), .v (I k), .v (.d (rowP r)), .v (.d (rowP s)), .un, .un, .un, .un, .un] = .ok (decide (0 ≤ k), [.v (.d (hallP (A ++ r :: s :: B))), .v (I c), .v (I k), .v (.d (rowP r)), .v (.d (rowP s)), .un, .un, .un, .un, .un]) := Ev.tv (Ev.op2 (Ev.var rfl) Ev.d_ rfl rfl rfl)
  have fin : ∀ s0 s1 s2 e, D_carried [.v (.d (hallP (A ++ r :: s :: B))), .v (I c), .v (I k), .un, .un, .un, .un, .un, .un, .un] = .ok (.rt (.d (hallP (A ++ lft M k r s :: nxt M k r s :: B))), s0 :: s1 :: s2 :: e) → f_carried [.d (hallP (A ++ r :: s :: B)), I c, I k] = .ok (.d (hallP (A ++ lft M k r s :: nxt M k r s :: B)), [.hole, .hole, .hole]) := fun s0 s1 s2 e he =>
    fn_ok (fl := [false, false, false]) (k := 7) (B := D_carried) (os := [.d (hallP (A ++ r :: s :: B)), I c, I k]) rfl he rfl
  by_cases hk : 0 ≤ k
  · rw [show decide (0 ≤ k) = true by simpa using hk] at t5
    have e5 := going_on (many := k) (by omega) hM
    have b5 := Ev.difY (e := dSet 5 (eLc [8] (iSq (eCl 3 f_going_back (aCons (eVar 3) (aCons (eVar 4) (aCons (eNeg (eVar 2)) aNil))))) (gNm 8) tYs (eNeg (eVar 8)))) t5 (Ev.set_ (i := 5) (Ev.cl (n := 3) (f := f_going_on) (dr := aCons (eVar 3) (aCons (eVar 4) (aCons (eVar 2) aNil))) (Ev.cons_ (Ev.var rfl) (Ev.cons_ (Ev.var rfl) (Ev.cons_ (Ev.var rfl) Ev.nil_))) rfl rfl e5) rfl)
    obtain ⟨s0, s1, s2, e, b6⟩ := crR_ok (k := k) (g := onL (M - k) (leadsL 0 r s)) h hc
    refine fin s0 s1 s2 e ?_
    simp only [lft, nxt, if_pos hk]
    exact Ev.sq b3 (Ev.sq b4 (Ev.sq b5 b6))
  · rw [show decide (0 ≤ k) = false by simpa using hk] at t5
    have e5 := going_back (many := -k) (by omega) (by omega) hM
    rw [show M - -k = M + k by omega] at e5
    have hbl : (bkL (M + k) (leadsL 0 r s)).length ≤ 1000 := by rw [bkL_len, leadsL_len]; omega
    have e := lcD_map (vs := [8]) (g := gNm 8) (te := eNeg (eVar 8)) (en := [.v (.d (hallP (A ++ r :: s :: B))), .v (I c), .v (I k), .v (.d (rowP r)), .v (.d (rowP s)), .un, .un, .un, .un, .un]) (item := fun t : Int => .int t) (fun t => I (-t)) (bkL (M + k) (leadsL 0 r s)) [] (by simp; omega) (fun t _ => ⟨[.v (.d (hallP (A ++ r :: s :: B))), .v (I c), .v (I k), .v (.d (rowP r)), .v (.d (rowP s)), .un, .un, .un, .v (I t), .un], _, rfl, Ev.neg (Ev.var rfl), rfl⟩)
    have hL : eLc [8] (iSq (eCl 3 f_going_back (aCons (eVar 3) (aCons (eVar 4) (aCons (eNeg (eVar 2)) aNil))))) (gNm 8) tYs (eNeg (eVar 8)) [.v (.d (hallP (A ++ r :: s :: B))), .v (I c), .v (I k), .v (.d (rowP r)), .v (.d (rowP s)), .un, .un, .un, .un, .un] = .ok (OW ((bkL (M + k) (leadsL 0 r s)).map (- ·)), [.v (.d (hallP (A ++ r :: s :: B))), .v (I c), .v (I k), .v (.d (rowP r)), .v (.d (rowP s)), .un, .un, .un, .un, .un]) := by
      unfold eLc
      have hi : iSq (eCl 3 f_going_back (aCons (eVar 3) (aCons (eVar 4) (aCons (eNeg (eVar 2)) aNil)))) [.v (.d (hallP (A ++ r :: s :: B))), .v (I c), .v (I k), .v (.d (rowP r)), .v (.d (rowP s)), .un, .un, .un, .un, .un] = .ok ((bkL (M + k) (leadsL 0 r s)).map PyData.int, [.v (.d (hallP (A ++ r :: s :: B))), .v (I c), .v (I k), .v (.d (rowP r)), .v (.d (rowP s)), .un, .un, .un, .un, .un]) :=
        Ev.iSq_ (Ev.cl (Ev.cons_ (Ev.var rfl) (Ev.cons_ (Ev.var rfl) (Ev.cons_ (Ev.neg (Ev.var rfl)) Ev.nil_))) rfl rfl e5) (frz_I _)
      rw [hi]
      refine Eq.trans e ?_
      simp [List.map_map, Function.comp_def]
    have b5 := Ev.difN (d := dSet 5 (eCl 3 f_going_on (aCons (eVar 3) (aCons (eVar 4) (aCons (eVar 2) aNil))))) t5 (Ev.set_ (i := 5) hL rfl)
    obtain ⟨s0, s1, s2, e, b6⟩ := crR_ok (k := k) (g := (bkL (M + k) (leadsL 0 r s)).map (- ·)) h hc
    refine fin s0 s1 s2 e ?_
    simp only [lft, nxt, if_neg hk]
    rw [sub_neg, add_neg] at b6
    exact Ev.sq b3 (Ev.sq b4 (Ev.sq b5 b6))
theorem moved {k : Int} (h : HOk m n wide (A ++ r :: s :: B)) (hc : A.length = c) (hM : foldMax (leadsL 0 r s) = some M) (h1 : k ≤ M) (h2 : -k ≤ M + s.sum - r.sum) : f_moved [.d (hallP (A ++ r :: s :: B)), I c, I k] = .ok (.d (hallP (A ++ lft M k r s :: nxt M k r s :: B)), [.hole, .hole, .hole]) := by
  have hl := h.len
  have hr := (h.rows r (by simp)).1
  have hn8 := h.n8
  have e1 := check_neighbours h (c := c) (by simp at hl; omega)
  have e2 := most_moves (by omega) hM
  have e3 := carried (k := k) h hc hM
  have g1 : fGt (.int k) (.int M) = some (.bool false) := by
    have : decide (k > M) = false := by simp; omega
    simp only [fGt, fI, this]
  have g2 : fGt (.int (-k)) (.int (M + s.sum - r.sum)) = some (.bool false) := by
    have : decide (-k > M + s.sum - r.sum) = false := by simp; omega
    simp only [fGt, fI, this]
  have b : D_moved [.v (.d (hallP (A ++ r :: s :: B))), .v (I c), .v (I k), .un, .un] = .ok (.rt (.d (hallP (A ++ lft M k r s :: nxt M k r s :: B))), [.v (.d (hallP (A ++ r :: s :: B))), .v (I c), .v (I k), .v (I M), .v (I (M + s.sum - r.sum))]) :=
    Ev.sq (Ev.ex (Ev.cl (Ev.cons_ (Ev.var rfl) (Ev.cons_ (Ev.var rfl) Ev.nil_)) rfl rfl e1))
    (Ev.sq (Ev.difN (Ev.tv (b := false) (Ev.tyNot (T := "int") (t := "int") (Ev.var rfl) rfl)) Ev.nx_)
    (Ev.sq (Ev.asg (Ev.cl (Ev.cons_ (Ev.ix (Ev.var rfl) (Ev.var rfl) (Ev.ixVt (at_c hc))) (Ev.cons_ (Ev.ix (Ev.var rfl) (Ev.op2 (Ev.var rfl) Ev.d_ rfl rfl rfl) (Ev.ixVt (at_c1 hc))) Ev.nil_)) rfl rfl e2) rfl rfl)
    (Ev.sq (Ev.difN (Ev.orN (Ev.tv (Ev.op2 (Ev.var rfl) (Ev.var rfl) rfl rfl g1)) (Ev.tv (Ev.op2 (Ev.neg (Ev.var rfl)) (Ev.var rfl) rfl rfl g2))) Ev.nx_)
    (Ev.rt (Ev.cl (Ev.cons_ (Ev.var rfl) (Ev.cons_ (Ev.var rfl) (Ev.cons_ (Ev.var rfl) Ev.nil_))) rfl rfl e3)))))
  exact fn_ok (fl := [false, false, false]) (k := 2) (B := D_moved) (os := [.d (hallP (A ++ r :: s :: B)), I c, I k]) rfl b rfl
end
end Pl
end
section
set_option Elab.async false
set_option linter.all false
set_option maxRecDepth 100000
set_option maxHeartbeats 2000000
/-! what the looks at halls, days, counters, customers tell of any data -/
namespace Xp
open PySem PySem.Spec L2 Lf Pl
mutual
/-- no dict in it but such without entries -/
def nd : PyData → Bool
  | .dict kvs => kvs.isEmpty
  | .list xs => nds xs
  | .tuple xs => nds xs
  | _ => true
def nds : List PyData → Bool
  | [] => true
  | x :: xs => nd x && nds xs
end
theorem nds_mem : ∀ {xs : List PyData} {x : PyData}, nds xs = true → x ∈ xs → nd x = true
  | y :: ys, x, h, hx => by
    simp only [nds, Bool.and_eq_true] at h
    rcases List.mem_cons.mp hx with rfl | hx
    · exact h.1
    · exact nds_mem h.2 hx
def ty1 : PyData → String
  | .none => "NoneType"
  | .bool _ => "bool"
  | .int _ => "int"
  | .str _ => "str"
  | .list _ => "list"
  | .tuple _ => "tuple"
  | .dict _ => "dict"
theorem tyOf_nd {x : PyData} (h : nd x = true) : tyOf x = some (ty1 x) := by
  cases x <;> first | rfl | cases h
abbrev no : OT := .d (.bool false)
abbrev tf (b : Bool) : OT := .d (.bool b)
def wholeP : PyData → Bool
  | .int i => decide (0 ≤ i)
  | _ => false
def shortP : PyData → Bool
  | .tuple xs => decide (1 ≤ xs.length) && decide (xs.length ≤ 8)
  | _ => false
def rowB : PyData → Bool
  | .tuple xs => (decide (1 ≤ xs.length) && decide (xs.length ≤ 8)) && xs.all wholeP
  | _ => false
def lenT : PyData → Nat
  | .tuple xs => xs.length
  | .list xs => xs.length
  | _ => 0
def hallB : PyData → Bool
  | .tuple xs => ((decide (1 ≤ xs.length) && decide (xs.length ≤ 8)) && xs.all rowB) && xs.all fun r => decide (lenT r = lenT (xs.headD .none))
  | _ => false
theorem whole_any {x : PyData} (h : nd x = true) : Cp.f_is_whole [.d x] = .ok (tf (wholeP x), [.hole]) := by
  cases x with
  | int i =>
    by_cases hi : 0 ≤ i
    · simp [wholeP, hi, is_whole hi]
    · simp [Cp.f_is_whole, Cp.D_is_whole, dFn, mkEn, dRt, eAn, eTyIs, eVar, bd, frz, tyOf, eOp2, eD, fGe, fI, hi, outs, fin, noFrs, noFr, wholeP]
  | _ => simp [Cp.f_is_whole, Cp.D_is_whole, dFn, mkEn, dRt, eAn, eTyIs, eVar, bd, frz, tyOf, outs, fin, noFrs, noFr, wholeP]
theorem short_any {x : PyData} (h : nd x = true) : Cp.f_is_short_tuple [.d x] = .ok (tf (shortP x), [.hole]) := by
  cases x with
  | tuple xs =>
    have t1 : Cp.f_is_short_tuple [.d (.tuple xs)] = .ok (tf (decide ((1 : Int) ≤ xs.length) && decide ((xs.length : Int) ≤ 8)), [.hole]) := by
      by_cases a : (1 : Int) ≤ xs.length
      · by_cases b : (xs.length : Int) ≤ 8 <;> simp [Cp.f_is_short_tuple, Cp.D_is_short_tuple, dFn, mkEn, dRt, eAn, eTyIs, eVar, bd, frz, tyOf, eChn, eLen, dlen, eD, fLe, fI, a, b, outs, fin, noFrs, noFr]
      · simp [Cp.f_is_short_tuple, Cp.D_is_short_tuple, dFn, mkEn, dRt, eAn, eTyIs, eVar, bd, frz, tyOf, eChn, eLen, dlen, eD, fLe, fI, a, outs, fin, noFrs, noFr]
    rw [t1]
    have e1 : decide ((1 : Int) ≤ xs.length) = decide (1 ≤ xs.length) := by congr 1; exact propext ⟨fun h => by omega, fun h => by omega⟩
    have e2 : decide ((xs.length : Int) ≤ 8) = decide (xs.length ≤ 8) := by congr 1; exact propext ⟨fun h => by omega, fun h => by omega⟩
    rw [e1, e2]
    rfl
  | _ => simp [Cp.f_is_short_tuple, Cp.D_is_short_tuple, dFn, mkEn, dRt, eAn, eTyIs, eVar, bd, frz, tyOf, outs, fin, noFrs, noFr, shortP]
theorem allD_any {vs : List Nat} {g : DG} {te : DE} {en : En} (p : PyData → Bool) : ∀ (xs : List PyData), (∀ x ∈ xs, ∃ e2 e3, g x en = some e2 ∧ te e2 = .ok (tf (p x), e3) ∧ wipeE vs e3 = some en) → allD vs g tYs te xs en = .ok (xs.all p, en)
  | [], _ => rfl
  | x :: xs, h => by
    obtain ⟨e2, e3, h1, h2, h3⟩ := h x (List.mem_cons_self ..)
    have ih := allD_any (te := te) p xs fun y hy => h y (List.mem_cons_of_mem _ hy)
    simp only [allD, h1, tYs, bd, nx, h2, h3, if_true, List.all_cons]
    cases e : p x with
    | true => simp only [if_true, Bool.true_and]; exact ih
    | false => simp
theorem all_any {vs : List Nat} {di : DI} {g : DG} {te : DE} {en e1 e2 : En} {xs : List PyData} {b : Bool} (h : di en = .ok (xs, e1)) (hw : wipeE vs e1 = some e2) (k : allD vs g tYs te xs e2 = .ok (b, e2)) : eAll vs di g tYs te en = .ok (tf b, e2) := by
  simp [eAll, h, bd, hw, k, okB]
theorem row_any {x : PyData} (h : nd x = true) : Cp.f_is_row [.d x] = .ok (tf (rowB x), [.hole]) := by
  have s := short_any h
  have c1 : eCl 1 Cp.f_is_short_tuple (aCons (eVar 0) aNil) [.v (.d x), .un] = .ok (tf (shortP x), [.v (.d x), .un]) := Ev.cl (Ev.cons_ (Ev.var rfl) Ev.nil_) rfl rfl s
  have key : eAn (eCl 1 Cp.f_is_short_tuple (aCons (eVar 0) aNil)) (eAll [1] (iSq (eVar 0)) (gNm 1) tYs (eCl 1 Cp.f_is_whole (aCons (eVar 1) aNil))) [.v (.d x), .un] = .ok (tf (rowB x), [.v (.d x), .un]) := by
    cases e : shortP x with
    | false =>
      rw [e] at c1
      have : rowB x = false := by cases x <;> first | rfl | (simp only [shortP, rowB] at e ⊢; rw [e]; rfl)
      rw [this]
      exact Ev.eanN c1
    | true =>
      rw [e] at c1
      cases x with
      | tuple xs =>
        have er : rowB (.tuple xs) = xs.all wholeP := by simp only [shortP] at e; simp only [rowB, e, Bool.true_and]
        rw [er]
        refine Ev.eanY c1 (all_any (e1 := [.v (.d (.tuple xs)), .un]) (Ev.iSq_ (Ev.var rfl) rfl) rfl (allD_any wholeP xs fun y hy => ?_))
        exact ⟨[.v (.d (.tuple xs)), .v (.d y)], [.v (.d (.tuple xs)), .v (.d y)], rfl, Ev.cl (Ev.cons_ (Ev.var rfl) Ev.nil_) rfl rfl (whole_any (nds_mem h hy)), rfl⟩
      | _ => cases e
  exact fn_ok (fl := [false]) (k := 1) (B := Cp.D_is_row) (os := [.d x]) rfl (dRt_ok key) rfl
theorem hall_any {x : PyData} (h : nd x = true) : Cp.f_is_hall [.d x] = .ok (tf (hallB x), [.hole]) := by
  have s := short_any h
  have c1 : eCl 1 Cp.f_is_short_tuple (aCons (eVar 0) aNil) [.v (.d x), .un] = .ok (tf (shortP x), [.v (.d x), .un]) := Ev.cl (Ev.cons_ (Ev.var rfl) Ev.nil_) rfl rfl s
  cases e : shortP x with
  | false =>
    rw [e] at c1
    have : hallB x = false := by cases x <;> first | rfl | (simp only [shortP, hallB] at e ⊢; rw [e]; rfl)
    rw [this]
    exact fn_ok (fl := [false]) (k := 1) (B := Cp.D_is_hall) (os := [.d x]) (en := [.v (.d x), .un]) rfl (Ev.sqR (Ev.difY (Ev.orY (Ev.nt (Ev.tv c1))) (Ev.rt Ev.d_))) rfl
  | true =>
    rw [e] at c1
    cases x with
    | tuple xs =>
      have h1 : eAll [1] (iSq (eVar 0)) (gNm 1) tYs (eCl 1 Cp.f_is_row (aCons (eVar 1) aNil)) [.v (.d (.tuple xs)), .un] = .ok (tf (xs.all rowB), [.v (.d (.tuple xs)), .un]) :=
        all_any (e1 := [.v (.d (.tuple xs)), .un]) (Ev.iSq_ (Ev.var rfl) rfl) rfl (allD_any rowB xs fun y hy => ⟨[.v (.d (.tuple xs)), .v (.d y)], [.v (.d (.tuple xs)), .v (.d y)], rfl, Ev.cl (Ev.cons_ (Ev.var rfl) Ev.nil_) rfl rfl (row_any (nds_mem h hy)), rfl⟩)
      simp only [shortP] at e
      cases er : xs.all rowB with
      | false =>
        rw [er] at h1
        have : hallB (.tuple xs) = false := by simp only [hallB, er, Bool.and_false, Bool.false_and]
        rw [this]
        exact fn_ok (fl := [false]) (k := 1) (B := Cp.D_is_hall) (os := [.d (.tuple xs)]) (en := [.v (.d (.tuple xs)), .un]) rfl (Ev.sqR (Ev.difY (Ev.orN (Ev.nt (Ev.tv c1)) (Ev.nt (Ev.tv h1))) (Ev.rt Ev.d_))) rfl
      | true =>
        rw [er] at h1
        obtain ⟨x0, xs', rfl⟩ : ∃ x0 xs', xs = x0 :: xs' := by
          cases xs with
          | nil => simp at e
          | cons a l => exact ⟨_, _, rfl⟩
        have rt : ∀ y ∈ x0 :: xs', ∃ l, y = .tuple l := fun y hy => by
          have := List.all_eq_true.mp er y hy
          cases y <;> first | exact ⟨_, rfl⟩ | cases this
        obtain ⟨l0, rfl⟩ := rt x0 List.mem_cons_self
        have eh : hallB (.tuple (.tuple l0 :: xs')) = (PyData.tuple l0 :: xs').all fun r => decide (lenT r = l0.length) := by
          simp only [hallB, er, e, Bool.true_and, List.headD_cons]; rfl
        rw [eh]
        refine fn_ok (fl := [false]) (k := 1) (B := Cp.D_is_hall) (os := [.d (.tuple (.tuple l0 :: xs'))]) (en := [.v (.d (.tuple (.tuple l0 :: xs'))), .un]) rfl (Ev.sq (Ev.difN (Ev.orN (Ev.nt (Ev.tv c1)) (Ev.nt (Ev.tv h1))) Ev.nx_) (Ev.rt ?_)) rfl
        refine all_any (e1 := [.v (.d (.tuple (.tuple l0 :: xs'))), .un]) (Ev.iSq_ (Ev.var rfl) rfl) rfl (allD_any (fun r => decide (lenT r = l0.length)) _ fun y hy => ?_)
        obtain ⟨l, rfl⟩ := rt y hy
        refine ⟨[.v (.d (.tuple (.tuple l0 :: xs'))), .v (.d (.tuple l))], [.v (.d (.tuple (.tuple l0 :: xs'))), .v (.d (.tuple l))], rfl, ?_, rfl⟩
        refine Ev.op2 (x := .int l.length) (y := .int l0.length) (Ev.len_ (Ev.var rfl) rfl) (Ev.len_ (Ev.ix (Ev.var rfl) Ev.d_ (Ev.ixVt (x := .tuple l0) (by simp [atI, ixN]))) rfl) rfl rfl ?_
        have : ((l.length : Int) == (l0.length : Int)) = decide (l.length = l0.length) := by
          by_cases z : l.length = l0.length
          · simp [z]
          · simp [z]; omega
        simp [fEq, SeqAt.shaped, PyData.eqv, PyData.canLay0, PyData.depth, lenT, this]
        exact decide_eq_decide.mpr Iff.rfl
    | _ => cases e
theorem check_hall_no {x : PyData} (h : nd x = true) (k : hallB x = false) : Cp.f_check_hall [.d x] = .error (.exn "NoHall" []) := by
  have a := hall_any h
  rw [k] at a
  have c1 : eCl 1 Cp.f_is_hall (aCons (eVar 0) aNil) [.v (.d x)] = .ok (no, [.v (.d x)]) := Ev.cl (Ev.cons_ (Ev.var rfl) Ev.nil_) rfl rfl a
  have c2 : Cp.D_check_hall [.v (.d x)] = .error (.exn "NoHall" [.v (.d x)]) := Ev.difY (Ev.nt (Ev.tv c1)) rfl
  show dFn [false] 0 Cp.D_check_hall [.d x] = _
  simp [dFn, mkEn, c2]
end Xp
end
section
set_option Elab.async false
set_option linter.all false
set_option maxRecDepth 100000
set_option maxHeartbeats 1000000
/-! Days later, and the later of two days (for k05). Plain lists of integers only. -/
namespace Pl
open PySem PySem.Spec L2 Lf Cp
/-! ### all later by k -/
/-! ### the later of two days -/
/-! ### from one to the next -/
/-! ### a little later: not before, and no later than that -/
/-- d stands to c: nowhere before, nowhere later than by k -/
def Late (k : Int) : List Int → List Int → Prop
  | c :: cs, d :: ds => (c ≤ d ∧ d ≤ c + k) ∧ Late k cs ds
  | [], [] => True
  | _, _ => False
theorem Late.refl {k : Int} (hk : 0 ≤ k) : ∀ c : List Int, Late k c c
  | [] => trivial
  | c :: cs => ⟨by omega, Late.refl hk cs⟩
/-- row by row -/
def LateR (k : Int) : List (List Int) → List (List Int) → Prop
  | c :: cs, d :: ds => Late k c d ∧ LateR k cs ds
  | [], [] => True
  | _, _ => False
end Pl
end
section
set_option Elab.async false
set_option linter.all false
set_option maxRecDepth 100000
set_option maxHeartbeats 1000000
/-! k05: what the later rows are, put together. Plain. -/
namespace Pl
open PySem PySem.Spec L2 Lf Cp
/-! ### those ahead -/
/-! ### one row otherwise -/
theorem LateR.refl {k : Int} (hk : 0 ≤ k) : ∀ A, LateR k A A
  | [] => trivial
  | _ :: A => ⟨Late.refl hk _, LateR.refl hk A⟩
theorem LateR.app {k : Int} : ∀ {A A' B B' : List (List Int)}, LateR k A A' → LateR k B B' → LateR k (A ++ B) (A' ++ B')
  | [], [], _, _, _, h => h
  | _ :: _, _ :: _, _, _, h, h' => ⟨h.1, LateR.app h.2 h'⟩
  | [], _ :: _, _, _, h, _ => h.elim
  | _ :: _, [], _, _, h, _ => h.elim
theorem split_at {α : Type} {L : List α} {i : Nat} (h : i < L.length) : L = L.take i ++ L[i] :: L.drop (i + 1) := by
  rw [← List.drop_eq_getElem_cons h, List.take_append_drop]
/-! ### the day with one who comes later -/
theorem Late.app {k : Int} : ∀ {a b c d : List Int}, Late k a b → Late k c d → Late k (a ++ c) (b ++ d)
  | [], [], _, _, _, h => h
  | _ :: _, _ :: _, _, _, h, h' => ⟨h.1, Late.app h.2 h'⟩
  | [], _ :: _, _, _, h, _ => h.elim
  | _ :: _, [], _, _, h, _ => h.elim
/-! ### two days -/
theorem TOk.max {n : Nat} {t1 t2 : Int} {r s : List Int} (h : TOk n t1 r) (k : TOk n t2 s) : TOk n (max t1 t2) (List.zipWith max r s) := by
  obtain ⟨h1, h2, h3⟩ := h
  obtain ⟨k1, k2, k3⟩ := k
  refine ⟨by simp [h1, k1], ?_, fun x hx => ?_⟩
  · rw [List.pairwise_iff_getElem] at *
    intro i j hi hj hij
    simp only [List.getElem_zipWith]
    have := h2 i j (by simp at hi; omega) (by simp at hj; omega) hij
    have := k2 i j (by simp at hi; omega) (by simp at hj; omega) hij
    omega
  · obtain ⟨i, hi, rfl⟩ := List.mem_iff_getElem.mp hx
    simp only [List.getElem_zipWith]
    have := h3 _ (List.getElem_mem (by simp at hi; omega : i < r.length))
    have := k3 _ (List.getElem_mem (by simp at hi; omega : i < s.length))
    omega
end Pl
namespace Pl
open PySem PySem.Spec L2 Lf Cp
end Pl
end
section
set_option Elab.async false
set_option linter.all false
set_option maxRecDepth 100000
set_option maxHeartbeats 1000000
/-! rooms: the table of times, told by its equation. Plain. -/
namespace Pl
open PySem PySem.Spec L2 Lf Cp
def cameT (day : List Int) (G : List (List Int)) (i k : Nat) : Int := if i = 0 then day.getD k 0 else at2 G (i - 1) k
def prevB (G : List (List Int)) (i k : Nat) : Int := if k = 0 then 0 else at2 G i (k - 1)
def freeT (m p : Nat) (G : List (List Int)) (i k : Nat) : Int := if i + 1 < m ∧ p < k then at2 G (i + 1) (k - p - 1) else 0
def rhsT (m : Nat) (rs : List (List Int)) (day : List Int) (p : Nat) (G : List (List Int)) (i k : Nat) : Int := max (max (cameT day G i k) (prevB G i k) + at2 rs i k) (freeT m p G i k)
structure Tab (m n : Nat) (G : List (List Int)) : Prop where
  len : G.length = m
  row : ∀ r ∈ G, r.length = n
structure Blk (m n : Nat) (rs : List (List Int)) (day : List Int) (p : Nat) (G : List (List Int)) : Prop where
  tab : Tab m n G
  eq : ∀ i k, i < m → k < n → at2 G i k = rhsT m rs day p G i k
theorem tab_ind {m n : Nat} (P : Nat → Nat → Prop) (h : ∀ i k, i < m → k < n → (∀ i' k', k' < k → i' < m → P i' k') → (∀ i', i' < i → P i' k) → P i k) : ∀ k i, i < m → k < n → P i k := by
  intro k
  induction k using Nat.strongRecOn with
  | _ k ihk =>
    intro i
    induction i using Nat.strongRecOn with
    | _ i ihi => exact fun hi hk => h i k hi hk (fun i' k' h1 h2 => ihk k' h1 i' h2 (by omega)) (fun i' h1 => ihi i' h1 (by omega) hk)
theorem Tab.get {m n : Nat} {G : List (List Int)} (h : Tab m n G) {i : Nat} (hi : i < m) : (G.getD i []).length = n := by
  have := h.len
  exact h.row _ (getD_mem3 (by omega))
where
  getD_mem3 {G : List (List Int)} {i : Nat} (hi : i < G.length) : G.getD i [] ∈ G := by simp [List.getD_eq_getElem?_getD, hi]
theorem tab_ext {m n : Nat} {G G' : List (List Int)} (h : Tab m n G) (h' : Tab m n G') (e : ∀ k i, i < m → k < n → at2 G i k = at2 G' i k) : G = G' := by
  have l := h.len
  have l' := h'.len
  refine List.ext_getElem (by omega) fun i h1 h2 => ?_
  have r := h.row _ (List.getElem_mem h1)
  have r' := h'.row _ (List.getElem_mem h2)
  refine List.ext_getElem (by omega) fun k g1 g2 => ?_
  have := e k i (by omega) (by omega)
  simpa [at2, List.getD_eq_getElem?_getD, h1, h2, g1, g2] using this
theorem Blk.uniq {m n p : Nat} {rs : List (List Int)} {day : List Int} {G G' : List (List Int)} (h : Blk m n rs day p G) (h' : Blk m n rs day p G') : G = G' := by
  refine tab_ext h.tab h'.tab (tab_ind _ fun i k hi hk ih1 ih2 => ?_)
  rw [h.eq i k hi hk, h'.eq i k hi hk]
  unfold rhsT cameT prevB freeT
  have e1 : (if i = 0 then day.getD k 0 else at2 G (i - 1) k) = if i = 0 then day.getD k 0 else at2 G' (i - 1) k := by
    split
    · rfl
    · exact ih2 _ (by omega)
  have e2 : (if k = 0 then 0 else at2 G i (k - 1)) = if k = 0 then 0 else at2 G' i (k - 1) := by
    split
    · rfl
    · exact ih1 _ _ (by omega) hi
  have e3 : (if i + 1 < m ∧ p < k then at2 G (i + 1) (k - p - 1) else 0) = if i + 1 < m ∧ p < k then at2 G' (i + 1) (k - p - 1) else 0 := by
    split
    · exact ih1 _ _ (by omega) (by omega)
    · rfl
  rw [e1, e2, e3]
theorem Blk.nn {m n p : Nat} {rs : List (List Int)} {day : List Int} {G : List (List Int)} (h : Blk m n rs day p G) (hr : ∀ i k, 0 ≤ at2 rs i k) (hd : ∀ k, 0 ≤ day.getD k 0) : ∀ k i, i < m → k < n → 0 ≤ at2 G i k :=
  tab_ind _ fun i k hi hk ih1 ih2 => by
    rw [h.eq i k hi hk]
    unfold rhsT cameT
    have := hr i k
    have := hd k
    have : 0 ≤ if i = 0 then day.getD k 0 else at2 G (i - 1) k := by
      split
      · assumption
      · exact ih2 _ (by omega)
    omega
theorem Blk.mono {m n p : Nat} {rs : List (List Int)} {day : List Int} {G : List (List Int)} (h : Blk m n rs day p G) (hr : ∀ i k, 0 ≤ at2 rs i k) {i k : Nat} (hi : i < m) (hk : k + 1 < n) : at2 G i k ≤ at2 G i (k + 1) := by
  rw [h.eq i (k + 1) hi hk]
  unfold rhsT prevB
  have := hr i (k + 1)
  simp only [Nat.add_sub_cancel, Nat.add_eq_zero_iff, Nat.succ_ne_zero, and_false, if_false]
  omega
theorem mx1 {a a' b b' f f' r : Int} : Max.max (Max.max (Max.max a b + r) f) (Max.max (Max.max a' b' + r) f') = Max.max (Max.max (Max.max a a') (Max.max b b') + r) (Max.max f f') := by omega
theorem mx0 {a a' r : Int} : Max.max (Max.max (Max.max a 0 + r) 0) (Max.max (Max.max a' 0 + r) 0) = Max.max (Max.max (Max.max a a') 0 + r) 0 := by omega
theorem mx2 {a a' b b' r : Int} : Max.max (Max.max (Max.max a b + r) 0) (Max.max (Max.max a' b' + r) 0) = Max.max (Max.max (Max.max a a') (Max.max b b') + r) 0 := by omega
theorem Tab.map {m n : Nat} {G : List (List Int)} (h : Tab m n G) (f : Int → Int) : Tab m n (G.map (·.map f)) := ⟨by simp [h.len], fun r hr => by
  obtain ⟨q, hq, rfl⟩ := List.mem_map.mp hr
  simp [h.row q hq]⟩
theorem at2_zip {m n : Nat} {G G' : List (List Int)} (h : Tab m n G) (h' : Tab m n G') (f : Int → Int → Int) {i k : Nat} (hi : i < m) (hk : k < n) : at2 (List.zipWith (List.zipWith f) G G') i k = f (at2 G i k) (at2 G' i k) := by
  have l := h.len
  have l' := h'.len
  have r := h.row _ (List.getElem_mem (show i < G.length by omega))
  have r' := h'.row _ (List.getElem_mem (show i < G'.length by omega))
  simp only [at2, List.getD_eq_getElem?_getD, List.getElem?_zipWith, List.getElem?_eq_getElem (show i < G.length by omega), List.getElem?_eq_getElem (show i < G'.length by omega), Option.getD_some, List.getElem?_eq_getElem (show k < (G[i]'(by omega)).length by omega), List.getElem?_eq_getElem (show k < (G'[i]'(by omega)).length by omega)]
theorem Tab.zip {m n : Nat} {G G' : List (List Int)} (h : Tab m n G) (h' : Tab m n G') (f : Int → Int → Int) : Tab m n (List.zipWith (List.zipWith f) G G') := ⟨by simp [h.len, h'.len], fun r hr => by
  obtain ⟨i, hi, rfl⟩ := List.mem_iff_getElem.mp hr
  simp only [List.length_zipWith] at hi
  simp only [List.getElem_zipWith, List.length_zipWith]
  rw [h.row _ (List.getElem_mem _), h'.row _ (List.getElem_mem _), Nat.min_self]⟩
/-- the later of two days -/
theorem Blk.max {m n p : Nat} {rs : List (List Int)} {day day' : List Int} {G G' : List (List Int)} (h : Blk m n rs day p G) (h' : Blk m n rs day' p G') (hd : day.length = n) (hd' : day'.length = n) : Blk m n rs (List.zipWith max day day') p (List.zipWith (List.zipWith max) G G') := by
  refine ⟨h.tab.zip h'.tab _, fun i k hi hk => ?_⟩
  have a : ∀ i' k', i' < m → k' < n → at2 (List.zipWith (List.zipWith Max.max) G G') i' k' = Max.max (at2 G i' k') (at2 G' i' k') := fun i' k' h1 h2 => at2_zip h.tab h'.tab Max.max h1 h2
  rw [a i k hi hk, h.eq i k hi hk, h'.eq i k hi hk]
  unfold rhsT cameT prevB freeT
  have e1 : (if i = 0 then (List.zipWith Max.max day day').getD k 0 else at2 (List.zipWith (List.zipWith Max.max) G G') (i - 1) k) = Max.max (if i = 0 then day.getD k 0 else at2 G (i - 1) k) (if i = 0 then day'.getD k 0 else at2 G' (i - 1) k) := by
    split
    · simp [List.getD_eq_getElem?_getD, List.getElem?_zipWith, show k < day.length by omega, show k < day'.length by omega]
    · exact a _ _ (by omega) hk
  rw [e1]
  by_cases hk0 : k = 0
  · simp only [hk0, if_true, Nat.not_lt_zero, and_false, if_false]
    exact mx0
  · simp only [hk0, if_false]
    rw [a i (k - 1) hi (by omega)]
    by_cases c : i + 1 < m ∧ p < k
    · simp only [if_pos c]
      rw [a (i + 1) (k - p - 1) c.1 (by omega)]
      exact mx1
    · simp only [if_neg c]
      exact mx2
end Pl
end
section
set_option Elab.async false
set_option linter.all false
set_option maxRecDepth 100000
namespace Lf
open PySem PySem.Spec L2
/-! ### zip of two with a name for a target: the tuple handed out may be there still or not -/
end Lf
end
section
set_option Elab.async false
set_option linter.all false
set_option maxRecDepth 100000
set_option maxHeartbeats 2000000
namespace Lf
open PySem PySem.Spec L2
variable [Tabs]
/-! ### x[j][k] of a name's own list of own lists: read where it stands; x[j].append(y) -/
def rowAt (en : En) (i j : Nat) : Option (Bool × List OT × Nat × List OT) := match ownAt en i, sVar j en with
  | some (b, os), some (.int a) => (match ixN os.length a with
    | some q => (match os[q]? with
      | some (.own rs) => some (b, os, q, rs)
      | _ => none)
    | none => none)
  | _, _ => none
def eIx3 (i j k : Nat) : DE := fun en => match rowAt en i j, sVar k en with
  | some (_, _, _, rs), some (.int c) => (match ixN rs.length c with
    | some r => (match rs[r]? with
      | some (.d x) => .ok (.d x, en)
      | _ => .error .stuck)
    | none => .error .stuck)
  | _, _ => .error .stuck
/-- a name of data -/
def dVar (i : Nat) : En → Option PyData := fun en => match en[i]? with
  | some (.v (.d x)) => some x
  | some (.p (.d x)) => some x
  | _ => none
def eAppAt (i j k : Nat) : DE := fun en => match rowAt en i j, dVar k en with
  | some (b, os, q, rs), some x => if few rs.length then .ok (.d .none, en.set i (mkS b (.own (os.set q (.own (rs ++ [.d x])))))) else .error .stuck
  | _, _ => .error .stuck
end Lf
end
section
set_option Elab.async false
set_option linter.all false
set_option maxRecDepth 100000
set_option maxHeartbeats 2000000
namespace Lf
open PySem PySem.Spec L2
variable [Tabs]
/-! ### dicts of one's own: numbers by tuples of numbers -/
def keyT (ks : List Int) : List Key := ks.map Sum.inl
/-! ### {}, d[k], d.get(k, x), d[k] = v with k a tuple that is written out -/
end Lf
end
section
set_option Elab.async false
set_option linter.all false
set_option maxRecDepth 100000
set_option maxHeartbeats 2000000
/-! ### displays as terms -/
namespace Pl
open PySem PySem.Spec L2 Lf
end Pl
namespace Pl
open PySem PySem.Spec L2 Lf
theorem noFrs_DY (rs : List (List Int)) : noFrs (rs.map DY) = true := by induction rs <;> simp_all [noFrs, noFr]
theorem lt_no {i j : Int} (h : j ≤ i) : fLt (.int i) (.int j) = some (.bool false) := by simp only [fLt, fI, show ¬ i < j by omega, decide_false]
theorem lt_yes {i j : Int} (h : i < j) : fLt (.int i) (.int j) = some (.bool true) := by simp only [fLt, fI, h, decide_true]
theorem gt_no {i j : Int} (h : i ≤ j) : fGt (.int i) (.int j) = some (.bool false) := by simp only [fGt, fI, show ¬ j < i by omega, decide_false]
theorem gt_yes {i j : Int} (h : j < i) : fGt (.int i) (.int j) = some (.bool true) := by simp only [fGt, fI, h, decide_true]
end Pl
end
section
set_option Elab.async false
set_option linter.all false
set_option maxRecDepth 100000
set_option maxHeartbeats 2000000
namespace Ev
open PySem PySem.Spec L2 Lf Pl
section
variable {en e1 : En} {i j k q r : Nat} {b : Bool} {os rs : List OT} {a c : Int} {x : PyData}
theorem row_ (h : ownAt en i = some (b, os)) (h2 : sVar j en = some (.int a)) (h3 : ixN os.length a = some q) (h4 : os[q]? = some (.own rs)) : rowAt en i j = some (b, os, q, rs) := by simp only [rowAt, h, h2, h3, h4]
theorem ix3 (h : rowAt en i j = some (b, os, q, rs)) (hk : sVar k en = some (.int c)) (f : ixN rs.length c = some r) (g : rs[r]? = some (.d x)) : eIx3 i j k en = .ok (.d x, en) := by simp only [eIx3, h, hk, f, g]
theorem appAt (h : rowAt en i j = some (b, os, q, rs)) (hk : dVar k en = some x) (f : few rs.length = true) (hr : en.set i (mkS b (.own (os.set q (.own (rs ++ [.d x]))))) = e1) : eAppAt i j k en = .ok (.d .none, e1) := by simp only [eAppAt, h, hk, f, if_true, hr]
end
end Ev
namespace Pl
open PySem PySem.Spec L2 Lf
end Pl
end
section
set_option Elab.async false
set_option linter.all false
set_option maxRecDepth 100000
set_option maxHeartbeats 2000000
namespace Cr
open PySem PySem.Spec L2 Lf
def D_check_room : DS := (dIf (tNt (tV (eCl 1 Cp.f_is_whole (aCons (eVar 0) aNil)))) (fun en => .error (.exn "NoRoom" en)) dNx)
def f_check_room : DF := dFn [false] 0 D_check_room
def D_time_left : DS := (dSq (dIf (tOr' (tV (eOp2 fEq (eVar 1) (eLenS 0))) (tV (eOp2 fLt (eVar 2) (eD (.int 0))))) (dRt (eD (.int 0))) dNx) (dRt (eIx3 0 1 2)))
def f_time_left : DF := dFn [true, false, false] 0 D_time_left
def D_blocked : DS := (dSq (dEx (eCl 1 Cp.f_check_hall (aCons (eVar 0) aNil))) (dSq (dEx (eCl 2 Cp.f_check_day (aCons (eVar 0) (aCons (eVar 1) aNil)))) (dSq (dEx (eCl 1 f_check_room (aCons (eVar 2) aNil))) (dSq (dSet 3 (eLc [9] (iSq (eVar 0)) (gNm 9) tYs (eLst aNil))) (dSq (dFor (iR1 (aCons (eLen (eVar 1)) aNil)) (gNm 4) (dSq (dSet 5 (eIx (eVar 1) (eVar 4))) (dFor (iR1 (aCons (eLen (eVar 0)) aNil)) (gNm 6) (dSq (dSet 7 (eClB 3 f_time_left 3 (aCons (eVar 6) (aCons (eOp2 fSub (eVar 4) (eD (.int 1))) aNil)))) (dSq (dSet 8 (eOp2 fAdd (eCb fMax2 (aCons (eVar 5) (aCons (eVar 7) aNil))) (eIx (eIx (eVar 0) (eVar 6)) (eVar 4)))) (dSq (dSet 5 (eCb fMax2 (aCons (eVar 8) (aCons (eClB 3 f_time_left 3 (aCons (eOp2 fAdd (eVar 6) (eD (.int 1))) (aCons (eOp2 fSub (eOp2 fSub (eVar 4) (eVar 2)) (eD (.int 1))) aNil))) aNil)))) (dEx (eAppAt 3 6 5)))))))) (dRt (eMov 3)))))))
def f_blocked : DF := dFn [false, false, false] 7 D_blocked
end Cr
end
section
set_option Elab.async false
set_option linter.all false
set_option maxRecDepth 100000
set_option maxHeartbeats 2000000
namespace Pl
open PySem PySem.Spec L2 Lf Cp Cr
theorem ixN_nat {n i : Nat} (h : i < n) : ixN n (i : Int) = some i := by
  unfold ixN
  simp
  omega
theorem rowAt_L {L : List (List Int)} {i : Nat} (h : i < L.length) : (L.map OW)[i]? = some (.own ((L.getD i []).map I)) := by
  simp [List.getD_eq_getElem?_getD, h]
theorem set_row {L : List (List Int)} {i : Nat} {y : Int} (h : i < L.length) : (L.map OW).set i (.own ((L.getD i []).map I ++ [I y])) = (L.set i (L.getD i [] ++ [y])).map OW := by
  rw [List.map_set]
  show _ = (L.map OW).set i (.own ((L.getD i [] ++ [y]).map I))
  rw [List.map_append]
  rfl
theorem time_left {L : List (List Int)} {c : Nat} {k v : Int} (hL : L.length ≤ 1000) (h : (c = L.length ∧ v = 0) ∨ (c < L.length ∧ k < 0 ∧ v = 0) ∨ ∃ q : Nat, k = q ∧ c < L.length ∧ q < (L.getD c []).length ∧ v = at2 L c q) :
    f_time_left [.own (L.map OW), I c, I k] = .ok (I v, [.own (L.map OW), .hole, .hole]) := by
  have b : D_time_left [.p (.own (L.map OW)), .v (I c), .v (I k)] = .ok (.rt (I v), [.p (.own (L.map OW)), .v (I c), .v (I k)]) := by
    have e1 : eOp2 fEq (eVar 1) (eLenS 0) [.p (.own (L.map OW)), .v (I c), .v (I k)] = .ok (.d (.bool (decide ((c : Int) = ((L.map OW).length : Int)))), [.p (.own (L.map OW)), .v (I c), .v (I k)]) := Ev.op2 (Ev.var rfl) (Ev.lenS rfl) rfl rfl fEq_int
    rcases h with ⟨h1, h2⟩ | ⟨h1, h2, h3⟩ | ⟨q, h1, h2, h3, h4⟩
    · subst h2
      have : decide ((c : Int) = ((L.map OW).length : Int)) = true := by simp; omega
      rw [this] at e1
      exact Ev.sqR (Ev.difY (Ev.orY (Ev.tv e1)) (Ev.rt Ev.d_))
    · subst h3
      have : decide ((c : Int) = ((L.map OW).length : Int)) = false := by simp; omega
      rw [this] at e1
      exact Ev.sqR (Ev.difY (Ev.orN (Ev.tv e1) (Ev.tv (Ev.op2 (Ev.var rfl) Ev.d_ rfl rfl (lt_yes h2)))) (Ev.rt Ev.d_))
    · subst h4
      subst h1
      have : decide ((c : Int) = ((L.map OW).length : Int)) = false := by simp; omega
      rw [this] at e1
      have g : ((L.getD c []).map I)[q]? = some (I (at2 L c q)) := by
        unfold at2
        generalize L.getD c [] = R at h3 ⊢
        simp [List.getD_eq_getElem?_getD, h3]
      exact Ev.sq (Ev.difN (Ev.orN (Ev.tv e1) (Ev.tv (Ev.op2 (Ev.var rfl) Ev.d_ rfl rfl (lt_no (by omega))))) Ev.nx_) (Ev.rt (Ev.ix3 (Ev.row_ rfl rfl (ixN_nat (by simpa using h2)) (rowAt_L h2)) rfl (ixN_nat (by simpa using h3)) g))
  exact fn_ok (fl := [true, false, false]) (k := 0) (B := D_time_left) (os := [.own (L.map OW), I c, I k]) rfl b (by simp [outs, fin, noFrs, noFr, noFrs_OW])
/-- the table as far as it stands -/
structure Part (m : Nat) (rs : List (List Int)) (day : List Int) (p : Nat) (i k : Nat) (L : List (List Int)) : Prop where
  len : L.length = m
  rows : ∀ c, c < m → (L.getD c []).length = if c < i then k + 1 else k
  eq : ∀ c q, c < m → q < (L.getD c []).length → at2 L c q = rhsT m rs day p L c q
theorem Part.step {m p i k : Nat} {rs : List (List Int)} {day : List Int} {L : List (List Int)} {y : Int} (h : Part m rs day p i k L) (hi : i < m) (hy : y = rhsT m rs day p L i k) : Part m rs day p (i + 1) k (L.set i (L.getD i [] ++ [y])) ∧ at2 (L.set i (L.getD i [] ++ [y])) i k = y := by
  have hl := h.len
  have hli := h.rows i hi
  simp only [Nat.lt_irrefl, if_false] at hli
  have same : ∀ c, c ≠ i → (L.set i (L.getD i [] ++ [y])).getD c [] = L.getD c [] := fun c hc => by
    simp [List.getD_eq_getElem?_getD, List.getElem?_set_ne (Ne.symm hc)]
  have here : (L.set i (L.getD i [] ++ [y])).getD i [] = L.getD i [] ++ [y] := by
    rw [List.getD_eq_getElem?_getD, List.getElem?_set_self (by omega)]; rfl
  have old : ∀ c q, c < m → (c ≠ i ∨ q < k) → at2 (L.set i (L.getD i [] ++ [y])) c q = at2 L c q := fun c q hc hq => by
    by_cases e : c = i
    · subst e
      have hq : q < k := by rcases hq with z | z; exact absurd rfl z; exact z
      unfold at2
      rw [here, List.getD_eq_getElem?_getD, List.getElem?_append_left (by omega), ← List.getD_eq_getElem?_getD]
    · unfold at2; rw [same c e]
  have new : at2 (L.set i (L.getD i [] ++ [y])) i k = y := by
    unfold at2
    rw [here, List.getD_eq_getElem?_getD, List.getElem?_append_right (by omega), hli, Nat.sub_self]
    rfl
  have rh : ∀ c q, c < m → q ≤ k → (i < c → q < k) → rhsT m rs day p (L.set i (L.getD i [] ++ [y])) c q = rhsT m rs day p L c q := fun c q hc hq hcq => by
    unfold rhsT cameT prevB freeT
    have e1 : (if c = 0 then day.getD q 0 else at2 (L.set i (L.getD i [] ++ [y])) (c - 1) q) = if c = 0 then day.getD q 0 else at2 L (c - 1) q := by
      split
      · rfl
      · exact old _ _ (by omega) (by omega)
    have e2 : (if q = 0 then 0 else at2 (L.set i (L.getD i [] ++ [y])) c (q - 1)) = if q = 0 then 0 else at2 L c (q - 1) := by
      split
      · rfl
      · exact old _ _ hc (by omega)
    have e3 : (if c + 1 < m ∧ p < q then at2 (L.set i (L.getD i [] ++ [y])) (c + 1) (q - p - 1) else 0) = if c + 1 < m ∧ p < q then at2 L (c + 1) (q - p - 1) else 0 := by
      split
      · exact old _ _ (by omega) (by omega)
      · rfl
    rw [e1, e2, e3]
  refine ⟨⟨by simp [hl], fun c hc => ?_, fun c q hc hq => ?_⟩, new⟩
  · by_cases e : c = i
    · subst e
      rw [here, List.length_append, hli, if_pos (by omega)]
      rfl
    · rw [same c e, h.rows c hc]
      by_cases z : c < i
      · rw [if_pos z, if_pos (by omega)]
      · rw [if_neg z, if_neg (by omega)]
  · by_cases e : c = i
    · subst e
      rw [here, List.length_append, hli] at hq
      have hq : q < k + 1 := hq
      rw [rh c q hc (by omega) (by omega)]
      by_cases z : q = k
      · subst z; rw [new, hy]
      · rw [old c q hc (by omega)]
        exact h.eq c q hc (by omega)
    · rw [same c e] at hq
      have hrc := h.rows c hc
      rw [old c q hc (.inl e), rh c q hc (by split at hrc <;> omega) (fun z => by rw [if_neg (by omega)] at hrc; omega)]
      exact h.eq c q hc hq
theorem Part.next {m p k : Nat} {rs : List (List Int)} {day : List Int} {L : List (List Int)} (h : Part m rs day p m k L) : Part m rs day p 0 (k + 1) L := ⟨h.len, fun c hc => by
  have := h.rows c hc
  rw [if_pos hc] at this
  rw [this]
  rfl, h.eq⟩
theorem Part.blk {m n p : Nat} {rs : List (List Int)} {day : List Int} {L : List (List Int)} (h : Part m rs day p 0 n L) : Blk m n rs day p L := by
  have hr : ∀ c, c < m → (L.getD c []).length = n := fun c hc => h.rows c hc
  exact ⟨⟨h.len, fun r hr' => by
    obtain ⟨i, hi, rfl⟩ := List.mem_iff_getElem.mp hr'
    have := hr i (by have := h.len; omega)
    simpa [List.getD_eq_getElem?_getD, hi] using this⟩, fun i k hi hk => h.eq i k hi (by rw [hr i hi]; exact hk)⟩
theorem Part.zero {m p : Nat} {rs : List (List Int)} {day : List Int} : Part m rs day p 0 0 (List.replicate m []) := ⟨by simp, fun c hc => by simp [List.getD_eq_getElem?_getD, hc], fun c q hc hq => by simp [List.getD_eq_getElem?_getD, hc] at hq⟩
def inB : DS := (dSq (dSet 7 (eClB 3 f_time_left 3 (aCons (eVar 6) (aCons (eOp2 fSub (eVar 4) (eD (.int 1))) aNil)))) (dSq (dSet 8 (eOp2 fAdd (eCb fMax2 (aCons (eVar 5) (aCons (eVar 7) aNil))) (eIx (eIx (eVar 0) (eVar 6)) (eVar 4)))) (dSq (dSet 5 (eCb fMax2 (aCons (eVar 8) (aCons (eClB 3 f_time_left 3 (aCons (eOp2 fAdd (eVar 6) (eD (.int 1))) (aCons (eOp2 fSub (eOp2 fSub (eVar 4) (eVar 2)) (eD (.int 1))) aNil))) aNil)))) (dEx (eAppAt 3 6 5)))))
def ouB : DS := (dSq (dSet 5 (eIx (eVar 1) (eVar 4))) (dFor (iR1 (aCons (eLen (eVar 0)) aNil)) (gNm 6) inB))
theorem in_step {m n p i k : Nat} {rs : List (List Int)} {day : List Int} {L : List (List Int)} {s7 s8 : Slot} (n7 : np s7 = true) (n8 : np s8 = true) (hm : rs.length = m) (m8 : m ≤ 8) (hr : ∀ r ∈ rs, r.length = n) (hn8 : n ≤ 8) (h : Part m rs day p i k L) (hi : i < m) (hk : k < n) :
    ∃ s7x s8x, inB [.v (.d (hallP rs)), .v (DY day), .v (I p), .v (.own (L.map OW)), .v (I k), .v (I (cameT day L i k)), .v (I i), s7, s8, .un] = .ok (.nx, [.v (.d (hallP rs)), .v (DY day), .v (I p), .v (.own ((L.set i (L.getD i [] ++ [rhsT m rs day p L i k])).map OW)), .v (I k), .v (I (rhsT m rs day p L i k)), .v (I i), s7x, s8x, .un]) ∧ np s7x = true ∧ np s8x = true := by
  have hlen := h.len
  have hL1 : L.length ≤ 1000 := by omega
  have hiL : i < L.length := by omega
  have hli := h.rows i hi
  simp only [Nat.lt_irrefl, if_false] at hli
  have hrow : k < (rs.getD i []).length := by
    have : rs.getD i [] ∈ rs := by simp [List.getD_eq_getElem?_getD, show i < rs.length by omega]
    rw [hr _ this]; exact hk
  have hprev : (i = L.length ∧ prevB L i k = 0) ∨ (i < L.length ∧ ((k : Int) - 1) < 0 ∧ prevB L i k = 0) ∨ ∃ q : Nat, ((k : Int) - 1) = q ∧ i < L.length ∧ q < (L.getD i []).length ∧ prevB L i k = at2 L i q := by
    unfold prevB
    by_cases z : k = 0
    · exact .inr (.inl ⟨hiL, by omega, by rw [if_pos z]⟩)
    · exact .inr (.inr ⟨k - 1, by omega, hiL, by omega, by rw [if_neg z]⟩)
  have hfree : (i + 1 = L.length ∧ freeT m p L i k = 0) ∨ (i + 1 < L.length ∧ ((k : Int) - (p : Int) - 1) < 0 ∧ freeT m p L i k = 0) ∨ ∃ q : Nat, ((k : Int) - (p : Int) - 1) = q ∧ i + 1 < L.length ∧ q < (L.getD (i + 1) []).length ∧ freeT m p L i k = at2 L (i + 1) q := by
    unfold freeT
    by_cases z : i + 1 < m
    · have h2 := h.rows (i + 1) z
      rw [if_neg (by omega)] at h2
      by_cases w : p < k
      · exact .inr (.inr ⟨k - p - 1, by omega, by omega, by omega, by rw [if_pos ⟨z, w⟩]⟩)
      · exact .inr (.inl ⟨by omega, by omega, by rw [if_neg (by omega)]⟩)
    · exact .inl ⟨by omega, by rw [if_neg (by omega)]⟩
  have b1 : (dSet 7 (eClB 3 f_time_left 3 (aCons (eVar 6) (aCons (eOp2 fSub (eVar 4) (eD (.int 1))) aNil)))) [.v (.d (hallP rs)), .v (.d (dayP day)), .v (I (p : Int)), .v (.own (L.map OW)), .v (I (k : Int)), .v (I (cameT day L i k)), .v (I (i : Int)), s7, s8, .un] = .ok (.nx, [.v (.d (hallP rs)), .v (.d (dayP day)), .v (I (p : Int)), .v (.own (L.map OW)), .v (I (k : Int)), .v (I (cameT day L i k)), .v (I (i : Int)), .v (I (prevB L i k)), s8, .un]) := (Ev.set_ (Ev.clB (b := false) (q := (.own (L.map OW))) (p := (.own (L.map OW))) rfl (Ev.cons_ (Ev.var rfl) (Ev.cons_ (Ev.op2 (Ev.var rfl) Ev.d_ rfl rfl rfl) Ev.nil_)) rfl rfl (by simp only [noFrs, noFr, noFrs_I, noFrs_OW, noFrs_DY, Bool.and_true, Bool.and_self]) (time_left hL1 hprev) rfl) (Ev.stor_np rfl n7 rfl))
  have b2 : (dSet 8 (eOp2 fAdd (eCb fMax2 (aCons (eVar 5) (aCons (eVar 7) aNil))) (eIx (eIx (eVar 0) (eVar 6)) (eVar 4)))) [.v (.d (hallP rs)), .v (.d (dayP day)), .v (I (p : Int)), .v (.own (L.map OW)), .v (I (k : Int)), .v (I (cameT day L i k)), .v (I (i : Int)), .v (I (prevB L i k)), s8, .un] = .ok (.nx, [.v (.d (hallP rs)), .v (.d (dayP day)), .v (I (p : Int)), .v (.own (L.map OW)), .v (I (k : Int)), .v (I (cameT day L i k)), .v (I (i : Int)), .v (I (prevB L i k)), .v (I ((max (cameT day L i k) (prevB L i k)) + (at2 rs i k))), .un]) := (Ev.set_ (Ev.op2 (Ev.cb (Ev.cons_ (Ev.var rfl) (Ev.cons_ (Ev.var rfl) Ev.nil_)) rfl max2) (Ev.ix (o := (I (at2 rs i k))) (Ev.ix (o := (.d (rowP (rs.getD i [])))) (Ev.var rfl) (Ev.var rfl) (Ev.ixVt (atI_getD (by omega)))) (Ev.var rfl) (Ev.ixVt (atI_getD (d := 0) hrow))) rfl rfl rfl) (Ev.stor_np rfl n8 rfl))
  have b3 : (dSet 5 (eCb fMax2 (aCons (eVar 8) (aCons (eClB 3 f_time_left 3 (aCons (eOp2 fAdd (eVar 6) (eD (.int 1))) (aCons (eOp2 fSub (eOp2 fSub (eVar 4) (eVar 2)) (eD (.int 1))) aNil))) aNil)))) [.v (.d (hallP rs)), .v (.d (dayP day)), .v (I (p : Int)), .v (.own (L.map OW)), .v (I (k : Int)), .v (I (cameT day L i k)), .v (I (i : Int)), .v (I (prevB L i k)), .v (I ((max (cameT day L i k) (prevB L i k)) + (at2 rs i k))), .un] = .ok (.nx, [.v (.d (hallP rs)), .v (.d (dayP day)), .v (I (p : Int)), .v (.own (L.map OW)), .v (I (k : Int)), .v (I (max ((max (cameT day L i k) (prevB L i k)) + (at2 rs i k)) (freeT m p L i k))), .v (I (i : Int)), .v (I (prevB L i k)), .v (I ((max (cameT day L i k) (prevB L i k)) + (at2 rs i k))), .un]) := (Ev.set_ (Ev.cb (Ev.cons_ (Ev.var rfl) (Ev.cons_ (Ev.clB (b := false) (q := (.own (L.map OW))) (p := (.own (L.map OW))) rfl (Ev.cons_ (Ev.op2 (Ev.var rfl) Ev.d_ rfl rfl rfl) (Ev.cons_ (Ev.op2 (Ev.op2 (Ev.var rfl) (Ev.var rfl) rfl rfl rfl) Ev.d_ rfl rfl rfl) Ev.nil_)) rfl rfl (by simp only [noFrs, noFr, noFrs_I, noFrs_OW, noFrs_DY, Bool.and_true, Bool.and_self]) (time_left (c := i + 1) hL1 hfree) rfl) Ev.nil_)) rfl max2) rfl)
  have b4 : (dEx (eAppAt 3 6 5)) [.v (.d (hallP rs)), .v (.d (dayP day)), .v (I (p : Int)), .v (.own (L.map OW)), .v (I (k : Int)), .v (I (max ((max (cameT day L i k) (prevB L i k)) + (at2 rs i k)) (freeT m p L i k))), .v (I (i : Int)), .v (I (prevB L i k)), .v (I ((max (cameT day L i k) (prevB L i k)) + (at2 rs i k))), .un] = .ok (.nx, [.v (.d (hallP rs)), .v (.d (dayP day)), .v (I (p : Int)), .v (.own ((L.set i (L.getD i [] ++ [rhsT m rs day p L i k])).map OW)), .v (I (k : Int)), .v (I (max ((max (cameT day L i k) (prevB L i k)) + (at2 rs i k)) (freeT m p L i k))), .v (I (i : Int)), .v (I (prevB L i k)), .v (I ((max (cameT day L i k) (prevB L i k)) + (at2 rs i k))), .un]) := (Ev.ex (Ev.appAt (Ev.row_ rfl rfl (ixN_nat (by simpa using hiL)) (rowAt_L hiL)) rfl (few_of (by rw [List.length_map, hli]; omega)) (by rw [set_row hiL]; rfl)))
  exact ⟨.v (I (prevB L i k)), .v (I (max (cameT day L i k) (prevB L i k) + at2 rs i k)), (Ev.sq b1 (Ev.sq b2 (Ev.sq b3 b4))), rfl, rfl⟩
theorem inner {m n p k : Nat} {rs : List (List Int)} {day : List Int} {L : List (List Int)} {s6 s7 s8 : Slot} (n6 : np s6 = true) (n7 : np s7 = true) (n8 : np s8 = true) (hm : rs.length = m) (m8 : m ≤ 8) (hr : ∀ r ∈ rs, r.length = n) (hn8 : n ≤ 8) (h : Part m rs day p 0 k L) (hk : k < n) :
    ∃ L' s5x s6x s7x s8x, forD (gNm 6) inB (rng 0 m) [.v (.d (hallP rs)), .v (DY day), .v (I p), .v (.own (L.map OW)), .v (I k), .v (I (day.getD k 0)), s6, s7, s8, .un] = .ok (.nx, [.v (.d (hallP rs)), .v (DY day), .v (I p), .v (.own (L'.map OW)), .v (I k), s5x, s6x, s7x, s8x, .un]) ∧ Part m rs day p m k L' ∧ np s5x = true ∧ np s6x = true ∧ np s7x = true ∧ np s8x = true := by
  obtain ⟨e, h1, L', s6x, s7x, s8x, rfl, h2, n6x, n7x, n8x⟩ := forR (g := gNm 6) (body := inB) (en := [.v (.d (hallP rs)), .v (DY day), .v (I p), .v (.own (L.map OW)), .v (I k), .v (I (day.getD k 0)), s6, s7, s8, .un])
    (fun i e => ∃ L s6 s7 s8, e = [.v (.d (hallP rs)), .v (DY day), .v (I p), .v (.own (L.map OW)), .v (I k), .v (I (cameT day L i k)), s6, s7, s8, .un] ∧ Part m rs day p i k L ∧ np s6 = true ∧ np s7 = true ∧ np s8 = true) m
    ⟨L, s6, s7, s8, rfl, h, n6, n7, n8⟩ (by
      rintro i e hi ⟨L, s6, s7, s8, rfl, h, n6, n7, n8⟩
      obtain ⟨s7x, s8x, e2, n7x, n8x⟩ := in_step n7 n8 hm m8 hr hn8 h hi hk
      obtain ⟨hp, hat⟩ := h.step hi rfl
      refine ⟨[.v (.d (hallP rs)), .v (DY day), .v (I p), .v (.own (L.map OW)), .v (I k), .v (I (cameT day L i k)), .v (I i), s7, s8, .un], _, by simp [gNm, stor_eq, n6], e2, _, .v (I i), s7x, s8x, ?_, hp, rfl, n7x, n8x⟩
      have : cameT day (L.set i (L.getD i [] ++ [rhsT m rs day p L i k])) (i + 1) k = rhsT m rs day p L i k := by
        unfold cameT
        rw [if_neg (by omega), Nat.add_sub_cancel, hat]
      rw [this])
  exact ⟨L', .v (I (cameT day L' m k)), s6x, s7x, s8x, h1, h2, rfl, n6x, n7x, n8x⟩
theorem outer {m n p : Nat} {rs : List (List Int)} {day : List Int} (hm : rs.length = m) (m8 : m ≤ 8) (hr : ∀ r ∈ rs, r.length = n) (hn8 : n ≤ 8) (hd : day.length = n) :
    ∃ L s4 s5 s6 s7 s8, forD (gNm 4) ouB (rng 0 n) [.v (.d (hallP rs)), .v (DY day), .v (I p), .v (.own ((List.replicate m []).map OW)), .un, .un, .un, .un, .un, .un] = .ok (.nx, [.v (.d (hallP rs)), .v (DY day), .v (I p), .v (.own (L.map OW)), s4, s5, s6, s7, s8, .un]) ∧ Blk m n rs day p L := by
  obtain ⟨e, h1, L, s4, s5, s6, s7, s8, rfl, h2, _⟩ := forR (g := gNm 4) (body := ouB) (en := [.v (.d (hallP rs)), .v (DY day), .v (I p), .v (.own ((List.replicate m []).map OW)), .un, .un, .un, .un, .un, .un])
    (fun k e => ∃ L s4 s5 s6 s7 s8, e = [.v (.d (hallP rs)), .v (DY day), .v (I p), .v (.own (L.map OW)), s4, s5, s6, s7, s8, .un] ∧ Part m rs day p 0 k L ∧ np s4 = true ∧ np s5 = true ∧ np s6 = true ∧ np s7 = true ∧ np s8 = true) n
    ⟨_, .un, .un, .un, .un, .un, rfl, Part.zero, rfl, rfl, rfl, rfl, rfl⟩ (by
      rintro k e hk ⟨L, s4, s5, s6, s7, s8, rfl, h, n4, n5, n6, n7, n8⟩
      obtain ⟨L', s5x, s6x, s7x, s8x, e2, hp, n5x, n6x, n7x, n8x⟩ := inner (s6 := s6) (s7 := s7) (s8 := s8) n6 n7 n8 hm m8 hr hn8 h hk
      refine ⟨[.v (.d (hallP rs)), .v (DY day), .v (I p), .v (.own (L.map OW)), .v (I k), s5, s6, s7, s8, .un], _, by simp [gNm, stor_eq, n4], ?_, L', .v (I k), s5x, s6x, s7x, s8x, rfl, hp.next, rfl, n5x, n6x, n7x, n8x⟩
      exact Ev.sq (Ev.set_ (Ev.ix (o := I (day.getD k 0)) (Ev.var rfl) (Ev.var rfl) (Ev.ixVl (atI_getD (by omega)))) (Ev.stor_np rfl n5 rfl)) (Ev.forN (n := m) (Ev.cons_ (Ev.len_ (Ev.var rfl) (by simp [dlen, hm])) Ev.nil_) (by omega) e2))
  exact ⟨L, s4, s5, s6, s7, s8, h1, h2.blk⟩
end Pl
end
section
set_option Elab.async false
set_option linter.all false
set_option maxRecDepth 100000
set_option maxHeartbeats 2000000
/-! refusals, handed on -/
namespace Ev
open PySem PySem.Spec L2 Lf
section
variable {en e1 e2 q : En} {os : List OT} {c : Str} {da : DE} {dr : DA} {d e : DS} {f : DF} {n i : Nat} {fl : List Bool} {k : Nat} {B : DS}
theorem sqE (h : d en = .error (.exn c e1)) : dSq d e en = .error (.exn c e1) := by simp [dSq, h, bd]
theorem exE (h : da en = .error (.exn c e1)) : dEx da en = .error (.exn c e1) := by simp [dEx, h, bd]
theorem rtE (h : da en = .error (.exn c e1)) : dRt da en = .error (.exn c e1) := by simp [dRt, h, bd]
theorem clE (h : dr en = .ok (os, e1)) (hn : os.length = n) (hf : noFrs os = true) (hz : f os = .error (.exn c q)) : eCl n f dr en = .error (.exn c e1) := by simp [eCl, h, bd, ar, hn, hf, hz]
theorem fnE (hl : os.length = fl.length) (h : B (mkEn fl os ++ List.replicate k .un) = .error (.exn c e1)) : dFn fl k B os = .error (.exn c []) := by
  unfold dFn
  simp only [hl, if_true, h]
end
end Ev
namespace Xp
open PySem PySem.Spec L2 Lf Pl
def inP (n : Nat) : PyData → Bool
  | .int i => decide (0 ≤ i) && decide (i < n)
  | _ => false
/-- `not is_whole(y) or y >= n` -/
theorem outB {y : PyData} {n : Nat} {i : Nat} {en : En} {db : DE} (h : nd y = true) (hv : en[i]? = some (.v (.d y))) (hb : db en = .ok (.d (.int n), en)) :
    tOr' (tNt (tV (eCl 1 Cp.f_is_whole (aCons (eVar i) aNil)))) (tV (eOp2 fGe (eVar i) db)) en = .ok (!inP n y, en) := by
  have c1 : eCl 1 Cp.f_is_whole (aCons (eVar i) aNil) en = .ok (tf (wholeP y), en) := Ev.cl (Ev.cons_ (Ev.var hv) Ev.nil_) rfl rfl (whole_any h)
  cases e : wholeP y with
  | false =>
    rw [e] at c1
    have : inP n y = false := by
      cases y with
      | int j => simp only [wholeP, decide_eq_false_iff_not] at e; simp only [inP, e, decide_false, Bool.false_and]
      | _ => rfl
    rw [this]
    exact Ev.orY (Ev.nt (Ev.tv c1))
  | true =>
    rw [e] at c1
    cases y with
    | int j =>
      have hj : 0 ≤ j := by simpa [wholeP] using e
      have : (!inP n (.int j)) = decide ((n : Int) ≤ j) := by
        simp only [inP, hj, decide_true, Bool.true_and]
        by_cases z : j < n
        · have : ¬ ((n : Int) ≤ j) := by omega
          simp [z, this]
        · have : (n : Int) ≤ j := by omega
          simp [z, this]
      rw [this]
      refine Ev.orN (Ev.nt (Ev.tv c1)) (Ev.tv (Ev.op2 (Ev.var hv) hb rfl rfl ?_))
      simp [fGe, fI]
    | _ => cases e
theorem counter_any {xs : List PyData} {y : PyData} (h : nd y = true) : Cm.f_check_counter [.d (.tuple xs), .d y] = if inP xs.length y = true then .ok (.d .none, [.hole, .hole]) else .error (.exn "NoCounter" []) := by
  have c1 := outB (en := [.v (.d (.tuple xs)), .v (.d y)]) (i := 1) (n := xs.length) h rfl (Ev.len_ (Ev.var (i := 0) rfl) rfl)
  cases e : inP xs.length y with
  | true =>
    rw [e] at c1
    rw [if_pos rfl]
    have b : Cm.D_check_counter [.v (.d (.tuple xs)), .v (.d y)] = .ok (.nx, [.v (.d (.tuple xs)), .v (.d y)]) := Ev.difN c1 Ev.nx_
    show dFn [false, false] 0 Cm.D_check_counter [.d (.tuple xs), .d y] = _
    simp [dFn, mkEn, b, outs, fin, noFrs, noFr]
  | false =>
    rw [e] at c1
    rw [if_neg Bool.false_ne_true]
    exact Ev.fnE (fl := [false, false]) (k := 0) (B := Cm.D_check_counter) rfl (Ev.difY (d := fun en => .error (.exn "NoCounter" en)) c1 rfl)
theorem neigh_no {x y : PyData} (hx : nd x = true) (k : hallB x = false) : Cm.f_check_neighbours [.d x, .d y] = .error (.exn "NoHall" []) :=
  Ev.fnE (fl := [false, false]) (k := 0) (B := Cm.D_check_neighbours) rfl (Ev.sqE (Ev.exE (Ev.clE (Ev.cons_ (Ev.var rfl) Ev.nil_) rfl rfl (check_hall_no hx k))))
theorem neigh_any {rs : List (List Int)} {m n : Nat} {wide : Int} {y : PyData} (hh : HOk m n wide rs) (h : nd y = true) : Cm.f_check_neighbours [.d (hallP rs), .d y] = if inP (m - 1) y = true then .ok (.d .none, [.hole, .hole]) else .error (.exn "NoCounter" []) := by
  have hlen := hh.len
  have hm1 := hh.m1
  have c1 := counter_any (xs := (rs.map rowP).take ((rs.map rowP).length - 1)) h
  have hl : ((rs.map rowP).take ((rs.map rowP).length - 1)).length = m - 1 := by rw [List.length_take, List.length_map, hlen]; omega
  rw [hl] at c1
  have hs : Ev.slV (hallP rs) none (some (-1)) = some (.d (.tuple ((rs.map rowP).take ((rs.map rowP).length - 1)))) := by
    simp only [Ev.slV]
    rw [cutA_init (by intro q; have := congrArg List.length q; simp at this; simp [this] at hlen; omega), List.dropLast_eq_take]
  have s1 : eSl (eVar 0) pNo (pSm (eNeg (eD (.int 1)))) [.v (.d (hallP rs)), .v (.d y)] = .ok (.d (.tuple ((rs.map rowP).take ((rs.map rowP).length - 1))), [.v (.d (hallP rs)), .v (.d y)]) := Ev.sl_ (Ev.var rfl) Ev.pno (Ev.psm (Ev.neg Ev.d_)) rfl hs
  cases e : inP (m - 1) y with
  | true =>
    rw [e, if_pos rfl] at c1
    rw [if_pos rfl]
    have b : Cm.D_check_neighbours [.v (.d (hallP rs)), .v (.d y)] = .ok (.nx, [.v (.d (hallP rs)), .v (.d y)]) := Ev.sq (Ev.ex (Ev.cl (Ev.cons_ (Ev.var rfl) Ev.nil_) rfl rfl (check_hall hh))) (Ev.ex (Ev.cl (Ev.cons_ s1 (Ev.cons_ (Ev.var rfl) Ev.nil_)) rfl rfl c1))
    show dFn [false, false] 0 Cm.D_check_neighbours [.d (hallP rs), .d y] = _
    simp [dFn, mkEn, b, outs, fin, noFrs, noFr]
  | false =>
    rw [e, if_neg Bool.false_ne_true] at c1
    rw [if_neg Bool.false_ne_true]
    exact Ev.fnE (fl := [false, false]) (k := 0) (B := Cm.D_check_neighbours) rfl (Ev.sq (Ev.ex (Ev.cl (Ev.cons_ (Ev.var rfl) Ev.nil_) rfl rfl (check_hall hh))) (Ev.exE (Ev.clE (Ev.cons_ s1 (Ev.cons_ (Ev.var rfl) Ev.nil_)) rfl rfl c1)))
end Xp
end
section
set_option Elab.async false
set_option linter.all false
set_option maxRecDepth 100000
set_option maxHeartbeats 3200000
namespace Lf
open PySem PySem.Spec L2 PySem.Calls PyProof.Rows
/-! ### set([..]) of whole numbers, for sorted(set([..])) -/
end Lf
end
section
set_option Elab.async false
set_option linter.all false
set_option maxRecDepth 100000
set_option maxHeartbeats 2000000
namespace Lf
open PySem PySem.Spec L2
/-! sorted, without the same twice -/
/-! x is False, x is True -/
end Lf
end
section
set_option Elab.async false
set_option linter.all false
set_option maxRecDepth 100000
set_option maxHeartbeats 2000000
/-! xs * k of a list of one's own, k from nought on -/
namespace Lf
open PySem PySem.Spec L2 PyProof.Rows
def mulK0 (p q : OT) (e : En) : R (OT × En) := match q with
  | .d (.int k) => if 0 ≤ k ∧ k ≤ 100 then (match p with
    | .own os => (match dats os with
      | some xs => if os.length ≤ 100 then .ok (.own ((List.replicate k.toNat xs).flatten.map .d), e) else .error .stuck
      | none => .error .stuck)
    | _ => .error .stuck) else .error .stuck
  | _ => .error .stuck
def eMul0 (da db : DE) : DE := fun en => bd (da en) fun p => bd (db p.2) fun q => mulK0 p.1 q.1 q.2
end Lf
end
section
set_option Elab.async false
set_option linter.all false
set_option maxRecDepth 100000
set_option maxHeartbeats 2000000
/-! a name that is read and stays one's own (to be handed back), min of a list of alike data, not in -/
namespace Lf
open PySem PySem.Spec L2
/-! min of a list of alike data -/
/-! in, not in of lists -/
end Lf
end
section
set_option Elab.async false
set_option linter.all false
set_option maxRecDepth 100000
set_option maxHeartbeats 2000000
/-! repr, of truths and None too -/
namespace Lf
open PySem PySem.Spec L2
end Lf
end
section
set_option Elab.async false
set_option linter.all false
set_option maxRecDepth 100000
set_option maxHeartbeats 2000000
/-! tuple(.. for .. in ..): the turns, and the list that collects -/
namespace Lf
open PySem PySem.Spec L2
end Lf
end
section
set_option Elab.async false
set_option linter.all false
set_option maxRecDepth 100000
set_option maxHeartbeats 2000000
/-! tuple(.. for .. in ..) as a function on things -/
namespace Lf
open PySem PySem.Spec L2
variable [Tabs]
def tpD (vs : List Nat) (g : DG) (tt : DT) (te : DE) : List PyData → En → List PyData → R (List PyData × En)
  | [], en, acc => .ok (acc, en)
  | x :: xs, en, acc => match g x en with
    | none => .error .stuck
    | some e2 => bd (nx (tt e2)) fun p => if p.1 = true then bd (nx (te p.2)) fun q => match q.1, wipeE vs q.2 with
        | .d y, some e5 => if few acc.length = true then tpD vs g tt te xs e5 (acc ++ [y]) else .error .stuck
        | _, _ => .error .stuck
      else match wipeE vs p.2 with
        | some e5 => tpD vs g tt te xs e5 acc
        | none => .error .stuck
def okT2 (r : R (List PyData × En)) : R (OT × En) := bd r fun r => .ok (.d (.tuple r.1), r.2)
def eTpG (vs : List Nat) (di : DI) (g : DG) (tt : DT) (te : DE) : DE := fun en => bd (di en) fun p => match wipeE vs p.2 with
  | some e2 => okT2 (tpD vs g tt te p.1 e2 [])
  | none => .error .stuck
end Lf
end
section
set_option Elab.async false
set_option linter.all false
set_option maxRecDepth 100000
set_option maxHeartbeats 2000000
/-! tuple(.. for .. in ..), its slots by number; sorted of a list of whole numbers -/
namespace Lf
open PySem PySem.Spec L2
end Lf
end
section
set_option Elab.async false
set_option linter.all false
set_option maxRecDepth 100000
set_option maxHeartbeats 2000000
/-! ### dicts as terms -/
namespace Pl
open PySem PySem.Spec L2 Lf
end Pl
end
section
set_option Elab.async false
set_option linter.all false
set_option maxRecDepth 100000
set_option maxHeartbeats 2000000
/-! days of any data; what the laws' own looks tell -/
namespace Xp
open PySem PySem.Spec L2 Lf Pl
end Xp
end
section
set_option Elab.async false
set_option linter.all false
set_option maxRecDepth 100000
set_option maxHeartbeats 2000000
/-! moves and rooms: what one move does to the times of a hall with room. Plain. -/
namespace Mr
open PySem PySem.Spec L2 Lf Cp Pl
theorem sum_le : ∀ {L : List Int} {W : Int}, (∀ x ∈ L, x < W) → L.sum ≤ L.length * W
  | [], _, _ => by simp
  | a :: L, W, h => by
    simp only [List.forall_mem_cons] at h
    have := sum_le h.2
    simp only [List.sum_cons, List.length_cons, Int.natCast_add, Int.add_mul]
    omega
theorem leads_le : ∀ (rs ss : List Int) (l : Int), (∀ x ∈ rs, 0 ≤ x) → (∀ x ∈ ss, 0 ≤ x) → ∀ x ∈ leadsL l rs ss, x ≤ l + rs.sum
  | [], _, _, _, _ => by simp [leadsL]
  | _ :: _, [], _, _, _ => by simp [leadsL]
  | r :: rs, s :: ss, l, hr, hs => by
    simp only [List.forall_mem_cons] at hr hs
    have h0 := (sum_ge hr.2).1
    have ih := leads_le rs ss (l + r - s) hr.2 hs.2
    simp only [leadsL, List.forall_mem_cons, List.sum_cons]
    exact ⟨by omega, fun x hx => by have := ih x hx; omega⟩
/-- how many can be moved: on and back, and that it is unseen -/
theorem moves {m n c : Nat} {W : Int} {A B : List (List Int)} {r s : List Int} (h : HOk m n W (A ++ r :: s :: B)) (hW : 0 ≤ W) : ∃ M, foldMax (leadsL 0 r s) = some M ∧ 0 ≤ M ∧ 0 ≤ M + s.sum - r.sum ∧ M + (M + s.sum - r.sum) ≤ 16 * W ∧ ∀ k, k ≤ M → -k ≤ M + s.sum - r.sum → Unseen n r s (lft M k r s) (nxt M k r s) := by
  obtain ⟨hr, hrx⟩ := h.rows r (by simp)
  obtain ⟨hs, hsx⟩ := h.rows s (by simp)
  have n1 := h.n1
  have n8 := h.n8
  have nr : ∀ x ∈ r, 0 ≤ x := fun x hx => (hrx x hx).1
  have ns : ∀ x ∈ s, 0 ≤ x := fun x hx => (hsx x hx).1
  have sr := sum_le fun x hx => (hrx x hx).2
  have ss := sum_le fun x hx => (hsx x hx).2
  obtain ⟨M, hM⟩ : ∃ M, foldMax (leadsL 0 r s) = some M := by
    have hl : (leadsL 0 r s).length = n := by rw [leadsL_len]; omega
    cases q : leadsL 0 r s with
    | nil => rw [q] at hl; simp at hl; omega
    | cons t ts => exact ⟨_, rfl⟩
  have hge := maxL_ge hM
  have hmem := (foldMax_iff.mp hM).1
  have hle := leads_le r s 0 nr ns M hmem
  have hoff := off_nn (rs := r) (ss := s) (l := 0) (M := M) (by omega) (by intro q; simp [q] at hr; omega) ns hge
  rw [leadE_sum _ _ _ (by omega)] at hoff
  have hon : 0 ≤ M := by
    cases r with
    | nil => simp at hr; omega
    | cons a r =>
      cases s with
      | nil => simp at hs; omega
      | cons b s => exact on_nn (nr a (by simp)) hM
  have nW : (n : Int) * W ≤ 8 * W := Int.mul_le_mul_of_nonneg_right (by omega) hW
  rw [hr] at sr
  rw [hs] at ss
  refine ⟨M, hM, hon, by omega, by omega, fun k k1 k2 => ?_⟩
  unfold lft nxt
  by_cases hk : 0 ≤ k
  · simp only [if_pos hk]
    exact on_ok hr hs nr ns (by omega)
  · simp only [if_neg hk]
    exact bk_ok hr hs nr ns (by omega)
theorem split_at {m c : Nat} {H : List (List Int)} (hl : H.length = m) (hc : c + 1 < m) : ∃ A r s B, H = A ++ r :: s :: B ∧ A.length = c := by
  refine ⟨H.take c, H[c], H[c + 1], H.drop (c + 2), ?_, by simp; omega⟩
  rw [← List.drop_eq_getElem_cons, ← List.drop_eq_getElem_cons, List.take_append_drop]
/-- only the first customer of the greatest lead goes on -/
theorem on_zero : ∀ (L : List Int) (M : Int), (∀ x ∈ L, x ≤ M) → ∀ k, (onL M L).getD k 0 = 0
  | [], _, _, k => by simp [onL]
  | x :: L, M, h, k => by
    simp only [List.forall_mem_cons] at h
    have e : max M x = M := by omega
    have z : max (x - M) 0 = 0 := by omega
    cases k with
    | zero => simp only [onL, List.getD_cons_zero]; omega
    | succ k =>
      simp only [onL, List.getD_cons_succ]
      rw [show max M x = M by omega]
      exact on_zero L M h.2 k
theorem a1 {c b r f c' b' f' : Int} (h1 : c' ≤ c + 1) (h2 : b' ≤ b + 1) (h3 : f' ≤ f + 1) : Max.max (Max.max c' b' + r) f' ≤ Max.max (Max.max c b + r) f + 1 := by omega
theorem a2 {c b r f c' b' f' : Int} (h1 : c ≤ c' + 1) (h2 : b ≤ b' + 1) (h3 : f ≤ f' + 1) : Max.max (Max.max c b + r) f - 1 ≤ Max.max (Max.max c' b' + r) f' := by omega
theorem a3 {c b r f : Int} : Max.max (Max.max c b + (r - 1)) f ≤ Max.max (Max.max c b + r) f ∧ Max.max (Max.max c b + r) f - 1 ≤ Max.max (Max.max c b + (r - 1)) f := by omega
theorem a4 {c b r f c' : Int} (h : c' ≤ c) (h' : c ≤ c' + 1) : Max.max (Max.max c' b + (r + 1)) f ≤ Max.max (Max.max c b + r) f + 1 ∧ Max.max (Max.max c b + r) f - 1 ≤ Max.max (Max.max c' b + (r + 1)) f := by omega
theorem get_at {A B : List (List Int)} {r s : List Int} {c i : Nat} (hc : A.length = c) : (A ++ r :: s :: B).getD i [] = if i < c then A.getD i [] else if i = c then r else if i = c + 1 then s else B.getD (i - c - 2) [] := by
  subst hc
  by_cases h : i < A.length
  · rw [if_pos h]
    simp [List.getD_eq_getElem?_getD, List.getElem?_append_left h]
  · rw [if_neg h]
    simp only [List.getD_eq_getElem?_getD]
    rw [List.getElem?_append_right (by omega)]
    by_cases h1 : i = A.length
    · rw [if_pos h1]; subst h1; simp
    · rw [if_neg h1]
      by_cases h2 : i = A.length + 1
      · rw [if_pos h2]; subst h2; simp
      · rw [if_neg h2]
        obtain ⟨q, rfl⟩ : ∃ q, i = A.length + 2 + q := ⟨i - A.length - 2, by omega⟩
        rw [show A.length + 2 + q - A.length = q + 2 by omega]
        rfl
theorem sub_at {r g : List Int} {k : Nat} (h : k < r.length) (h1 : k < g.length) : (subL r g).getD k 0 = r.getD k 0 - g.getD k 0 := by
  simp [subL, List.getD_eq_getElem?_getD, List.getElem?_zipWith, h, h1]
theorem add_at {r g : List Int} {k : Nat} (h : k < r.length) (h1 : k < g.length) : (addL r g).getD k 0 = r.getD k 0 + g.getD k 0 := by
  simp [addL, List.getD_eq_getElem?_getD, List.getElem?_zipWith, h, h1]
theorem cells {A B : List (List Int)} {r s g : List Int} {c n j : Nat} (hc : A.length = c) (hr : r.length = n) (hs : s.length = n) (hg : g.length = n) (hj : ∀ k, g.getD k 0 = if k = j then 1 else 0) (i k : Nat) (hk : k < n) :
    at2 (A ++ subL r g :: addL s g :: B) i k = at2 (A ++ r :: s :: B) i k + (if i = c + 1 ∧ k = j then 1 else 0) - (if i = c ∧ k = j then 1 else 0) := by
  unfold at2
  rw [get_at hc, get_at hc]
  by_cases h : i < c
  · rw [if_pos h, if_pos h, if_neg (by omega), if_neg (by omega)]; omega
  · rw [if_neg h, if_neg h]
    by_cases h1 : i = c
    · rw [if_pos h1, if_pos h1, if_neg (by omega), sub_at (by omega) (by omega), hj k]
      by_cases q : k = j
      · rw [if_pos q, if_pos ⟨h1, q⟩]; omega
      · rw [if_neg q, if_neg (by omega)]; omega
    · rw [if_neg h1, if_neg h1]
      by_cases h2 : i = c + 1
      · rw [if_pos h2, if_pos h2, add_at (by omega) (by omega), hj k]
        by_cases q : k = j
        · rw [if_pos q, if_pos ⟨h2, q⟩, if_neg (by omega)]; omega
        · rw [if_neg q, if_neg (by omega), if_neg (by omega)]; omega
      · rw [if_neg h2, if_neg h2, if_neg (by omega), if_neg (by omega)]; omega
end Mr
end
section
set_option Elab.async false
set_option linter.all false
set_option maxRecDepth 100000
set_option maxHeartbeats 2000000
namespace Cs
open PySem PySem.Spec L2 Lf
def D_move : DS := (dRt (eCl 3 Cm.f_moved (aCons (eVar 0) (aCons (eVar 1) (aCons (eD (.int 1)) aNil)))))
def f_move : DF := dFn [false, false] 0 D_move
def D_with_one_gone : DS := (dSq (dSet 2 (eCl 2 f_move (aCons (eVar 0) (aCons (eVar 1) aNil)))) (dSq (dIf (tV (eOp2 fIsN (eVar 2) (eD .none))) (fun en => .error (.exn "NoMove" en)) dNx) (dRt (eMov 2))))
def f_with_one_gone : DF := dFn [false, false] 1 D_with_one_gone
def D_is_told_apart : DS := (dRt (eOp2 fNe (eIx (eCl 3 Cr.f_blocked (aCons (eVar 0) (aCons (eVar 2) (aCons (eVar 3) aNil)))) (eNeg (eD (.int 1)))) (eIx (eCl 3 Cr.f_blocked (aCons (eVar 1) (aCons (eVar 2) (aCons (eVar 3) aNil)))) (eNeg (eD (.int 1))))))
def f_is_told_apart : DF := dFn [false, false, false, false] 0 D_is_told_apart
end Cs
end
section
set_option Elab.async false
set_option linter.all false
set_option maxRecDepth 100000
set_option maxHeartbeats 2000000
/-! one move and rooms: the program -/
namespace Pl
open PySem PySem.Spec L2 Lf Cp Cs Mr
def apart (a b : List Int) : Bool := !PyData.eqv (dayP a) (dayP b)
theorem with_one_gone {m n c : Nat} {W M : Int} {A B : List (List Int)} {r s : List Int} (h : HOk m n W (A ++ r :: s :: B)) (hc : A.length = c) (hM : foldMax (leadsL 0 r s) = some M) (h1 : 1 ≤ M) (h2 : 0 ≤ M + s.sum - r.sum) :
    f_with_one_gone [.d (hallP (A ++ r :: s :: B)), I c] = .ok (.d (hallP (A ++ lft M 1 r s :: nxt M 1 r s :: B)), [.hole, .hole]) ∧ f_move [.d (hallP (A ++ r :: s :: B)), I c] = .ok (.d (hallP (A ++ lft M 1 r s :: nxt M 1 r s :: B)), [.hole, .hole]) := by
  have e : f_move [.d (hallP (A ++ r :: s :: B)), I c] = .ok (.d (hallP (A ++ lft M 1 r s :: nxt M 1 r s :: B)), [.hole, .hole]) :=
    fn_ok (fl := [false, false]) (k := 0) (B := D_move) (os := [.d (hallP (A ++ r :: s :: B)), I c]) rfl (Ev.rt (Ev.cl (Ev.cons_ (Ev.var rfl) (Ev.cons_ (Ev.var rfl) (Ev.cons_ Ev.d_ Ev.nil_))) rfl rfl (moved h hc hM h1 (by omega)))) rfl
  refine ⟨?_, e⟩
  have b1 : dSet 2 (eCl 2 f_move (aCons (eVar 0) (aCons (eVar 1) aNil))) [.v (.d (hallP (A ++ r :: s :: B))), .v (I c), .un] = .ok (.nx, [.v (.d (hallP (A ++ r :: s :: B))), .v (I c), .v (.d (hallP (A ++ lft M 1 r s :: nxt M 1 r s :: B)))]) := Ev.set_ (Ev.cl (Ev.cons_ (Ev.var rfl) (Ev.cons_ (Ev.var rfl) Ev.nil_)) rfl rfl e) rfl
  have b : D_with_one_gone [.v (.d (hallP (A ++ r :: s :: B))), .v (I c), .un] = .ok (.rt (.d (hallP (A ++ lft M 1 r s :: nxt M 1 r s :: B))), [.v (.d (hallP (A ++ r :: s :: B))), .v (I c), .un]) :=
    Ev.sq b1 (Ev.sq (Ev.difN (Ev.tv (b := false) (Ev.op2 (z := .bool false) (Ev.var rfl) Ev.d_ rfl rfl rfl)) Ev.nx_) (Ev.rt (Ev.mov rfl rfl)))
  exact fn_ok (fl := [false, false]) (k := 1) (B := D_with_one_gone) (os := [.d (hallP (A ++ r :: s :: B)), I c]) rfl b rfl
end Pl
end
section
set_option Elab.async false
set_option linter.all false
set_option maxRecDepth 100000
set_option maxHeartbeats 2000000
namespace Ct
open PySem PySem.Spec L2 Lf
end Ct
end
section
set_option Elab.async false
set_option linter.all false
set_option maxRecDepth 100000
set_option maxHeartbeats 2000000
/-! seen_day whose day is handed back as one's own -/
namespace Pl
open PySem PySem.Spec L2 Lf Cp Ct Mr
open Cs (f_is_told_apart f_with_one_gone)
end Pl
end
section
set_option Elab.async false
set_option linter.all false
set_option maxRecDepth 100000
set_option maxHeartbeats 2000000
/-! halls whose numbers are drawn below a small number, too -/
namespace Pl
open PySem PySem.Spec L2 Lf Cp Ca
end Pl
end
section
set_option Elab.async false
set_option linter.all false
set_option maxRecDepth 100000
set_option maxHeartbeats 2000000
/-! one move, the hall of it; the least of the late days -/
namespace Mt
open PySem PySem.Spec L2 Lf Cp Ca Pl Mr
open Cs (f_is_told_apart f_with_one_gone f_move)
theorem bound : ∀ H : List (List Int), ∃ W : Int, ∀ r ∈ H, ∀ x ∈ r, x < W
  | [] => ⟨0, by simp⟩
  | r :: H => by
    obtain ⟨W, h⟩ := bound H
    have : ∀ r : List Int, ∃ V : Int, ∀ x ∈ r, x < V := fun r => by
      induction r with
      | nil => exact ⟨0, by simp⟩
      | cons x r ih =>
        obtain ⟨V, hV⟩ := ih
        refine ⟨max V (x + 1), fun y hy => ?_⟩
        rcases List.mem_cons.mp hy with rfl | hy
        · omega
        · have := hV y hy; omega
    obtain ⟨V, hV⟩ := this r
    refine ⟨max V W, fun q hq x hx => ?_⟩
    rcases List.mem_cons.mp hq with rfl | hq
    · have := hV x hx; omega
    · have := h q hq x hx; omega
theorem unseen_ok {m n : Nat} {W : Int} {A B : List (List Int)} {r s r' s' : List Int} (h : HOk m n W (A ++ r :: s :: B)) (u : Unseen n r s r' s') : ∃ W1, HOk m n W1 (A ++ r' :: s' :: B) := by
  obtain ⟨W1, hW⟩ := bound (A ++ r' :: s' :: B)
  refine ⟨W1, by have := h.len; simp at this ⊢; omega, h.m1, h.m8, h.n1, h.n8, fun q hq => ?_⟩
  have hx : q.length = n ∧ ∀ x ∈ q, 0 ≤ x := by
    simp only [List.mem_append, List.mem_cons] at hq
    rcases hq with a | rfl | rfl | a
    · exact ⟨(h.rows q (by simp [a])).1, fun x hx => ((h.rows q (by simp [a])).2 x hx).1⟩
    · exact ⟨u.lr, u.nr⟩
    · exact ⟨u.ls, u.ns⟩
    · exact ⟨(h.rows q (by simp [a])).1, fun x hx => ((h.rows q (by simp [a])).2 x hx).1⟩
  exact ⟨hx.1, fun x hm => ⟨hx.2 x hm, hW q hq x hm⟩⟩
structure Two (m n c : Nat) (W W1 S : Int) (H H1 : List (List Int)) : Prop where
  h : HOk m n W H
  h1 : HOk m n W1 H1
  hc : c + 1 < m
  gone : f_with_one_gone [.d (hallP H), I c] = .ok (.d (hallP H1), [.hole, .hole])
  mv : f_move [.d (hallP H), I c] = .ok (.d (hallP H1), [.hole, .hole])
  sum : (H.map List.sum).sum + 1 = S
  s0 : 0 < S
/-- one move: None, or the hall of it -/
theorem one {m n c : Nat} {W : Int} {H : List (List Int)} (h : HOk m n W H) (hW : 0 ≤ W) (hc : c + 1 < m) :
    f_move [.d (hallP H), I c] = .ok (.d .none, [.hole, .hole]) ∨ ∃ W1 S H1, Two m n c W W1 S H H1 := by
  obtain ⟨A, r, s, B, rfl, hA⟩ := split_at h.len hc
  obtain ⟨M, hM, M0, N0, MN, hu⟩ := moves (c := c) h hW
  by_cases z : M = 0
  · have hl := h.len
    have hr := (h.rows r (by simp)).1
    have hn8 := h.n8
    have e1 := check_neighbours h (c := c) (by simp at hl; omega)
    have e2 := most_moves (by omega) hM
    have g1 : fGt (.int 1) (.int M) = some (.bool true) := gt_yes (by omega)
    have b : Cm.D_moved [.v (.d (hallP (A ++ r :: s :: B))), .v (I c), .v (I 1), .un, .un] = .ok (.rt (.d .none), [.v (.d (hallP (A ++ r :: s :: B))), .v (I c), .v (I 1), .v (I M), .v (I (M + s.sum - r.sum))]) :=
      Ev.sq (Ev.ex (Ev.cl (Ev.cons_ (Ev.var rfl) (Ev.cons_ (Ev.var rfl) Ev.nil_)) rfl rfl e1))
      (Ev.sq (Ev.difN (Ev.tv (b := false) (Ev.tyNot (T := "int") (t := "int") (Ev.var rfl) rfl)) Ev.nx_)
      (Ev.sq (Ev.asg (Ev.cl (Ev.cons_ (Ev.ix (Ev.var rfl) (Ev.var rfl) (Ev.ixVt (at_c hA))) (Ev.cons_ (Ev.ix (Ev.var rfl) (Ev.op2 (Ev.var rfl) Ev.d_ rfl rfl rfl) (Ev.ixVt (at_c1 hA))) Ev.nil_)) rfl rfl e2) rfl rfl)
      (Ev.sqR (Ev.difY (Ev.orY (Ev.tv (Ev.op2 (Ev.var rfl) (Ev.var rfl) rfl rfl g1))) (Ev.rt Ev.d_)))))
    have em : Cm.f_moved [.d (hallP (A ++ r :: s :: B)), I c, I 1] = .ok (.d .none, [.hole, .hole, .hole]) := fn_ok (fl := [false, false, false]) (k := 2) (B := Cm.D_moved) (os := [.d (hallP (A ++ r :: s :: B)), I c, I 1]) rfl b rfl
    exact .inl (fn_ok (fl := [false, false]) (k := 0) (B := Cs.D_move) (os := [.d (hallP (A ++ r :: s :: B)), I c]) rfl (Ev.rt (Ev.cl (Ev.cons_ (Ev.var rfl) (Ev.cons_ (Ev.var rfl) (Ev.cons_ Ev.d_ Ev.nil_))) rfl rfl em)) rfl)
  · have u := hu 1 (by omega) (by omega)
    obtain ⟨W1, hW1⟩ := unseen_ok h u
    have w := with_one_gone h hA hM (by omega) N0
    have s0 : 0 ≤ ((A ++ r :: s :: B).map List.sum).sum := (sum_ge fun x hx => by
      obtain ⟨q, hq, rfl⟩ := List.mem_map.mp hx
      exact (sum_ge fun y hy => ((h.rows q hq).2 y hy).1).1).1
    exact .inr ⟨W1, _, _, ⟨h, hW1, hc, w.1, w.2, rfl, by omega⟩⟩
/-! the least of the late days -/
end Mt
end
section
set_option Elab.async false
set_option linter.all false
set_option maxRecDepth 100000
set_option maxHeartbeats 2000000
/-! reversed(range(..)) as what is walked -/
namespace Lf
open PySem PySem.Spec L2
variable [Tabs]
def iRev1 (da : DE) : DI := fun en => bd (da en) fun p => match p.1 with
  | .d (.int j) => if inR j = true then .ok ((rng 0 (j - 0).toNat).reverse, p.2) else .error .stuck
  | _ => .error .stuck
end Lf
end
section
set_option Elab.async false
set_option linter.all false
set_option maxRecDepth 100000
set_option maxHeartbeats 2000000
/-! int(..) of truths and whole numbers; isinstance(.., T) of data -/
namespace Lf
open PySem PySem.Spec L2
end Lf
end
section
set_option Elab.async false
set_option linter.all false
set_option maxRecDepth 100000
set_option maxHeartbeats 2000000
/-! dicts of one's own whose keys are whole numbers -/
namespace Lf
open PySem PySem.Spec L2
end Lf
end
section
set_option Elab.async false
set_option linter.all false
set_option maxRecDepth 100000
set_option maxHeartbeats 2000000
/-! a dict of one's own walked by its keys -/
namespace Lf
open PySem PySem.Spec L2
/-! ### the statement -/
/-! ### its keys, an item -/
end Lf
end
section
set_option Elab.async false
set_option linter.all false
set_option maxRecDepth 100000
set_option maxHeartbeats 2000000
/-! isinstance(.., (T1, T2)); defs that call themselves -/
namespace Lf
open PySem PySem.Spec L2
end Lf
end
section
set_option Elab.async false
set_option linter.all false
set_option maxRecDepth 100000
set_option maxHeartbeats 2000000
/-! an item of a dict that an expression gives, by a tuple that is written out -/
namespace Lf
open PySem PySem.Spec L2
end Lf
end
section
set_option Elab.async false
set_option linter.all false
set_option maxRecDepth 100000
set_option maxHeartbeats 2000000
namespace Pl
open PySem PySem.Spec L2 Lf
/-! ### dicts by places -/
end Pl
end
section
set_option Elab.async false
set_option linter.all false
set_option maxRecDepth 100000
set_option maxHeartbeats 2000000
namespace Cv
open PySem PySem.Spec L2 Lf
end Cv
end
section
set_option Elab.async false
set_option linter.all false
set_option maxRecDepth 100000
set_option maxHeartbeats 1000000
/-! two neighbours: moves add up, are undone, and are moves back from behind. Plain lists of integers only. -/
namespace Pl
open PySem PySem.Spec L2 Lf Cp Ca
/-- two counters, the greatest lead -/
structure TR (n : Nat) (M : Int) (r s : List Int) : Prop where
  lr : r.length = n
  ls : s.length = n
  mx : foldMax (leadsL 0 r s) = some M
theorem onL_sum : ∀ (ts : List Int) (p : Int), (onL p ts).sum = reach p ts - p
  | [], p => by simp [onL, reach]
  | t :: ts, p => by
    simp only [onL, List.sum_cons, onL_sum ts]
    show _ = reach (max p t) ts - p
    omega
theorem reach_ge : ∀ (ts : List Int) (p : Int), p ≤ reach p ts ∧ ∀ x ∈ ts, x ≤ reach p ts
  | [], p => by simp [reach]
  | t :: ts, p => by
    have ih := reach_ge ts (max p t)
    show p ≤ reach (max p t) ts ∧ ∀ x ∈ t :: ts, x ≤ reach (max p t) ts
    refine ⟨by omega, fun x hx => ?_⟩
    rcases List.mem_cons.mp hx with rfl | hx
    · omega
    · exact ih.2 x hx
theorem reach_le : ∀ (ts : List Int) (p b : Int), p ≤ b → (∀ x ∈ ts, x ≤ b) → reach p ts ≤ b
  | [], p, b, h, _ => h
  | t :: ts, p, b, h, k => by
    simp only [List.forall_mem_cons] at k
    exact reach_le ts (max p t) b (by omega) k.2
theorem sub_sum : ∀ (r g : List Int), r.length = g.length → (subL r g).sum = r.sum - g.sum
  | [], [], _ => by simp [subL]
  | a :: r, b :: g, h => by
    have := sub_sum r g (by simpa using h)
    simp only [subL, List.zipWith_cons_cons, List.sum_cons] at this ⊢
    omega
  | [], _ :: _, h => by simp at h
  | _ :: _, [], h => by simp at h
theorem add_sum : ∀ (r g : List Int), r.length = g.length → (addL r g).sum = r.sum + g.sum
  | [], [], _ => by simp [addL]
  | a :: r, b :: g, h => by
    have := add_sum r g (by simpa using h)
    simp only [addL, List.zipWith_cons_cons, List.sum_cons] at this ⊢
    omega
  | [], _ :: _, h => by simp at h
  | _ :: _, [], h => by simp at h
theorem sub_rev {r g : List Int} (h : r.length = g.length) : (subL r g).reverse = subL r.reverse g.reverse := by
  unfold subL; exact List.reverse_zipWith h
theorem add_rev {r g : List Int} (h : r.length = g.length) : (addL r g).reverse = addL r.reverse g.reverse := by
  unfold addL; exact List.reverse_zipWith h
/-- moved on: no lead is above what was reached -/
theorem on_leads_le (p : Int) : ∀ (rs ss : List Int) (l q : Int), p ≤ q → ∀ x ∈ leadsL (l - 2 * (q - p)) (subL rs (onL q (leadsL l rs ss))) (addL ss (onL q (leadsL l rs ss))), x ≤ p
  | [], ss, l, q, _ => by simp [leadsL, onL, subL]
  | r :: rs, [], l, q, _ => by simp [leadsL, onL, subL]
  | r :: rs, s :: ss, l, q, h => by
    have ih := on_leads_le p rs ss (l + r - s) (max q (l + r)) (by omega)
    simp only [leadsL, onL, subL, addL, List.zipWith_cons_cons, List.forall_mem_cons] at ih ⊢
    refine ⟨by omega, ?_⟩
    have e : l - 2 * (q - p) + (r - max (l + r - q) 0) - (s + max (l + r - q) 0) = l + r - s - 2 * (max q (l + r) - p) := by omega
    rw [e]
    exact ih
/-- .. and just that is reached -/
theorem on_leads_mem (p : Int) : ∀ (rs ss : List Int) (l : Int), (∃ x ∈ leadsL l rs ss, p ≤ x) → p ∈ leadsL l (subL rs (onL p (leadsL l rs ss))) (addL ss (onL p (leadsL l rs ss)))
  | [], ss, l, h => by simp [leadsL] at h
  | r :: rs, [], l, h => by simp [leadsL] at h
  | r :: rs, s :: ss, l, h => by
    simp only [leadsL, onL, subL, addL, List.zipWith_cons_cons]
    by_cases c : p ≤ l + r
    · have : l + (r - max (l + r - p) 0) = p := by omega
      rw [this]; exact List.mem_cons_self
    · have h2 : ∃ x ∈ leadsL (l + r - s) rs ss, p ≤ x := by
        obtain ⟨x, hx, hp⟩ := h
        simp only [leadsL, List.mem_cons] at hx
        rcases hx with rfl | hx
        · exact absurd hp c
        · exact ⟨x, hx, hp⟩
      have ih := on_leads_mem p rs ss (l + r - s) h2
      have e1 : max (l + r - p) 0 = 0 := by omega
      have e2 : max p (l + r) = p := by omega
      have e3 : l + (r - 0) - (s + 0) = l + r - s := by omega
      rw [e1, e2, e3]
      exact List.mem_cons_of_mem _ ih
/-- moves on add up -/
theorem on_on (p : Int) : ∀ (rs ss : List Int) (l q1 q2 : Int), p ≤ q1 → q2 ≤ q1 → (q2 = q1 ∨ q1 = p) →
    subL (subL rs (onL q1 (leadsL l rs ss))) (onL (q2 - (q1 - p)) (leadsL (l - 2 * (q1 - p)) (subL rs (onL q1 (leadsL l rs ss))) (addL ss (onL q1 (leadsL l rs ss))))) = subL rs (onL q2 (leadsL l rs ss)) ∧
    addL (addL ss (onL q1 (leadsL l rs ss))) (onL (q2 - (q1 - p)) (leadsL (l - 2 * (q1 - p)) (subL rs (onL q1 (leadsL l rs ss))) (addL ss (onL q1 (leadsL l rs ss))))) = addL ss (onL q2 (leadsL l rs ss))
  | [], ss, l, q1, q2, _, _, _ => by simp [leadsL, onL, subL, addL]
  | r :: rs, [], l, q1, q2, _, _, _ => by simp [leadsL, onL, subL, addL]
  | r :: rs, s :: ss, l, q1, q2, h1, h2, h3 => by
    have ih := on_on p rs ss (l + r - s) (max q1 (l + r)) (max q2 (l + r)) (by omega) (by omega) (by omega)
    simp only [leadsL, onL, subL, addL, List.zipWith_cons_cons] at ih ⊢
    have e : l - 2 * (q1 - p) + (r - max (l + r - q1) 0) - (s + max (l + r - q1) 0) = l + r - s - 2 * (max q1 (l + r) - p) := by omega
    have e2 : max (q2 - (q1 - p)) (l - 2 * (q1 - p) + (r - max (l + r - q1) 0)) = max q2 (l + r) - (max q1 (l + r) - p) := by omega
    rw [e, e2]
    refine ⟨?_, ?_⟩
    · rw [ih.1]; congr 1; omega
    · rw [ih.2]; congr 1; omega
/-- moves on, undone -/
theorem on_bk (p : Int) : ∀ (rs ss : List Int) (l q : Int), p ≤ q →
    sgm (2 * p - reach q (leadsL l rs ss)) (leadsL (l - 2 * (q - p)) (subL rs (onL q (leadsL l rs ss))) (addL ss (onL q (leadsL l rs ss)))) = 2 * p - q ∧
    addL (subL rs (onL q (leadsL l rs ss))) (bkL (2 * p - reach q (leadsL l rs ss)) (leadsL (l - 2 * (q - p)) (subL rs (onL q (leadsL l rs ss))) (addL ss (onL q (leadsL l rs ss))))) = rs.take (min rs.length ss.length) ∧
    subL (addL ss (onL q (leadsL l rs ss))) (bkL (2 * p - reach q (leadsL l rs ss)) (leadsL (l - 2 * (q - p)) (subL rs (onL q (leadsL l rs ss))) (addL ss (onL q (leadsL l rs ss))))) = ss.take (min rs.length ss.length)
  | [], ss, l, q, _ => by simp [leadsL, onL, subL, addL, reach, sgm]
  | r :: rs, [], l, q, _ => by simp [leadsL, onL, subL, addL, reach, sgm]
  | r :: rs, s :: ss, l, q, h => by
    obtain ⟨i1, i2, i3⟩ := on_bk p rs ss (l + r - s) (max q (l + r)) (by omega)
    have er : reach q (leadsL l (r :: rs) (s :: ss)) = reach (max q (l + r)) (leadsL (l + r - s) rs ss) := rfl
    rw [er]
    simp only [leadsL, onL, subL, addL, List.zipWith_cons_cons, sgm, bkL] at i1 i2 i3 ⊢
    have e : l - 2 * (q - p) + (r - max (l + r - q) 0) - (s + max (l + r - q) 0) = l + r - s - 2 * (max q (l + r) - p) := by omega
    rw [e, i1]
    have em : min (rs.length + 1) (ss.length + 1) = min rs.length ss.length + 1 := by omega
    refine ⟨by omega, ?_, ?_⟩
    · rw [i2, List.length_cons, List.length_cons, em, List.take_succ_cons]; congr 1; omega
    · rw [i3, List.length_cons, List.length_cons, em, List.take_succ_cons]; congr 1; omega
section
variable {n : Nat} {M k j : Int} {r s : List Int}
theorem TR.leads_ne (h : TR n M r s) : 1 ≤ n := by
  have := (foldMax_iff.mp h.mx).1
  have h2 := List.length_pos_of_mem this
  rw [leadsL_len, h.lr, h.ls] at h2
  omega
/-- from behind -/
theorem TR.mir (h : TR n M r s) : TR n (M + s.sum - r.sum) s.reverse r.reverse := ⟨by simp [h.ls], by simp [h.lr], by
  have := max_rev (by rw [h.lr, h.ls]) h.mx
  rw [this]; congr 1; omega⟩
theorem lft_len (h : TR n M r s) : (lft M k r s).length = n := by
  unfold lft; split <;> simp [subL, addL, onL_len, bkL_len, leadsL_len, h.lr, h.ls]
theorem nxt_len (h : TR n M r s) : (nxt M k r s).length = n := by
  unfold nxt; split <;> simp [subL, addL, onL_len, bkL_len, leadsL_len, h.lr, h.ls]
theorem mv_zero (h : TR n M r s) : lft M 0 r s = r ∧ nxt M 0 r s = s := by
  unfold lft nxt
  simp only [Int.le_refl, if_true, Int.sub_zero]
  have hz := Mr.on_zero (leadsL 0 r s) M fun x hx => (foldMax_iff.mp h.mx).2 x hx
  have lz : (onL M (leadsL 0 r s)).length = n := by rw [onL_len, leadsL_len, h.lr, h.ls]; omega
  constructor
  · apply List.ext_getElem
    · simp [subL, lz, h.lr]
    · intro i h1 h2
      have := hz i
      rw [List.getD_eq_getElem?_getD, List.getElem?_eq_getElem (by rw [lz]; rw [h.lr] at h2; exact h2)] at this
      simp only [Option.getD_some] at this
      simp [subL, this]
  · apply List.ext_getElem
    · simp [addL, lz, h.ls]
    · intro i h1 h2
      have := hz i
      rw [List.getD_eq_getElem?_getD, List.getElem?_eq_getElem (by rw [lz]; rw [h.ls] at h2; exact h2)] at this
      simp only [Option.getD_some] at this
      simp [addL, this]
/-- from behind a move is a move back -/
theorem mv_mir (h : TR n M r s) (k0 : k ≤ 0) : lft (M + s.sum - r.sum) (-k) s.reverse r.reverse = (nxt M k r s).reverse ∧ nxt (M + s.sum - r.sum) (-k) s.reverse r.reverse = (lft M k r s).reverse := by
  by_cases e : k = 0
  · subst e
    rw [(mv_zero h).1, (mv_zero h).2]
    exact mv_zero h.mir
  · have hk : ¬ 0 ≤ k := by omega
    have hk2 : 0 ≤ -k := by omega
    unfold lft nxt
    simp only [if_neg hk, if_pos hk2]
    have be := back_eq (rs := r) (ss := s) (p := M + k) (by rw [h.lr, h.ls])
    have e2 : M + s.sum - r.sum - -k = M + k + (s.sum - r.sum) := by omega
    rw [e2]
    generalize hg : onL (M + k + (s.sum - r.sum)) (leadsL 0 s.reverse r.reverse) = g at *
    have gl : g.length = n := by rw [← hg, onL_len, leadsL_len]; simp [h.lr, h.ls]
    rw [← be]
    constructor
    · rw [sub_rev (by simp [h.ls, gl]), List.reverse_reverse]
    · rw [add_rev (by simp [h.lr, gl]), List.reverse_reverse]
theorem on_sum (h : TR n M r s) (k0 : 0 ≤ k) : (onL (M - k) (leadsL 0 r s)).sum = k := by
  obtain ⟨hm, hx⟩ := foldMax_iff.mp h.mx
  have h1 := (reach_ge (leadsL 0 r s) (M - k)).2 M hm
  have h2 := reach_le (leadsL 0 r s) (M - k) M (by omega) hx
  rw [onL_sum]; omega
theorem lft_sum0 (h : TR n M r s) (k0 : 0 ≤ k) : (lft M k r s).sum = r.sum - k ∧ (nxt M k r s).sum = s.sum + k := by
  have lz : (onL (M - k) (leadsL 0 r s)).length = n := by rw [onL_len, leadsL_len, h.lr, h.ls]; omega
  unfold lft nxt
  simp only [if_pos k0]
  rw [sub_sum _ _ (by rw [h.lr, lz]), add_sum _ _ (by rw [h.ls, lz]), on_sum h k0]
  exact ⟨rfl, rfl⟩
theorem lft_sum (h : TR n M r s) : (lft M k r s).sum = r.sum - k ∧ (nxt M k r s).sum = s.sum + k := by
  by_cases k0 : 0 ≤ k
  · exact lft_sum0 h k0
  · obtain ⟨e1, e2⟩ := mv_mir (k := k) h (by omega)
    obtain ⟨q1, q2⟩ := lft_sum0 (k := -k) h.mir (by omega)
    rw [e1, List.sum_reverse, List.sum_reverse] at q1
    rw [e2, List.sum_reverse, List.sum_reverse] at q2
    omega
theorem mv_tr0 (h : TR n M r s) (k0 : 0 ≤ k) : TR n (M - k) (lft M k r s) (nxt M k r s) := by
  refine ⟨lft_len h, nxt_len h, foldMax_iff.mpr ?_⟩
  unfold lft nxt
  simp only [if_pos k0]
  constructor
  · exact on_leads_mem (M - k) r s 0 ⟨M, (foldMax_iff.mp h.mx).1, by omega⟩
  · have := on_leads_le (M - k) r s 0 (M - k) (Int.le_refl _)
    rwa [show (0 : Int) - 2 * (M - k - (M - k)) = 0 by omega] at this
/-- behind moves: the greatest lead is less by as many -/
theorem mv_tr (h : TR n M r s) : TR n (M - k) (lft M k r s) (nxt M k r s) := by
  by_cases k0 : 0 ≤ k
  · exact mv_tr0 h k0
  · obtain ⟨e1, e2⟩ := mv_mir (k := k) h (by omega)
    have q := (mv_tr0 (k := -k) h.mir (by omega)).mir
    obtain ⟨z1, z2⟩ := lft_sum (k := k) h
    rw [e1, e2, List.reverse_reverse, List.reverse_reverse, List.sum_reverse, List.sum_reverse, z1, z2] at q
    have : M + s.sum - r.sum - -k + (r.sum - k) - (s.sum + k) = M - k := by omega
    rwa [this] at q
theorem mv_on_on (h : TR n M r s) (k0 : 0 ≤ k) (j0 : 0 ≤ j) : lft (M - k) j (lft M k r s) (nxt M k r s) = lft M (k + j) r s ∧ nxt (M - k) j (lft M k r s) (nxt M k r s) = nxt M (k + j) r s := by
  have q := on_on (M - k) r s 0 (M - k) (M - (k + j)) (Int.le_refl _) (by omega) (.inr rfl)
  rw [show (0 : Int) - 2 * (M - k - (M - k)) = 0 by omega, show M - (k + j) - (M - k - (M - k)) = M - k - j by omega] at q
  unfold lft nxt
  simp only [if_pos k0, if_pos j0, if_pos (show 0 ≤ k + j by omega)]
  exact q
theorem mv_bk_on (h : TR n M r s) (k0 : 0 ≤ k) : lft (M - k) (-k) (lft M k r s) (nxt M k r s) = r ∧ nxt (M - k) (-k) (lft M k r s) (nxt M k r s) = s := by
  by_cases e : k = 0
  · subst e
    have := mv_zero (mv_tr0 (k := 0) h (by omega))
    rw [show (-0 : Int) = 0 by omega, this.1, this.2]
    exact mv_zero h
  · obtain ⟨hm, hx⟩ := foldMax_iff.mp h.mx
    have h1 := (reach_ge (leadsL 0 r s) (M - k)).2 M hm
    have h2 := reach_le (leadsL 0 r s) (M - k) M (by omega) hx
    have hr : reach (M - k) (leadsL 0 r s) = M := by omega
    have q := (on_bk (M - k) r s 0 (M - k) (Int.le_refl _)).2
    rw [hr, show (0 : Int) - 2 * (M - k - (M - k)) = 0 by omega, show 2 * (M - k) - M = M - k + -k by omega, h.lr, h.ls, Nat.min_self, List.take_of_length_le (by rw [h.lr]; omega), List.take_of_length_le (by rw [h.ls]; omega)] at q
    unfold lft nxt
    simp only [if_pos k0, if_neg (show ¬ 0 ≤ -k by omega)]
    exact q
theorem mv_up (h : TR n M r s) (k0 : 0 ≤ k) : lft (M - k) j (lft M k r s) (nxt M k r s) = lft M (k + j) r s ∧ nxt (M - k) j (lft M k r s) (nxt M k r s) = nxt M (k + j) r s := by
  by_cases j0 : 0 ≤ j
  · exact mv_on_on h k0 j0
  · by_cases c : -j ≤ k
    · -- k = (k + j) and then -j; undone
      have e := mv_on_on (k := k + j) (j := -j) h (by omega) (by omega)
      have t := mv_tr (k := k + j) h
      have u := mv_bk_on (k := -j) t (by omega)
      rw [e.1, e.2] at u
      rw [show k + j + -j = k by omega, show M - (k + j) - -j = M - k by omega, show - -j = j by omega] at u
      exact u
    · -- j = -k and then k + j, both back: seen from behind
      have t := mv_tr (k := k) h
      have u := mv_bk_on h k0
      have e := mv_on_on (k := k) (j := -(k + j)) t.mir k0 (by omega)
      obtain ⟨m1, m2⟩ := mv_mir (k := -k) t (by omega)
      obtain ⟨z1, z2⟩ := lft_sum (k := k) h
      rw [show - -k = k by omega] at m1 m2
      rw [m1, m2, u.1, u.2] at e
      obtain ⟨w1, w2⟩ := mv_mir (k := j) t (by omega)
      rw [show k + -(k + j) = -j by omega, w1, w2] at e
      obtain ⟨v1, v2⟩ := mv_mir (k := k + j) h (by omega)
      rw [z1, z2, show M - k + (s.sum + k) - (r.sum - k) - k = M + s.sum - r.sum by omega, v1, v2] at e
      exact ⟨List.reverse_inj.mp e.2.symm, List.reverse_inj.mp e.1.symm⟩
/-- MOVES ADD UP -/
theorem mv_mv (h : TR n M r s) : lft (M - k) j (lft M k r s) (nxt M k r s) = lft M (k + j) r s ∧ nxt (M - k) j (lft M k r s) (nxt M k r s) = nxt M (k + j) r s := by
  by_cases k0 : 0 ≤ k
  · exact mv_up h k0
  · have t := mv_tr (k := k) h
    obtain ⟨z1, z2⟩ := lft_sum (k := k) h
    obtain ⟨m1, m2⟩ := mv_mir (k := k) h (by omega)
    have e := mv_up (k := -k) (j := -j) h.mir (by omega)
    rw [m1, m2, show M + s.sum - r.sum - -k = M - k + (s.sum + k) - (r.sum - k) by omega, ← z1, ← z2] at e
    -- both sides turned again
    have back : ∀ {n : Nat} {M i : Int} {r s : List Int}, TR n M r s → lft (M + s.sum - r.sum) (-i) s.reverse r.reverse = (nxt M i r s).reverse ∧ nxt (M + s.sum - r.sum) (-i) s.reverse r.reverse = (lft M i r s).reverse := by
      intro n M i r s h
      by_cases i0 : i ≤ 0
      · exact mv_mir h i0
      · have q := mv_mir (k := -i) h.mir (by omega)
        rw [List.reverse_reverse, List.reverse_reverse, List.sum_reverse, List.sum_reverse, show - -i = i by omega, show M + s.sum - r.sum + r.sum - s.sum = M by omega] at q
        rw [q.1, q.2, List.reverse_reverse, List.reverse_reverse]
        exact ⟨rfl, rfl⟩
    obtain ⟨b1, b2⟩ := back (i := j) t
    obtain ⟨c1, c2⟩ := back (i := k + j) h
    rw [b1, b2, show -k + -j = -(k + j) by omega, c1, c2] at e
    exact ⟨List.reverse_inj.mp e.2, List.reverse_inj.mp e.1⟩
end
end Pl
end
section
set_option Elab.async false
set_option linter.all false
set_option maxRecDepth 100000
set_option maxHeartbeats 2000000
/-! the law's own greatest worths, as a dict -/
namespace Pl
open PySem PySem.Spec L2 Lf Cp Cv
end Pl
end
section
set_option Elab.async false
set_option linter.all false
set_option maxRecDepth 100000
set_option maxHeartbeats 2000000
namespace Cw
open PySem PySem.Spec L2 Lf
def D_worths_from : DS := (dSq (dSet 3 (eTpG [4] (iSq (eSl (eVar 0) (pSm (eVar 1)) pNo)) (gNm 4) tYs (eSl (eVar 4) (pSm (eVar 2)) pNo))) (dRt (eCl 2 Cp.f_gone_through (aCons (eVar 3) (aCons (eMul0 (eLst (aCons (eD (.int 0)) aNil)) (eLen (eIx (eVar 3) (eD (.int 0))))) aNil)))))
def f_worths_from : DF := dFn [false, false, false] 2 D_worths_from
end Cw
end
section
set_option Elab.async false
set_option linter.all false
set_option maxRecDepth 100000
set_option maxHeartbeats 2000000
namespace Ce
open PySem PySem.Spec L2 Lf
def D__law_bag : DS := (dRt (eLst (aCons (eCb fMax2 (aCons (eD (.int 0)) (aCons (eOp2 fSub (eVar 0) (eOp2 fPow (eD (.int 10)) (eD (.int 18)))) aNil))) (aCons (eOp2 fAdd (eOp2 fMod (eVar 0) (eD (.int 162259276829213363391578010288127))) (eOp2 fMul (eD (.int 4409)) (eOp2 fAdd (eVar 1) (eD (.int 1))))) (aCons (eD (.int 0)) aNil)))))
def f__law_bag : DF := dFn [false, false] 0 D__law_bag
def D__law_take : DS := (dSq (dIf (tV (eOp2 fGt (eIxS 0 (eD (.int 0))) (eD (.int 1)))) (dSq (dSet 2 (eOp2 fMod (eIxS 0 (eD (.int 0))) (eVar 1))) (dSq (dStI 0 (eOp2 fDiv (eIxS 0 (eD (.int 0))) (eVar 1)) (eD (.int 0))) (dRt (eMov 2)))) dNx) (dSq (dStI 0 (eOp2 fAdd (eIxS 0 (eD (.int 2))) (eD (.int 1))) (eD (.int 2))) (dSq (dSet 3 (eOp2 fMod (eOp2 fPow (eOp2 fAdd (eIxS 0 (eD (.int 1))) (eOp2 fMul (eD (.int 1299827)) (eIxS 0 (eD (.int 2))))) (eD (.int 3))) (eD (.int 162259276829213363391578010288127)))) (dSq (dSet 3 (eOp2 fMod (eOp2 fPow (eOp2 fAdd (eVar 3) (eOp2 fMul (eD (.int 15485917)) (eIxS 0 (eD (.int 2))))) (eD (.int 5))) (eD (.int 618970019642690137449562111)))) (dRt (eOp2 fMod (eOp2 fDiv (eVar 3) (eD (.int 1048576))) (eVar 1)))))))
def f__law_take : DF := dFn [true, false] 2 D__law_take
end Ce
end
section
set_option Elab.async false
set_option linter.all false
set_option maxRecDepth 100000
set_option maxHeartbeats 2000000
/-! the third bag: take, house -/
namespace Pl
open PySem PySem.Spec L2 Lf Cp Ce
/-- a third bag -/
def KOk (t : Int) (o : OT) : Prop := ∃ a b c, o = W a b c ∧ 0 ≤ a ∧ (0 ≤ b ∧ b < 10 ^ 40) ∧ 0 ≤ c ∧ c ≤ t
theorem KOk.mono {t u : Int} {o : OT} (h : KOk t o) (hu : t ≤ u) : KOk u o := by
  obtain ⟨a, b, c, e, h1, h2, h3, h4⟩ := h
  exact ⟨a, b, c, e, h1, h2, h3, by omega⟩
theorem KOk.noFr {t : Int} {o : OT} (h : KOk t o) : noFr o = true := by
  obtain ⟨a, b, c, rfl, _⟩ := h
  rfl
end Pl
end
section
set_option Elab.async false
set_option linter.all false
set_option maxRecDepth 100000
set_option maxHeartbeats 2000000
/-! moves tried by a law: leads, the worth of two counters, halls seen from behind -/
namespace Pl
open PySem PySem.Spec L2 Lf Cp Cv
theorem lead_at : ∀ (rs ss : List Int) (l : Int) (k : Nat), k < rs.length → rs.length = ss.length → (leadsL l rs ss).getD k 0 = l + (rs.take (k + 1)).sum - (ss.take k).sum
  | [], ss, l, k, h, _ => by simp at h
  | r :: rs, [], l, k, _, h => by simp at h
  | r :: rs, s :: ss, l, 0, _, _ => by simp [leadsL]
  | r :: rs, s :: ss, l, k + 1, h, e => by
    have ih := lead_at rs ss (l + r - s) k (by simpa using h) (by simpa using e)
    simp only [leadsL, List.getD_cons_succ, List.take_succ_cons, List.sum_cons] at ih ⊢
    rw [ih]; omega
/-- the hall from behind -/
def mirL (H : List (List Int)) : List (List Int) := H.reverse.map List.reverse
/-- a hall of nought or more minutes of so many counters and customers -/
structure Hl (m n : Nat) (W : Int) (H : List (List Int)) : Prop where
  few : Few m n W H
  m2 : 2 ≤ m
  m8 : m ≤ 8
  n1 : 1 ≤ n
  n8 : n ≤ 8
theorem Hl.ok {m n : Nat} {W : Int} {H : List (List Int)} (h : Hl m n W H) : HOk m n W H := h.few.hok (by have := h.m2; omega) h.m8 h.n1 h.n8
theorem Hl.mir {m n : Nat} {W : Int} {H : List (List Int)} (h : Hl m n W H) (hW : 0 < W) : HOk m n W (mirL H) := h.ok.rev
end Pl
end
section
set_option Elab.async false
set_option linter.all false
set_option maxRecDepth 100000
set_option maxHeartbeats 2000000
/-! == and != of two dicts of one's own -/
namespace LfD
open PySem PySem.W PySem.Calls PyProof.Rows PyProof.V PySem.Spec
end LfD
namespace Lf
open PySem PySem.Spec L2 LfD
end Lf
end
section
set_option Elab.async false
set_option linter.all false
set_option maxRecDepth 100000
set_option maxHeartbeats 2000000
/-! a call with two names whose lists are lent -/
namespace Lf
open PySem PySem.Spec L2
end Lf
end
section
set_option Elab.async false
set_option linter.all false
set_option maxRecDepth 100000
set_option maxHeartbeats 2000000
namespace Cy
open PySem PySem.Spec L2 Lf
def D_back : DS := (dRt (eCl 3 Cm.f_moved (aCons (eVar 0) (aCons (eVar 1) (aCons (eNeg (eD (.int 1))) aNil)))))
def f_back : DF := dFn [false, false] 0 D_back
end Cy
end
section
set_option Elab.async false
set_option linter.all false
set_option maxRecDepth 100000
set_option maxHeartbeats 2000000
namespace Cz
open PySem PySem.Spec L2 Lf
end Cz
end
section
set_option Elab.async false
set_option linter.all false
set_option maxRecDepth 100000
set_option maxHeartbeats 2000000
/-! one minute moved, by the law's own looking: mathematics -/
namespace Pl
open PySem PySem.Spec L2 Lf Cp
theorem on_first {M : Int} : ∀ (L : List Int) (j : Nat), (∀ x ∈ L, x ≤ M) → j < L.length → L.getD j 0 = M → (∀ k, k < j → L.getD k 0 < M) → ∀ k, (onL (M - 1) L).getD k 0 = if k = j then 1 else 0
  | [], j, _, h, _, _ => by simp at h
  | t :: ts, 0, hx, _, hm, _ => by
    simp only [List.forall_mem_cons] at hx
    simp at hm
    subst hm
    intro k
    simp only [onL]
    rw [show max (t - 1) t = t by omega]
    cases k with
    | zero => simp; omega
    | succ k => rw [List.getD_cons_succ, Mr.on_zero ts t hx.2 k]; simp
  | t :: ts, j + 1, hx, hj, hm, hb => by
    simp only [List.forall_mem_cons] at hx
    have ht : t < M := by simpa using hb 0 (by omega)
    have ih := on_first ts j hx.2 (by simpa using hj) (by simpa using hm) (fun k hk => by simpa using hb (k + 1) (by omega))
    intro k
    simp only [onL]
    rw [show max (M - 1) t = M - 1 by omega]
    cases k with
    | zero => simp; omega
    | succ k => rw [List.getD_cons_succ, ih k]; simp
theorem first_max {L : List Int} {M : Int} : (M ∈ L) → (∀ x ∈ L, x ≤ M) → ∃ j, j < L.length ∧ L.getD j 0 = M ∧ ∀ k, k < j → L.getD k 0 < M := by
  induction L with
  | nil => intro h; simp at h
  | cons t ts ih =>
    intro hm hx
    simp only [List.forall_mem_cons] at hx
    by_cases e : t = M
    · exact ⟨0, by simp, by simpa using e, fun k hk => by omega⟩
    · have : M ∈ ts := by
        rcases List.mem_cons.mp hm with h | h
        · exact absurd h.symm e
        · exact h
      obtain ⟨j, h1, h2, h3⟩ := ih this hx.2
      refine ⟨j + 1, by simpa using h1, by simpa using h2, fun k hk => ?_⟩
      cases k with
      | zero => simp; omega
      | succ k => simpa using h3 k (by omega)
theorem sub_unit {r g : List Int} {j : Nat} {n : Nat} (hr : r.length = n) (hg : g.length = n) (hk : ∀ k, g.getD k 0 = if k = j then 1 else 0) : subL r g = r.set j (r.getD j 0 - 1) := by
  apply List.ext_getElem
  · simp [subL, hr, hg]
  · intro i h1 h2
    have hi : i < n := by simpa [hr] using h2
    have := hk i
    rw [List.getD_eq_getElem?_getD, List.getElem?_eq_getElem (by omega)] at this
    simp only [Option.getD_some] at this
    simp only [subL, List.getElem_zipWith, this, List.getElem_set]
    by_cases e : i = j
    · subst e; simp [List.getD_eq_getElem?_getD, hr, hi]
    · simp [e, Ne.symm e]
theorem add_unit {r g : List Int} {j : Nat} {n : Nat} (hr : r.length = n) (hg : g.length = n) (hk : ∀ k, g.getD k 0 = if k = j then 1 else 0) : addL r g = r.set j (r.getD j 0 + 1) := by
  apply List.ext_getElem
  · simp [addL, hr, hg]
  · intro i h1 h2
    have hi : i < n := by simpa [hr] using h2
    have := hk i
    rw [List.getD_eq_getElem?_getD, List.getElem?_eq_getElem (by omega)] at this
    simp only [Option.getD_some] at this
    simp only [addL, List.getElem_zipWith, this, List.getElem_set]
    by_cases e : i = j
    · subst e; simp [List.getD_eq_getElem?_getD, hr, hi]
    · simp [e, Ne.symm e]
theorem take_succ_sum {L : List Int} {k : Nat} (h : k < L.length) : (L.take (k + 1)).sum = (L.take k).sum + L.getD k 0 := by
  rw [List.take_succ, List.getElem?_eq_getElem h, List.sum_append, List.getD_eq_getElem?_getD, List.getElem?_eq_getElem h]
  simp
theorem nn_get {L : List Int} (h : ∀ x ∈ L, 0 ≤ x) (k : Nat) : 0 ≤ L.getD k 0 := by
  by_cases hk : k < L.length
  · rw [List.getD_eq_getElem?_getD, List.getElem?_eq_getElem hk]; exact h _ (List.getElem_mem hk)
  · rw [List.getD_eq_getElem?_getD, List.getElem?_eq_none (by omega)]; simp
section
variable {n : Nat} {M : Int} {r s : List Int}
/-- the first of the greatest leads: who gives a minute -/
theorem one_on (h : TR n M r s) (hr : ∀ x ∈ r, 0 ≤ x) (hs : ∀ x ∈ s, 0 ≤ x) (m0 : 0 ≤ M) : ∃ j, j < n ∧ (leadsL 0 r s).getD j 0 = M ∧ (∀ k, k < j → (leadsL 0 r s).getD k 0 < M) ∧ (1 ≤ M ↔ r.getD j 0 ≠ 0) ∧ (1 ≤ M → lft M 1 r s = r.set j (r.getD j 0 - 1) ∧ nxt M 1 r s = s.set j (s.getD j 0 + 1)) := by
  obtain ⟨hm, hx⟩ := foldMax_iff.mp h.mx
  have n1 := h.leads_ne
  have ll : (leadsL 0 r s).length = n := by rw [leadsL_len, h.lr, h.ls]; omega
  obtain ⟨j, h1, h2, h3⟩ := first_max hm hx
  rw [ll] at h1
  have la := fun k (hk : k < n) => lead_at r s 0 k (by rw [h.lr]; exact hk) (by rw [h.lr, h.ls])
  have g0 := nn_get hr j
  refine ⟨j, h1, h2, h3, ?_, fun _ => ?_⟩
  · cases j with
    | zero =>
      have q := la 0 h1
      rw [h2, take_succ_sum (by rw [h.lr]; exact h1)] at q
      simp only [List.take_zero, List.sum_nil] at q
      omega
    | succ j =>
      have q1 := la (j + 1) h1
      have q2 := la j (by omega)
      have q3 := h3 j (by omega)
      have q4 := h3 0 (by omega)
      have q5 := la 0 (by omega)
      rw [take_succ_sum (by rw [h.lr]; omega)] at q5
      simp only [List.take_zero, List.sum_nil] at q5
      rw [h2, take_succ_sum (by rw [h.lr]; exact h1), take_succ_sum (L := s) (by rw [h.ls]; omega)] at q1
      have := nn_get hs j
      have := nn_get hr 0
      omega
  · have u := on_first (leadsL 0 r s) j hx (by omega) h2 h3
    have gl : (onL (M - 1) (leadsL 0 r s)).length = n := by rw [onL_len, ll]
    unfold lft nxt
    simp only [show (0 : Int) ≤ 1 by omega, if_true]
    exact ⟨sub_unit h.lr gl u, add_unit h.ls gl u⟩
end
/-! ### the worths of halls that are alike -/
end Pl
end
section
set_option Elab.async false
set_option linter.all false
set_option maxRecDepth 100000
set_option maxHeartbeats 2000000
/-! the law's own move of a minute, what is alike: evaluated -/
namespace Pl
open PySem PySem.Spec L2 Lf Cp Cz
end Pl
end
section
set_option Elab.async false
set_option linter.all false
set_option maxRecDepth 100000
set_option maxHeartbeats 2000000
/-! what is alike, moves that can't be done -/
namespace Pl
open PySem PySem.Spec L2 Lf Cp Cy
section
variable {A B : List (List Int)} {r s : List Int} {c m n : Nat} {wide M : Int}
/-- more than can be moved -/
theorem moved_none {k : Int} (h : HOk m n wide (A ++ r :: s :: B)) (hc : A.length = c) (hM : foldMax (leadsL 0 r s) = some M) (h1 : M < k ∨ M + s.sum - r.sum < -k) : Cm.f_moved [.d (hallP (A ++ r :: s :: B)), I c, I k] = .ok (.d .none, [.hole, .hole, .hole]) := by
  have hl := h.len
  have hr := (h.rows r (by simp)).1
  have hn8 := h.n8
  have e1 := check_neighbours h (c := c) (by simp at hl; omega)
  have e2 := most_moves (by omega) hM
  have b : Cm.D_moved [.v (.d (hallP (A ++ r :: s :: B))), .v (I c), .v (I k), .un, .un] = .ok (.rt (.d .none), [.v (.d (hallP (A ++ r :: s :: B))), .v (I c), .v (I k), .v (I M), .v (I (M + s.sum - r.sum))]) := by
    refine Ev.sq (Ev.ex (Ev.cl (Ev.cons_ (Ev.var rfl) (Ev.cons_ (Ev.var rfl) Ev.nil_)) rfl rfl e1)) ?_
    refine Ev.sq (Ev.difN (Ev.tv (b := false) (Ev.tyNot (T := "int") (t := "int") (Ev.var rfl) rfl)) Ev.nx_) ?_
    refine Ev.sq (e1 := [.v (.d (hallP (A ++ r :: s :: B))), .v (I c), .v (I k), .v (I M), .v (I (M + s.sum - r.sum))]) (Ev.asg (Ev.cl (Ev.cons_ (Ev.ix (Ev.var rfl) (Ev.var rfl) (Ev.ixVt (at_c hc))) (Ev.cons_ (Ev.ix (Ev.var rfl) (Ev.op2 (Ev.var rfl) Ev.d_ rfl rfl rfl) (Ev.ixVt (at_c1 hc))) Ev.nil_)) rfl rfl e2) rfl rfl) ?_
    refine Ev.sqR (Ev.difY ?_ (Ev.rt Ev.d_))
    by_cases q : M < k
    · exact Ev.orY (Ev.tv (Ev.op2 (Ev.var rfl) (Ev.var rfl) rfl rfl (gt_yes q)))
    · exact Ev.orN (Ev.tv (Ev.op2 (Ev.var rfl) (Ev.var rfl) rfl rfl (gt_no (by omega)))) (Ev.tv (Ev.op2 (Ev.neg (Ev.var rfl)) (Ev.var rfl) rfl rfl (gt_yes (by omega))))
  exact fn_ok (fl := [false, false, false]) (k := 2) (B := Cm.D_moved) (os := [.d (hallP (A ++ r :: s :: B)), I c, I k]) rfl b rfl
end
end Pl
end
section
set_option Elab.async false
set_option linter.all false
set_option maxRecDepth 100000
set_option maxHeartbeats 2000000
/-! dicts asked by a tuple that is data; range with a step of -1 -/
namespace Lf
open PySem PySem.Spec L2
/-! range(i, j, -1) -/
end Lf
end
section
set_option Elab.async false
set_option linter.all false
set_option maxRecDepth 100000
set_option maxHeartbeats 2000000
/-! a call whose last argument is a name that is lent -/
namespace Lf
open PySem PySem.Spec L2
end Lf
end
section
set_option Elab.async false
set_option linter.all false
set_option maxRecDepth 100000
namespace Lf
open PySem PySem.Spec L2 PyProof PyProof.Rows
/-! ### enumerate of a list or a tuple -/
/-! ### x[j][k] = e, x a name's own list of own lists -/
end Lf
end
section
set_option Elab.async false
set_option linter.all false
set_option maxRecDepth 100000
set_option maxHeartbeats 2000000
namespace Cq
open PySem PySem.Spec L2 Lf
def D__law_bag : DS := (dRt (eLst (aCons (eCb fMax2 (aCons (eD (.int 0)) (aCons (eOp2 fSub (eVar 0) (eOp2 fPow (eD (.int 10)) (eD (.int 18)))) aNil))) (aCons (eOp2 fAdd (eOp2 fMod (eVar 0) (eD (.int 162259276829213363391578010288127))) (eOp2 fMul (eD (.int 7919)) (eOp2 fAdd (eVar 1) (eD (.int 1))))) (aCons (eD (.int 0)) aNil)))))
def f__law_bag : DF := dFn [false, false] 0 D__law_bag
def D__law_take : DS := (dSq (dIf (tV (eOp2 fGt (eIxS 0 (eD (.int 0))) (eD (.int 1)))) (dSq (dSet 2 (eOp2 fMod (eIxS 0 (eD (.int 0))) (eVar 1))) (dSq (dStI 0 (eOp2 fDiv (eIxS 0 (eD (.int 0))) (eVar 1)) (eD (.int 0))) (dRt (eMov 2)))) dNx) (dSq (dStI 0 (eOp2 fAdd (eIxS 0 (eD (.int 2))) (eD (.int 1))) (eD (.int 2))) (dSq (dSet 3 (eOp2 fMod (eOp2 fPow (eOp2 fAdd (eIxS 0 (eD (.int 1))) (eOp2 fMul (eD (.int 1299709)) (eIxS 0 (eD (.int 2))))) (eD (.int 3))) (eD (.int 162259276829213363391578010288127)))) (dSq (dSet 3 (eOp2 fMod (eOp2 fPow (eOp2 fAdd (eVar 3) (eOp2 fMul (eD (.int 15485863)) (eIxS 0 (eD (.int 2))))) (eD (.int 5))) (eD (.int 618970019642690137449562111)))) (dRt (eOp2 fMod (eOp2 fDiv (eVar 3) (eD (.int 1048576))) (eVar 1)))))))
def f__law_take : DF := dFn [true, false] 2 D__law_take
def D__law_minutes : DS := (dSq (dSet 2 (eClB 2 f__law_take 0 (aCons (eD (.int 5)) aNil))) (dRt (eIx (eLst (aCons (eD (.int 0)) (aCons (eD (.int 0)) (aCons (eClB 2 f__law_take 0 (aCons (eD (.int 4)) aNil)) (aCons (eClB 2 f__law_take 0 (aCons (eD (.int 10)) aNil)) (aCons (eClB 2 f__law_take 0 (aCons (eOp2 fAdd (eVar 1) (eD (.int 1))) aNil)) aNil)))))) (eVar 2))))
def f__law_minutes : DF := dFn [true, false] 1 D__law_minutes
def D__law_hall : DS := (dSq (dSet 3 (eIx (eLst (aCons (eD (.int 3)) (aCons (eD (.int 9)) (aCons (eOp2 fPow (eD (.int 10)) (eD (.int 11))) aNil)))) (eOp2 fDiv (eClB 2 f__law_take 0 (aCons (eD (.int 5)) aNil)) (eD (.int 2))))) (dRt (eTp (eLc [4] (iR1 (aCons (eVar 1) aNil)) (gNm 4) tYs (eTp (eLc [5] (iR1 (aCons (eVar 2) aNil)) (gNm 5) tYs (eClB 2 f__law_minutes 0 (aCons (eVar 3) aNil))))))))
def f__law_hall : DF := dFn [true, false, false] 3 D__law_hall
end Cq
end
section
set_option Elab.async false
set_option linter.all false
set_option maxRecDepth 100000
set_option maxHeartbeats 2000000
namespace Cj
open PySem PySem.Spec L2 Lf
def D_settling : DS := (dSq (dSet 1 (eVar 0)) (dSq (dSet 2 (eLst aNil)) (dSq (dFor (iR2 (aCons (eD (.int 1)) (aCons (eLen (eVar 0)) aNil))) (gNm 3) (dFor (iRev1 (eVar 3)) (gNm 4) (dSq (dAsg (gTp [5, 6]) (eCl 2 Cm.f_most_moves (aCons (eIx (eVar 1) (eVar 4)) (aCons (eIx (eVar 1) (eOp2 fAdd (eVar 4) (eD (.int 1)))) aNil)))) (dIf (tV (eOp2 fGt (eVar 6) (eD (.int 0)))) (dSq (dSet 1 (eCl 3 Cm.f_carried (aCons (eVar 1) (aCons (eVar 4) (aCons (eNeg (eVar 6)) aNil))))) (dEx (eApp 2 (eTup (aCons (eVar 4) (aCons (eNeg (eVar 6)) aNil)))))) dNx)))) (dRt (eTup (aCons (eVar 1) (aCons (eVar 2) aNil)))))))
def f_settling : DF := dFn [false] 6 D_settling
def D_to_first : DS := (dSq (dEx (eCl 1 Cp.f_check_hall (aCons (eVar 0) aNil))) (dRt (eIx (eCl 1 f_settling (aCons (eVar 0) aNil)) (eD (.int 0)))))
def f_to_first : DF := dFn [false] 0 D_to_first
end Cj
end
section
set_option Elab.async false
set_option linter.all false
set_option maxRecDepth 100000
set_option maxHeartbeats 2000000
/-! the fourth bag: take, minutes, hall; what is alike -/
namespace Pl
open PySem PySem.Spec L2 Lf Cp Cq
/-- a third bag -/
def QOk (t : Int) (o : OT) : Prop := ∃ a b c, o = W a b c ∧ 0 ≤ a ∧ (0 ≤ b ∧ b < 10 ^ 40) ∧ 0 ≤ c ∧ c ≤ t
theorem QOk.mono {t u : Int} {o : OT} (h : QOk t o) (hu : t ≤ u) : QOk u o := by
  obtain ⟨a, b, c, e, h1, h2, h3, h4⟩ := h
  exact ⟨a, b, c, e, h1, h2, h3, by omega⟩
theorem QOk.noFr {t : Int} {o : OT} (h : QOk t o) : noFr o = true := by
  obtain ⟨a, b, c, rfl, _⟩ := h
  rfl
end Pl
end
section
set_option Elab.async false
set_option linter.all false
set_option maxRecDepth 100000
set_option maxHeartbeats 1000000
/-! moves between counters and moves between customers go past one another. Mathematics only: tables of whole numbers. -/
namespace Dc
abbrev Mat := Nat → Nat → Int
def ps (f : Nat → Int) : Nat → Int
  | 0 => 0
  | c + 1 => ps f c + f c
/-- the lead of customer c from counter i on the next -/
def ld (M : Mat) (i c : Nat) : Int := ps (M i) (c + 1) - ps (M (i + 1)) c
def tr (M : Mat) : Mat := fun p q => M q p
/-- c is the first of the greatest -/
structure FA (n : Nat) (L : Nat → Int) (c : Nat) : Prop where
  lt : c < n
  le : ∀ j, j < n → L j ≤ L c
  fst : ∀ j, j < c → L j < L c
/-- one minute of customer c from counter i to the next -/
def dl (i c p q : Nat) : Int := if q = c then (if p = i then -1 else if p = i + 1 then 1 else 0) else 0
def mvd (M : Mat) (i c : Nat) : Mat := fun p q => M p q + dl i c p q
def mvc (M : Mat) (k h : Nat) : Mat := fun p q => M p q + dl k h q p
theorem ps_add (f g : Nat → Int) : ∀ t, ps (fun q => f q + g q) t = ps f t + ps g t
  | 0 => rfl
  | t + 1 => by simp only [ps, ps_add f g t]; omega
theorem ps_one (c : Nat) (v : Int) : ∀ t, ps (fun q => if q = c then v else 0) t = if c < t then v else 0
  | 0 => rfl
  | t + 1 => by
    simp only [ps, ps_one c v t]
    by_cases h : t = c
    · subst h; simp
    · rw [if_neg h]
      by_cases g : c < t
      · rw [if_pos g, if_pos (by omega)]; omega
      · rw [if_neg g, if_neg (by omega)]; omega
theorem ps_zero : ∀ t, ps (fun _ => 0) t = 0
  | 0 => rfl
  | t + 1 => by simp only [ps, ps_zero t]; rfl
theorem ps_dl (i c p t : Nat) : ps (dl i c p) t = if c < t then (if p = i then -1 else if p = i + 1 then 1 else 0) else 0 := by
  have e : dl i c p = fun q => if q = c then (if p = i then (-1 : Int) else if p = i + 1 then 1 else 0) else 0 := rfl
  rw [e, ps_one]
theorem ps_dc (k h p t : Nat) : ps (fun q => dl k h q p) t = if p = h then (if k + 1 < t then 0 else if k < t then -1 else 0) else 0 := by
  by_cases g : p = h
  · rw [if_pos g]
    have e : (fun q => dl k h q p) = fun q => (if q = k then (-1 : Int) else 0) + (if q = k + 1 then 1 else 0) := by
      funext q
      unfold dl
      rw [if_pos g]
      by_cases z : q = k
      · rw [if_pos z, if_pos z, if_neg (by omega)]; rfl
      · rw [if_neg z, if_neg z]; omega
    rw [e, ps_add, ps_one, ps_one]
    by_cases z : k + 1 < t
    · rw [if_pos z, if_pos z, if_pos (by omega)]; rfl
    · rw [if_neg z, if_neg z]; omega
  · rw [if_neg g]
    have e : (fun q => dl k h q p) = fun _ => (0 : Int) := by funext q; unfold dl; rw [if_neg g]
    rw [e, ps_zero]
theorem ld_mvc (M : Mat) (k h i c : Nat) : ld (mvc M k h) i c = ld M i c + (if h = i ∧ c = k then -1 else if h = i + 1 ∧ c = k + 1 then 1 else 0) := by
  have e : ∀ p t, ps (mvc M k h p) t = ps (M p) t + ps (fun q => dl k h q p) t := fun p t => ps_add _ _ t
  unfold ld
  rw [e, e, ps_dc, ps_dc]
  (repeat' split) <;> omega
theorem ld_cl (M : Mat) (i k : Nat) : ld M i (k + 1) - ld M i k = ld (tr M) k i - ld (tr M) k (i + 1) := by
  have a : ld M i (k + 1) - ld M i k = M i (k + 1) - M (i + 1) k := by simp only [ld, ps]; omega
  have b : ld (tr M) k (i + 1) - ld (tr M) k i = M (i + 1) k - M i (k + 1) := by simp only [ld, ps, tr]; omega
  omega
/-- one move on between counters i and i + 1 -/
def Fs (n i : Nat) (M M' : Mat) : Prop := ∃ c, FA n (ld M i) c ∧ 1 ≤ ld M i c ∧ M' = mvd M i c
def Gs (m k : Nat) (M M' : Mat) : Prop := ∃ h, FA m (ld (tr M) k) h ∧ 1 ≤ ld (tr M) k h ∧ M' = mvc M k h
theorem Gs_tr {m k : Nat} {M M' : Mat} : Gs m k M M' ↔ Fs m k (tr M) (tr M') := by
  constructor
  · rintro ⟨h, a, b, rfl⟩; exact ⟨h, a, b, rfl⟩
  · rintro ⟨h, a, b, e⟩
    exact ⟨h, a, b, by have := congrArg tr e; exact this⟩
theorem FA.one_only {n : Nat} {L : Nat → Int} {c d : Nat} (h : FA n L c) (k : FA n L d) : c = d := by
  rcases Nat.lt_trichotomy c d with z | z | z
  · have := k.fst c z; have := h.le d k.lt; omega
  · exact z
  · have := h.fst d z; have := k.le c h.lt; omega
theorem Fs.one_only {n i : Nat} {M A B : Mat} (h : Fs n i M A) (k : Fs n i M B) : A = B := by
  obtain ⟨c, a, _, rfl⟩ := h
  obtain ⟨d, b, _, rfl⟩ := k
  rw [a.one_only b]
/-- where the first of the greatest leads is behind a move between customers -/
theorem fa_past {m n i k c h : Nat} {M : Mat} (hi : i + 1 < m) (hk : k + 1 < n) (a : FA n (ld M i) c) (b : FA m (ld (tr M) k) h) :
    FA n (ld (mvc M k h) i) (if h = i ∧ c = k then k + 1 else c) ∧ ld (mvc M k h) i (if h = i ∧ c = k then k + 1 else c) = ld M i c := by
  have key := ld_cl M i k
  have q : ∀ j, ld (mvc M k h) i j = ld M i j + (if h = i ∧ j = k then -1 else if h = i + 1 ∧ j = k + 1 then 1 else 0) := fun j => ld_mvc M k h i j
  by_cases z : h = i ∧ c = k
  · obtain ⟨rfl, rfl⟩ := z
    rw [if_pos ⟨rfl, rfl⟩]
    have b1 := b.le (h + 1) hi
    have a1 := a.le (c + 1) hk
    have e : ld (mvc M c h) h (c + 1) = ld M h c := by rw [q, if_neg (by omega), if_neg (by omega)]; omega
    refine ⟨⟨hk, fun j hj => ?_, fun j hj => ?_⟩, e⟩
    · rw [e, q j]
      have := a.le j hj
      split
      · omega
      · rw [if_neg (by omega)]; omega
    · rw [e, q j]
      by_cases y : j = c
      · rw [if_pos ⟨rfl, y⟩, y]; omega
      · rw [if_neg (by omega), if_neg (by omega)]
        have := a.fst j (by omega)
        omega
  · rw [if_neg z]
    by_cases z1 : h = i
    · subst z1
      have e : ld (mvc M k h) h c = ld M h c := by rw [q, if_neg z, if_neg (by omega)]; omega
      refine ⟨⟨a.lt, fun j hj => ?_, fun j hj => ?_⟩, e⟩
      · rw [e, q j]
        have := a.le j hj
        split
        · omega
        · rw [if_neg (by omega)]; omega
      · rw [e, q j]
        have := a.fst j hj
        split
        · omega
        · rw [if_neg (by omega)]; omega
    · by_cases z2 : h = i + 1
      · subst z2
        have b1 := b.fst i (by omega)
        have ck : c ≠ k + 1 := fun y => by
          have := a.fst k (by omega)
          rw [y] at this
          omega
        have e : ld (mvc M k (i + 1)) i c = ld M i c := by rw [q, if_neg (by omega), if_neg (by omega)]; omega
        have a2 := a.le k (by omega)
        refine ⟨⟨a.lt, fun j hj => ?_, fun j hj => ?_⟩, e⟩
        · rw [e, q j, if_neg (by omega)]
          have := a.le j hj
          by_cases y : j = k + 1
          · rw [if_pos ⟨rfl, y⟩, y]; omega
          · rw [if_neg (by omega)]; omega
        · rw [e, q j, if_neg (by omega)]
          have := a.fst j hj
          by_cases y : j = k + 1
          · rw [if_pos ⟨rfl, y⟩, y]
            have := a.fst k (by omega)
            omega
          · rw [if_neg (by omega)]; omega
      · have e : ∀ j, ld (mvc M k h) i j = ld M i j := fun j => by rw [q, if_neg (by omega), if_neg (by omega)]; omega
        refine ⟨⟨a.lt, fun j hj => ?_, fun j hj => ?_⟩, e c⟩
        · rw [e, e]; exact a.le j hj
        · rw [e, e]; exact a.fst j hj
/-- moves between counters and between customers go past one another -/
theorem past {m n i k : Nat} {M A B : Mat} (hi : i + 1 < m) (hk : k + 1 < n) (f : Fs n i M A) (g : Gs m k M B) : ∃ C, Gs m k A C ∧ Fs n i B C := by
  obtain ⟨c, fa, f1, rfl⟩ := f
  obtain ⟨h, ga, g1, rfl⟩ := g
  obtain ⟨u1, u2⟩ := fa_past hi hk fa ga
  have v := fa_past (M := tr M) (m := n) (n := m) (i := k) (k := i) (c := h) (h := c) hk hi ga fa
  obtain ⟨v1, v2⟩ := v
  have ev : mvc (tr M) i c = tr (mvd M i c) := rfl
  rw [ev] at v1 v2
  refine ⟨mvd (mvc M k h) i (if h = i ∧ c = k then k + 1 else c), ⟨(if c = k ∧ h = i then i + 1 else h), v1, by rw [v2]; exact g1, ?_⟩, ⟨_, u1, by rw [u2]; exact f1, rfl⟩⟩
  funext p q
  by_cases z : h = i ∧ c = k
  · obtain ⟨rfl, rfl⟩ := z
    rw [if_pos ⟨rfl, rfl⟩, if_pos ⟨rfl, rfl⟩]
    show M p q + dl c h q p + dl h (c + 1) p q = M p q + dl h c p q + dl c (h + 1) q p
    have : dl c h q p + dl h (c + 1) p q = dl h c p q + dl c (h + 1) q p := by
      unfold dl
      by_cases p1 : p = h
      · subst p1
        by_cases q1 : q = c
        · subst q1; simp
        · by_cases q2 : q = c + 1
          · subst q2; simp
          · simp [q1, q2]
      · by_cases p2 : p = h + 1
        · subst p2
          by_cases q1 : q = c
          · subst q1; simp
          · by_cases q2 : q = c + 1
            · subst q2; simp
            · simp [q1, q2]
        · simp [p1, p2]
    omega
  · rw [if_neg z, if_neg (fun y => z ⟨y.2, y.1⟩)]
    show M p q + dl k h q p + dl i c p q = M p q + dl i c p q + dl k h q p
    omega
end Dc
end
section
set_option Elab.async false
set_option linter.all false
set_option maxRecDepth 100000
set_option maxHeartbeats 1000000
namespace Dc
structure Ok (m n : Nat) (M : Mat) : Prop where
  nn : ∀ p q, 0 ≤ M p q
  out : ∀ p q, ¬ (p < m ∧ q < n) → M p q = 0
theorem Ok.tr {m n : Nat} {M : Mat} (h : Ok m n M) : Ok n m (tr M) := ⟨fun p q => h.nn q p, fun p q z => h.out q p fun y => z ⟨y.2, y.1⟩⟩
theorem fa_ex (L : Nat → Int) : ∀ n, 0 < n → ∃ c, FA n L c
  | 0, h => by omega
  | 1, _ => ⟨0, by omega, fun j hj => by have : j = 0 := by omega
                                         subst this; omega, fun j hj => by omega⟩
  | n + 2, _ => by
    obtain ⟨c, h⟩ := fa_ex L (n + 1) (by omega)
    by_cases z : L (n + 1) ≤ L c
    · exact ⟨c, by have := h.lt; omega, fun j hj => by
        by_cases y : j = n + 1
        · rw [y]; exact z
        · exact h.le j (by omega), h.fst⟩
    · exact ⟨n + 1, by omega, fun j hj => by
        by_cases y : j = n + 1
        · rw [y]; omega
        · have := h.le j (by omega); omega, fun j hj => by have := h.le j hj; omega⟩
section
variable {m n i k : Nat} {M A B A' B' : Mat}
theorem Fs.ok (h : Ok m n M) (hi : i + 1 < m) (f : Fs n i M A) : Ok m n A := by
  obtain ⟨c, a, f1, rfl⟩ := f
  have hc : 1 ≤ M i c := by
    by_cases z : c = 0
    · subst z
      have : ld M i 0 = M i 0 := by simp only [ld, ps]; omega
      omega
    · have h1 := a.fst (c - 1) (by omega)
      have e : ld M i (c - 1 + 1) - ld M i (c - 1) = M i (c - 1 + 1) - M (i + 1) (c - 1) := by simp only [ld, ps]; omega
      rw [show c - 1 + 1 = c by omega] at e
      have := h.nn (i + 1) (c - 1)
      omega
  refine ⟨fun p q => ?_, fun p q z => ?_⟩
  · have := h.nn p q
    show 0 ≤ M p q + dl i c p q
    unfold dl
    split
    · rename_i y
      split
      · rename_i x; rw [x, y]; omega
      · split <;> omega
    · omega
  · have := h.out p q z
    show M p q + dl i c p q = 0
    unfold dl
    have := a.lt
    split
    · rw [if_neg (by omega), if_neg (by omega)]; omega
    · omega
theorem Gs.ok (h : Ok m n M) (hk : k + 1 < n) (g : Gs m k M A) : Ok m n A := by
  have := Fs.ok h.tr hk (Gs_tr.mp g)
  exact this.tr
theorem mixed (hi : i + 1 < m) (hk : k + 1 < n) (f : Fs n i A B) (g : Gs m k B B') : ∃ A', Gs m k A A' ∧ Fs n i A' B' := by
  obtain ⟨c, fa, f1, e⟩ := id f
  obtain ⟨h', ga, g1, e'⟩ := id g
  obtain ⟨h, ha⟩ := fa_ex (ld (tr A) k) m (by omega)
  obtain ⟨v1, v2⟩ := fa_past (M := tr A) (m := n) (n := m) (i := k) (k := i) (c := h) (h := c) hk hi ha fa
  have ev : mvc (tr A) i c = tr (mvd A i c) := rfl
  rw [ev, ← e] at v1 v2
  have eh := v1.one_only ga
  rw [eh] at v2
  have gA : Gs m k A (mvc A k h) := ⟨h, ha, by omega, rfl⟩
  obtain ⟨C, c1, c2⟩ := past hi hk f gA
  have : C = B' := by
    have a := Gs_tr.mp c1
    have b := Gs_tr.mp g
    have := a.one_only b
    exact congrArg tr this
  rw [this] at c2
  exact ⟨_, gA, c2⟩
/-- the first of the greatest is behind the move the last of them -/
theorem ld_mvd (M : Mat) (i c j : Nat) : ld (mvd M i c) i j = ld M i j - (if j < c then 0 else if j = c then 1 else 2) := by
  have e : ∀ p t, ps (mvd M i c p) t = ps (M p) t + ps (dl i c p) t := fun p t => ps_add _ _ t
  unfold ld
  rw [e, e, ps_dl, ps_dl]
  rw [if_pos rfl, if_neg (show ¬ i + 1 = i by omega), if_pos rfl]
  (repeat' split) <;> omega
theorem Fs.inj (f : Fs n i A M) (g : Fs n i B M) : A = B := by
  obtain ⟨c, a, a1, e⟩ := f
  obtain ⟨d, b, b1, e'⟩ := g
  have q1 : ∀ j, ld M i j = ld A i j - (if j < c then 0 else if j = c then 1 else 2) := fun j => by rw [e]; exact ld_mvd A i c j
  have q2 : ∀ j, ld M i j = ld B i j - (if j < d then 0 else if j = d then 1 else 2) := fun j => by rw [e']; exact ld_mvd B i d j
  have cd : c = d := by
    have x1 := q1 c
    have x2 := q1 d
    have y1 := q2 c
    have y2 := q2 d
    rw [if_neg (by omega), if_pos rfl] at x1 y2
    have a2 := a.le d b.lt
    have b2 := b.le c a.lt
    rcases Nat.lt_trichotomy c d with z | z | z
    · rw [if_neg (by omega), if_neg (by omega)] at x2
      rw [if_pos z] at y1
      have := b.fst c z
      omega
    · exact z
    · rw [if_pos z] at x2
      rw [if_neg (by omega), if_neg (by omega)] at y1
      have := a.fst d z
      omega
  subst cd
  rw [e] at e'
  funext p q
  have := congrFun (congrFun e' p) q
  simp only [mvd] at this
  omega
theorem Gs.inj (f : Gs m k A M) (g : Gs m k B M) : A = B := congrArg tr ((Gs_tr.mp f).inj (Gs_tr.mp g))
theorem Gs.one_only (f : Gs m k M A) (g : Gs m k M B) : A = B := congrArg tr ((Gs_tr.mp f).one_only (Gs_tr.mp g))
/-- no move back between i and i + 1 -/
def Set (n i : Nat) (M : Mat) : Prop := ∀ j, j < n → ld M i j ≤ ps (M i) n - ps (M (i + 1)) n
/-- no move on between customers k and k + 1 -/
def Con (m k : Nat) (M : Mat) : Prop := ∀ h, h < m → ld (tr M) k h ≤ 0
theorem row_mvc (hk : k + 1 < n) (h p : Nat) : ps (mvc M k h p) n = ps (M p) n := by
  have e : ps (mvc M k h p) n = ps (M p) n + ps (fun q => dl k h q p) n := ps_add _ _ n
  rw [e, ps_dc, if_pos hk]
  split <;> omega
theorem Set.past (hi : i + 1 < m) (hk : k + 1 < n) (g : Gs m k A B) : Set n i A ↔ Set n i B := by
  obtain ⟨h, ga, g1, rfl⟩ := g
  obtain ⟨c, ca⟩ := fa_ex (ld A i) n (by omega)
  obtain ⟨u1, u2⟩ := fa_past hi hk ca ga
  have d1 := row_mvc (M := A) hk h i
  have d2 := row_mvc (M := A) hk h (i + 1)
  unfold Set
  rw [d1, d2]
  constructor
  · intro z j hj
    have := u1.le j hj
    have := z c ca.lt
    omega
  · intro z j hj
    have := ca.le j hj
    have := z _ u1.lt
    omega
theorem Con.past (hi : i + 1 < m) (hk : k + 1 < n) (f : Fs n i A B) : Con m k A ↔ Con m k B := by
  obtain ⟨c, fa, f1, rfl⟩ := f
  obtain ⟨h, ha⟩ := fa_ex (ld (tr A) k) m (by omega)
  obtain ⟨v1, v2⟩ := fa_past (M := tr A) (m := n) (n := m) (i := k) (k := i) (c := h) (h := c) hk hi ha fa
  have ev : mvc (tr A) i c = tr (mvd A i c) := rfl
  rw [ev] at v1 v2
  unfold Con
  constructor
  · intro z j hj
    have := v1.le j hj
    have := z h ha.lt
    omega
  · intro z j hj
    have := ha.le j hj
    have := z _ v1.lt
    omega
/-! ### many moves -/
/-- t moves on between i and i + 1 -/
inductive Fp (n i : Nat) : Nat → Mat → Mat → Prop
  | nil {A : Mat} : Fp n i 0 A A
  | cons {t : Nat} {A B C : Mat} : Fs n i A B → Fp n i t B C → Fp n i (t + 1) A C
/-- moves on between customers, by their numbers -/
inductive Gq (m : Nat) : List Nat → Mat → Mat → Prop
  | nil {A : Mat} : Gq m [] A A
  | cons {k : Nat} {ks : List Nat} {A B C : Mat} : Gs m k A B → Gq m ks B C → Gq m (k :: ks) A C
theorem Gq.inj {ks : List Nat} (f : Gq m ks A M) : ∀ {B}, Gq m ks B M → A = B := by
  induction f with
  | nil => intro B g; cases g; rfl
  | cons f1 f2 ih =>
    intro B g
    cases g with
    | cons g1 g2 =>
      have := ih g2
      subst this
      exact f1.inj g1
theorem Gq.one_only {ks : List Nat} (f : Gq m ks M A) : ∀ {B}, Gq m ks M B → A = B := by
  induction f with
  | nil => intro B g; cases g; rfl
  | cons f1 f2 ih =>
    intro B g
    cases g with
    | cons g1 g2 =>
      have := f1.one_only g1
      subst this
      exact ih g2
theorem gq_fs {ks : List Nat} (hi : i + 1 < m) (hk : ∀ k ∈ ks, k + 1 < n) (g : Gq m ks B B') : ∀ {A}, Fs n i A B → ∃ A', Gq m ks A A' ∧ Fs n i A' B' := by
  induction g with
  | nil => intro A f; exact ⟨A, .nil, f⟩
  | cons g1 g2 ih =>
    intro A f
    simp only [List.forall_mem_cons] at hk
    obtain ⟨C, c1, c2⟩ := mixed hi hk.1 f g1
    obtain ⟨A', b1, b2⟩ := ih hk.2 c2
    exact ⟨A', .cons c1 b1, b2⟩
theorem gq_fp {ks : List Nat} {t : Nat} (hi : i + 1 < m) (hk : ∀ k ∈ ks, k + 1 < n) (f : Fp n i t A B) : ∀ {B'}, Gq m ks B B' → ∃ A', Gq m ks A A' ∧ Fp n i t A' B' := by
  induction f with
  | nil => intro B' g; exact ⟨B', g, .nil⟩
  | cons f1 f2 ih =>
    intro B' g
    obtain ⟨C, c1, c2⟩ := ih g
    obtain ⟨A', b1, b2⟩ := gq_fs hi hk c1 f1
    exact ⟨A', b1, .cons b2 c2⟩
theorem Set.gq {ks : List Nat} (hi : i + 1 < m) (hk : ∀ k ∈ ks, k + 1 < n) (g : Gq m ks A B) : Set n i A ↔ Set n i B := by
  induction g with
  | nil => exact Iff.rfl
  | cons g1 g2 ih =>
    simp only [List.forall_mem_cons] at hk
    exact (Set.past hi hk.1 g1).trans (ih hk.2)
theorem Con.fp {t : Nat} (hi : i + 1 < m) (hk : k + 1 < n) (f : Fp n i t A B) : Con m k A ↔ Con m k B := by
  induction f with
  | nil => exact Iff.rfl
  | cons f1 f2 ih => exact (Con.past hi hk f1).trans ih
theorem Gq.ok {ks : List Nat} (hk : ∀ k ∈ ks, k + 1 < n) (g : Gq m ks A B) : Ok m n A → Ok m n B := by
  induction g with
  | nil => exact id
  | cons g1 g2 ih =>
    simp only [List.forall_mem_cons] at hk
    exact fun h => ih hk.2 (Gs.ok h hk.1 g1)
theorem Fp.ok {t : Nat} (hi : i + 1 < m) (f : Fp n i t A B) : Ok m n A → Ok m n B := by
  induction f with
  | nil => exact id
  | cons f1 f2 ih => exact fun h => ih (Fs.ok h hi f1)
/-! ### all moves on between customers come to an end -/
def wt (n m : Nat) (M : Mat) : Int := ps (fun p => ps (fun q => ((n : Int) - q) * M p q) n) m
theorem ps_nn {f : Nat → Int} : ∀ {t : Nat}, (∀ q, q < t → 0 ≤ f q) → 0 ≤ ps f t
  | 0, _ => by simp [ps]
  | t + 1, h => by
    have := ps_nn (f := f) (t := t) fun q hq => h q (by omega)
    have := h t (by omega)
    simp only [ps]; omega
theorem wt_nn (h : Ok m n M) : 0 ≤ wt n m M := ps_nn fun p _ => ps_nn fun q hq => Int.mul_nonneg (by omega) (h.nn p q)
theorem wt_mvc {h : Nat} (hk : k + 1 < n) (hh : h < m) : wt n m (mvc M k h) = wt n m M - 1 := by
  have e : ∀ p, ps (fun q => ((n : Int) - q) * mvc M k h p q) n = ps (fun q => ((n : Int) - q) * M p q) n + (if p = h then -1 else 0) := fun p => by
    have e1 : (fun q : Nat => ((n : Int) - q) * mvc M k h p q) = fun q => ((n : Int) - q) * M p q + ((n : Int) - q) * dl k h q p := by
      funext q; exact Int.mul_add ..
    rw [e1, ps_add]
    congr 1
    by_cases z : p = h
    · rw [if_pos z]
      have e2 : (fun q : Nat => ((n : Int) - q) * dl k h q p) = fun q => (if q = k then (-((n : Int) - k)) else 0) + (if q = k + 1 then ((n : Int) - (k + 1)) else 0) := by
        funext q
        unfold dl
        rw [if_pos z]
        by_cases y : q = k
        · subst y; rw [if_pos rfl, if_pos rfl, if_neg (by omega)]; omega
        · rw [if_neg y, if_neg y]
          by_cases x : q = k + 1
          · subst x; rw [if_pos rfl, if_pos rfl]; push_cast; omega
          · rw [if_neg x, if_neg x]; omega
      rw [e2, ps_add, ps_one, ps_one, if_pos (by omega), if_pos hk]
      omega
    · rw [if_neg z]
      have e2 : (fun q : Nat => ((n : Int) - q) * dl k h q p) = fun _ => (0 : Int) := by
        funext q; unfold dl; rw [if_neg z, Int.mul_zero]
      rw [e2, ps_zero]
  unfold wt
  have e2 : (fun p => ps (fun q => ((n : Int) - q) * mvc M k h p q) n) = fun p => ps (fun q => ((n : Int) - q) * M p q) n + (if p = h then -1 else 0) := by funext p; exact e p
  rw [e2, ps_add, ps_one, if_pos hh]
  omega
theorem all_on (hm : 0 < m) : ∀ (s : Nat) (M : Mat), Ok m n M → wt n m M ≤ s → ∃ ks M', (∀ k ∈ ks, k + 1 < n) ∧ Gq m ks M M' ∧ Ok m n M' ∧ ∀ k, k + 1 < n → Con m k M'
  | s, M, h, hs => by
    by_cases z : ∀ k, k + 1 < n → Con m k M
    · exact ⟨[], M, by simp, .nil, h, z⟩
    · simp only [Classical.not_forall] at z
      obtain ⟨k, hk, z⟩ := z
      obtain ⟨c, hc⟩ := fa_ex (ld (tr M) k) m hm
      have c1 : 1 ≤ ld (tr M) k c := by
        by_cases y : 1 ≤ ld (tr M) k c
        · exact y
        · exact absurd (fun j hj => by have := hc.le j hj; omega) z
      have g : Gs m k M (mvc M k c) := ⟨c, hc, c1, rfl⟩
      have h' := Gs.ok h hk g
      have w := wt_mvc (M := M) hk hc.lt
      have w0 := wt_nn h'
      cases s with
      | zero => omega
      | succ s =>
        obtain ⟨ks, M', a, b, c, d⟩ := all_on hm s _ h' (by omega)
        exact ⟨k :: ks, M', by simp only [List.forall_mem_cons]; exact ⟨hk, a⟩, .cons g b, c, d⟩
end
end Dc
end
section
set_option Elab.async false
set_option linter.all false
set_option maxRecDepth 100000
set_option maxHeartbeats 1000000
namespace Dc
theorem ps_mono {f : Nat → Int} (h : ∀ q, 0 ≤ f q) {a : Nat} : ∀ {b : Nat}, a ≤ b → ps f a ≤ ps f b
  | 0, z => by have : a = 0 := by omega
               subst this; omega
  | b + 1, z => by
    by_cases y : a = b + 1
    · subst y; omega
    · have := ps_mono h (a := a) (b := b) (by omega)
      have := h b
      simp only [ps]; omega
theorem ps_flat {f : Nat → Int} {a : Nat} : ∀ {b : Nat}, a ≤ b → (∀ q, a ≤ q → q < b → f q = 0) → ps f b = ps f a
  | 0, z, _ => by have : a = 0 := by omega
                  subst this; rfl
  | b + 1, z, h => by
    by_cases y : a = b + 1
    · subst y; rfl
    · have := ps_flat (f := f) (a := a) (b := b) (by omega) fun q h1 h2 => h q h1 (by omega)
      have := h b (by omega) (by omega)
      simp only [ps]; omega
theorem ps_only {f : Nat → Int} {p0 : Nat} (h : ∀ p, p ≠ p0 → f p = 0) (t : Nat) : ps f t = if p0 < t then f p0 else 0 := by
  have e : f = fun p => if p = p0 then f p0 else 0 := by
    funext p
    by_cases z : p = p0
    · rw [if_pos z, z]
    · rw [if_neg z]; exact h p z
  rw [e, ps_one]
  simp
section
variable {m n i k : Nat} {M A B C N R S : Mat}
/-- settled between all counters, gone on between all customers: one diagonal -/
theorem anti (h : Ok m n M) (hs : ∀ i, i + 1 < m → Set n i M) (hc : ∀ k, k + 1 < n → Con m k M) : ∀ (s p : Nat), p < s → ∀ q, p + q + 1 ≠ n → M p q = 0
  | 0, p, z, _, _ => by omega
  | s + 1, p, z, q, hq => by
    have ih := anti h hs hc s
    by_cases out : p < m ∧ q < n
    · by_cases y : p + q + 1 < n
      · have c := hc q (by omega) p out.1
        have r : ps (tr M (q + 1)) p = ps (tr M (q + 1)) 0 := ps_flat (by omega) fun p' _ h2 => ih p' (by omega) (q + 1) (by omega)
        have l : 0 ≤ ps (tr M q) p := ps_nn fun p' _ => h.nn p' q
        have l2 : ps (tr M q) (p + 1) = ps (tr M q) p + M p q := rfl
        have z0 : ps (tr M (q + 1)) 0 = 0 := rfl
        have := h.nn p q
        unfold ld at c
        omega
      · have y2 : n < p + q + 1 := by omega
        obtain ⟨i, rfl⟩ : ∃ i, p = i + 1 := ⟨p - 1, by omega⟩
        have c := hs i out.1 q out.2
        have r : ps (M i) n = ps (M i) (q + 1) := ps_flat (by omega) fun q' h1 h2 => ih i (by omega) q' (by omega)
        have l := ps_mono (f := M (i + 1)) (fun q => h.nn (i + 1) q) (a := q + 1) (b := n) (by omega)
        have l2 : ps (M (i + 1)) (q + 1) = ps (M (i + 1)) q + M (i + 1) q := rfl
        have := h.nn (i + 1) q
        unfold ld at c
        omega
    · exact h.out p q out
theorem anti_same (hM : Ok m n M) (hN : Ok m n N) (h1 : ∀ p q, p + q + 1 ≠ n → M p q = 0) (h2 : ∀ p q, p + q + 1 ≠ n → N p q = 0) (e : ∀ q, ps (tr M q) m = ps (tr N q) m) : M = N := by
  funext p q
  by_cases z : p + q + 1 = n
  · by_cases y : p < m
    · have a := ps_only (f := tr M q) (p0 := p) (fun p' hp => h1 p' q (by omega)) m
      have b := ps_only (f := tr N q) (p0 := p) (fun p' hp => h2 p' q (by omega)) m
      rw [if_pos y] at a b
      have := e q
      rw [a, b] at this
      exact this
    · rw [hM.out p q (by omega), hN.out p q (by omega)]
  · rw [h1 p q z, h2 p q z]
theorem col_fs (hi : i + 1 < m) (f : Fs n i A B) (q : Nat) : ps (tr B q) m = ps (tr A q) m := by
  obtain ⟨c, a, a1, rfl⟩ := f
  exact row_mvc (M := tr A) (n := m) (k := i) hi c q
/-- moves on between counters, by their numbers -/
inductive Fq (n : Nat) : List Nat → Mat → Mat → Prop
  | nil {A : Mat} : Fq n [] A A
  | cons {i : Nat} {is : List Nat} {A B C : Mat} : Fs n i A B → Fq n is B C → Fq n (i :: is) A C
theorem Fq.app {is js : List Nat} (f : Fq n is A B) : Fq n js B C → Fq n (is ++ js) A C := by
  induction f with
  | nil => exact id
  | cons f1 f2 ih => exact fun g => .cons f1 (ih g)
theorem Fp.fq {t : Nat} (f : Fp n i t A B) : Fq n (List.replicate t i) A B := by
  induction f with
  | nil => exact .nil
  | cons f1 f2 ih => rw [List.replicate_succ]; exact .cons f1 ih
theorem Fq.ok {is : List Nat} (f : Fq n is A B) : (∀ i ∈ is, i + 1 < m) → Ok m n A → Ok m n B := by
  induction f with
  | nil => exact fun _ => id
  | cons f1 f2 ih =>
    intro hi h
    simp only [List.forall_mem_cons] at hi
    exact ih hi.2 (Fs.ok h hi.1 f1)
theorem col_fq {is : List Nat} (f : Fq n is A B) : (∀ i ∈ is, i + 1 < m) → ∀ q, ps (tr B q) m = ps (tr A q) m := by
  induction f with
  | nil => exact fun _ _ => rfl
  | cons f1 f2 ih =>
    intro hi q
    simp only [List.forall_mem_cons] at hi
    rw [ih hi.2 q, col_fs hi.1 f1 q]
theorem gq_fq {ks is : List Nat} (hk : ∀ k ∈ ks, k + 1 < n) (f : Fq n is A B) : (∀ i ∈ is, i + 1 < m) → ∀ {B'}, Gq m ks B B' → ∃ A', Gq m ks A A' ∧ Fq n is A' B' := by
  induction f with
  | nil => intro _ B' g; exact ⟨B', g, .nil⟩
  | cons f1 f2 ih =>
    intro hi B' g
    simp only [List.forall_mem_cons] at hi
    obtain ⟨C, c1, c2⟩ := ih hi.2 g
    obtain ⟨A', b1, b2⟩ := gq_fs hi.1 hk c1 f1
    exact ⟨A', b1, .cons b2 c2⟩
theorem Con.fq {is : List Nat} (hk : k + 1 < n) (f : Fq n is A B) : (∀ i ∈ is, i + 1 < m) → (Con m k A ↔ Con m k B) := by
  induction f with
  | nil => exact fun _ => Iff.rfl
  | cons f1 f2 ih =>
    intro hi
    simp only [List.forall_mem_cons] at hi
    exact (Con.past hi.1 hk f1).trans (ih hi.2)
/-- settled tables that lead to one table by moves on are one table -/
theorem root_one {is js : List Nat} (hm : 0 < m) (hA : Ok m n A) (hB : Ok m n B) (sA : ∀ i, i + 1 < m → Set n i A) (sB : ∀ i, i + 1 < m → Set n i B) (hi : ∀ i ∈ is, i + 1 < m) (hj : ∀ i ∈ js, i + 1 < m) (f : Fq n is A C) (g : Fq n js B C) : A = B := by
  have hC := f.ok hi hA
  obtain ⟨ks, C', hk, gC, oC, cC⟩ := all_on (n := n) hm (wt n m C).toNat C hC (by have := wt_nn hC; omega)
  obtain ⟨A', gA, fA⟩ := gq_fq hk f hi gC
  obtain ⟨B', gB, fB⟩ := gq_fq hk g hj gC
  have oA := gA.ok hk hA
  have oB := gB.ok hk hB
  have tA := anti oA (fun i h => (Set.gq h hk gA).mp (sA i h)) (fun k h => (Con.fq h fA hi).mpr (cC k h))
  have tB := anti oB (fun i h => (Set.gq h hk gB).mp (sB i h)) (fun k h => (Con.fq h fB hj).mpr (cC k h))
  have e : A' = B' := anti_same oA oB (fun p => tA (p + 1) p (by omega)) (fun p => tB (p + 1) p (by omega)) fun q => by rw [← col_fq fA hi q, ← col_fq fB hj q]
  subst e
  exact gA.inj gB
/-- the settled table of a table -/
def Root (m n : Nat) (R A : Mat) : Prop := Ok m n R ∧ (∀ i, i + 1 < m → Set n i R) ∧ ∃ is, (∀ i ∈ is, i + 1 < m) ∧ Fq n is R A
theorem Root.one_only (hm : 0 < m) (a : Root m n R A) (b : Root m n S A) : R = S := by
  obtain ⟨a1, a2, is, a3, a4⟩ := a
  obtain ⟨b1, b2, js, b3, b4⟩ := b
  exact root_one hm a1 b1 a2 b2 a3 b3 a4 b4
theorem Root.on (a : Root m n R A) (hi : i + 1 < m) (f : Fs n i A B) : Root m n R B := by
  obtain ⟨a1, a2, is, a3, a4⟩ := a
  refine ⟨a1, a2, is ++ [i], fun j hj => ?_, a4.app (.cons f .nil)⟩
  rcases List.mem_append.mp hj with z | z
  · exact a3 j z
  · simp at z; rw [z]; exact hi
end
end Dc
end
section
set_option Elab.async false
set_option linter.all false
set_option maxRecDepth 100000
set_option maxHeartbeats 1000000
namespace Dc
/-- v is the greatest -/
def Mx (n : Nat) (L : Nat → Int) (v : Int) : Prop := (∃ c, c < n ∧ L c = v) ∧ ∀ j, j < n → L j ≤ v
theorem mx_ex (L : Nat → Int) {n : Nat} (hn : 0 < n) : ∃ v, Mx n L v := by
  obtain ⟨c, h⟩ := fa_ex L n hn
  exact ⟨L c, ⟨c, h.lt, rfl⟩, h.le⟩
section
variable {m n i k : Nat} {M A B C N R S : Mat}
theorem mx_fs (f : Fs n i A B) {v : Int} (h : Mx n (ld A i) v) : Mx n (ld B i) (v - 1) := by
  obtain ⟨c, a, a1, rfl⟩ := f
  obtain ⟨⟨d, d1, d2⟩, h2⟩ := h
  have e : ld A i c = v := by have := a.le d d1; have := h2 c a.lt; omega
  refine ⟨⟨c, a.lt, ?_⟩, fun j hj => ?_⟩
  · rw [ld_mvd, if_neg (by omega), if_pos rfl]; omega
  · rw [ld_mvd]
    have q1 := h2 j hj
    by_cases z : j < c
    · rw [if_pos z]
      have := a.fst j z
      omega
    · rw [if_neg z]
      split <;> omega
theorem row_fs (f : Fs n i A B) : ps (B i) n = ps (A i) n - 1 ∧ ps (B (i + 1)) n = ps (A (i + 1)) n + 1 := by
  obtain ⟨c, a, a1, rfl⟩ := f
  have e : ∀ p t, ps (mvd A i c p) t = ps (A p) t + ps (dl i c p) t := fun p t => ps_add _ _ t
  rw [e, e, ps_dl, ps_dl, if_pos a.lt, if_pos a.lt, if_pos rfl, if_neg (by omega), if_pos rfl]
  omega
theorem oth_fs (f : Fs n i A B) {p : Nat} (h1 : p ≠ i) (h2 : p ≠ i + 1) : B p = A p := by
  obtain ⟨c, a, a1, rfl⟩ := f
  funext q
  show A p q + dl i c p q = A p q
  unfold dl
  rw [if_neg h1, if_neg h2]
  split <;> omega
/-- what so many moves on between two counters leave and change -/
structure Lk (m n i : Nat) (t : Int) (A B : Mat) : Prop where
  col : ∀ q, ps (tr B q) m = ps (tr A q) m
  oth : ∀ p, p ≠ i → p ≠ i + 1 → B p = A p
  row : ps (B i) n = ps (A i) n - t
  row1 : ps (B (i + 1)) n = ps (A (i + 1)) n + t
  mx : ∀ v, Mx n (ld A i) v → Mx n (ld B i) (v - t)
theorem Fp.lk {t : Nat} (hi : i + 1 < m) (f : Fp n i t A B) : Lk m n i t A B := by
  induction f with
  | nil => exact ⟨fun _ => rfl, fun _ _ _ => rfl, by omega, by omega, fun v h => by rw [show v - ((0 : Nat) : Int) = v by omega]; exact h⟩
  | cons f1 f2 ih =>
    have r := row_fs f1
    refine ⟨fun q => by rw [ih.col, col_fs hi f1], fun p h1 h2 => by rw [ih.oth p h1 h2, oth_fs f1 h1 h2], ?_, ?_, fun v h => ?_⟩
    · rw [ih.row, r.1]; push_cast; omega
    · rw [ih.row1, r.2]; push_cast; omega
    · rename_i t _ _ _
      have := ih.mx _ (mx_fs f1 h)
      rw [show v - ((t + 1 : Nat) : Int) = v - 1 - (t : Int) by push_cast; omega]
      exact this
theorem Mx.one_only {L : Nat → Int} {u v : Int} (a : Mx n L u) (b : Mx n L v) : u = v := by
  obtain ⟨⟨c, c1, c2⟩, a2⟩ := a
  obtain ⟨⟨d, d1, d2⟩, b2⟩ := b
  have := a2 d d1
  have := b2 c c1
  omega
theorem Lk.back {t : Int} (hn : 0 < n) (h : Lk m n i t A B) : Lk m n i (-t) B A := ⟨fun q => (h.col q).symm, fun p h1 h2 => (h.oth p h1 h2).symm, by rw [h.row]; omega, by rw [h.row1]; omega, fun v hv => by
  obtain ⟨u, hu⟩ := mx_ex (ld A i) hn
  have := (h.mx u hu).one_only hv
  rw [show v - -t = u by omega]; exact hu⟩
/-! ### three counters, all gone on between customers -/
/-- from the last customer -/
def en (n : Nat) (M : Mat) (p j : Nat) : Int := if j < n then M p (n - 1 - j) else 0
def tl (n : Nat) (M : Mat) (p j : Nat) : Int := ps (M p) (n - j)
theorem tl_step (M : Mat) (p j : Nat) : tl n M p j = tl n M p (j + 1) + en n M p j := by
  unfold tl en
  by_cases z : j < n
  · rw [if_pos z, show n - j = (n - (j + 1)) + 1 by omega, show n - 1 - j = n - (j + 1) by omega]; rfl
  · rw [if_neg z, show n - j = 0 by omega, show n - (j + 1) = 0 by omega]; rfl
theorem ld_tl (M : Mat) {j : Nat} (h : j < n) : ld M i (n - 1 - j) = tl n M i j - tl n M (i + 1) (j + 1) := by
  unfold ld tl
  rw [show n - 1 - j + 1 = n - j by omega, show n - (j + 1) = n - 1 - j by omega]
/-- numbers that tell the table -/
structure Gt (n : Nat) (M : Mat) (a b0 b1 c0 c1 c2 : Int) : Prop where
  e00 : en n M 0 0 = a
  e10 : en n M 1 0 = b0
  e11 : en n M 1 1 = b1
  e20 : en n M 2 0 = c0
  e21 : en n M 2 1 = c1
  e22 : en n M 2 2 = c2
  z0 : ∀ j, 1 ≤ j → en n M 0 j = 0
  z1 : ∀ j, 2 ≤ j → en n M 1 j = 0
  z2 : ∀ j, 3 ≤ j → en n M 2 j = 0
  zz : ∀ p j, 3 ≤ p → en n M p j = 0
  nn : 0 ≤ a ∧ 0 ≤ b0 ∧ 0 ≤ b1 ∧ 0 ≤ c0 ∧ 0 ≤ c1 ∧ 0 ≤ c2
  in1 : b1 ≤ a
  in2 : c2 ≤ b1
  in3 : b1 + c1 ≤ a + b0
theorem en_nn (h : Ok m n M) (p j : Nat) : 0 ≤ en n M p j := by
  unfold en
  split
  · exact h.nn ..
  · omega
theorem gt_of (hn : 0 < n) (h : Ok 3 n M) (hc : ∀ k, k + 1 < n → Con 3 k M) : Gt n M (en n M 0 0) (en n M 1 0) (en n M 1 1) (en n M 2 0) (en n M 2 1) (en n M 2 2) := by
  -- what the customers' leads say, from the last one
  have c0 : ∀ j, 1 ≤ j → en n M 0 j ≤ 0 := fun j hj => by
    unfold en
    split
    · rename_i z
      have := hc (n - 1 - j) (by omega) 0 (by omega)
      simp only [ld, ps, tr] at this
      omega
    · omega
  have c1 : ∀ j, 1 ≤ j → en n M 0 j + en n M 1 j ≤ en n M 0 (j - 1) := fun j hj => by
    have p0 := en_nn h 0 (j - 1)
    unfold en at p0 ⊢
    by_cases z : j < n
    · have := hc (n - 1 - j) (by omega) 1 (by omega)
      simp only [ld, ps, tr] at this
      rw [if_pos z, if_pos z, if_pos (by omega), show n - 1 - (j - 1) = n - 1 - j + 1 by omega]
      omega
    · rw [if_neg z, if_neg z]
      exact p0
  have c2 : ∀ j, 1 ≤ j → en n M 0 j + en n M 1 j + en n M 2 j ≤ en n M 0 (j - 1) + en n M 1 (j - 1) := fun j hj => by
    have p0 := en_nn h 0 (j - 1)
    have p1 := en_nn h 1 (j - 1)
    unfold en at p0 p1 ⊢
    by_cases z : j < n
    · have := hc (n - 1 - j) (by omega) 2 (by omega)
      simp only [ld, ps, tr] at this
      rw [if_pos z, if_pos z, if_pos z, if_pos (by omega), if_pos (by omega), show n - 1 - (j - 1) = n - 1 - j + 1 by omega]
      omega
    · rw [if_neg z, if_neg z, if_neg z]
      omega
  have nn := en_nn h
  have z0 : ∀ j, 1 ≤ j → en n M 0 j = 0 := fun j hj => by have := c0 j hj; have := nn 0 j; omega
  have z1 : ∀ j, 2 ≤ j → en n M 1 j = 0 := fun j hj => by
    have := c1 j (by omega); have := nn 1 j; have := z0 j (by omega); have := z0 (j - 1) (by omega); omega
  have z2 : ∀ j, 3 ≤ j → en n M 2 j = 0 := fun j hj => by
    have := c2 j (by omega); have := nn 2 j; have := z0 j (by omega); have := z0 (j - 1) (by omega); have := z1 j (by omega); have := z1 (j - 1) (by omega); omega
  refine ⟨rfl, rfl, rfl, rfl, rfl, rfl, z0, z1, z2, fun p j hp => ?_, ⟨nn _ _, nn _ _, nn _ _, nn _ _, nn _ _, nn _ _⟩, ?_, ?_, ?_⟩
  · unfold en
    split
    · exact h.out p _ (by omega)
    · rfl
  · have := c1 1 (by omega); have := z0 1 (by omega); simpa [this] using c1 1 (by omega)
  · have q := c2 2 (by omega); rw [z0 2 (by omega), z1 2 (by omega)] at q; have := z0 1 (by omega); simp only [Nat.reduceSub] at q; omega
  · have q := c2 1 (by omega); rw [z0 1 (by omega)] at q; simp only [Nat.sub_self] at q; omega
variable {a b0 b1 c0 c1 c2 a' b0' b1' c0' c1' c2' : Int}
theorem Gt.t0 (h : Gt n M a b0 b1 c0 c1 c2) : tl n M 0 0 = a ∧ ∀ j, 1 ≤ j → tl n M 0 j = 0 := by
  have q : ∀ (s j : Nat), n - j ≤ s → 1 ≤ j → tl n M 0 j = 0 := by
    intro s
    induction s with
    | zero => intro j hs _; unfold tl; rw [show n - j = 0 by omega]; rfl
    | succ s ih =>
      intro j hs hj
      rw [tl_step, h.z0 j hj]
      by_cases z : n ≤ j
      · unfold tl; rw [show n - (j + 1) = 0 by omega]; rfl
      · rw [ih (j + 1) (by omega) (by omega)]; rfl
  exact ⟨by rw [tl_step, q n 1 (by omega) (by omega), h.e00]; omega, fun j hj => q n j (by omega) hj⟩
theorem Gt.t1 (h : Gt n M a b0 b1 c0 c1 c2) : tl n M 1 0 = b0 + b1 ∧ tl n M 1 1 = b1 ∧ ∀ j, 2 ≤ j → tl n M 1 j = 0 := by
  have q : ∀ (s j : Nat), n - j ≤ s → 2 ≤ j → tl n M 1 j = 0 := by
    intro s
    induction s with
    | zero => intro j hs _; unfold tl; rw [show n - j = 0 by omega]; rfl
    | succ s ih =>
      intro j hs hj
      rw [tl_step, h.z1 j hj]
      by_cases z : n ≤ j
      · unfold tl; rw [show n - (j + 1) = 0 by omega]; rfl
      · rw [ih (j + 1) (by omega) (by omega)]; rfl
  have t1 : tl n M 1 1 = b1 := by rw [tl_step, q n 2 (by omega) (by omega), h.e11]; omega
  exact ⟨by rw [tl_step, t1, h.e10]; omega, t1, fun j hj => q n j (by omega) hj⟩
theorem Gt.t2 (h : Gt n M a b0 b1 c0 c1 c2) : tl n M 2 0 = c0 + c1 + c2 ∧ tl n M 2 1 = c1 + c2 ∧ tl n M 2 2 = c2 ∧ ∀ j, 3 ≤ j → tl n M 2 j = 0 := by
  have q : ∀ (s j : Nat), n - j ≤ s → 3 ≤ j → tl n M 2 j = 0 := by
    intro s
    induction s with
    | zero => intro j hs _; unfold tl; rw [show n - j = 0 by omega]; rfl
    | succ s ih =>
      intro j hs hj
      rw [tl_step, h.z2 j hj]
      by_cases z : n ≤ j
      · unfold tl; rw [show n - (j + 1) = 0 by omega]; rfl
      · rw [ih (j + 1) (by omega) (by omega)]; rfl
  have t2 : tl n M 2 2 = c2 := by rw [tl_step, q n 3 (by omega) (by omega), h.e22]; omega
  have t1 : tl n M 2 1 = c1 + c2 := by rw [tl_step, t2, h.e21]; omega
  exact ⟨by rw [tl_step, t1, h.e20]; omega, t1, t2, fun j hj => q n j (by omega) hj⟩
theorem Gt.l0 (h : Gt n M a b0 b1 c0 c1 c2) {j : Nat} (hj : j < n) : ld M 0 (n - 1 - j) = if j = 0 then a - b1 else 0 := by
  rw [ld_tl M hj]
  by_cases z : j = 0
  · subst z; rw [h.t0.1, h.t1.2.1, if_pos rfl]
  · rw [h.t0.2 j (by omega), h.t1.2.2 (j + 1) (by omega), if_neg z]; rfl
theorem Gt.l1 (h : Gt n M a b0 b1 c0 c1 c2) {j : Nat} (hj : j < n) : ld M 1 (n - 1 - j) = if j = 0 then b0 + b1 - (c1 + c2) else if j = 1 then b1 - c2 else 0 := by
  rw [ld_tl M hj]
  by_cases z : j = 0
  · subst z; rw [h.t1.1, h.t2.2.1, if_pos rfl]
  · by_cases y : j = 1
    · subst y; rw [h.t1.2.1, h.t2.2.2.1, if_neg (by omega), if_pos rfl]
    · rw [h.t1.2.2 j (by omega), h.t2.2.2.2 (j + 1) (by omega), if_neg z, if_neg y]; rfl
theorem Gt.mx0 (hn : 0 < n) (h : Gt n M a b0 b1 c0 c1 c2) : Mx n (ld M 0) (a - b1) := by
  have i1 := h.in1
  refine ⟨⟨n - 1 - 0, by omega, by rw [h.l0 hn, if_pos rfl]⟩, fun q hq => ?_⟩
  have := h.l0 (j := n - 1 - q) (by omega)
  rw [show n - 1 - (n - 1 - q) = q by omega] at this
  rw [this]
  split <;> omega
theorem small1 (hn : ¬ 1 < n) (h : Gt n M a b0 b1 c0 c1 c2) : b1 = 0 ∧ c1 = 0 ∧ c2 = 0 := by
  have x := h.e11; have y := h.e21; have z := h.e22
  unfold en at x y z
  rw [if_neg (by omega)] at x y z
  exact ⟨x.symm, y.symm, z.symm⟩
theorem Gt.mx1 (hn : 0 < n) (h : Gt n M a b0 b1 c0 c1 c2) : Mx n (ld M 1) (b0 + b1 - c2 - min b0 c1) := by
  have i2 := h.in2
  obtain ⟨n1, n2, n3, n4, n5, n6⟩ := h.nn
  refine ⟨?_, fun q hq => ?_⟩
  · by_cases z : c1 ≤ b0
    · exact ⟨n - 1 - 0, by omega, by rw [h.l1 hn, if_pos rfl]; omega⟩
    · by_cases y : 1 < n
      · exact ⟨n - 1 - 1, by omega, by rw [h.l1 y, if_neg (by omega), if_pos rfl]; omega⟩
      · have := small1 y h; omega
  · have := h.l1 (j := n - 1 - q) (by omega)
    rw [show n - 1 - (n - 1 - q) = q by omega] at this
    rw [this]
    split
    · omega
    · split <;> omega
theorem Gt.set0 (hn : 0 < n) (h : Gt n M a b0 b1 c0 c1 c2) : Set n 0 M ↔ b0 = 0 := by
  obtain ⟨n1, n2, n3, n4, n5, n6⟩ := h.nn
  have r0 := h.t0.1
  have r1 := h.t1.1
  unfold tl at r0 r1
  rw [Nat.sub_zero] at r0 r1
  unfold Set
  rw [r0, r1]
  obtain ⟨⟨c, cl, cv⟩, m2⟩ := h.mx0 hn
  constructor
  · intro z
    have := z c cl
    omega
  · intro z j hj
    have := m2 j hj
    omega
theorem Gt.set1 (hn : 0 < n) (h : Gt n M a b0 b1 c0 c1 c2) : Set n 1 M ↔ c0 = 0 ∧ c1 ≤ b0 := by
  obtain ⟨n1, n2, n3, n4, n5, n6⟩ := h.nn
  have r1 := h.t1.1
  have r2 := h.t2.1
  unfold tl at r1 r2
  rw [Nat.sub_zero] at r1 r2
  unfold Set
  rw [r1, r2]
  obtain ⟨⟨c, cl, cv⟩, m2⟩ := h.mx1 hn
  constructor
  · intro z
    have := z c cl
    omega
  · intro z j hj
    have := m2 j hj
    omega
theorem col_en (q : Nat) (h : q < n) : ps (tr M q) 3 = en n M 0 (n - 1 - q) + en n M 1 (n - 1 - q) + en n M 2 (n - 1 - q) := by
  unfold en
  rw [if_pos (by omega), if_pos (by omega), if_pos (by omega), show n - 1 - (n - 1 - q) = q by omega]
  simp only [ps, tr]; omega
/-- what a move leaves, by the numbers -/
theorem cols_of (h : Gt n A a b0 b1 c0 c1 c2) (h' : Gt n B a' b0' b1' c0' c1' c2') (hn : 0 < n) (e : ∀ q, ps (tr B q) 3 = ps (tr A q) 3) : a' + b0' + c0' = a + b0 + c0 ∧ b1' + c1' = b1 + c1 ∧ c2' = c2 := by
  have c : ∀ j, j < n → en n B 0 j + en n B 1 j + en n B 2 j = en n A 0 j + en n A 1 j + en n A 2 j := fun j hj => by
    have := e (n - 1 - j)
    rw [col_en (n := n) (M := B) (n - 1 - j) (by omega), col_en (n := n) (M := A) (n - 1 - j) (by omega), show n - 1 - (n - 1 - j) = j by omega] at this
    exact this
  refine ⟨?_, ?_, ?_⟩
  · have := c 0 hn
    rw [h.e00, h.e10, h.e20, h'.e00, h'.e10, h'.e20] at this
    exact this
  · by_cases z : 1 < n
    · have := c 1 z
      rw [h.z0 1 (by omega), h.e11, h.e21, h'.z0 1 (by omega), h'.e11, h'.e21] at this
      omega
    · have := small1 z h; have := small1 z h'; omega
  · by_cases z : 2 < n
    · have := c 2 z
      rw [h.z0 2 (by omega), h.z1 2 (by omega), h.e22, h'.z0 2 (by omega), h'.z1 2 (by omega), h'.e22] at this
      omega
    · have x := h.e22; have y := h'.e22
      unfold en at x y
      rw [if_neg z] at x y
      omega
theorem lk0 {t : Int} (hn : 0 < n) (h : Gt n A a b0 b1 c0 c1 c2) (h' : Gt n B a' b0' b1' c0' c1' c2') (l : Lk 3 n 0 t A B) : a' = a - t ∧ b0' = b0 + t ∧ b1' = b1 ∧ c0' = c0 ∧ c1' = c1 ∧ c2' = c2 := by
  have c := cols_of h h' hn l.col
  have o := l.oth 2 (by omega) (by omega)
  have x0 : c0' = c0 := by rw [← h.e20, ← h'.e20]; unfold en; rw [o]
  have x1 : c1' = c1 := by rw [← h.e21, ← h'.e21]; unfold en; rw [o]
  have r := l.row
  have r0 := h.t0.1; have r0' := h'.t0.1
  unfold tl at r0 r0'
  rw [Nat.sub_zero] at r0 r0'
  rw [r0, r0'] at r
  omega
theorem lk1 {t : Int} (hn : 0 < n) (h : Gt n A a b0 b1 c0 c1 c2) (h' : Gt n B a' b0' b1' c0' c1' c2') (l : Lk 3 n 1 t A B) : a' = a ∧ b0' + b1' = b0 + b1 - t ∧ b0' + c0' = b0 + c0 ∧ b1' + c1' = b1 + c1 ∧ c2' = c2 ∧ min b0' c1' = min b0 c1 := by
  have c := cols_of h h' hn l.col
  have o := l.oth 0 (by omega) (by omega)
  have x0 : a' = a := by rw [← h.e00, ← h'.e00]; unfold en; rw [o]
  have r := l.row
  have r1 := h.t1.1; have r1' := h'.t1.1
  unfold tl at r1 r1'
  rw [Nat.sub_zero] at r1 r1'
  rw [r1, r1'] at r
  have := (l.mx _ (h.mx1 hn)).one_only (h'.mx1 hn)
  omega
end
end Dc
end
section
set_option Elab.async false
set_option linter.all false
set_option maxRecDepth 100000
set_option maxHeartbeats 4000000
namespace Dc
section
variable {m n i k e : Nat} {M A B C D N R S : Mat}
/-- three counters of a table -/
def sub (i : Nat) (M : Mat) : Mat := fun p q => if p < 3 then M (i + p) q else 0
theorem sub_row (i : Nat) (M : Mat) {p : Nat} (h : p < 3) : sub i M p = M (i + p) := by funext q; unfold sub; rw [if_pos h]
theorem Ok.sub (h : Ok m n M) (hi : i + 2 < m) : Ok 3 n (sub i M) := ⟨fun p q => by
  unfold Dc.sub; split
  · exact h.nn ..
  · omega, fun p q z => by
  unfold Dc.sub; split
  · exact h.out _ _ (by omega)
  · rfl⟩
theorem ld_sub (he : e ≤ 1) (c : Nat) : ld (sub i M) e c = ld M (i + e) c := by
  unfold ld
  rw [sub_row i M (by omega), sub_row i M (by omega), Nat.add_assoc]
theorem Fs.sub (he : e ≤ 1) (f : Fs n (i + e) A B) : Fs n e (sub i A) (sub i B) := by
  obtain ⟨c, a, a1, rfl⟩ := f
  have q : ld (Dc.sub i A) e = ld A (i + e) := by funext c; exact ld_sub he c
  refine ⟨c, by rw [q]; exact a, by rw [q]; exact a1, ?_⟩
  funext p x
  show (if p < 3 then A (i + p) x + dl (i + e) c (i + p) x else 0) = (if p < 3 then A (i + p) x else 0) + dl e c p x
  unfold dl
  by_cases z : p < 3
  · rw [if_pos z, if_pos z]
    by_cases y : x = c
    · rw [if_pos y, if_pos y]
      by_cases w : p = e
      · rw [if_pos (by omega), if_pos w]
      · rw [if_neg (by omega), if_neg w]
        by_cases v : p = e + 1
        · rw [if_pos (by omega), if_pos v]
        · rw [if_neg (by omega), if_neg v]
    · rw [if_neg y, if_neg y]
  · rw [if_neg z, if_neg z, if_neg (show ¬ p = e by omega), if_neg (show ¬ p = e + 1 by omega)]
    split <;> rfl
theorem Fp.sub {t : Nat} (he : e ≤ 1) (f : Fp n (i + e) t A B) : Fp n e t (sub i A) (sub i B) := by
  induction f with
  | nil => exact .nil
  | cons f1 f2 ih => exact .cons (f1.sub he) ih
theorem Set.sub (he : e ≤ 1) : Set n (i + e) M ↔ Set n e (Dc.sub i M) := by
  unfold Set
  rw [sub_row i M (by omega), sub_row i M (by omega), ← Nat.add_assoc]
  constructor
  · intro h j hj; rw [ld_sub he]; exact h j hj
  · intro h j hj; have := h j hj; rw [ld_sub he] at this; exact this
theorem three0 {u t : Nat} (hn : 0 < n) (hA : Ok 3 n A) (hB : Ok 3 n B) (hC : Ok 3 n C) (f0 : Fp n 0 u A B) (f1 : Fp n 1 t B C) (s0 : Set n 0 C) (s1 : Set n 1 B) (s2 : Set n 0 A) : Set n 1 A := by
  obtain ⟨ks, C', hk, gC, oC, cC⟩ := all_on (n := n) (m := 3) (by omega) (wt n 3 C).toNat C hC (by have := wt_nn hC; omega)
  obtain ⟨B', gB, f1'⟩ := gq_fp (m := 3) (by omega) hk f1 gC
  obtain ⟨A', gA, f0'⟩ := gq_fp (m := 3) (by omega) hk f0 gB
  have cB : ∀ k, k + 1 < n → Con 3 k B' := fun k h => (Con.fp (by omega) h f1').mpr (cC k h)
  have cA : ∀ k, k + 1 < n → Con 3 k A' := fun k h => (Con.fp (by omega) h f0').mpr (cB k h)
  have q1 := (Set.gq (m := 3) (i := 0) (by omega) hk gC).mp s0
  have q2 := (Set.gq (m := 3) (i := 1) (by omega) hk gB).mp s1
  have q3 := (Set.gq (m := 3) (i := 0) (by omega) hk gA).mp s2
  refine (Set.gq (m := 3) (i := 1) (by omega) hk gA).mpr ?_
  have tA := gt_of hn (gA.ok hk hA) cA
  have tB := gt_of hn (gB.ok hk hB) cB
  have tC := gt_of hn oC cC
  rw [tC.set0 hn] at q1
  rw [tB.set1 hn] at q2
  rw [tA.set0 hn] at q3
  rw [tA.set1 hn]
  have l1 := lk1 hn tB tC (f1'.lk (by omega))
  have l0 := lk0 hn tA tB (f0'.lk (by omega))
  have := tA.nn; have := tB.nn; have := tC.nn
  omega
/-- a counter settled with the one behind stays so when the one ahead is settled with it, where the three were so settled in this order -/
theorem three {u t : Nat} (hn : 0 < n) (hi : i + 2 < m) (hA : Ok m n A) (hB : Ok m n B) (hC : Ok m n C) (f0 : Fp n i u A B) (f1 : Fp n (i + 1) t B C) (s0 : Set n i C) (s1 : Set n (i + 1) B) (s2 : Set n i A) : Set n (i + 1) A := by
  have := three0 (A := sub i A) (B := sub i B) (C := sub i C) hn (hA.sub hi) (hB.sub hi) (hC.sub hi) (Fp.sub (e := 0) (by omega) f0) (Fp.sub (e := 1) (by omega) f1) ((Set.sub (e := 0) (by omega)).mp s0) ((Set.sub (e := 1) (by omega)).mp s1) ((Set.sub (e := 0) (by omega)).mp s2)
  exact (Set.sub (e := 1) (by omega)).mpr this
/-! ### exchanges -/
structure Ex (n i : Nat) (A B : Mat) : Prop where
  way : ∃ t, Fp n i t A B ∨ Fp n i t B A
  row : ps (B i) n = ps (A (i + 1)) n
  row1 : ps (B (i + 1)) n = ps (A i) n
theorem Ex.lk (hn : 0 < n) (hi : i + 1 < m) (x : Ex n i A B) : ∃ t : Int, Lk m n i t A B := by
  obtain ⟨⟨t, f | f⟩, r, r1⟩ := x
  · exact ⟨t, f.lk hi⟩
  · exact ⟨_, (f.lk hi).back hn⟩
theorem Ex.sub (he : e ≤ 1) (x : Ex n (i + e) A B) : Ex n e (sub i A) (Dc.sub i B) := by
  obtain ⟨⟨t, f⟩, r, r1⟩ := x
  refine ⟨⟨t, f.imp (Fp.sub he) (Fp.sub he)⟩, ?_, ?_⟩
  · rw [sub_row i B (by omega), sub_row i A (by omega), r, Nat.add_assoc]
  · rw [sub_row i B (by omega), sub_row i A (by omega), ← r1, Nat.add_assoc]
variable {a b0 b1 c0 c1 c2 a' b0' b1' c0' c1' c2' : Int}
theorem Ex.oth (x : Ex n i A B) {p : Nat} (h1 : p ≠ i) (h2 : p ≠ i + 1) : B p = A p := by
  obtain ⟨⟨t, f | f⟩, r, r1⟩ := x
  · exact (f.lk (m := i + 2) (by omega)).oth p h1 h2
  · exact ((f.lk (m := i + 2) (by omega)).oth p h1 h2).symm
end
end Dc
end
section
set_option Elab.async false
set_option linter.all false
set_option maxRecDepth 100000
set_option maxHeartbeats 2000000
/-! halls as tables: what the program's moves are there -/
namespace Dc
open PySem PySem.Spec L2 Lf Cp Pl
abbrev fl (L : List Int) : Nat → Int := fun q => L.getD q 0
theorem ps_shift (f : Nat → Int) : ∀ t, ps f (t + 1) = f 0 + ps (fun q => f (q + 1)) t
  | 0 => by simp only [ps]; omega
  | t + 1 => by
    have := ps_shift f t
    rw [show ps f (t + 1 + 1) = ps f (t + 1) + f (t + 1) from rfl, this]
    simp only [ps]; omega
theorem lead_get : ∀ (r s : List Int) (l : Int) (j : Nat), r.length = s.length → j < r.length → (leadsL l r s).getD j 0 = l + ps (fl r) (j + 1) - ps (fl s) j
  | [], _, _, _, _, h => by simp at h
  | _ :: _, [], _, _, h, _ => by simp at h
  | x :: r, y :: s, l, j, h, hj => by
    rw [leadsL]
    cases j with
    | zero => simp [ps]
    | succ j =>
      have ih := lead_get r s (l + x - y) j (by simpa using h) (by simpa using hj)
      have e1 := ps_shift (fl (x :: r)) (j + 1)
      have e2 := ps_shift (fl (y :: s)) j
      have f1 : (fun q => fl (x :: r) (q + 1)) = fl r := by funext q; simp [fl]
      have f2 : (fun q => fl (y :: s) (q + 1)) = fl s := by funext q; simp [fl]
      rw [f1] at e1
      rw [f2] at e2
      rw [e1, e2]
      have g0 : fl (x :: r) 0 = x := by simp [fl]
      have g1 : fl (y :: s) 0 = y := by simp [fl]
      rw [g0, g1]
      have : ((l + x) :: leadsL (l + x - y) r s).getD (j + 1) 0 = (leadsL (l + x - y) r s).getD j 0 := by simp
      rw [this, ih]
      omega
theorem sum_ps : ∀ (r : List Int), ps (fl r) r.length = r.sum
  | [] => rfl
  | x :: r => by
    rw [List.length_cons, ps_shift]
    have f1 : (fun q => fl (x :: r) (q + 1)) = fl r := by funext q; simp [fl]
    rw [f1, sum_ps r]
    simp [fl]
section
variable {m n c : Nat} {W M : Int} {A B H H' : List (List Int)} {r s : List Int}
theorem at_row (H : List (List Int)) (p : Nat) : at2 H p = fl (H.getD p []) := rfl
theorem at_r (hA : A.length = c) : at2 (A ++ r :: s :: B) c = fl r := by
  rw [at_row]; congr 1
  rw [List.getD_eq_getElem?_getD, List.getElem?_append_right (by omega), hA, Nat.sub_self]; rfl
theorem at_s (hA : A.length = c) : at2 (A ++ r :: s :: B) (c + 1) = fl s := by
  rw [at_row]; congr 1
  rw [List.getD_eq_getElem?_getD, List.getElem?_append_right (by omega), show c + 1 - A.length = 1 by omega]; rfl
theorem at_o {r' s' : List Int} (hA : A.length = c) {p : Nat} (h1 : p ≠ c) (h2 : p ≠ c + 1) : at2 (A ++ r' :: s' :: B) p = at2 (A ++ r :: s :: B) p := by
  rw [at_row, at_row]; congr 1
  rw [List.getD_eq_getElem?_getD, List.getD_eq_getElem?_getD]
  by_cases z : p < c
  · rw [List.getElem?_append_left (by omega), List.getElem?_append_left (by omega)]
  · rw [List.getElem?_append_right (by omega), List.getElem?_append_right (by omega)]
    obtain ⟨t, ht⟩ : ∃ t, p - A.length = t + 2 := ⟨p - A.length - 2, by omega⟩
    rw [ht]; rfl
theorem ok_at (h : HOk m n W H) : Ok m n (at2 H) := ⟨fun p q => at2_nn h p q, fun p q z => by
  have hl := h.len
  by_cases y : p < m
  · have : (H.getD p []).length = n := (h.rows _ (by rw [List.getD_eq_getElem?_getD, List.getElem?_eq_getElem (by omega)]; exact List.getElem_mem _)).1
    show (H.getD p []).getD q 0 = 0
    rw [List.getD_eq_getElem?_getD, List.getElem?_eq_none (by omega)]; rfl
  · show (H.getD p []).getD q 0 = 0
    rw [List.getD_eq_getElem?_getD (l := H), List.getElem?_eq_none (by omega)]; rfl⟩
theorem ld_at (hA : A.length = c) (t : TR n M r s) {j : Nat} (hj : j < n) : ld (at2 (A ++ r :: s :: B)) c j = (leadsL 0 r s).getD j 0 := by
  unfold ld
  rw [at_r hA, at_s hA, lead_get r s 0 j (by rw [t.lr, t.ls]) (by rw [t.lr]; exact hj)]
  omega
theorem leads_le (t : TR n M r s) {j : Nat} (hj : j < n) : (leadsL 0 r s).getD j 0 ≤ M := by
  have ll : (leadsL 0 r s).length = n := by rw [leadsL_len, t.lr, t.ls]; omega
  refine (foldMax_iff.mp t.mx).2 _ ?_
  rw [List.getD_eq_getElem?_getD, List.getElem?_eq_getElem (by omega)]
  exact List.getElem_mem _
theorem fs_at (hA : A.length = c) (t : TR n M r s) (hr : ∀ x ∈ r, 0 ≤ x) (hs : ∀ x ∈ s, 0 ≤ x) (m1 : 1 ≤ M) : Fs n c (at2 (A ++ r :: s :: B)) (at2 (A ++ lft M 1 r s :: nxt M 1 r s :: B)) ∧ (∀ x ∈ lft M 1 r s, 0 ≤ x) ∧ ∀ x ∈ nxt M 1 r s, 0 ≤ x := by
  obtain ⟨j, hj, h1, h2, h3, h4⟩ := one_on t hr hs (by omega)
  obtain ⟨e1, e2⟩ := h4 m1
  have lr := t.lr
  have ls := t.ls
  have rj := h3.mp m1
  have rn : 0 ≤ r.getD j 0 := nn_get hr j
  have sn : 0 ≤ s.getD j 0 := nn_get hs j
  rw [e1, e2]
  refine ⟨⟨j, ⟨hj, fun i hi => ?_, fun i hi => ?_⟩, ?_, ?_⟩, fun x hx => ?_, fun x hx => ?_⟩
  · rw [ld_at hA t hi, ld_at hA t hj, h1]; exact leads_le t hi
  · rw [ld_at hA t (by omega), ld_at hA t hj, h1]; exact h2 i hi
  · rw [ld_at hA t hj, h1]; exact m1
  · funext p q
    show _ = at2 (A ++ r :: s :: B) p q + dl c j p q
    unfold dl
    by_cases z1 : p = c
    · subst z1
      rw [at_r hA, at_r hA, if_pos rfl]
      by_cases z2 : q = j
      · subst z2
        rw [if_pos rfl]
        show (r.set q _).getD q 0 = r.getD q 0 + -1
        rw [List.getD_eq_getElem?_getD, List.getElem?_set_self (by omega)]
        show r.getD q 0 - 1 = _
        omega
      · rw [if_neg z2]
        show (r.set j _).getD q 0 = r.getD q 0 + 0
        rw [List.getD_eq_getElem?_getD, List.getElem?_set_ne (Ne.symm z2), ← List.getD_eq_getElem?_getD]; omega
    · by_cases z3 : p = c + 1
      · subst z3
        rw [at_s hA, at_s hA, if_neg (show ¬ (c + 1 = c) by omega), if_pos rfl]
        by_cases z2 : q = j
        · subst z2
          rw [if_pos rfl]
          show (s.set q _).getD q 0 = s.getD q 0 + 1
          rw [List.getD_eq_getElem?_getD, List.getElem?_set_self (by omega)]
          rfl
        · rw [if_neg z2]
          show (s.set j _).getD q 0 = s.getD q 0 + 0
          rw [List.getD_eq_getElem?_getD, List.getElem?_set_ne (Ne.symm z2), ← List.getD_eq_getElem?_getD]; omega
      · rw [if_neg z1, if_neg z3, at_o (r := r) (s := s) hA z1 z3]
        split <;> omega
  · rcases List.mem_or_eq_of_mem_set hx with y | y
    · exact hr x y
    · omega
  · rcases List.mem_or_eq_of_mem_set hx with y | y
    · exact hs x y
    · omega
theorem Fp.snoc {i t : Nat} {X Y Z : Mat} (f : Fp n i t X Y) : Fs n i Y Z → Fp n i (t + 1) X Z := by
  induction f with
  | nil => exact fun g => .cons g .nil
  | cons f1 f2 ih => exact fun g => .cons f1 (ih g)
theorem fp_at (hA : A.length = c) (t : TR n M r s) (hr : ∀ x ∈ r, 0 ≤ x) (hs : ∀ x ∈ s, 0 ≤ x) : ∀ k : Nat, (k : Int) ≤ M → Fp n c k (at2 (A ++ r :: s :: B)) (at2 (A ++ lft M k r s :: nxt M k r s :: B)) ∧ (∀ x ∈ lft M k r s, 0 ≤ x) ∧ ∀ x ∈ nxt M k r s, 0 ≤ x
  | 0, _ => by
    have z := mv_zero t
    rw [show ((0 : Nat) : Int) = 0 from rfl, z.1, z.2]
    exact ⟨.nil, hr, hs⟩
  | k + 1, h => by
    obtain ⟨f, a, b⟩ := fp_at hA t hr hs k (by omega)
    have t' := mv_tr (k := k) t
    obtain ⟨g, a', b'⟩ := fs_at (B := B) hA t' a b (by omega)
    obtain ⟨e1, e2⟩ := mv_mv (k := k) (j := 1) t
    rw [e1, e2] at g
    rw [e1] at a'
    rw [e2] at b'
    exact ⟨f.snoc g, a', b'⟩
/-- many moves, on or back -/
def Mv (n i : Nat) (k : Int) (X Y : Mat) : Prop := (0 ≤ k ∧ Fp n i k.toNat X Y) ∨ (k ≤ 0 ∧ Fp n i (-k).toNat Y X)
theorem mv_at {k : Int} (hA : A.length = c) (t : TR n M r s) (hr : ∀ x ∈ r, 0 ≤ x) (hs : ∀ x ∈ s, 0 ≤ x) (m0 : 0 ≤ M) (nn : (∀ x ∈ lft M k r s, 0 ≤ x) ∧ ∀ x ∈ nxt M k r s, 0 ≤ x) (h : k ≤ M) : Mv n c k (at2 (A ++ r :: s :: B)) (at2 (A ++ lft M k r s :: nxt M k r s :: B)) := by
  by_cases z : 0 ≤ k
  · obtain ⟨j, rfl⟩ : ∃ j : Nat, (j : Int) = k := ⟨k.toNat, by omega⟩
    have := (fp_at (B := B) hA t hr hs j h).1
    exact .inl ⟨z, by rw [Int.toNat_natCast]; exact this⟩
  · obtain ⟨j, hj⟩ : ∃ j : Nat, (j : Int) = -k := ⟨(-k).toNat, by omega⟩
    have t' := mv_tr (k := k) t
    have := (fp_at (B := B) hA t' nn.1 nn.2 j (by omega)).1
    obtain ⟨e1, e2⟩ := mv_mv (k := k) (j := -k) t
    rw [hj, e1, e2, show k + -k = 0 by omega] at this
    have q := mv_zero t
    rw [q.1, q.2] at this
    exact .inr ⟨by omega, by rw [← hj, Int.toNat_natCast]; exact this⟩
theorem Mv.ex {k : Int} {X Y : Mat} (h : Mv n c k X Y) (hk : k = ps (X c) n - ps (X (c + 1)) n) : Ex n c X Y := by
  rcases h with ⟨z, f⟩ | ⟨z, f⟩
  · have l := f.lk (m := c + 2) (by omega)
    refine ⟨⟨_, .inl f⟩, ?_, ?_⟩
    · rw [l.row]; omega
    · rw [l.row1]; omega
  · have l := f.lk (m := c + 2) (by omega)
    have a := l.row
    have b := l.row1
    exact ⟨⟨_, .inr f⟩, by omega, by omega⟩
end
end Dc
end
section
set_option Elab.async false
set_option linter.all false
set_option maxRecDepth 100000
set_option maxHeartbeats 2000000
/-! exchanges, totals, greatest worths: the program and the law's own -/
namespace Pl
open PySem PySem.Spec L2 Lf Cp Cq
/-! ### exchanges of halls -/
section
variable {m n c : Nat} {W M : Int} {A B H : List (List Int)} {r s : List Int}
/-- a hall cut at two neighbours -/
structure Tw (m n c : Nat) (W M : Int) (A B : List (List Int)) (r s : List Int) : Prop where
  hl : Hl m n W (A ++ r :: s :: B)
  hA : A.length = c
  tr : TR n M r s
  m0 : 0 ≤ M
  f0 : 0 ≤ M + s.sum - r.sum
  bd : M + (M + s.sum - r.sum) ≤ 16 * W
  hu : ∀ k, k ≤ M → -k ≤ M + s.sum - r.sum → Unseen n r s (lft M k r s) (nxt M k r s)
  nr : ∀ x ∈ r, 0 ≤ x
  ns : ∀ x ∈ s, 0 ≤ x
theorem lead_last (t : TR n M r s) (hs : ∀ x ∈ s, 0 ≤ x) : r.sum - s.sum ≤ M := by
  have n1 := t.leads_ne
  have q := Dc.leads_le t (j := n - 1) (by omega)
  rw [Dc.lead_get r s 0 (n - 1) (by rw [t.lr, t.ls]) (by rw [t.lr]; omega)] at q
  have a := Dc.sum_ps r
  have b := Dc.sum_ps s
  rw [t.lr] at a
  rw [t.ls] at b
  rw [show n - 1 + 1 = n by omega] at q
  have e : Dc.ps (Dc.fl s) n = Dc.ps (Dc.fl s) (n - 1) + Dc.fl s (n - 1) := by
    obtain ⟨k, hk⟩ : ∃ k, n = k + 1 := ⟨n - 1, by omega⟩
    rw [hk]; rfl
  have : 0 ≤ Dc.fl s (n - 1) := nn_get hs (n - 1)
  omega
theorem Tw.rng (x : Tw m n c W M A B r s) : r.sum - s.sum ≤ M ∧ -(r.sum - s.sum) ≤ M + s.sum - r.sum := ⟨lead_last x.tr x.ns, by have := x.m0; omega⟩
theorem Tw.at (x : Tw m n c W M A B r s) {k : Int} (h1 : k ≤ M) (h2 : -k ≤ M + s.sum - r.sum) : Tw m n c W (M - k) A B (lft M k r s) (nxt M k r s) := by
  have u := x.hu k h1 h2
  have hl : Hl m n W (A ++ lft M k r s :: nxt M k r s :: B) := ⟨u.few x.hl.few, x.hl.m2, x.hl.m8, x.hl.n1, x.hl.n8⟩
  have z := lft_sum (k := k) x.tr
  obtain ⟨M', hM, m0, f0, hb, hu⟩ := Mr.moves (c := c) (A := A) (B := B) (r := lft M k r s) (s := nxt M k r s) hl.ok (by have := x.bd; have := x.m0; have := x.f0; omega)
  have t := mv_tr (k := k) x.tr
  have e : M' = M - k := by have := t.mx; rw [hM] at this; exact Option.some.inj this
  subst e
  exact ⟨hl, x.hA, t, m0, f0, hb, hu, u.nr, u.ns⟩
theorem Tw.mv (x : Tw m n c W M A B r s) {k : Int} (h1 : k ≤ M) (h2 : -k ≤ M + s.sum - r.sum) : Dc.Mv n c k (at2 (A ++ r :: s :: B)) (at2 (A ++ lft M k r s :: nxt M k r s :: B)) := Dc.mv_at x.hA x.tr x.nr x.ns x.m0 ⟨(x.hu k h1 h2).nr, (x.hu k h1 h2).ns⟩ h1
/-! ### the program's -/
end
end Pl
end
section
set_option Elab.async false
set_option linter.all false
set_option maxRecDepth 100000
set_option maxHeartbeats 2000000
/-! the settling: one counter after another, each led past all ahead -/
namespace Dc
section
variable {m n i c b : Nat} {X Y Z A B C R : Mat}
theorem Set.congr (h1 : X i = Y i) (h2 : X (i + 1) = Y (i + 1)) : Set n i X ↔ Set n i Y := by
  unfold Set ld
  rw [h1, h2]
/-- Y is X with all moves back between i and i + 1 done -/
structure St (m n i : Nat) (X Y : Mat) : Prop where
  ok : Ok m n Y
  way : ∃ t, Fp n i t Y X
  set : Set n i Y
/-- counters c - 1, .., 0 one after another -/
inductive Ps (m n : Nat) : Nat → Mat → Mat → Prop
  | nil {X : Mat} : Ps m n 0 X X
  | cons {c : Nat} {X Y Z : Mat} : St m n c X Y → Ps m n c Y Z → Ps m n (c + 1) X Z
theorem Fp.oth {t : Nat} (f : Fp n i t A B) {p : Nat} (h1 : p ≠ i) (h2 : p ≠ i + 1) : B p = A p := (f.lk (m := i + 2) (by omega)).oth p h1 h2
theorem pass_lem (hn : 0 < n) (hb : b < m) : ∀ (c : Nat) (B : Mat), c < b → Ok m n B → (∃ C t, Ok m n C ∧ Fp n c t B C ∧ Set n c B ∧ ∀ i, i + 1 ≤ c → Set n i C) → (∀ i, c ≤ i → i < b → Set n i B) → ∀ Z, Ps m n c B Z → Ok m n Z ∧ ∀ i, i < b → Set n i Z
  | 0, B, _, oB, _, h3, Z, p => by
    cases p
    exact ⟨oB, fun i hi => h3 i (by omega) hi⟩
  | c + 1, B, hc, oB, ⟨C, t, oC, f, s1, h2⟩, h3, Z, p => by
    cases p with
    | cons q p =>
      rename_i Y
      obtain ⟨oY, ⟨u, g⟩, sY⟩ := q
      have s2 := three (i := c) hn (by omega) oY oB oC g f (h2 c (by omega)) s1 sY
      refine pass_lem hn hb c Y (by omega) oY ⟨B, u, oB, g, sY, fun i hi => ?_⟩ (fun i h1 hi => ?_) Z p
      · exact (Set.congr (f.oth (by omega) (by omega)) (f.oth (by omega) (by omega))).mp (h2 i (by omega))
      · by_cases z1 : i = c
        · rw [z1]; exact sY
        · by_cases z2 : i = c + 1
          · rw [z2]; exact s2
          · exact (Set.congr (g.oth (by omega) (by omega)) (g.oth (by omega) (by omega))).mp (h3 i (by omega) hi)
/-- one pass settles the counter at b with all ahead -/
theorem pass_ok (hn : 0 < n) (hb : b < m) (oX : Ok m n X) (h : ∀ i, i + 1 < b → Set n i X) (p : Ps m n b X Z) : Ok m n Z ∧ ∀ i, i < b → Set n i Z := by
  cases p with
  | nil => exact ⟨oX, fun i hi => by omega⟩
  | cons q p =>
    rename_i c Y
    obtain ⟨oY, ⟨u, g⟩, sY⟩ := q
    exact pass_lem hn hb c Y (by omega) oY ⟨X, u, oX, g, sY, fun i hi => h i (by omega)⟩ (fun i h1 hi => by
      have : i = c := by omega
      rw [this]; exact sY) Z p
theorem Ps.fq (p : Ps m n b X Z) : b < m → ∃ is, (∀ i ∈ is, i + 1 < m) ∧ Fq n is Z X := by
  induction p with
  | nil => exact fun _ => ⟨[], by simp, .nil⟩
  | cons q p ih =>
    intro hb
    obtain ⟨is, h1, h2⟩ := ih (by omega)
    obtain ⟨_, ⟨u, g⟩, _⟩ := q
    refine ⟨is ++ List.replicate u _, fun i hi => ?_, h2.app g.fq⟩
    rcases List.mem_append.mp hi with z | z
    · exact h1 i z
    · rw [List.eq_of_mem_replicate z]; omega
/-- passes for 1, .., b -/
inductive Al (m n : Nat) : Nat → Mat → Mat → Prop
  | nil {X : Mat} : Al m n 0 X X
  | snoc {b : Nat} {X Y Z : Mat} : Al m n b X Y → Ps m n (b + 1) Y Z → Al m n (b + 1) X Z
theorem Al.ok (hn : 0 < n) (oX : Ok m n X) (a : Al m n b X Z) : b < m → Ok m n Z ∧ (∀ i, i < b → Set n i Z) ∧ ∃ is, (∀ i ∈ is, i + 1 < m) ∧ Fq n is Z X := by
  induction a with
  | nil => exact fun _ => ⟨oX, fun i hi => by omega, [], by simp, .nil⟩
  | snoc a p ih =>
    intro hb
    obtain ⟨o1, s1, is, h1, f1⟩ := ih oX (by omega)
    obtain ⟨o2, s2⟩ := pass_ok hn hb o1 (fun i hi => s1 i (by omega)) p
    obtain ⟨js, h2, f2⟩ := p.fq hb
    exact ⟨o2, s2, js ++ is, fun i hi => (List.mem_append.mp hi).elim (h2 i) (h1 i), f2.app f1⟩
end
end Dc
end
section
set_option Elab.async false
set_option linter.all false
set_option maxRecDepth 100000
set_option maxHeartbeats 2000000
/-! settling, to_first, to_last: the program -/
namespace Pl
open PySem PySem.Spec L2 Lf Cp Cj
section
variable {m n c : Nat} {W M : Int} {A B H K : List (List Int)} {r s : List Int}
theorem Tw.st (x : Tw m n c W M A B r s) : Dc.St m n c (at2 (A ++ r :: s :: B)) (at2 (A ++ lft M (-(M + s.sum - r.sum)) r s :: nxt M (-(M + s.sum - r.sum)) r s :: B)) := by
  have m0 := x.m0
  have f0 := x.f0
  have y := x.at (k := -(M + s.sum - r.sum)) (by omega) (by omega)
  refine ⟨Dc.ok_at y.hl.ok, ?_, ?_⟩
  · rcases x.mv (k := -(M + s.sum - r.sum)) (by omega) (by omega) with ⟨z, f⟩ | ⟨z, f⟩
    · have e : (M + s.sum - r.sum) = 0 := by omega
      rw [e] at f ⊢
      refine ⟨0, ?_⟩
      have q := mv_zero x.tr
      rw [Int.neg_zero, q.1, q.2]
      exact .nil
    · exact ⟨_, f⟩
  · intro j hj
    rw [Dc.ld_at y.hA y.tr hj, Dc.at_r y.hA, Dc.at_s y.hA]
    have a := Dc.sum_ps (lft M (-(M + s.sum - r.sum)) r s)
    have b := Dc.sum_ps (nxt M (-(M + s.sum - r.sum)) r s)
    rw [y.tr.lr] at a
    rw [y.tr.ls] at b
    have z := lft_sum (k := -(M + s.sum - r.sum)) x.tr
    have := Dc.leads_le y.tr hj
    rw [a, b, z.1, z.2]
    omega
end
end Pl
end
section
set_option Elab.async false
set_option linter.all false
set_option maxRecDepth 100000
set_option maxHeartbeats 2000000
/-! some customers of a hall -/
namespace Dc
section
variable {m n i a b : Nat} {X Y Z R : Mat}
/-- the customers from a on, before b -/
def cutM (a b : Nat) (M : Mat) : Mat := fun p q => if a + q < b then M p (a + q) else 0
theorem ps_cut (f : Nat → Int) : ∀ t, a + t ≤ b → ps (fun q => if a + q < b then f (a + q) else 0) t = ps f (a + t) - ps f a
  | 0, _ => by simp [ps]
  | t + 1, h => by
    have e : ps f (a + (t + 1)) = ps f (a + t) + f (a + t) := rfl
    have g : ps (fun q => if a + q < b then f (a + q) else 0) (t + 1) = ps (fun q => if a + q < b then f (a + q) else 0) t + (if a + t < b then f (a + t) else 0) := rfl
    rw [g, ps_cut f t (by omega), e, if_pos (by omega)]
    omega
theorem ld_cut {j : Nat} (h : a + j < b) : ld (cutM a b X) i j = ld X i (a + j) - (ps (X i) a - ps (X (i + 1)) a) := by
  have e1 := ps_cut (a := a) (b := b) (X i) (j + 1) (by omega)
  have e2 := ps_cut (a := a) (b := b) (X (i + 1)) j (by omega)
  show ps (fun q => if a + q < b then X i (a + q) else 0) (j + 1) - ps (fun q => if a + q < b then X (i + 1) (a + q) else 0) j = _
  rw [e1, e2]
  unfold ld
  rw [show a + (j + 1) = a + j + 1 by omega]
  omega
theorem Ok.cut (h : Ok m n X) (hb : b ≤ n) : Ok m (b - a) (cutM a b X) := ⟨fun p q => by
  unfold cutM; split
  · exact h.nn ..
  · omega, fun p q z => by
  unfold cutM; split
  · exact h.out _ _ (by omega)
  · rfl⟩
theorem Fs.cut (h : Ok m n X) (hb : b ≤ n) (f : Fs n i X Y) : cutM a b X = cutM a b Y ∨ Fs (b - a) i (cutM a b X) (cutM a b Y) := by
  obtain ⟨c, fa, f1, rfl⟩ := f
  by_cases z : a ≤ c ∧ c < b
  · right
    obtain ⟨j, rfl⟩ : ∃ j, c = a + j := ⟨c - a, by omega⟩
    have v : 1 ≤ ld X i (a + j) - (ps (X i) a - ps (X (i + 1)) a) := by
      by_cases y : a = 0
      · subst y; simp only [ps]; omega
      · have q := fa.fst (a - 1) (by omega)
        have e : ld X i (a - 1) = ps (X i) a - ps (X (i + 1)) (a - 1) := by unfold ld; rw [show a - 1 + 1 = a by omega]
        have e2 : ps (X (i + 1)) a = ps (X (i + 1)) (a - 1) + X (i + 1) (a - 1) := by
          obtain ⟨k, rfl⟩ : ∃ k, a = k + 1 := ⟨a - 1, by omega⟩
          rfl
        have := h.nn (i + 1) (a - 1)
        omega
    refine ⟨j, ⟨by omega, fun k hk => ?_, fun k hk => ?_⟩, ?_, ?_⟩
    · rw [ld_cut (by omega), ld_cut (by omega)]
      have := fa.le (a + k) (by omega)
      omega
    · rw [ld_cut (by omega), ld_cut (by omega)]
      have := fa.fst (a + k) (by omega)
      omega
    · rw [ld_cut (by omega)]; exact v
    · funext p q
      show (if a + q < b then X p (a + q) + dl i (a + j) p (a + q) else 0) = (if a + q < b then X p (a + q) else 0) + dl i j p q
      unfold dl
      by_cases y : q = j
      · subst y; rw [if_pos z.2, if_pos z.2, if_pos rfl, if_pos rfl]
      · rw [if_neg (show ¬ a + q = a + j by omega), if_neg y]
        split <;> omega
  · left
    funext p q
    show (if a + q < b then X p (a + q) else 0) = if a + q < b then X p (a + q) + dl i c p (a + q) else 0
    unfold dl
    by_cases y : a + q < b
    · rw [if_pos y, if_pos y, if_neg (by omega)]; omega
    · rw [if_neg y, if_neg y]
theorem Fp.cut {t : Nat} (hi : i + 1 < m) (hb : b ≤ n) (f : Fp n i t X Y) : Ok m n X → ∃ is, (∀ j ∈ is, j + 1 < m) ∧ Fq (b - a) is (cutM a b X) (cutM a b Y) := by
  induction f with
  | nil => exact fun _ => ⟨[], by simp, .nil⟩
  | cons f1 f2 ih =>
    intro h
    obtain ⟨is, h1, h2⟩ := ih (Fs.ok h hi f1)
    rcases f1.cut (a := a) h hb with e | g
    · exact ⟨is, h1, by rw [e]; exact h2⟩
    · exact ⟨i :: is, by simp only [List.forall_mem_cons]; exact ⟨hi, h1⟩, .cons g h2⟩
/-- a way of moves, this way or that -/
def Lw (m n : Nat) (X Y : Mat) : Prop := ∃ is, (∀ i ∈ is, i + 1 < m) ∧ (Fq n is X Y ∨ Fq n is Y X)
theorem Lw.symm (l : Lw m n X Y) : Lw m n Y X := by
  obtain ⟨is, h, f⟩ := l
  exact ⟨is, h, f.symm⟩
theorem Mv.cut {k : Int} (hi : i + 1 < m) (hb : b ≤ n) (hX : Ok m n X) (hY : Ok m n Y) (f : Mv n i k X Y) : Lw m (b - a) (cutM a b X) (cutM a b Y) := by
  rcases f with ⟨_, f⟩ | ⟨_, f⟩
  · obtain ⟨is, h, g⟩ := f.cut (a := a) hi hb hX
    exact ⟨is, h, .inl g⟩
  · obtain ⟨is, h, g⟩ := f.cut (a := a) hi hb hY
    exact ⟨is, h, .inr g⟩
theorem Root.fq {is : List Nat} (f : Fq n is X Y) : (∀ i ∈ is, i + 1 < m) → Root m n R X → Root m n R Y := by
  induction f with
  | nil => exact fun _ => id
  | cons f1 f2 ih =>
    intro h a
    simp only [List.forall_mem_cons] at h
    exact ih h.2 (a.on h.1 f1)
end
end Dc
end
section
set_option Elab.async false
set_option linter.all false
set_option maxRecDepth 100000
set_option maxHeartbeats 2000000
namespace Cu
open PySem PySem.Spec L2 Lf
def D_all_greatest : DS := (dRt (eLc [1] (iR1 (aCons (eLen (eIx (eVar 0) (eD (.int 0)))) aNil)) (gNm 1) tYs (eIx (eCl 3 Cw.f_worths_from (aCons (eVar 0) (aCons (eD (.int 0)) (aCons (eVar 1) aNil)))) (eNeg (eD (.int 1))))))
def f_all_greatest : DF := dFn [false] 1 D_all_greatest
def D_check_both : DS := (dSq (dEx (eCl 1 Cp.f_check_hall (aCons (eVar 0) aNil))) (dSq (dEx (eCl 1 Cp.f_check_hall (aCons (eVar 1) aNil))) (dIf (tV (eOp2 fNe (eLen (eIx (eVar 0) (eD (.int 0)))) (eLen (eIx (eVar 1) (eD (.int 0)))))) (fun en => .error (.exn "Unlike" en)) dNx)))
def f_check_both : DF := dFn [false, false] 0 D_check_both
def D_alike : DS := (dSq (dEx (eCl 2 f_check_both (aCons (eVar 0) (aCons (eVar 1) aNil)))) (dRt (eOp2 fEq (eCl 1 f_all_greatest (aCons (eVar 0) aNil)) (eCl 1 f_all_greatest (aCons (eVar 1) aNil)))))
def f_alike : DF := dFn [false, false] 0 D_alike
end Cu
end
section
set_option Elab.async false
set_option linter.all false
set_option maxRecDepth 100000
set_option maxHeartbeats 2000000
namespace Ck
open PySem PySem.Spec L2 Lf
def D_check_like : DS := (dSq (dEx (eCl 2 Cu.f_check_both (aCons (eVar 0) (aCons (eVar 1) aNil)))) (dIf (tV (eOp2 fNe (eLen (eVar 0)) (eLen (eVar 1)))) (fun en => .error (.exn "Unlike" en)) dNx))
def f_check_like : DF := dFn [false, false] 0 D_check_like
def D_led : DS := (dSq (dEx (eCl 2 f_check_like (aCons (eVar 0) (aCons (eVar 1) aNil)))) (dRt (eOp2 fEq (eCl 1 Cj.f_to_first (aCons (eVar 0) aNil)) (eCl 1 Cj.f_to_first (aCons (eVar 1) aNil)))))
def f_led : DF := dFn [false, false] 0 D_led
end Ck
end
section
set_option Elab.async false
set_option linter.all false
set_option maxRecDepth 100000
set_option maxHeartbeats 2000000
/-! the program's greatest, evaluated -/
namespace Pl
open PySem PySem.Spec L2 Lf Cp Cw
end Pl
end
section
set_option Elab.async false
set_option linter.all false
set_option maxRecDepth 100000
set_option maxHeartbeats 2000000
/-! leavings by ways. Plain. -/
namespace Pl
open PySem PySem.Spec L2 Lf Cp
end Pl
end
section
set_option Elab.async false
set_option linter.all false
set_option maxRecDepth 100000
set_option maxHeartbeats 1000000
/-! the greatest worth from a cell to the end: by going back from there. Mathematics only. -/
namespace Pl
open PySem PySem.Spec L2 Lf Cp
end Pl
end
section
set_option Elab.async false
set_option linter.all false
set_option maxRecDepth 100000
set_option maxHeartbeats 1000000
/-! more minutes at one cell: greatest ways. Mathematics only. -/
namespace Pl
open PySem PySem.Spec L2 Lf Cp
section
variable {a : Nat → Nat → Int} {i j d g c k : Nat} {w v b G F T : Int}
theorem Way.cat {w1 w2 : Int} (h1 : Way a i j d g w1) (h2 : Way a d g c k w2) : Way a i j c k (w1 + w2 - a d g) := by
  induction h2 with
  | one => rw [show w1 + a d g - a d g = w1 by omega]; exact h1
  | @down c k w _ ih => rw [show w1 + (w + a (c + 1) k) - a d g = (w1 + w - a d g) + a (c + 1) k by omega]; exact ih.down
  | @right c k w _ ih => rw [show w1 + (w + a c (k + 1)) - a d g = (w1 + w - a d g) + a c (k + 1) by omega]; exact ih.right
def moreA (a : Nat → Nat → Int) (d g : Nat) (b : Int) (p q : Nat) : Int := a p q + if p = d ∧ q = g then b else 0
theorem moreA_at : moreA a d g b d g = a d g + b := by simp [moreA]
theorem moreA_off {p q : Nat} (h : ¬ (p = d ∧ q = g)) : moreA a d g b p q = a p q := by simp [moreA, h]
theorem Way.more_split (h : Way (moreA a d g b) i j c k w) : Way a i j c k w ∨ ∃ w1 w2, Way a i j d g w1 ∧ Way a d g c k w2 ∧ w = w1 + w2 - a d g + b := by
  induction h with
  | one =>
    by_cases z : i = d ∧ j = g
    · obtain ⟨rfl, rfl⟩ := z
      exact .inr ⟨_, _, .one, .one, by rw [moreA_at]; omega⟩
    · exact .inl (by rw [moreA_off z]; exact .one)
  | @down c k w _ ih =>
    rcases ih with ih | ⟨w1, w2, h1, h2, e⟩
    · by_cases z : c + 1 = d ∧ k = g
      · obtain ⟨rfl, rfl⟩ := z
        exact .inr ⟨_, _, ih.down, .one, by rw [moreA_at]; omega⟩
      · exact .inl (by rw [moreA_off z]; exact ih.down)
    · have := h2.le
      exact .inr ⟨_, _, h1, h2.down, by rw [moreA_off (by omega)]; omega⟩
  | @right c k w _ ih =>
    rcases ih with ih | ⟨w1, w2, h1, h2, e⟩
    · by_cases z : c = d ∧ k + 1 = g
      · obtain ⟨rfl, rfl⟩ := z
        exact .inr ⟨_, _, ih.right, .one, by rw [moreA_at]; omega⟩
      · exact .inl (by rw [moreA_off z]; exact ih.right)
    · have := h2.le
      exact .inr ⟨_, _, h1, h2.right, by rw [moreA_off (by omega)]; omega⟩
theorem moreA_le (hb : 0 ≤ b) (p q : Nat) : a p q ≤ moreA a d g b p q := by unfold moreA; split <;> omega
theorem Way.more_up (hb : 0 ≤ b) (h : Way a i j c k w) : ∃ w', w ≤ w' ∧ Way (moreA a d g b) i j c k w' := by
  induction h with
  | one => exact ⟨_, moreA_le hb i j, .one⟩
  | @down c k w _ ih =>
    obtain ⟨w', h1, h2⟩ := ih
    exact ⟨_, by have := moreA_le (a := a) (d := d) (g := g) hb (c + 1) k; omega, h2.down⟩
  | @right c k w _ ih =>
    obtain ⟨w', h1, h2⟩ := ih
    exact ⟨_, by have := moreA_le (a := a) (d := d) (g := g) hb c (k + 1); omega, h2.right⟩
theorem Way.more_off (h : Way a i j c k w) (z : c < d ∨ k < g) : Way (moreA a d g b) i j c k w := h.congr fun p q hp hq => (moreA_off (by omega)).symm
theorem Way.more_to (h : Way a i j d g w) : Way (moreA a d g b) i j d g (w + b) := by
  cases h with
  | one => rw [← moreA_at (a := a)]; exact .one
  | @down c k w h =>
    have := (h.more_off (d := c + 1) (g := g) (b := b) (by omega)).down
    rw [moreA_at] at this
    rw [Int.add_assoc]; exact this
  | @right c k w h =>
    have := (h.more_off (d := d) (g := k + 1) (b := b) (by omega)).right
    rw [moreA_at] at this
    rw [Int.add_assoc]; exact this
theorem Way.more_from (h : Way a d g c k w) : Way (moreA a d g b) d g c k (w + b) := by
  induction h with
  | one => rw [← moreA_at (a := a)]; exact .one
  | @down c k w h ih =>
    have l := h.le
    have := ih.down
    rw [moreA_off (by omega)] at this
    rw [show w + a (c + 1) k + b = w + b + a (c + 1) k by omega]; exact this
  | @right c k w h ih =>
    have l := h.le
    have := ih.right
    rw [moreA_off (by omega)] at this
    rw [show w + a c (k + 1) + b = w + b + a c (k + 1) by omega]; exact this
theorem Most.more_to (hb : 0 ≤ b) (h : Most a i j d g F) : Most (moreA a d g b) i j d g (F + b) := ⟨h.1.more_to, fun w hw => by
  rcases hw.more_split with z | ⟨w1, w2, h1, h2, e⟩
  · have := h.2 _ z; omega
  · have := h.2 _ h1
    have := Most.start.2 _ h2
    omega⟩
theorem Most.more_from (hb : 0 ≤ b) (h : Most a d g c k T) : Most (moreA a d g b) d g c k (T + b) := ⟨h.1.more_from, fun w hw => by
  rcases hw.more_split with z | ⟨w1, w2, h1, h2, e⟩
  · have := h.2 _ z; omega
  · have := h.2 _ h2
    have := Most.start.2 _ h1
    omega⟩
theorem Most.more (hb : 0 ≤ b) (hG : Most a i j c k G) (hF : Most a i j d g F) (hT : Most a d g c k T) : Most (moreA a d g b) i j c k (max G (F + T - a d g + b)) := by
  have up : ∀ w, Way (moreA a d g b) i j c k w → w ≤ max G (F + T - a d g + b) := fun w hw => by
    rcases hw.more_split with z | ⟨w1, w2, h1, h2, e⟩
    · have := hG.2 _ z; omega
    · have := hF.2 _ h1
      have := hT.2 _ h2
      omega
  refine ⟨?_, up⟩
  by_cases z : F + T - a d g + b ≤ G
  · obtain ⟨w', h1, h2⟩ := hG.1.more_up (d := d) (g := g) hb
    have := up _ h2
    have e : max G (F + T - a d g + b) = w' := by omega
    rw [e]; exact h2
  · have := Way.cat (hF.1.more_to (b := b)) (hT.1.more_from (b := b))
    rw [moreA_at] at this
    have e : max G (F + T - a d g + b) = F + b + (T + b) - (a d g + b) := by omega
    rw [e]; exact this
theorem Way.col (h : Way a i g c k w) : k = g → ∀ v, Way a i g c k v → w = v := by
  induction h with
  | one => exact fun _ v hv => Int.le_antisymm (by
      cases hv with
      | one => exact Int.le_refl _
      | down h => have := h.le; omega
      | right h => have := h.le; omega) (Most.start.2 _ hv)
  | @down c k w h ih =>
    intro e v hv
    have hl := h.le
    cases hv with
    | one => omega
    | down h' => rw [ih e _ h']
    | right h' => have := h'.le; omega
  | @right c k w h ih => intro e; have := h.le; omega
end
/-! ### of halls -/
def moreL (rs : List (List Int)) (d g : Nat) (b : Int) : List (List Int) := rs.set d ((rs.getD d []).set g (at2 rs d g + b))
section
variable {m n d g e : Nat} {wide b : Int} {rs : List (List Int)}
theorem HOk.more (h : HOk m n wide rs) (hb : 0 ≤ b) (hd : d < m) : HOk m n (wide + b) (moreL rs d g b) := ⟨by simp [moreL, h.len], h.m1, h.m8, h.n1, h.n8, fun r hr => by
  have hl := h.len
  have hd' : d < rs.length := by omega
  have base : ∀ r ∈ rs, ROk n (wide + b) r := fun r hr => ⟨(h.rows r hr).1, fun x hx => by have := (h.rows r hr).2 x hx; omega⟩
  unfold moreL at hr
  rcases List.mem_or_eq_of_mem_set hr with z | z
  · exact base r z
  · have hm : rs.getD d [] ∈ rs := by rw [List.getD_eq_getElem?_getD, List.getElem?_eq_getElem hd']; exact List.getElem_mem _
    have hrow := h.rows _ hm
    have hat : 0 ≤ at2 rs d g ∧ (g < n → at2 rs d g < wide) := ⟨at2_nn h d g, fun q => by
      have e : at2 rs d g = (rs.getD d [])[g]'(by rw [hrow.1]; exact q) := by show (rs.getD d []).getD g 0 = _; rw [List.getD_eq_getElem?_getD, List.getElem?_eq_getElem (by rw [hrow.1]; exact q)]; rfl
      rw [e]
      exact (hrow.2 _ (List.getElem_mem _)).2⟩
    subst z
    refine ⟨by rw [List.length_set]; exact hrow.1, fun x hx => ?_⟩
    by_cases q : g < n
    · rcases List.mem_or_eq_of_mem_set hx with y | y
      · have := hrow.2 x y; omega
      · subst y; have := hat.2 q; omega
    · rw [List.set_eq_of_length_le (by rw [hrow.1]; omega)] at hx
      have := hrow.2 x hx; omega⟩
/-! ### minutes to spare -/
end
end Pl
end
section
set_option Elab.async false
set_option linter.all false
set_option maxRecDepth 100000
set_option maxHeartbeats 2000000
/-! alike, led: the program -/
namespace Pl
open PySem PySem.Spec L2 Lf Cp
open Cu (f_alike f_all_greatest f_check_both D_alike D_all_greatest D_check_both)
open Ck (f_check_like D_check_like f_led D_led)
end Pl
end
section
set_option Elab.async false
set_option linter.all false
set_option maxRecDepth 100000
set_option maxHeartbeats 1000000
/-! zip of any number of tuples, drawn one after the other: at the model's own level -/
namespace Zs
open PySem
open Sem (wp)
theorem forIn_list {M : Model} {A : Around} {E : Value → Shared → Prop} {α β : Type} (f : α → β → Sem (ForInStep β)) (I : List α → β → Shared → Prop) (Q : β → Shared → Prop)
    (h : ∀ (x : α) (rest : List α) (b : β) (s : Shared), I (x :: rest) b s → wpAny M A (f x b) (fun r s' => match r with | .yield b' => I rest b' s' | .done b' => Q b' s') E s)
    (he : ∀ b s, I [] b s → Q b s) : ∀ (xs : List α) (b : β) (s : Shared), I xs b s → wpAny M A (forIn xs b f) Q E s
  | [], b, s, i => by rw [List.forIn_nil]; exact wpAny_pure (he b s i)
  | x :: xs, b, s, i => by
    rw [List.forIn_cons]
    refine wpAny_bind (wpAny_mono (h x xs b s i) (fun r s' q => ?_) fun _ _ x => x)
    cases r with
    | yield b' => exact forIn_list f I Q h he xs b' s' q
    | done b' => exact wpAny_pure q
section
variable {prog : Program} {w : World} {A : Around} {E : Value → Shared → Prop}
/-- the cells of a zip of m tuples, made from N on: the iterators, their tuple, its own tuple, itself -/
structure Zt (h : Heap) (N : Nat) (ls : List Addr) (f0 : Value) (k : Nat) : Prop where
  z : ∃ b, h.get? (N + ls.length + 2) = some { cls := .type "zip", dict := none, data := .fields #[f0, .bool b, .bool false, .ref (N + ls.length), .ref (N + ls.length + 1)], slots := #[] }
  ti : h.get? (N + ls.length) = some { cls := .type "tuple", data := .seq ((List.range ls.length).map fun j => Value.ref (N + j)).toArray }
  own : ∃ vs : Array Value, vs.size = ls.length ∧ h.get? (N + ls.length + 1) = some { cls := .type "tuple", data := .seq vs }
  it : ∀ j (hj : j < ls.length), h.IsTupleIter (N + j) ls[j] k
/-- the rows that are walked -/
structure Rw (h : Heap) (N : Nat) (n : Nat) (ls : List Addr) (rows : List (Array Value)) : Prop where
  len : rows.length = ls.length
  at_ : ∀ j (hj : j < ls.length) (hr : j < rows.length), h.IsTuple ls[j] rows[j]
  size : ∀ xs ∈ rows, xs.size = n
  low : ∀ l ∈ ls, (l : Nat) < N
def col (rows : List (Array Value)) (k : Nat) : List Value := rows.map fun xs => xs.getD k .none
theorem Rw.keep {h h' : Heap} {N n : Nat} {ls : List Addr} {rows : List (Array Value)} (r : Rw h N n ls rows) (k : ∀ (b : Nat) o, b < N → h.get? b = some o → h'.get? b = some o) : Rw h' N n ls rows :=
  ⟨r.len, fun j hj hr => (r.at_ j hj hr).at fun o e => k _ o (r.low _ (List.getElem_mem hj)) e, r.size, r.low⟩
end
end Zs
end
section
set_option Elab.async false
set_option linter.all false
set_option maxRecDepth 100000
set_option maxHeartbeats 1000000
namespace Zs
open PySem PySem.W
open Sem (wp)
section
variable {prog : Program} {w : World} {A : Around} {E : Value → Shared → Prop} {s : Shared} {N T : Nat} {ls : List Addr} {rows : List (Array Value)} {n k : Nat} {f : Bool}
theorem nz {a b : Nat} (h : a ≠ b) : @Ne PySem.Addr a b := h
/-- so many of the iterators have gone on -/
structure Md (h₁ h : Heap) (N : Nat) (ls : List Addr) (k j : Nat) : Prop where
  size : h.objs.size = h₁.objs.size
  same : ∀ b : Nat, (b < N ∨ N + ls.length ≤ b) → h.get? b = h₁.get? b
  it : ∀ i (hi : i < ls.length), h.IsTupleIter (N + i) ls[i] (if i < j then k + 1 else k)
theorem Md.next {h₁ h h' : Heap} {j : Nat} (d : Md h₁ h N ls k j) (hj : j < ls.length) (i' : h'.IsTupleIter (N + j) ls[j] (k + 1)) (hs : Heap.SameBut (N + j) h h') : Md h₁ h' N ls k (j + 1) where
  size := hs.1.trans d.size
  same := fun b hb => (hs.2 b (nz (by omega))).trans (d.same b hb)
  it := fun i hi => by
    by_cases z : i = j
    · subst z; rw [if_pos (by omega)]; exact i'
    · have := (d.it i hi).at fun o e => (hs.2 (N + i) (nz (by omega))).trans e
      by_cases y : i < j
      · rw [if_pos y] at this; rw [if_pos (by omega)]; exact this
      · rw [if_neg y] at this; rw [if_neg (by omega)]; exact this
theorem rest_cons {j m : Nat} {x : Value} {rest : List Value} (e : x :: rest = (List.range' j (m - j)).map fun i => Value.ref (N + i)) : j < m ∧ x = .ref (N + j) ∧ rest = (List.range' (j + 1) (m - (j + 1))).map fun i => Value.ref (N + i) := by
  have hj : j < m := by
    rcases Nat.lt_or_ge j m with z | z
    · exact z
    · rw [Nat.sub_eq_zero_of_le z] at e; simp at e
  rw [show m - j = (m - (j + 1)) + 1 by omega, List.range'_succ] at e
  simp only [List.map_cons, List.cons.injEq] at e
  exact ⟨hj, e.1, e.2⟩
theorem rest_nil {j m : Nat} (hj : j ≤ m) (e : [] = (List.range' j (m - j)).map fun i => Value.ref (N + i)) : j = m := by
  rcases Nat.lt_or_ge j m with z | z
  · rw [show m - j = (m - (j + 1)) + 1 by omega, List.range'_succ] at e; simp at e
  · omega
theorem Rw.get {h : Heap} (r : Rw h N n ls rows) (hk : k < n) {j : Nat} (hj : j < ls.length) : ∃ xs : Array Value, rows[j]? = some xs ∧ h.IsTuple ls[j] xs ∧ xs[k]? = some (xs.getD k .none) := by
  have hr : j < rows.length := by rw [r.len]; exact hj
  refine ⟨rows[j], List.getElem?_eq_getElem hr, r.at_ j hj hr, ?_⟩
  have hs := r.size _ (List.getElem_mem hr)
  have hx : k < rows[j].size := by omega
  rw [Array.getElem?_eq_getElem hx, Array.getD_eq_getD_getElem?, Array.getElem?_eq_getElem hx]
  rfl
theorem col_take {j : Nat} {xs : Array Value} (e : rows[j]? = some xs) : (col rows k).take (j + 1) = (col rows k).take j ++ [xs.getD k .none] := by
  have hj : j < rows.length := (List.getElem?_eq_some_iff.mp e).1
  rw [List.take_succ]
  congr 1
  unfold col
  rw [List.getElem?_map, e]
  rfl
/-- a turn, with the tuple of an earlier one still out -/
theorem item_held {Q : Value → Shared → Prop} {oT : Obj} (z : Zt s.heap N ls (rawInt T) k) (hT : s.heap.get? T = some oT) (r : Rw s.heap N n ls rows) (m1 : 0 < ls.length) (m8 : ls.length ≤ 1000) (hk : k < n)
    (hQ : ∀ h', Zt h' N ls (rawInt T) (k + 1) → h'.get? s.heap.objs.size = some { cls := .type "tuple", data := .seq (col rows k).toArray } → h'.objs.size = s.heap.objs.size + 1 →
      (∀ (b : Nat) o, (b < N ∨ N + ls.length ≤ b) → b ≠ N + ls.length + 2 → s.heap.get? b = some o → h'.get? b = some o) → Q (.ref s.heap.objs.size) { s with heap := h' }) :
    wpAny (model prog w) A (Builtin.«zip.__next__» ⟨[.ref (N + ls.length + 2)], []⟩) (fun fin s' => ∃ v, fin = .done (.ret v) ∧ Q v s') E s := by
  obtain ⟨f, hz⟩ := z.z
  have hTI := z.ti
  show wpAny _ _ (field (.ref (N + ls.length + 2)) 2 >>= _) _ _ _
  refine wpAny_bind (wpAny_field hz rfl (x := .bool false) rfl ?_)
  show wpAny _ _ (field (.ref (N + ls.length + 2)) 3 >>= _) _ _ _
  refine wpAny_bind (wpAny_field hz rfl (x := .ref (N + ls.length)) rfl ?_)
  refine wpAny_bind (wpAny_seqItems hTI rfl ?_)
  have ne : (((List.range ls.length).map fun j => Value.ref (N + j)).toArray).isEmpty = false := by
    obtain ⟨m, hm⟩ : ∃ m, ls.length = m + 1 := ⟨ls.length - 1, by omega⟩
    rw [hm]; simp [Array.isEmpty]
  simp only [ne, Bool.false_eq_true, if_false]
  refine wpAny_bind (wpAny_tupleHeld_zip hz hT fun h₁ hz₁ hs₁ => ?_)
  simp only [Bool.false_eq_true, if_false]
  refine wpAny_bind ?_
  rw [← Array.forIn_toList]
  have r1 : Rw h₁ N n ls rows := r.keep fun b o hb e => hs₁.extBut b o (nz (by omega)) e
  have i1 : Md h₁ h₁ N ls k 0 := ⟨rfl, fun _ _ => rfl, fun i hi => by rw [if_neg (by omega)]; exact (z.it i hi).at fun o e => hs₁.extBut _ o (nz (by omega)) e⟩
  refine forIn_list _ (fun rest st s' => ∃ j h', j ≤ ls.length ∧ rest = (List.range' j (ls.length - j)).map (fun i => Value.ref (N + i)) ∧ st = (none, ((col rows k).take j).toArray) ∧ s' = { s with heap := h' } ∧ Md h₁ h' N ls k j) _ ?_ ?_ _ _ _ ?_
  · rintro x rest st s' ⟨j, h', hj', e, rfl, rfl, d⟩
    obtain ⟨hj, rfl, er⟩ := rest_cons e
    have r2 : Rw h' N n ls rows := r1.keep fun b o hb e => (d.same b (.inl hb)).trans e
    obtain ⟨xs, ex, tx, gx⟩ := r2.get hk hj
    have it := d.it j hj
    rw [if_neg (by omega)] at it
    refine wpAny_bind (wpAny_holding ?_)
    show wpAny _ _ (Builtin.SmallTypes.nextOf (.ref (N + j)) >>= _) _ _ _
    refine wpAny_bind (wpAny_nextOf_tuple_item (s := { s with heap := h' }) it tx gx fun h'' i' hs => wpAny_pure ?_)
    refine wpAny_pure ?_
    refine ⟨j + 1, h'', by omega, er, ?_, rfl, d.next hj i' hs⟩
    rw [col_take ex]
    simp
  · rintro st s' ⟨j, h', hj, e, rfl, rfl, d⟩
    have := rest_nil hj e
    subst this
    have ec : (col rows k).take ls.length = col rows k := List.take_of_length_le (by unfold col; rw [List.length_map, r.len]; exact Nat.le_refl _)
    rw [ec]
    show wpAny _ _ (newTuple (col rows k).toArray.toList >>= _) _ _ _
    have lc : (col rows k).length = ls.length := by unfold col; rw [List.length_map, r.len]
    refine wpAny_bind (wpAny_newTuple (hsz := by rw [sizeLine_eq]; simp only [List.toList_toArray]; omega) ?_)
    refine wpAny_pure ⟨_, rfl, ?_⟩
    have hsz : h'.objs.size = s.heap.objs.size := by rw [d.size, hs₁.1]
    have kp : ∀ (b : Nat) o, (b < N ∨ N + ls.length ≤ b) → b ≠ N + ls.length + 2 → s.heap.get? b = some o → (h'.push { cls := .type "tuple", data := .seq (col rows k).toArray.toList.toArray }).get? b = some o := fun b o hb hz e =>
      Heap.get?_push_of_some _ ((d.same b hb).trans (hs₁.extBut b o hz e))
    have hz2 : h'.get? (N + ls.length + 2) = _ := (d.same _ (.inr (by omega))).trans hz₁
    have hp := Heap.get?_push_size (h := h') (o := { cls := .type "tuple", data := .seq (col rows k).toArray.toList.toArray }) rfl
    have hz4 : (h'.push { cls := .type "tuple", data := .seq (col rows k).toArray.toList.toArray }).objs.size = h'.objs.size + 1 := Heap.size_push ..
    show Q (.ref h'.objs.size) _
    rw [hsz] at hp hz4 ⊢
    refine hQ _ ⟨⟨_, Heap.get?_push_of_some _ hz2⟩, kp _ _ (.inr (by omega)) (by omega) z.ti, ?_, fun j hj => ?_⟩ ?_ hz4 kp
    · obtain ⟨vs, hv, ho⟩ := z.own
      exact ⟨vs, hv, kp _ _ (.inr (by omega)) (by omega) ho⟩
    · have := d.it j hj
      rw [if_pos hj] at this
      exact this.at fun o e => Heap.get?_push_of_some _ e
    · simpa using hp
  · exact ⟨0, h₁, by omega, by simp [List.range_eq_range'], by simp, rfl, i1⟩
end
end Zs
end
section
set_option Elab.async false
set_option linter.all false
set_option maxRecDepth 100000
set_option maxHeartbeats 1000000
namespace Zs
open PySem PySem.W
open Sem (wp)
section
variable {prog : Program} {w : World} {A : Around} {E : Value → Shared → Prop} {s : Shared} {N T : Nat} {ls : List Addr} {rows : List (Array Value)} {n k : Nat} {f : Bool}
theorem updateSeq_own {T : Addr} {vs : Array Value} {x : Value} {j : Nat} {Q : Unit → Shared → Prop} (hT : s.heap.get? T = some { cls := .type "tuple", data := .seq vs }) (hv : vs.size ≤ 1000)
    (h : ∀ h', h'.get? T = some { cls := .type "tuple", data := .seq (vs.setIfInBounds j x) } → Heap.SameBut T s.heap h' → Q () { s with heap := h' }) :
    wpAny (model prog w) A (updateSeq T (·.setIfInBounds j x)) Q E s := by
  refine wpAny_updateSeq (hz := by rw [sizeLine_eq]; omega) (_hz' := by rw [sizeLine_eq]; simp only [Array.size_setIfInBounds]; omega) hT rfl (h _ ?_ (Heap.SameBut.update ..))
  rw [Heap.get?_update_self _ hT rfl]
  simp [Obj.mapSeq]
/-- so many of the iterators have gone on, and their things stand in the own tuple -/
structure Mo (h₁ h : Heap) (N : Nat) (ls : List Addr) (rows : List (Array Value)) (k j : Nat) : Prop where
  size : h.objs.size = h₁.objs.size
  same : ∀ b : Nat, (b < N ∨ N + ls.length ≤ b) → b ≠ N + ls.length + 1 → h.get? b = h₁.get? b
  it : ∀ i (hi : i < ls.length), h.IsTupleIter (N + i) ls[i] (if i < j then k + 1 else k)
  own : ∃ vs : Array Value, vs.size = ls.length ∧ vs.toList.take j = (col rows k).take j ∧ h.get? (N + ls.length + 1) = some { cls := .type "tuple", data := .seq vs }
theorem idx_rest {m : Nat} {g : Nat → Value} : ((List.range m).map g).zipIdx = (List.range' 0 (m - 0)).map fun i => (g i, i) := by
  apply List.ext_getElem
  · simp
  · intro i h1 h2
    simp
theorem ridx_cons {j m : Nat} {x : Value × Nat} {rest : List (Value × Nat)} (e : x :: rest = (List.range' j (m - j)).map fun i => (Value.ref (N + i), i)) : j < m ∧ x = (.ref (N + j), j) ∧ rest = (List.range' (j + 1) (m - (j + 1))).map fun i => (Value.ref (N + i), i) := by
  have hj : j < m := by
    rcases Nat.lt_or_ge j m with z | z
    · exact z
    · rw [Nat.sub_eq_zero_of_le z] at e; simp at e
  rw [show m - j = (m - (j + 1)) + 1 by omega, List.range'_succ] at e
  simp only [List.map_cons, List.cons.injEq] at e
  exact ⟨hj, e.1, e.2⟩
theorem ridx_nil {j m : Nat} (hj : j ≤ m) (e : [] = (List.range' j (m - j)).map fun i => (Value.ref (N + i), i)) : j = m := by
  rcases Nat.lt_or_ge j m with z | z
  · rw [show m - j = (m - (j + 1)) + 1 by omega, List.range'_succ] at e; simp at e
  · omega
/-- the first turn -/
theorem item_first {Q : Value → Shared → Prop} (z : Zt s.heap N ls .none k) (r : Rw s.heap N n ls rows) (m1 : 0 < ls.length) (m8 : ls.length ≤ 1000) (hk : k < n)
    (hQ : ∀ h', Zt h' N ls (rawInt s.heap.objs.size) (k + 1) → h'.get? s.heap.objs.size = some { cls := .type "tuple", data := .seq (col rows k).toArray } → h'.objs.size = s.heap.objs.size + 1 →
      (∀ (b : Nat) o, (b < N ∨ N + ls.length ≤ b) → b ≠ N + ls.length + 2 → b ≠ N + ls.length + 1 → s.heap.get? b = some o → h'.get? b = some o) → Q (.ref s.heap.objs.size) { s with heap := h' }) :
    wpAny (model prog w) A (Builtin.«zip.__next__» ⟨[.ref (N + ls.length + 2)], []⟩) (fun fin s' => ∃ v, fin = .done (.ret v) ∧ Q v s') E s := by
  obtain ⟨f, hz⟩ := z.z
  have hTI := z.ti
  obtain ⟨vs0, hv0, hO⟩ := z.own
  show wpAny _ _ (field (.ref (N + ls.length + 2)) 2 >>= _) _ _ _
  refine wpAny_bind (wpAny_field hz rfl (x := .bool false) rfl ?_)
  show wpAny _ _ (field (.ref (N + ls.length + 2)) 3 >>= _) _ _ _
  refine wpAny_bind (wpAny_field hz rfl (x := .ref (N + ls.length)) rfl ?_)
  refine wpAny_bind (wpAny_seqItems hTI rfl ?_)
  have ne : (((List.range ls.length).map fun j => Value.ref (N + j)).toArray).isEmpty = false := by
    obtain ⟨m, hm⟩ : ∃ m, ls.length = m + 1 := ⟨ls.length - 1, by omega⟩
    rw [hm]; simp [Array.isEmpty]
  simp only [ne, Bool.false_eq_true, if_false]
  refine wpAny_bind ?_
  unfold Builtin.SmallTypes.ownedTupleIsFree
  refine wpAny_bind (wpAny_field hz rfl (x := .none) rfl (wpAny_pure ?_))
  simp only [if_true]
  refine wpAny_bind (wpAny_rule ?_)
  refine wpAny_bind (wpAny_field hz rfl (x := .ref (N + ls.length + 1)) rfl ?_)
  refine wpAny_bind (wpAny_setField_rec hz (by simp) fun h₁ hz₁ hs₁ => ?_)
  refine wpAny_bind ?_
  have r1 : Rw h₁ N n ls rows := r.keep fun b o hb e => hs₁.extBut b o (nz (by omega)) e
  have o1 : h₁.get? (N + ls.length + 1) = some { cls := .type "tuple", data := .seq vs0 } := hs₁.extBut _ _ (nz (by omega)) hO
  have i1 : Mo h₁ h₁ N ls rows k 0 := ⟨rfl, fun _ _ _ => rfl, fun i hi => by rw [if_neg (by omega)]; exact (z.it i hi).at fun o e => hs₁.extBut _ o (nz (by omega)) e, vs0, hv0, by simp, o1⟩
  refine forIn_list _ (fun rest st s' => ∃ j h', j ≤ ls.length ∧ rest = (List.range' j (ls.length - j)).map (fun i => (Value.ref (N + i), i)) ∧ st = (none, ()) ∧ s' = { s with heap := h' } ∧ Mo h₁ h' N ls rows k j) _ ?_ ?_ _ _ _ ?_
  · rintro x rest st s' ⟨j, h', hj', e, rfl, rfl, d⟩
    obtain ⟨hj, rfl, er⟩ := ridx_cons e
    have r2 : Rw h' N n ls rows := r1.keep fun b o hb e => (d.same b (.inl hb) (by omega)).trans e
    obtain ⟨xs, ex, tx, gx⟩ := r2.get hk hj
    have it := d.it j hj
    rw [if_neg (by omega)] at it
    obtain ⟨vs, hv, ht, ho⟩ := d.own
    refine wpAny_bind (wpAny_onRaise ?_)
    show wpAny _ _ (Builtin.SmallTypes.nextOf (.ref (N + j)) >>= _) _ _ _
    refine wpAny_bind (wpAny_nextOf_tuple_item (s := { s with heap := h' }) it tx gx fun h2 i' hs => wpAny_pure ?_)
    have ho2 : h2.get? (N + ls.length + 1) = some { cls := .type "tuple", data := .seq vs } := hs.extBut _ _ (nz (by omega)) ho
    refine wpAny_bind (wpAny_seqItems (s := { s with heap := h2 }) ho2 rfl ?_)
    refine wpAny_bind (updateSeq_own (s := { s with heap := h2 }) ho2 (by omega) fun h3 ho3 hs3 => ?_)
    refine wpAny_bind (wpAny_letGo (wpAny_pure ?_))
    refine ⟨j + 1, h3, by omega, er, rfl, rfl, ⟨hs3.1.trans (hs.1.trans d.size), fun b hb hb2 => (hs3.2 b (nz hb2)).trans ((hs.2 b (nz (by omega))).trans (d.same b hb hb2)), fun i hi => ?_, _, by rw [Array.size_setIfInBounds]; exact hv, ?_, ho3⟩⟩
    · by_cases z : i = j
      · subst z
        rw [if_pos (by omega)]
        exact i'.at fun o e => hs3.extBut _ o (nz (by omega)) e
      · have := ((d.it i hi).at fun o e => (hs.2 (N + i) (nz (by omega))).trans e).at fun o e => hs3.extBut _ o (nz (by omega)) e
        by_cases y : i < j
        · rw [if_pos y] at this; rw [if_pos (by omega)]; exact this
        · rw [if_neg y] at this; rw [if_neg (by omega)]; exact this
    · rw [col_take ex, ← ht, Array.toList_setIfInBounds, List.take_succ, List.getElem?_set_self (by simpa [hv] using hj), List.take_set_of_le (Nat.le_refl j)]
      rfl
  · rintro st s' ⟨j, h', hj, e, rfl, rfl, d⟩
    have := ridx_nil hj e
    subst this
    obtain ⟨vs, hv, ht, ho⟩ := d.own
    have lc : (col rows k).length = ls.length := by unfold col; rw [List.length_map, r.len]
    rw [List.take_of_length_le (by simp [hv]), List.take_of_length_le (by omega)] at ht
    refine wpAny_bind (wpAny_seqItems (s := { s with heap := h' }) ho rfl ?_)
    refine wpAny_bind (wpAny_newTuple (hsz := by rw [sizeLine_eq]; simp; omega) ?_)
    have hsz : h'.objs.size = s.heap.objs.size := by rw [d.size, hs₁.1]
    have hzz : h'.get? (N + ls.length + 2) = some { cls := .type "zip", dict := none, data := .fields #[.ellipsis, .bool f, .bool false, .ref (N + ls.length), .ref (N + ls.length + 1)], slots := #[] } := (d.same _ (.inr (by omega)) (by omega)).trans hz₁
    have hzlt := Heap.lt_size hzz
    refine wpAny_bind ?_
    unfold Builtin.SmallTypes.ownedTupleHandOut
    rw [Array.toArray_toList]
    have hz₆ : (h'.push { cls := .type "tuple", data := .seq vs }).get? (N + ls.length + 2) = some { cls := .type "zip", dict := none, data := .fields #[.ellipsis, .bool f, .bool false, .ref (N + ls.length), .ref (N + ls.length + 1)], slots := #[] } := Heap.get?_push_of_some _ hzz
    refine wpAny_bind (wpAny_setField_rec (s := { s with heap := h'.push { cls := .type "tuple", data := .seq vs } }) hz₆ (by simp) fun h₇ hz₇ hs₇ => ?_)
    refine wpAny_setField_rec (s := { s with heap := h₇ }) hz₇ (by simp) fun h₈ hz₈ hs₈ => ?_
    have kp : ∀ (b : Nat) o, b ≠ N + ls.length + 2 → h'.get? b = some o → h₈.get? b = some o := fun b o hz e => hs₈.extBut _ _ (nz hz) (hs₇.extBut _ _ (nz hz) (Heap.get?_push_of_some _ e))
    have kp2 : ∀ (b : Nat) o, (b < N ∨ N + ls.length ≤ b) → b ≠ N + ls.length + 2 → b ≠ N + ls.length + 1 → s.heap.get? b = some o → h₈.get? b = some o := fun b o hb h2 h1 e => kp b o h2 ((d.same b hb h1).trans (hs₁.extBut b o (nz h2) e))
    have hT₈ : h₈.get? h'.objs.size = some { cls := .type "tuple", data := .seq vs } := hs₈.extBut _ _ (Nat.ne_of_gt hzlt) (hs₇.extBut _ _ (Nat.ne_of_gt hzlt) (Heap.get?_push_size _ rfl))
    have hz8 : h₈.objs.size = h'.objs.size + 1 := by rw [hs₈.1, hs₇.1, Heap.size_push]
    refine wpAny_pure ⟨_, rfl, ?_⟩
    show Q (.ref h'.objs.size) { s with heap := h₈ }
    rw [hsz] at hT₈ hz8 ⊢
    have ev : vs = (col rows k).toArray := by rw [← ht]
    refine hQ h₈ ⟨⟨_, by rw [← hsz]; exact hz₈⟩, kp2 (N + ls.length) _ (.inr (by omega)) (by omega) (by omega) z.ti, ⟨vs, hv, kp (N + ls.length + 1) _ (by omega) ho⟩, fun j hj => ?_⟩ (by rw [← ev]; exact hT₈) hz8 kp2
    have := d.it j hj
    rw [if_pos hj] at this
    exact this.at fun o e => kp (N + j) o (by omega) e
  · exact ⟨0, h₁, by omega, by simpa using idx_rest, rfl, rfl, i1⟩
end
end Zs
end
section
set_option Elab.async false
set_option linter.all false
set_option maxRecDepth 100000
set_option maxHeartbeats 1000000
namespace Zs
open PySem PySem.W
open Sem (wp)
section
variable {prog : Program} {w : World} {A : Around} {E : Value → Shared → Prop} {s : Shared} {N T : Nat} {ls : List Addr} {rows : List (Array Value)} {n k : Nat} {f : Bool}
theorem end_held {Q : PySem.Fin → Shared → Prop} {oT : Obj} (hh : A.handled = none) (z : Zt s.heap N ls (rawInt T) k) (hT : s.heap.get? T = some oT) (r : Rw s.heap N n ls rows) (m1 : 0 < ls.length) (hk : n ≤ k)
    (hE : ∀ h' e, (∀ (b : Nat) o, (b < N ∨ N + ls.length ≤ b) → b ≠ N + ls.length + 2 → s.heap.get? b = some o → h'.get? b = some o) → (∃ o, h'.get? e = some o ∧ o.cls = .type "StopIteration") → E (.ref e) { s with heap := h' }) :
    wpAny (model prog w) A (Builtin.«zip.__next__» ⟨[.ref (N + ls.length + 2)], []⟩) Q E s := by
  obtain ⟨f, hz⟩ := z.z
  have hTI := z.ti
  show wpAny _ _ (field (.ref (N + ls.length + 2)) 2 >>= _) _ _ _
  refine wpAny_bind (wpAny_field hz rfl (x := .bool false) rfl ?_)
  show wpAny _ _ (field (.ref (N + ls.length + 2)) 3 >>= _) _ _ _
  refine wpAny_bind (wpAny_field hz rfl (x := .ref (N + ls.length)) rfl ?_)
  refine wpAny_bind (wpAny_seqItems hTI rfl ?_)
  have ne : (((List.range ls.length).map fun j => Value.ref (N + j)).toArray).isEmpty = false := by
    obtain ⟨m, hm⟩ : ∃ m, ls.length = m + 1 := ⟨ls.length - 1, by omega⟩
    rw [hm]; simp [Array.isEmpty]
  simp only [ne, Bool.false_eq_true, if_false]
  refine wpAny_bind (wpAny_tupleHeld_zip hz hT fun h₁ hz₁ hs₁ => ?_)
  simp only [Bool.false_eq_true, if_false]
  refine wpAny_bind ?_
  rw [← Array.forIn_toList]
  have r1 : Rw h₁ N n ls rows := r.keep fun b o hb e => hs₁.extBut b o (nz (by omega)) e
  refine forIn_list _ (fun rest st s' => rest = (List.range' 0 (ls.length - 0)).map (fun i => Value.ref (N + i)) ∧ s' = { s with heap := h₁ }) _ ?_ ?_ _ _ _ ?_
  · rintro x rest st s' ⟨e, rfl⟩
    obtain ⟨hj, rfl, er⟩ := rest_cons e
    have it := (z.it 0 hj).at fun o e => hs₁.extBut _ o (nz (by omega)) e
    have hr : 0 < rows.length := by rw [r.len]; exact hj
    have tx := r1.at_ 0 hj hr
    have gx : rows[0][k]? = none := by
      have := r.size _ (List.getElem_mem hr)
      rw [Array.getElem?_eq_none (by omega)]
    refine wpAny_bind (wpAny_holding ?_)
    show wpAny _ _ (Builtin.SmallTypes.nextOf (.ref (N + 0)) >>= _) _ _ _
    refine wpAny_bind (wpAny_nextOf_tuple_end (s := { s with heap := h₁ }) hh it tx gx fun h₂ e hs he => ?_)
    exact hE h₂ e (fun b o hb h2 x => hs b o (nz (by omega)) (hs₁.extBut b o (nz h2) x)) he
  · rintro st s' ⟨e, _⟩
    have := rest_nil (Nat.zero_le _) e
    omega
  · exact ⟨by simp [List.range_eq_range'], rfl⟩
/-- a zip that has been drawn from so often, while what it told is held -/
structure Zc (h : Heap) (N : Nat) (n : Nat) (ls : List Addr) (rows : List (Array Value)) (k : Nat) : Prop where
  st : (k = 0 ∧ Zt h N ls .none 0) ∨ ∃ (T : Nat) (oT : Obj), Zt h N ls (rawInt (T : Nat)) k ∧ h.get? T = some oT ∧ N + ls.length + 2 < T
  rw_ : Rw h N n ls rows
theorem Zt.keep {h h' : Heap} {f0 : Value} (z : Zt h N ls f0 k) (kp : ∀ (b : Nat) o, b ≤ N + ls.length + 2 → h.get? b = some o → h'.get? b = some o) : Zt h' N ls f0 k :=
  ⟨let ⟨b, e⟩ := z.z; ⟨b, kp _ _ (Nat.le_refl _) e⟩, kp _ _ (by omega) z.ti, let ⟨vs, hv, e⟩ := z.own; ⟨vs, hv, kp _ _ (by omega) e⟩, fun j hj => (z.it j hj).at fun o e => kp (N + j) o (by omega) e⟩
theorem Zc.keep {h h' : Heap} (c : Zc h N n ls rows k) (kp : ∀ (b : Nat) o, b ≠ N + ls.length + 3 → h.get? b = some o → h'.get? b = some o) (hT : ∀ (T : Nat) oT, T = N + ls.length + 3 → h.get? T = some oT → ∃ o, h'.get? T = some o) : Zc h' N n ls rows k := by
  refine ⟨?_, c.rw_.keep fun b o hb e => kp b o (by omega) e⟩
  rcases c.st with ⟨h0, z⟩ | ⟨T, oT, z, t, lt⟩
  · exact .inl ⟨h0, z.keep fun b o hb e => kp b o (by omega) e⟩
  · by_cases y : (T : Nat) = N + ls.length + 3
    · obtain ⟨o, ho⟩ := hT T oT y t
      exact .inr ⟨T, o, z.keep fun b o hb e => kp b o (by omega) e, ho, lt⟩
    · exact .inr ⟨T, oT, z.keep fun b o hb e => kp b o (by omega) e, kp T oT y t, lt⟩
theorem zip_type {h : Heap} {g d tk os} (c : Zc h N n ls rows k) : Shared.TypeIs ⟨h, g, d, tk, os⟩ (.ref (N + ls.length + 2)) "zip" := by
  rcases c.st with ⟨_, z⟩ | ⟨T, oT, z, _⟩
  · obtain ⟨b, e⟩ := z.z; exact ⟨_, e, rfl⟩
  · obtain ⟨b, e⟩ := z.z; exact ⟨_, e, rfl⟩
theorem zip_item {Q : Option Value → Shared → Prop} (c : Zc s.heap N n ls rows k) (m1 : 0 < ls.length) (m8 : ls.length ≤ 1000) (hk : k < n)
    (hQ : ∀ h', Zc h' N n ls rows (k + 1) → h'.get? s.heap.objs.size = some { cls := .type "tuple", data := .seq (col rows k).toArray } → h'.objs.size = s.heap.objs.size + 1 →
      (∀ (b : Nat) o, (b < N ∨ N + ls.length + 2 < b) → s.heap.get? b = some o → h'.get? b = some o) → Q (some (.ref s.heap.objs.size)) { s with heap := h' }) :
    wpAny (model prog w) A (pyNext (.ref (N + ls.length + 2))) Q E s := by
  have hTy : s.TypeIs (.ref (N + ls.length + 2)) "zip" := zip_type (g := s.gens) (d := s.drawn) (tk := s.toks) (os := s.os) c
  have lo : N + ls.length + 2 < s.heap.objs.size := by obtain ⟨o, e, _⟩ := hTy; exact Heap.lt_size e
  unfold pyNext
  refine wpAny_bind (wpAny_attempt (wpAny_callSpecial?_slot (name := Str.ofString "__next__") hTy F.slot_zip_next
    (wpAny_call_entry F.slot_zip_next hTy F.entry_zip_next ?_ (F.args_zip_next_1 _))))
  rcases c.st with ⟨rfl, z⟩ | ⟨T, oT, z, t, lt⟩
  · refine item_first z c.rw_ m1 m8 hk fun h' z' ht hz kp => wpAny_pure (hQ h' ⟨.inr ⟨s.heap.objs.size, _, z', ht, lo⟩, c.rw_.keep fun b o hb e => kp b o (.inl hb) (by omega) (by omega) e⟩ ht hz fun b o hb e => kp b o (by omega) (by omega) (by omega) e)
  · refine item_held z t c.rw_ m1 m8 hk fun h' z' ht hz kp => wpAny_pure (hQ h' ⟨.inr ⟨T, oT, z', kp T oT (by omega) (by omega) t, lt⟩, c.rw_.keep fun b o hb e => kp b o (.inl hb) (by omega) e⟩ ht hz fun b o hb e => kp b o (by omega) (by omega) e)
theorem zip_done {Q : Option Value → Shared → Prop} (hh : A.handled = none) (c : Zc s.heap N n ls rows k) (m1 : 0 < ls.length) (n1 : 0 < n) (hk : n ≤ k)
    (hQ : ∀ h', (∀ (b : Nat) o, (b < N ∨ N + ls.length + 2 < b) → s.heap.get? b = some o → h'.get? b = some o) → Q none { s with heap := h' }) :
    wpAny (model prog w) A (pyNext (.ref (N + ls.length + 2))) Q E s := by
  have hTy : s.TypeIs (.ref (N + ls.length + 2)) "zip" := zip_type (g := s.gens) (d := s.drawn) (tk := s.toks) (os := s.os) c
  unfold pyNext
  rcases c.st with ⟨rfl, z⟩ | ⟨T, oT, z, t, lt⟩
  · omega
  · refine wpAny_bind (wpAny_attempt (wpAny_callSpecial?_slot (name := Str.ofString "__next__") hTy F.slot_zip_next
      (wpAny_call_entry F.slot_zip_next hTy F.entry_zip_next (end_held hh z t c.rw_ m1 hk fun h' e kp he => ?_) (F.args_zip_next_1 _))))
    obtain ⟨o, ho, hc⟩ := he
    refine wpAny_bind (wpAny_isInstance (T := "StopIteration") (b := true) ⟨o, ho, hc⟩ isSubtype_stop ?_)
    exact wpAny_pure (hQ h' fun b o hb e => kp b o (by omega) (by omega) e)
end
end Zs
end
section
set_option Elab.async false
set_option linter.all false
set_option maxRecDepth 100000
set_option maxHeartbeats 1000000
namespace Zs
open PySem PySem.W PyProof.Rows
open Sem (wp)
section
variable {prog : Program} {w : World} {A : Around} {E : Value → Shared → Prop} {s : Shared} {N T : Nat} {ls : List Addr} {rows : List (Array Value)} {n k : Nat} {f : Bool}
/-- the tuples told so far -/
structure Gt (rows : List (Array Value)) (lo : Nat) (h : Heap) (as : List Addr) : Prop where
  at_ : ∀ (j : Nat) (a : Addr), as[j]? = some a → h.get? a = some { cls := .type "tuple", data := .seq (col rows j).toArray }
  up : ∀ a ∈ as, lo < (a : Nat)
  rise : as.Pairwise fun a b : Nat => a < b
theorem Zc.keep' {h h' : Heap} {S : Nat} (c : Zc h N n ls rows k) (hS : N + ls.length + 2 < S) (kp : ∀ (b : Nat) o, b ≠ S → h.get? b = some o → h'.get? b = some o) (hT : ∀ oT, h.get? S = some oT → ∃ o, h'.get? S = some o) : Zc h' N n ls rows k := by
  refine ⟨?_, c.rw_.keep fun b o hb e => kp b o (by omega) e⟩
  rcases c.st with ⟨h0, z⟩ | ⟨T, oT, z, t, lt⟩
  · exact .inl ⟨h0, z.keep fun b o hb e => kp b o (by omega) e⟩
  · by_cases y : T = S
    · subst y
      obtain ⟨o, ho⟩ := hT oT t
      exact .inr ⟨T, o, z.keep fun b o hb e => kp b o (by omega) e, ho, lt⟩
    · exact .inr ⟨T, oT, z.keep fun b o hb e => kp b o (by omega) e, kp T oT y t, lt⟩
theorem loop {S : Nat} {R : Result → Shared → Prop} (hh : A.handled = none) (m1 : 0 < ls.length) (m8 : ls.length ≤ 1000) (n1 : 0 < n) (n8 : n ≤ 1000) (hS : N + ls.length + 2 < S) (res : Value) {h₁ : Heap}
    (hR : ∀ h' tk acc c as, (∀ (b : Nat) o, b ≠ S → (b < N ∨ N + ls.length + 2 < b) → h₁.get? b = some o → h'.get? b = some o) → h'.get? S = some { cls := .type "list", dict := none, data := .seq acc c, slots := #[] } → as.length = n → Gt rows S h' as →
      acc.toList = as.map Value.ref → R (.ok (.ret res)) { s with heap := h', toks := tk }) :
    ∀ (t i : Nat) (h : Heap) (tk c : Nat) (acc : Array Value) (as : List Addr), n - i = t → i ≤ n → Zc h N n ls rows i → (∀ (b : Nat) o, b ≠ S → (b < N ∨ N + ls.length + 2 < b) → h₁.get? b = some o → h.get? b = some o) →
      h.get? S = some { cls := .type "list", dict := none, data := .seq acc c, slots := #[] } → acc.toList = as.map Value.ref → as.length = i → Gt rows S h as →
      codeAny (model prog w) A (.builtin "list.extend.loop" ⟨[.ref S, .ref (N + ls.length + 2), res], []⟩) R { s with heap := h, toks := tk } := by
  intro t
  induction t with
  | zero =>
    intro i h tk c acc as hk hi hst hkeep hS' hacc hal hG
    refine codeAny_builtin PySem.F.entry_extend_loop ?_
    rw [Around.under_plainId PySem.F.plain_extend_loop _]
    show wpAny _ A.in1 (pyNext (.ref (N + ls.length + 2)) >>= _) _ _ _
    refine wpAny_bind (zip_done (s := { s with heap := h, toks := tk }) (A := A.in1) hh hst m1 n1 (by omega) fun h' he => ?_)
    exact wpAny_pure (hR h' tk acc c as (fun b o h1 h2 e => he b o h2 (hkeep b o h1 h2 e)) (he S _ (.inr hS) hS') (by omega) ⟨fun j a hj => he a _ (.inr (by have := hG.up a (List.mem_of_getElem? hj); omega)) (hG.at_ j a hj), hG.up, hG.rise⟩ hacc)
  | succ t ih =>
    intro i h tk c acc as hk hi hst hkeep hS' hacc hal hG
    have hlt : i < n := by omega
    have hsz : acc.size = i := by rw [← Array.length_toList, hacc, List.length_map, hal]
    refine codeAny_builtin PySem.F.entry_extend_loop ?_
    rw [Around.under_plainId PySem.F.plain_extend_loop _]
    show wpAny _ A.in1 (pyNext (.ref (N + ls.length + 2)) >>= _) _ _ _
    refine wpAny_bind (zip_item (s := { s with heap := h, toks := tk }) (A := A.in1) hst m1 m8 hlt fun h' hst' ht hz kp => ?_)
    dsimp only at ht hz kp ⊢
    have hS2 := kp S _ (.inr hS) hS'
    have hSl : S < h.objs.size := Heap.lt_size hS'
    have up : ∀ (b : Nat) o, b ≠ S → h'.get? b = some o → (h'.update S (Obj.mapSeq (·.push (Value.ref h.objs.size)))).get? b = some o := fun b o hb e => (Heap.get?_update_other _ _ (Ne.symm hb)).trans e
    have self := Heap.get?_update_self (Obj.mapSeq (·.push (Value.ref h.objs.size))) hS2 rfl
    show wpAny _ A.in1 (updateSeq S (·.push (Value.ref h.objs.size)) >>= _) _ _ _
    refine wpAny_bind ?_
    refine wpAny_updateSeq (s := { s with heap := h', toks := tk }) hS2 rfl (wpAny_pure ⟨plainId_quiet PySem.F.plain_extend_loop _, ih (i + 1) _ tk _ (acc.push (Value.ref h.objs.size)) (as ++ [h.objs.size]) (by omega) hlt (hst'.keep' hS up fun _ _ => ⟨_, self⟩)
      (fun b o h1 h2 e => up b o h1 (kp b o h2 (hkeep b o h1 h2 e))) self (by rw [Array.toList_push, hacc, List.map_append]; rfl) (by rw [List.length_append, hal]; rfl) ⟨fun j b hj => ?_, fun a ha => ?_, ?_⟩⟩) (by rw [sizeLine_eq, hsz]; omega) (by show (acc.push (Value.ref h.objs.size)).size ≤ sizeLine + 1; rw [Array.size_push, sizeLine_eq, hsz]; omega)
    · rcases Nat.lt_trichotomy j as.length with h1 | h1 | h1
      · rw [List.getElem?_append_left h1] at hj
        have hb := hG.up b (List.mem_of_getElem? hj)
        exact up b _ (by omega) (kp b _ (.inr (by omega)) (hG.at_ j b hj))
      · subst h1
        have hb : h.objs.size = b := by simpa using hj
        subst hb
        rw [hal]
        exact up _ _ (Nat.ne_of_gt hSl) ht
      · have hnone : (as ++ [h.objs.size])[j]? = none := List.getElem?_eq_none (by rw [List.length_append, List.length_singleton]; omega)
        rw [hnone] at hj; cases hj
    · rcases List.mem_append.mp ha with ha | ha
      · exact hG.up a ha
      · rw [List.mem_singleton.mp ha]; exact hSl
    · refine List.pairwise_append.mpr ⟨hG.rise, List.pairwise_singleton _ _, fun a ha b hb => ?_⟩
      rw [List.mem_singleton.mp hb]
      obtain ⟨j, hj⟩ := List.mem_iff_getElem?.mp ha
      exact Heap.lt_size (hG.at_ j a hj)
end
end Zs
end
section
set_option Elab.async false
set_option linter.all false
set_option maxRecDepth 100000
set_option maxHeartbeats 1000000
namespace Zs
open PySem PySem.W PyProof.Rows
open Sem (wp)
section
variable {prog : Program} {w : World} {A : Around} {E : Value → Shared → Prop} {s : Shared} {N : Nat} {ls : List Addr} {rows : List (Array Value)} {n : Nat}
/-- the iterators made so far -/
structure Ib (h₀ h : Heap) (ls : List Addr) (j : Nat) : Prop where
  size : h.objs.size = h₀.objs.size + j
  same : ∀ b o, h₀.get? b = some o → h.get? b = some o
  it : ∀ i (hi : i < ls.length), i < j → h.get? (h₀.objs.size + i) = some { cls := .type "tuple_iterator", data := .fields #[.ref ls[i], .int 0 0] }
end
end Zs
end
section
set_option Elab.async false
set_option linter.all false
set_option maxRecDepth 100000
set_option maxHeartbeats 1000000
namespace Zs
open PySem PySem.W PyProof.Rows
open Sem (wp)
end Zs
end
section
set_option Elab.async false
set_option linter.all false
set_option maxRecDepth 100000
set_option maxHeartbeats 1000000
namespace Zs
open PySem PySem.W
open Sem (wp)
section
variable {prog : Program} {w : World} {A : Around} {E : Value → Shared → Prop} {s : Shared} {N : Nat} {ls : List Addr} {rows : List (Array Value)} {n : Nat}
theorem iter_tuple : ∃ v, typeLookup (.type "tuple") "__iter__" = pure (some v) := ⟨.builtin "tuple.__iter__", by rw [typeLookup_type, builtinLookup_eq_fast]; kernel_rfl⟩
end
end Zs
namespace L2
open PySem PySem.W Zs
/-! ### tuple(zip(*e)) -/
end L2
end
section
set_option Elab.async false
set_option linter.all false
set_option maxRecDepth 100000
set_option maxHeartbeats 2000000
/-! tuple(zip(*e)): the columns of a tuple of tuples -/
namespace Lf
open PySem PySem.Spec L2 Zs
end Lf
end
section
set_option Elab.async false
set_option linter.all false
set_option maxRecDepth 100000
set_option maxHeartbeats 2000000
/-! the least of three numbers -/
namespace Lf
open PySem PySem.Spec L2 PyProof.Rows
end Lf
end
section
set_option Elab.async false
set_option linter.all false
set_option maxRecDepth 100000
set_option maxHeartbeats 2000000
/-! Lf52: x *= e on ints -/
namespace Lf
open PySem PySem.Spec L2
end Lf
end
section
set_option Elab.async false
set_option linter.all false
set_option maxRecDepth 100000
set_option maxHeartbeats 2000000
/-! sum(.. for .. in ..): the turns, and the list of one that keeps the sum -/
namespace Lf
open PySem PySem.Spec L2
end Lf
end
section
set_option Elab.async false
set_option linter.all false
set_option maxRecDepth 100000
set_option maxHeartbeats 2000000
/-! sum(.. for .. in ..) -/
namespace Lf
open PySem PySem.Spec L2
variable [Tabs]
def okS (r : R (Int × En)) : R (OT × En) := bd r fun r => .ok (.d (.int r.1), r.2)
end Lf
end
section
set_option Elab.async false
set_option linter.all false
set_option maxRecDepth 100000
set_option maxHeartbeats 2000000
/-! sum(.. for .. in ..) with the names' places; rows[..][k] += c -/
namespace Lf
open PySem PySem.Spec L2
/-! ### rows[e][k] += c -/
end Lf
end
section
set_option Elab.async false
set_option linter.all false
set_option maxRecDepth 100000
set_option maxHeartbeats 2000000
/-! [f, g][e](..); xs.index(x) of ints; rows[j + c][k] read and written -/
namespace Lf
open PySem PySem.Spec L2 PyProof.Rows
variable [Tabs]
/-! ### a list of two defs, one of them called -/
def eOpq (v : V) : DE := fun en => .ok (.opq v, en)
section
variable {X : Cx} {W : WX} {k n : Nat} {f1 f2 : Addr} {fd1 fd2 : FuncData} {ps1 ps2 : List Str} {g1 g2 : DF} {x1 x2 : Str} {p1 p2 p3 p4 pos : Pos} {c e : Expr} {es : List Expr} {de : DE} {da : DA}
theorem EX_opq {x : Str} {a : Addr} (hg : Gl X x) (hm : X.mg x = some (.ref a)) (hd : (x == ("__debug__" : Str)) = false := by decide) : EX X W (.Name x pos) (eOpq (.ref a)) :=
  PE.imp (pe_glob (v := .ref a) hg hm rfl hd) fun σ H Q q => by
  obtain ⟨G, F, τ, en, h, hp⟩ := q
  exact hp G H [.ref a] (fun _ _ e => e) h.withQ (.ref a) rfl
end
/-! ### xs.index(x), ints -/
/-! ### rows[j + c][k], read and written -/
end Lf
end
section
set_option Elab.async false
set_option linter.all false
set_option maxRecDepth 100000
set_option maxHeartbeats 2000000
/-! list(range(..)); a local name that holds a def, called -/
namespace Lf
open PySem PySem.Spec L2 PyProof.Rows
/-! ### a local name that holds a def, called -/
/-! ### xs.pop(), xs.pop(e): what is taken out is data -/
end Lf
end
section
set_option Elab.async false
set_option linter.all false
set_option maxRecDepth 100000
set_option maxHeartbeats 2000000
/-! sorted(xs, reverse=True) of ints -/
namespace Lf
open PySem PySem.Spec L2 PyProof.Rows
end Lf
end
section
set_option Elab.async false
set_option linter.all false
set_option maxRecDepth 100000
set_option maxHeartbeats 2000000
/-! sorted(xs) of alike tuples that are not empty -/
namespace Lf
open PySem PySem.Spec L2 PyProof.Rows
end Lf
end
section
set_option Elab.async false
set_option linter.all false
set_option maxRecDepth 100000
set_option maxHeartbeats 2000000
/-! reversed(x) of a list or a tuple as what is walked; tuples of things: made, taken apart -/
namespace Lf
open PySem PySem.Spec L2
/-! ### a tuple of things -/
end Lf
end
section
set_option Elab.async false
set_option linter.all false
set_option maxRecDepth 100000
set_option maxHeartbeats 4000000
/-! sorted(t), sorted(t, reverse=True), t a tuple of ints -/
namespace L2
open PySem PySem.Spec PyProof.Rows
end L2
namespace Lf
open PySem PySem.Spec L2 PyProof.Rows
end Lf
end
section
set_option Elab.async false
set_option linter.all false
set_option maxRecDepth 100000
set_option maxHeartbeats 2000000
/-! dicts of one's own with whole-number keys whose values are data -/
namespace Lf
open PySem PySem.Spec L2
end Lf
end
section
set_option Elab.async false
set_option linter.all false
set_option maxRecDepth 100000
set_option maxHeartbeats 2000000
/-! for f in (g, h): a body for each of the two defs -/
namespace Lf
open PySem PySem.Spec L2
end Lf
end
section
set_option Elab.async false
set_option linter.all false
set_option maxRecDepth 100000
set_option maxHeartbeats 4000000
/-! a tuple known to have no dict: tuple(xs) of one's own list, t.index(k, start); sorted(t) of a tuple of ints -/
namespace L2
open PySem PySem.Spec PyProof.Rows
end L2
namespace Lf
open PySem PySem.Spec L2 PyProof.Rows
end Lf
end
section
set_option Elab.async false
set_option linter.all false
set_option maxRecDepth 100000
set_option maxHeartbeats 4000000
/-! dicts whose keys are tuples of tuples: what the cell holds, and the operations on it -/
namespace Lf
open PySem PySem.Spec L2
end Lf
namespace L2
open PySem PySem.Spec PyProof.Rows Lf
end L2
end
section
set_option Elab.async false
set_option linter.all false
set_option maxRecDepth 100000
set_option maxHeartbeats 4000000
/-! dicts whose keys are tuples of tuples, as things: not in, d[k] = v for a new key, len -/
namespace L2
open PySem PySem.Spec PyProof.Rows Lf
end L2
namespace Lf
open PySem PySem.Spec L2 PyProof.Rows
end Lf
end
section
set_option Elab.async false
set_option linter.all false
set_option maxRecDepth 100000
set_option maxHeartbeats 4000000
/-! dicts whose keys are tuples of tuples: list(d), {k: v} -/
namespace L2
open PySem PySem.Spec PyProof.Rows Lf
end L2
namespace Lf
open PySem PySem.Spec L2 PyProof.Rows
end Lf
end
section
set_option Elab.async false
set_option linter.all false
set_option maxRecDepth 100000
set_option maxHeartbeats 2000000
/-! raise, try .. except -/
namespace Lf
open PySem PySem.Spec L2
variable [Tabs]
theorem takesN0 {X : Cx} : L2N.Takes X (fun _ _ _ _ => False) := fun _ _ x => by
  obtain ⟨_, _, _, _, _, _, _, _, _, _, _, _, _, _, _, _, no⟩ := x
  exact no.elim
/-- a class of refusals: what is known of it -/
structure ExcF (K : PySem.W.Frag) (mg : Str → Option Value) (c : Str) : Prop where
  m : mg c = some (.ref (He.ga K c))
  x : (He.Fa.exc c).ok K = true
def dRaise (c : Str) : DS := fun en => .error (.exn c en)
section
variable {X : Cx} {W : WX} {c : Str}
theorem mk_bare {p pos : Pos} (F : ExcF X.K X.mg c) (hg : Gl X c) (hdb : (c == ("__debug__" : Str)) = false) : L2N.PMk X (.Call (.Name c p) [] [] pos) (fun _ H Q => Q (clV X.K c) none H) := by
  obtain ⟨q, kC, h1, h2⟩ := He.exc_ok F.x
  intro pins s σ H Q I h
  refine wpAny_Call_Name_kw (ld_glob I hg F.m (PySem.W.callWith_K0 I.kIn kC ?_) hdb)
  obtain ⟨_, _, _, _, _, _, _, _, _, _, _, _, _, _, _, _, _, hC, hN, hni, T⟩ := exc_obj I.kIn q
  exact wpAny_call_exc_subT PySem.F.excBase_ValueError T hC hN hni (fun h' e hm => L2N.mk_of I hm (raises_own h1 h2) h (I.hok.gone hm.new)) (by show 0 ≤ sizeLine; decide)
theorem SX_raise {p pos pos' : Pos} (hc : X.calm = true) (tk : L2N.Takes X W) (F : ExcF X.K X.mg c) (hg : Gl X c) (hdb : (c == ("__debug__" : Str)) = false := by decide) : SX X W (.Raise (some (.Call (.Name c p) [] [] pos)) none pos') (dRaise c) :=
  PS.imp (L2N.ps_raise hc tk (mk_bare F hg hdb)) fun D σ H q => by
    obtain ⟨G, F', τ, en, h, hp⟩ := q
    exact hp G σ H (Same.refl G) h
end
/-! ### try -/
/-- behind a suite: the name is gone -/
def clr (i : Nat) : R (Fl × En) → R (Fl × En)
  | .ok (f, en) => (match en[i]? with
    | some (.p _) => .error .stuck
    | some _ => .ok (f, en.set i .un)
    | none => .error .stuck)
  | .error e => .error e
open Classical in
/-- what comes out whatever the exception's place is -/
noncomputable def allA (g : Addr → R (Fl × En)) : R (Fl × En) := if h : ∃ r, ∀ a, g a = .ok r then .ok h.choose else .error .stuck
omit [Tabs] in
theorem allA_eq {g : Addr → R (Fl × En)} {r : Fl × En} (h : ∀ a, g a = .ok r) : allA g = .ok r := by
  have e : ∃ r, ∀ a, g a = .ok r := ⟨r, h⟩
  unfold allA
  rw [dif_pos e]
  have := e.choose_spec 0
  rw [h 0] at this
  exact this.symm
def suiteD (i : Nat) (ds : Addr → DS) (e1 : En) (a : Addr) : R (Fl × En) := match stor i (.opq (.ref a)) e1 with
  | some e2 => clr i (ds a e2)
  | none => .error .stuck
noncomputable def dTry (cs : List Str) (i : Nat) (d : DS) (ds : Str → Addr → DS) : DS := fun en => match d en with
  | .error (.exn c e1) => if c ∈ cs then allA (suiteD i (ds c) e1) else .error .stuck
  | r => r
section
variable {K : PySem.W.Frag} {G G' H : Hp} {F : FS} {τ σ : St} {W : WX} {en : En} {D : Ends} {vs : List V} {os : List OT}
theorem PostS.atA {g : Addr → R (Fl × En)} (h : PostS K G F τ W D (allA g)) (a : Addr) : PostS K G F τ W D (g a) := by
  unfold allA at h
  split at h
  · rename_i e
    rw [e.choose_spec a]
    exact h
  · exact h.elim
theorem RX.gone {i : Nat} {s : Slot} (h : RX K G F τ σ H en vs os) (hs : en[i]? = some s) (hp : ∀ o, s ≠ .p o) : RX K G F τ (σ.set i none) H (en.set i .un) vs os := by
  refine (h.drop hs hp).weakS (by simp) fun j t ht hn => ?_
  by_cases e : j = i
  · subst e
    rw [List.getElem?_set_self (List.getElem?_eq_some_iff.mp hs).1] at ht
    exact absurd (Option.some.inj ht).symm hn
  · exact List.getElem?_set_ne (Ne.symm e)
theorem PostS.unclr {i : Nat} {r : R (Fl × En)} (h : PostS K G F τ W D (clr i r)) :
    PostS K G F τ W { nx := fun σ' H' => D.nx (σ'.set i none) H', rt := D.rt, bk := fun σ' H' => D.bk (σ'.set i none) H', ct := fun σ' H' => D.ct (σ'.set i none) H' } r := by
  match r, h with
  | .error .stuck, h => exact h
  | .error (.exn c e), h => exact h
  | .ok (f, en), h =>
    unfold clr at h
    dsimp only at h
    split at h
    · exact h.elim
    · rename_i s hp hs
      match f, h with
      | .nx, h => exact fun G' σ' H' sg x => h G' _ H' sg (x.gone hs hp)
      | .bk, h => exact fun G' σ' H' sg x => h G' _ H' sg (x.gone hs hp)
      | .ct, h => exact fun G' σ' H' sg x => h G' _ H' sg (x.gone hs hp)
      | .rt o, h => exact fun G' σ' H' v sg x => h G' σ' H' v sg (RX.drop (vs := [v]) (os := [o]) x hs hp)
    · exact h.elim
/-- no exception leaves -/
theorem PostS.calm {W' : WX} {r : R (Fl × En)} (h : PostS K G F τ W D r) (hn : ∀ c e, r ≠ .error (.exn c e)) : PostS K G F τ W' D r := by
  match r, h with
  | .ok (.nx, en), h => exact h
  | .ok (.bk, en), h => exact h
  | .ok (.ct, en), h => exact h
  | .ok (.rt o, en), h => exact h
  | .error (.exn c en), h => exact absurd rfl (hn c en)
end
section
variable {X : Cx} {W : WX} {x n : Str} {i : Nat} {cs : List Str} {body suite : List Stmt} {b₀ : Stmt} {np pos pos' : Pos} {d : DS} {ds : Str → Addr → DS}
theorem allA_ok {g : Addr → R (Fl × En)} {K : PySem.W.Frag} {G : Hp} {F : FS} {τ : St} {D : Ends} (h : PostS K G F τ W D (allA g)) (a : Addr) : ∀ c e, g a ≠ .error (.exn c e) := by
  unfold allA at h
  split at h
  · rename_i q
    intro c e z
    rw [q.choose_spec a] at z
    cases z
  · exact h.elim
theorem SX_try (hs : X.stack = X.env :: X.outer) (hf : X.env.frame = some X.env.locals) (hN : X.N.Nodup) (hi : X.N[i]? = some n) (hln : X.env.kindOf n = some .local) (hg : Gl X x) (hdb : (x == ("__debug__" : Str)) = false) (hm : X.mg x = some (clV X.K x))
    (hcs : ∀ c ∈ cs, PySem.W.exmOne X.K (clV X.K c) (clV X.K x) = some true) (tk : L2N.Takes X W)
    (hb : ∀ (W' : WX) (pn : List (Addr × Obj)) (xe : Value → Shared → Prop), L2N.Takes (X.tr pn xe) W' → PassesOwn (model X.prog X.w) X.A X.env xe → SXs (X.tr pn xe) W' body d)
    (hsu : ∀ c ∈ cs, ∀ (a : Addr) (oe : Obj) (pn : List (Addr × Obj)), L2N.Zn (clV X.K c) none oe → (∃ vs, oe.data = .fields vs) → SXs (X.suite a ((a, oe) :: pn)) W0 (b₀ :: suite) (ds c a)) :
    SX X W (.Try body [.ExceptHandler (some (.Name x np)) (some n) (b₀ :: suite) pos'] [] [] pos) (dTry cs i d ds) := by
  refine PS.imp (L2N.ps_try_as (tb := fun W' => liftS X.K W' d) (ts := fun a cls dd D σ H => ∃ c ∈ cs, cls = clV X.K c ∧ dd = none ∧ liftS X.K W0 (ds c a) D σ H) hs hf hN hi hln ⟨hg, hdb, .inl hm⟩ tk hb ?_) ?_
  · intro a oe cls dd pn hz hd
    refine ⟨fun pins s σ H D I q => ?_⟩
    obtain ⟨c, hc, rfl, rfl, q⟩ := q
    exact (hsu c hc a oe pn hz hd).run pins s σ H D I q
  · intro D σ H q
    obtain ⟨G, F, τ, en, h, hp⟩ := q
    refine ⟨G, F, τ, en, h, ?_⟩
    unfold dTry at hp
    revert hp
    match d en with
    | .ok (.nx, e1) => exact fun hp => hp
    | .ok (.bk, e1) => exact fun hp => hp
    | .ok (.ct, e1) => exact fun hp => hp
    | .ok (.rt o, e1) => exact fun hp => hp
    | .error .stuck => exact fun hp => hp
    | .error (.exn c e1) =>
      intro hp
      dsimp only at hp
      split at hp
      · rename_i hc
        intro G' σ' H' sg x
        refine ⟨true, hcs c hc, fun _ a na => ⟨c, hc, rfl, rfl, ?_⟩, fun z => nomatch z⟩
        have ha := (hp.mono sg).atA a
        have hn := allA_ok hp a
        unfold suiteD at ha hn
        split at ha
        · rename_i e2 he
          refine ⟨G', F, τ, e2, RX.stor (vs := []) (os := []) x.withQ he, ?_⟩
          refine PostS.calm ha.unclr fun c' e' z => ?_
          rw [he] at hn
          dsimp only at hn
          rw [z] at hn
          exact hn c' e' rfl
        · exact ha.elim
      · exact hp.elim
end
end Lf
end
section
set_option Elab.async false
set_option linter.all false
set_option maxRecDepth 100000
set_option maxHeartbeats 2000000
/-! walks that end while an exception is handled -/
namespace Lf
open PySem PySem.Spec L2 PyProof.Rows HotX
section
variable {prog : Program} {w : World} {A : Around} {E : Value → Shared → Prop} {s : Shared} {hx : Addr}
/-- what says that a walk is over is thrown, the handled one noted in it -/
theorem over_hot {α : Type} {Q : α → Shared → Prop} (hot : HotAt A hx s.heap)
    (out : ∀ (e : Addr) (h2 : Heap), (∀ b o, s.heap.get? b = some o → h2.get? b = some o) → ({ s with heap := h2 } : Shared).TypeIs (.ref e) "StopIteration" → E (.ref e) { s with heap := h2 }) :
    wpAny (model prog w) A (newExc (.type "StopIteration") [] >>= fun e => (raiseNew e : Sem α)) Q E s := by
  obtain ⟨hh, oh, fs, g0, gd, gc⟩ := hot
  simp only [newExc, newTuple]
  refine wpAny_bind (wpAny_bind (wpAny_newObj_type (wpAny_bind (m := firstArgMember _ _) (wpAny_of_eq (a := Value.none) (by first | rfl | (simp only [firstArgMember]; rfl)) (wpAny_newObj_type ?_ (by size_fits)))) (by size_fits)))
  have g2 := Heap.get?_push_of_some { cls := .type "StopIteration", data := .fields #[.ref s.heap.objs.size, .none, .none, .none, .bool false, .none] } (Heap.get?_push_of_some { cls := .type "tuple", data := .seq #[] } g0)
  refine raiseNew_hot ⟨hh, oh, fs, Heap.get?_push_of_some _ (Heap.get?_push_of_some _ g0), gd, gc⟩ (Nat.ne_of_lt (Heap.lt_size (Heap.get?_push_of_some _ g0))) (Heap.get?_push_size _ rfl) rfl (by first | (simp; done) | (simp; omega) | (simp only [Array.size_append]; simp; omega)) (out _ _ (fun b o e => ?_) ⟨_, Heap.get?_update_self _ (Heap.get?_push_size _ rfl) rfl, rfl⟩)
  have e1 := Heap.get?_push_of_some { cls := .type "tuple", data := .seq #[] } e
  rw [Heap.get?_update_other _ _ (Nat.ne_of_gt (Heap.lt_size (Heap.get?_push_of_some _ e)))]
  exact Heap.get?_push_of_some _ (Heap.get?_push_of_some _ e)
theorem listEnd_hot {it l : Addr} {i : Nat} {items : Array Value} {Q : Option Value → Shared → Prop} (hot : HotAt A hx s.heap) (ne : hx ≠ it) (st : s.heap.IsListIter it l i) (hl : s.heap.IsList l items) (no : items[i]? = none)
    (q : ∀ h2, Heap.ExtBut it s.heap h2 → Q none { s with heap := h2 }) : wpAny (model prog w) A (pyNext (.ref it)) Q E s := by
  have ty := st.typeIs
  obtain ⟨oi, gi, _, di⟩ := id st
  obtain ⟨ol, gl, _, _, dl⟩ := hl
  obtain ⟨hh, oh, fs, g0, gd, gc⟩ := hot
  unfold pyNext
  refine wpAny_bind (wpAny_attempt (wpAny_callSpecial?_slot (name := Str.ofString "__next__") ty slot_listiter_next (wpAny_call_entry slot_listiter_next ty entry_listiter_next ?_ (args_listiter_next _))))
  show wpAny _ A.in1 (field (.ref it) 0 >>= _) _ _ _; refine wpAny_bind (wpAny_field gi di (x := .ref l) rfl ?_)
  show wpAny _ A.in1 (if (Value.ref l == Value.none) = true then _ else _) _ _ _; rw [if_neg (show ¬ (Value.ref l == Value.none) = true by simp)]
  show wpAny _ A.in1 (field (.ref it) 1 >>= _) _ _ _; refine wpAny_bind (wpAny_field gi di (x := .int i 0) rfl ?_)
  show wpAny _ A.in1 (seqItems? (.ref l) >>= _) _ _ _; refine wpAny_bind (wpAny_seqItems gl dl ?_)
  simp only [Int.toNat_natCast, no]
  refine wpAny_bind (wpAny_rule (wpAny_bind (wpAny_setField gi di (by simp) ?_)))
  show wpAny _ A.in1 (newExc (.type "StopIteration") [] >>= _) _ _ _
  refine over_hot (hx := hx) ⟨hh, oh, fs, ?_, gd, gc⟩ fun e h2 k t => ?_
  · exact (Heap.get?_update_other _ _ (Ne.symm ne)).trans g0
  · refine wpAny_bind (wpAny_isInstance (b := true) t isSubtype_stop (wpAny_pure (q h2 fun b o hb z => k b o ?_)))
    exact (Heap.get?_update_other _ _ (Ne.symm hb)).trans z
theorem tupEnd_hot {it l : Addr} {i : Nat} {items : Array Value} {Q : Option Value → Shared → Prop} (hot : HotAt A hx s.heap) (ne : hx ≠ it) (st : IsTupIter s.heap it l i) (hl : IsTup s.heap l items) (no : items[i]? = none)
    (q : ∀ h2, Heap.ExtBut it s.heap h2 → Q none { s with heap := h2 }) : wpAny (model prog w) A (pyNext (.ref it)) Q E s := by
  have ty := st.typeIs
  obtain ⟨oi, gi, _, di⟩ := id st
  obtain ⟨ol, gl, _, _, dl⟩ := hl
  obtain ⟨hh, oh, fs, g0, gd, gc⟩ := hot
  unfold pyNext
  refine wpAny_bind (wpAny_attempt (wpAny_callSpecial?_slot (name := Str.ofString "__next__") ty slot_tupleiter_next (wpAny_call_entry slot_tupleiter_next ty entry_tupleiter_next ?_ (args_tupleiter_next _))))
  show wpAny _ A.in1 (field (.ref it) 0 >>= _) _ _ _; refine wpAny_bind (wpAny_field gi di (x := .ref l) rfl ?_)
  show wpAny _ A.in1 (if (Value.ref l == Value.none) = true then _ else _) _ _ _; rw [if_neg (show ¬ (Value.ref l == Value.none) = true by simp)]
  show wpAny _ A.in1 (field (.ref it) 1 >>= _) _ _ _; refine wpAny_bind (wpAny_field gi di (x := .int i 0) rfl ?_)
  show wpAny _ A.in1 (seqItems? (.ref l) >>= _) _ _ _; refine wpAny_bind (wpAny_seqItems gl dl ?_)
  simp only [Int.toNat_natCast, no]
  refine wpAny_bind (wpAny_rule (wpAny_bind (wpAny_setField gi di (by simp) ?_)))
  show wpAny _ A.in1 (newExc (.type "StopIteration") [] >>= _) _ _ _
  refine over_hot (hx := hx) ⟨hh, oh, fs, ?_, gd, gc⟩ fun e h2 k t => ?_
  · exact (Heap.get?_update_other _ _ (Ne.symm ne)).trans g0
  · refine wpAny_bind (wpAny_isInstance (b := true) t isSubtype_stop (wpAny_pure (q h2 fun b o hb z => k b o ?_)))
    exact (Heap.get?_update_other _ _ (Ne.symm hb)).trans z
/-- (a, b, ..) = a tuple of that length, while an exception is handled -/
theorem parts_hot {env : Env} {elts : List Expr} {x1 : Nat} {pos : Pos} {l : Addr} {items : Array Value} {Q : Unit → Shared → Prop} (hot : HotAt A hx s.heap) (ht : IsTup s.heap l items) (hn : (assignEach elts env).length = items.size) (hstar : (assignEach elts env).findIdx? (·.1) = none)
    (go : ∀ h2, Heap.ExtBut s.heap.objs.size s.heap h2 → wpAny (model prog w) A (assignInOrder ((assignEach elts env).map (·.2)) items.toList) Q E { s with heap := h2 }) : wpAny (model prog w) A (assign (.Tuple elts x1 pos) env (.ref l)) Q E s := by
  obtain ⟨hh, oh, fs, g0, gd, gc⟩ := hot
  have nl : l ≠ s.heap.objs.size := by obtain ⟨_, z, _⟩ := ht; exact Nat.ne_of_lt (Heap.lt_size z)
  rw [assign_Tuple]
  unfold unpack unpackItems notIterableAtAll
  rw [hn, hstar]
  refine wpAny_bind (wpAny_standAt (wpAny_bind (wpAny_holding (wpAny_bind (wpAny_bind (wpAny_specialOf ht.typeIs slot_tuple_iter.lookup (wpAny_pure ?_)))))))
  dsimp only
  rw [if_neg (by simp)]
  refine wpAny_bind (wpAny_holding (iter_tuple ht ?_))
  refine wpAny_bind (wpAny_holding (draw_tuple nl items.size 0 _ _ ⟨_, Heap.get?_push_size _ rfl, rfl, rfl⟩ (ht.push _) (by omega) fun h1 st1 sb1 => ?_))
  rw [List.drop_zero, List.take_of_length_le (by simp), if_neg (by simp)]
  refine wpAny_bind (wpAny_holding (tupEnd_hot (hx := hx) ⟨hh, oh, fs, (sb1.2 hx (Nat.ne_of_lt (Heap.lt_size g0))).trans (Heap.get?_push_of_some _ g0), gd, gc⟩ (Nat.ne_of_lt (Heap.lt_size g0)) st1 ((ht.push _).extBut sb1.extBut nl) (by simp) fun h2 eb2 => ?_))
  rw [if_neg (by simp)]
  exact wpAny_pure (go h2 fun b o hb z => eb2 b o hb (sb1.extBut b o hb (Heap.get?_push_of_some _ z)))
end
end Lf
end
section
set_option Elab.async false
set_option linter.all false
set_option maxRecDepth 100000
set_option maxHeartbeats 2000000
/-! list comprehensions, targets, isinstance, calls while an exception is handled -/
namespace Lf
open PySem PySem.Spec L2 PyProof.Rows HotX L2H
/-- the context bears the exception that is handled: its class, its place -/
def Bears (X : Cx) (c : Str) (a : Addr) : Prop := ∃ oe : Obj, Hot1 X.A (a, oe) ∧ (a, oe) ∈ X.pn ∧ Zc (clV X.K c) none oe
section
variable {X : Cx} {c : Str} {a : Addr} {pins : List (Addr × Obj)} {σ : L2.St} {H : Hp} {s : Shared}
theorem Bears.at_ (B : Bears X c a) (I : Inv X pins σ H s) : HotAt X.A a s.heap := by
  obtain ⟨oe, ⟨hh, fs, e1, e2⟩, hp, _⟩ := B
  exact ⟨hh, oe, fs, (I.pin _ (List.mem_append_left _ hp)).1, e1, e2⟩
theorem Bears.ne (B : Bears X c a) {b : Addr} (f : ∀ p ∈ X.pn ++ pins, p.1 ≠ b) : a ≠ b := by
  obtain ⟨oe, _, hp, _⟩ := B
  exact f _ (List.mem_append_left _ hp)
/-- a block's context that keeps the pins -/
abbrev blkH (X : Cx) (s : Shared) (H : Hp) (scope : Scope) (cenv : Env) (fp : List Addr) : Cx := { X.blk s H scope cenv fp with pn := X.pn }
theorem inv_blkH {scope : Scope} {ce : Env} {fp : List Addr} {s0 : Shared} {H0 : Hp} (J : Inv (X.blk s0 H0 scope ce fp) [] σ H s)
    (k : ∀ p ∈ X.pn, s.heap.get? p.1 = some p.2 ∧ H p.1 = none ∧ p.1 ≠ ce.locals ∧ p.1 ∉ frs X.stack ∧ ∀ v, p.2.data ≠ .cell v) : Inv (blkH X s0 H0 scope ce fp) [] σ H s := by
  have o := J.ok
  exact { ok := { mod := o.mod, kind := o.kind, glob := o.glob, blt := o.blt, above := o.above, inj := o.inj, has := o.has, cab := o.cab, hd := o.hd, frames := o.frames, stk := o.stk, exf := o.exf, bs := o.bs, bsz := o.bsz, noex := o.noex, exfs := o.exfs, funs := o.funs, frf := o.frf },
          os := J.os, bare := J.bare, base := J.base, loc := J.loc, cell := J.cell, free := J.free, freeC := J.freeC, pin := fun p hp => k p ((List.mem_append.mp hp).elim id fun z => nomatch z), hok := J.hok, len := J.len }
/-- (a, b, ..) = .. -/
theorem pg_parts {es : List Expr} {k n : Nat} {pos : Pos} {t : TGs} (B : Bears X c a) (h : PGs X es t) (hn : (assignEach es X.env).length = n) (hst : (assignEach es X.env).findIdx? (·.1) = none) : PG X (.Tuple es k pos) (gTup X.K n t) :=
  ⟨fun pins s σ H v u Q I r hw => by
    obtain ⟨l, xs, rfl, hq, hl, hw⟩ := hw
    cases r
    obtain ⟨its, rv, ht, _⟩ := I.tuple hq
    exact parts_hot (hx := a) (B.at_ I) ht (by simp [hn, ← hl, rv.length]) hst fun h2 eb => h.run pins _ σ H xs its Q (I.kept (t' := s.toks) fun b o z => eb b o (Nat.ne_of_lt (Heap.lt_size z)) z) rv hw⟩
end
section
variable {X : Cx} {c : Str} {a : Addr} {elt tg l : Expr} {ifs : List Expr} {scope : Scope} {own : List (Str × Nat)} {pos : Pos} {g : TG} {tt : TT} {te tl : TE}
theorem lcHot_core {pins : List (Addr × Obj)} {s : Shared} {σ : L2.St} {H : Hp} {Q : VK} {pos2 : Pos} {use : Option (Value → Sem Unit)} {Qf : Value → Shared → Prop} (B : Bears X c a) (hN : X.N.Nodup) (hl : PE X l tl) (ok : BlkOk X.N X.env.scope scope own)
    (hg : ∀ (s : Shared) (H : Hp) (C : Addr) (cl : List (Str × Addr)) (fp : List Addr), PG (blkH X s H scope (PySem.compEnvC scope cl C X.env) fp) tg g) (ht : ∀ (s : Shared) (H : Hp) (C : Addr) (cl : List (Str × Addr)) (fp : List Addr), PTs (blkH X s H scope (PySem.compEnvC scope cl C X.env) fp) ifs tt)
    (he : ∀ (s : Shared) (H : Hp) (C : Addr) (cl : List (Str × Addr)) (fp : List Addr), PE (blkH X s H scope (PySem.compEnvC scope cl C X.env) fp) elt te) (hs : ∀ x, foldedSetIterable l X.env x = pure x) (I : Inv X pins σ H s) (h : tLc (iList X.K tl) g tt te (own.map (·.2)) σ H Q)
    (rest : ∀ lst fr s' m H', Inv X pins σ H' s' → Q (.ref lst) H' → s'.heap.Ns fr m → FpOk X pins H' fr → compPost (model X.prog X.w) X.A X.xe use Qf (.ref lst) fr (.ok .next) s') :
    wpAny (model X.prog X.w) X.A (comprehension (.ListComp elt [⟨tg, l, ifs, 0⟩] scope pos) scope X.env pos2 (newList []) false (eval l X.env) use) Qf X.xe s := by
  have fr : ∀ y ∈ scope.names, y.2 = .free → ∃ z, X.env.cells.lookup y.1 = some z := fun y hy e => (ok.free y hy e).elim (fun k => I.ok.has _ (.inl k)) fun k => I.ok.has _ (.inr k)
  refine wpAny_comprehension_free (use := use) rfl hs (closure_ok fr) ok.kind (fun y hy e => by rw [ok.uniq y hy, e]) (thn (hl.run pins s σ H _ I h) fun xv sa hx => ?_)
  obtain ⟨x, Ha, Ia, rx, L, rfl, ⟨xs0, hq0⟩, q⟩ := hx
  cases rx
  obtain ⟨_, _, lst0, _⟩ := Ia.list hq0
  refine wpAny_pyIter_list lst0.isList (wpAny_newObj_type (newEnv_comp ?_) (by show 0 ≤ sizeLine; decide))
  generalize hit : sa.heap.objs.size = it
  generalize hhb : sa.heap.push { cls := .type "list_iterator", data := .fields #[.ref L, .int 0 0] } = hb
  have szb : hb.objs.size = it + 1 := by rw [← hhb, ← hit]; exact Heap.size_push ..
  have Ib : Inv X pins σ Ha { sa with heap := hb } := Ia.kept (t' := sa.toks) fun b o e => by rw [← hhb]; exact Heap.get?_push_of_some _ e
  have itb : hb.IsListIter it L 0 := by rw [← hhb, ← hit]; exact ⟨_, Heap.get?_push_size _ rfl, rfl, rfl⟩
  have fit : FpOk X pins Ha it := Ia.fpOk (Nat.le_of_eq hit) (Ia.hok.fresh (Nat.le_of_eq hit))
  have nD : Ha (it + 1) = none := Ib.hok.fresh (Nat.le_of_eq szb)
  obtain ⟨Wt, ⟨m0, w0⟩, turn⟩ := q (it + 1) nD
  show codeAny _ _ (.compStart (.ListComp elt [⟨tg, l, ifs, 0⟩] scope pos) 0 (.ref it) (.ref hb.objs.size) _) _ _
  rw [szb]
  generalize hhc : hb.push { cls := .type "list", data := .seq ([] : List Value).toArray } = hc
  have szc : hc.objs.size = it + 2 := by rw [← hhc, Heap.size_push, szb]
  have Ic : Inv X pins σ (upd Ha (it + 1) (.lst [])) { sa with heap := hc } := Ib.laid (t' := sa.toks) (fun b o e => by rw [← hhc]; exact Heap.get?_push_of_some _ e) (Nat.le_of_eq szb) ⟨Nat.zero_le _, [], 0, .nil, by rw [← hhc, ← szb]; exact Heap.get?_push_size _ rfl⟩
  have itc : hc.IsListIter it L 0 := itb.at fun o e => by rw [← hhc]; exact Heap.get?_push_of_some _ e
  have fic : FpOk X pins (upd Ha (it + 1) (.lst [])) it := ⟨(upd_ne (Nat.ne_of_lt (Nat.lt_succ_self it))).trans fit.1, fit.2⟩
  generalize upd Ha (it + 1) (.lst []) = Hc at Ic fic w0
  have fall : ∀ b ∈ [it], FpOk X pins Hc b ∧ b < ({ sa with heap := hc } : Shared).heap.objs.size := fun b hb' => by
    cases List.mem_singleton.mp hb'
    exact ⟨fic, by rw [show ({ sa with heap := hc } : Shared).heap.objs.size = it + 2 from szc]; omega⟩
  have Jd := block_start Ic ok hN fall
  generalize hce : PySem.compEnvC scope (PySem.cellsFrom (hc.objs.size + 1) scope.names (cloFrom X.env.cells scope.names [])) hc.objs.size X.env = ce at Jd
  have ceL : ce.locals = hc.objs.size := by subst hce; rfl
  have pg := hg { sa with heap := hc } Hc hc.objs.size (PySem.cellsFrom (hc.objs.size + 1) scope.names (cloFrom X.env.cells scope.names [])) [it]
  have pt := ht { sa with heap := hc } Hc hc.objs.size (PySem.cellsFrom (hc.objs.size + 1) scope.names (cloFrom X.env.cells scope.names [])) [it]
  have pe := he { sa with heap := hc } Hc hc.objs.size (PySem.cellsFrom (hc.objs.size + 1) scope.names (cloFrom X.env.cells scope.names [])) [it]
  rw [hce] at pg pt pe
  show codeAny _ _ (.compStart (.ListComp elt [⟨tg, l, ifs, 0⟩] scope pos) 0 (.ref it) (.ref (it + 1)) (PySem.compEnvC scope (PySem.cellsFrom (hc.objs.size + 1) scope.names (cloFrom X.env.cells scope.names [])) hc.objs.size X.env)) (compPost (model X.prog X.w) X.A X.xe use Qf (.ref (it + 1)) hc.objs.size) { sa with heap := pushCells (hc.push { cls := .type "dict", data := .dict #[] }) scope.names }
  rw [hce]
  have kd : ∀ b o, hc.get? b = some o → (pushCells (hc.push { cls := .type "dict", data := .dict #[] }) scope.names).get? b = some o := fun b o e => pushCells_keeps _ _ _ _ (Heap.get?_push_of_some _ e)
  generalize pushCells (hc.push { cls := .type "dict", data := .dict #[] }) scope.names = hd at Jd kd
  have itd : hd.IsListIter it L 0 := itc.at fun o e => kd _ _ e
  have Jh : Inv (blkH X { sa with heap := hc } Hc scope ce [it]) [] (wipe σ (own.map (·.2))) Hc { sa with heap := hd } := inv_blkH Jd fun p hp => by
    obtain ⟨z1, z2, z3, z4, z5⟩ := Ic.pin p (List.mem_append_left _ hp)
    exact ⟨kd _ _ z1, z2, by rw [ceL]; exact Nat.ne_of_lt (Heap.lt_size z1), fun z => (List.mem_cons.mp (Ic.stkSub p.1 z)).elim z3 z4, z5⟩
  have still : ∀ {σ' : L2.St} {H' : Hp} {s' : Shared}, Inv (blkH X { sa with heap := hc } Hc scope ce [it]) [] σ' H' s' → H' it = none → FpOk (blkH X { sa with heap := hc } Hc scope ce [it]) [] H' it := fun {σ' H' s'} J z =>
    ⟨z, (J.ok.exf it List.mem_cons_self).1, J.ok.exfs it List.mem_cons_self, .inl List.mem_cons_self, fun y d e => (J.ok.exf it List.mem_cons_self).2 y d e, fun p hp => by
      rw [List.append_nil] at hp
      exact fic.2.2.2.2.2 p (List.mem_append_left _ hp)⟩
  have BH : Bears (blkH X { sa with heap := hc } Hc scope ce [it]) c a := B
  refine (fun loop => codeAny_compStart_list loop (wpAny_pyIter_listiter itd loop)) ?_
  refine compLoop_any (fun m s' => ∃ i H', Inv (blkH X { sa with heap := hc } Hc scope ce [it]) [] (wipe σ (own.map (·.2))) H' s' ∧ s'.heap.IsListIter it L i ∧ H' it = none ∧ Wt i m H') ?_ m0 ⟨0, Hc, Jh, itd, fic.1, w0⟩
  rintro m s5 ⟨i, H5, J5, it5, n5, w5⟩
  have f5 := still J5 n5
  rcases turn i m H5 w5 with ⟨⟨ys, hy, hyl⟩, qq⟩ | ⟨⟨ys, y, hy, hyi⟩, Nx, hNx, step⟩
  · obtain ⟨ws, rw5, l5, _⟩ := J5.list hy
    have lw := rw5.length
    refine listEnd_hot (hx := a) (BH.at_ J5) (BH.ne f5.2.2.2.2.2) it5 l5.isList (by simp; omega) fun h6 eb => ?_
    have J6 : Inv (blkH X { sa with heap := hc } Hc scope ce [it]) [] (wipe σ (own.map (·.2))) H5 { s5 with heap := h6 } := J5.turned (t' := s5.toks) (fun b o z e => eb b o z e) f5.1 f5.2.1 f5.2.2.2.1 f5.2.2.2.2.1 f5.2.2.2.2.2
    have I7 : Inv X pins σ H5 { s5 with heap := h6 } := Ic.call' (ch := [it]) J6.os J6.base J6.hok J6.bare fun b hb' => by
      cases List.mem_singleton.mp hb'
      exact ⟨fic.2.2.2.1, fic.2.1, fic.2.2.2.2.1, fic.2.2.2.2.2⟩
    have nC : H5 hc.objs.size = none := by rw [← ceL]; exact J6.free
    obtain ⟨mm, hn, _⟩ := J6.loc
    have hn : h6.Ns hc.objs.size mm := by rw [← ceL]; exact hn
    exact rest (it + 1) hc.objs.size { s5 with heap := h6 } mm H5 I7 qq hn (Ic.fpOk (H' := H5) (b := hc.objs.size) (Nat.le_refl _) nC)
  · obtain ⟨ws, rw5, l5, _⟩ := J5.list hy
    obtain ⟨u, hu, ru⟩ := rw5.get hyi
    refine wpAny_pyNext_list_item it5 l5.isList (x := u) (by simpa using hu) fun h6 it6 sb => ?_
    have J6 : Inv (blkH X { sa with heap := hc } Hc scope ce [it]) [] (wipe σ (own.map (·.2))) H5 { s5 with heap := h6 } := J5.turned (t' := s5.toks) (fun b o z e => (sb.2 b z).trans e) f5.1 f5.2.1 f5.2.2.2.1 f5.2.2.2.2.1 f5.2.2.2.2.2
    obtain ⟨oi, gi, ci, di⟩ := id it6
    refine go_of (s := { s5 with heap := h6 }) gi ci di (by decide) ?_
    have J6' : Inv (blkH X { sa with heap := hc } Hc scope ce [it]) ([] ++ pinsAt [it] h6) (wipe σ (own.map (·.2))) H5 { s5 with heap := h6 } := J6.pinned (fp := [it]) (fun b hb' => by cases List.mem_singleton.mp hb'; exact still J6 n5) fun b hb' => by
      cases List.mem_singleton.mp hb'
      exact ⟨oi, gi, fun v z => by rw [di] at z; cases z⟩
    refine thnF (pg.run _ { s5 with heap := h6 } _ H5 y u _ J6' ru (step y H5 ⟨rfl, fun zs hz => by rw [J5.list_inj hz hy]; exact hyi⟩)) fun _ s8 ⟨σ8, H8, I8, hw8, q8⟩ => ?_
    refine thnF (pt.run _ s8 σ8 H8 _ I8 q8) fun b s9 ⟨H9, I9, q9⟩ => ?_
    have fin : ∀ {s' : Shared} {H' : Hp}, Inv (blkH X { sa with heap := hc } Hc scope ce [it]) ([] ++ pinsAt [it] h6) σ8 H' s' → Nx H' → ∃ k, k < m ∧ ∃ i H', Inv (blkH X { sa with heap := hc } Hc scope ce [it]) [] (wipe σ (own.map (·.2))) H' s' ∧ s'.heap.IsListIter it L i ∧ H' it = none ∧ Wt i k H' := fun {s' H'} J nx => by
      obtain ⟨k, hk, w'⟩ := hNx H' nx
      have pi := J.pin (it, oi) (List.mem_append_right _ (List.mem_append_right _ (mem_pinsAt List.mem_cons_self gi)))
      refine ⟨k, hk, i + 1, H', (J.unpinned (pins := [])).weak (by rw [← hw8, wipe_length]) (fun j v e => ?_), ⟨oi, pi.1, ci, di⟩, pi.2.1, w'⟩
      rw [← hw8] at e
      exact (wipe_some e).1
    cases b with
    | false =>
      rw [if_neg Bool.false_ne_true] at q9 ⊢
      exact fin I9 q9
    | true =>
      rw [if_pos rfl] at q9 ⊢
      exact thnF (pe.run _ s9 σ8 H9 _ I9 q9) fun z s10 ⟨yv, H10, I10, r10, acc, hD10, hz10, nx⟩ => app_ok (X := blkH X { sa with heap := hc } Hc scope ce [it]) I10 hD10 hz10 r10 fun s11 I11 => fin I11 nx
theorem pe_lcHot (B : Bears X c a) (hN : X.N.Nodup) (hl : PE X l tl) (ok : BlkOk X.N X.env.scope scope own)
    (hg : ∀ (s : Shared) (H : Hp) (C : Addr) (cl : List (Str × Addr)) (fp : List Addr), PG (blkH X s H scope (PySem.compEnvC scope cl C X.env) fp) tg g) (ht : ∀ (s : Shared) (H : Hp) (C : Addr) (cl : List (Str × Addr)) (fp : List Addr), PTs (blkH X s H scope (PySem.compEnvC scope cl C X.env) fp) ifs tt)
    (he : ∀ (s : Shared) (H : Hp) (C : Addr) (cl : List (Str × Addr)) (fp : List Addr), PE (blkH X s H scope (PySem.compEnvC scope cl C X.env) fp) elt te) (hs : ∀ x, foldedSetIterable l X.env x = pure x) :
    PE X (.ListComp elt [⟨tg, l, ifs, 0⟩] scope pos) (tLc (iList X.K tl) g tt te (own.map (·.2))) := by
  constructor
  intro pins s σ H Q I h
  rw [eval_ListComp]
  exact lcHot_core B hN hl ok hg ht he hs I h fun lst fr s' m H' J q hn ⟨k0, k1, _, k3, k4, k5⟩ => ⟨m, hn, fun h2 sb => ⟨.ref lst, H', J.turned (t' := s'.toks) (fun b o hb => (sb.2 b hb).trans) k0 k1 k3 k4 k5, rfl, q⟩⟩
end
end Lf
end
section
set_option Elab.async false
set_option linter.all false
set_option maxRecDepth 100000
set_option maxHeartbeats 2000000
/-! defs called, isinstance, list comprehensions while an exception is handled: as functions on things -/
namespace Lf
open PySem PySem.Spec L2 PyProof.Rows HotX L2H
variable [Tabs]
section
variable {P : Program} {w : World} {K : PySem.W.Frag} {mg : Str → Option Value} {base : Heap}
/-- a def keeps its function where an exception of one of these classes is handled -/
structure DefOkH (P : Program) (w : World) (K : PySem.W.Frag) (mg : Str → Option Value) (base : Heap) (k : Nat) (f : Addr) (fd : FuncData) (ps : List Str) (cs : List Str) (g : Str → Addr → DF) : Prop where
  run : ∀ (A : Around) (out : List Env) (s : Shared) (H : Hp) (args : Args) (us : List Value) (vs : List V) (Q : VK) (a : Addr) (oe : Obj) (c : Str), c ∈ cs → RoomH k A → Hot1 A (a, oe) → PinOk out H s (a, oe) → Zc (clV K c) none oe → Env0 P w K mg base A out s H →
    BindsTo s fd args (ps.zip us) → Vals vs us → spL K ps.length (g c a) vs H Q (fun _ _ _ => False) → codeAny (model P w) A (.call (.ref f) args) (CR (L2N.CX P w) out P w H s Q (fun _ _ _ => False)) s
theorem def_okH {x qual : Str} {params : Arguments} {bd : List Stmt} {scope : Scope} {f : Addr} {fd : FuncData} {N ps : List Str} {k n : Nat} {fl : List Bool} {cs : List Str} {body : Str → Addr → DS} (F : FunD K x qual params bd scope [] [] f fd) (S : FnScope N ps scope) (hfl : ps.length = fl.length) (hN : N.length = fl.length + n)
    (hb : ∀ c ∈ cs, ∀ (z : Addr) (A : Around) (out : List Env) (s : Shared) (H : Hp) (a : Addr) (oe : Obj), RoomH k (A.deeper (PyProof.Rows.envOfC qual scope s.heap.objs.size f (.ref z))) →
      Bears (cxH (L2N.CX P w) P w K mg base N qual scope f (.ref z) A out s H (fun _ _ _ => False) (a, oe)) c a →
      SXs (cxH (L2N.CX P w) P w K mg base N qual scope f (.ref z) A out s H (fun _ _ _ => False) (a, oe)) W0 bd (body c a)) : DefOkH P w K mg base (k + 1) f fd ps cs (fun c a => dFn fl n (body c a)) := by
  refine ⟨fun A out s H args us vs Q a oe c hcs hr hot hpin hz e0 bt rv hsp => ?_⟩
  obtain ⟨oc, od, dV, kV, doc, pm, an, cdv, ct, osl, rfl, lk, hcd, _, _⟩ := F.ex
  obtain ⟨z, rfl⟩ := He.codeIn_ref hcd
  obtain ⟨hv, G, F', os, hFb, hx, hp⟩ := hsp
  have keep0 : ∀ b o, base.get? b = some o → s.heap.get? b = some o := fun b o e => (e0.bs b o e).1
  have KX := e0.mod.kin.keeps keep0
  have lim := e0.mod.nolimit.keeps keep0
  have kinds : ∀ y ∈ ps.zip us, scope.names.lookup y.1 = some .local ∨ (scope.names.lookup y.1 = some .cell ∧ ((PySem.cellsFrom (s.heap.objs.size + 1) scope.names []).lookup y.1).isSome = true) := by
    rintro ⟨nm, u⟩ hy
    rcases S.par nm (List.of_mem_zip hy).1 with q | q
    · exact .inl q
    · exact .inr ⟨q, PySem.W.cellsFrom_some _ _ _ (.inl q)⟩
  refine codeAny_call_function hr.depth (KX _ _ lk) rfl S.co S.gen rfl (PySem.W.codeRec_of KX hcd) (bt _ _ _ _ ?_)
  refine wpAny_newFunctionEnv_cells S.kind kinds fun env he s1 ic => ?_
  subst he
  refine ⟨lim.keeps ic.toInCall.keep, codeAny_func ?_⟩
  have I := inv_startH (CX := L2N.CX P w) (N := N) (E := fun _ _ _ => False) S hpin e0 hv rv ic
  have body_t := hb c hcs z A out s H a oe (hr.deeper _) ⟨oe, hot, List.mem_singleton.mpr rfl, hz⟩
  have start_t : liftS K W0 (body c a) { nx := fun _ H' => Q .non H', rt := Q } (L2.start N vs) H := by
    unfold dFn at hp
    by_cases hl : os.length = fl.length
    · rw [if_pos hl] at hp
      have h2 := hx.start (N := N) (n := n) hl hN
      refine ⟨G, F', _, _, h2, ?_⟩
      generalize body c a (mkEn fl os ++ List.replicate n .un) = r at hp ⊢
      have give : ∀ (o : OT) (en : En), (match Lf.fin o (outs fl en) with
          | .ok (o, os') => ∀ G' H' v, Same G G' → RX K G' F' [] [] H' [] (v :: vs) (o :: os') → Q v H'
          | .error .stuck => False
          | .error (.exn c _) => ∀ G' H', Same G G' → RX K G' F' [] [] H' [] [] [] → (fun (_ : Value) (_ : Option Addr) (_ : Hp) => False) (clV K c) none H') → ∀ G' σ' H' v, Same G G' → RX K G' F' (L2.start N vs) σ' H' en [v] [o] → Q v H' := fun o en hq G' σ' H' v s x => by
        have y := x.leave (fl := fl) (by rw [hv, hfl])
        cases ef : Lf.fin o (outs fl en) with
        | error z =>
          unfold Lf.fin at ef hq
          split at ef
          · cases ef
          · split at ef
            · cases ef
            · rename_i n1 n2
              rw [if_neg n1, if_neg n2] at hq
              exact hq.elim
        | ok z =>
          obtain ⟨o', os'⟩ := z
          rw [ef] at hq
          obtain ⟨G2, sg, y2⟩ := RX.fin y ef
          rcases sg with sg | sg
          · exact hq G2 H' v (s.trans sg) y2
          · exact hq G2 H' v (by rw [← hFb]; exact sg) y2
      match r, hp with
      | .ok (.rt o, en), hp => exact give o en hp
      | .ok (.nx, en), hp => exact fun G' σ' H' s x => give (.d .none) en hp G' σ' H' .non s (RX.withD x .non)
      | .error (.exn c en), hp =>
        intro G' σ' H' s x
        obtain ⟨M, φ, B, S, E, r, d⟩ := x
        exact hp G' H' s ⟨M, fun _ => [], [], S, ⟨rfl, fun i s hs => by simp at hs, fun _ _ => rfl, fun _ _ _ a ha => by simp at ha⟩, .nil, fun _ _ z => nomatch z⟩
    · rw [if_neg hl] at hp
      exact hp.elim
  refine wpAny_mono (body_t.run [] s1 (L2.start N vs) H _ I start_t) (fun fl s' hs => ?_) fun e s' hs => hs
  match fl, hs with
  | .ret u, ⟨v, σ', H', J, rv, q⟩ => exact ⟨v, H', J.os, J.bare, J.base, J.hok, rv, q⟩
  | .next, ⟨σ', H', J, q⟩ => exact ⟨.non, H', J.os, J.bare, J.base, J.hok, rfl, q⟩
  | .brk, ⟨_, _, _, q⟩ => exact False.elim q
  | .cont, ⟨_, _, _, q⟩ => exact False.elim q
end
/-! ### the call within a suite -/
def eClH (n : Nat) (f : DF) (da : DA) : DE := fun en => bd (da en) fun p => match ar n f p.1 with
  | .ok (o, _) => .ok (o, p.2)
  | .error _ => .error .stuck
section
variable {X : Cx} {W : WX} {k n : Nat} {f : Addr} {fd : FuncData} {ps cs : List Str} {g : Str → Addr → DF} {x c : Str} {a : Addr} {p pos : Pos} {e : Expr} {es : List Expr} {da : DA}
theorem XCH (F : DefOkH X.prog X.w X.K X.mg X.base k f fd ps cs g) (hc : c ∈ cs) (B : Bears X c a) (hr : RoomH k X.A) (hg : Gl X x) (hm : X.mg x = some (.ref f)) (hk : PySem.W.keepIn X.K (.ref f) = true) (hb : Binds X.K fd ps []) (ha : AX X W (e :: es) da) (hn : ps.length = n := by rfl)
    (hdb : (x == ("__debug__" : Str)) = false := by decide) (he : starEach (e :: es) X.env = (false, eval e X.env) :: starEach es X.env := by rfl) (hpl : (backTo pos (starEach es X.env)).any (·.1) = false := by rfl) :
    EX X W (.Call (.Name x p) (e :: es) [] pos) (eClH n (g c a) da) := by
  subst hn
  obtain ⟨oe, hot, hp, hz⟩ := B
  refine ⟨fun pins s σ H Q I h => wpAny_Call_Name_kw (ld_glob I hg hm (PySem.W.callWith_K (h₀ := X.base) I.ok.mod.kin hk (thn (ha.run pos pins s σ H (fun vs H1 => spL X.K ps.length (g c a) vs H1 Q (fun _ _ _ => False)) I ?_) ?_) he hpl) hdb)⟩
  · obtain ⟨G, F', τ, en, h, hp⟩ := h
    refine bindA (vs := []) (os := []) h hp fun os e1 hp1 G1 H1 vs s1 h1 => ?_
    have h1 : RX X.K G1 F' τ σ H1 e1 vs os := h1
    dsimp only [ar] at hp1
    by_cases hl : os.length = ps.length ∧ noFrs os = true
    · rw [if_pos hl] at hp1
      obtain ⟨F2, hFb, h2, back⟩ := h1.enter hl.2
      refine ⟨by rw [h1.vlen, hl.1], G1, F2, os, hFb, h2, ?_⟩
      generalize g c a os = r at hp1 ⊢
      match r, hp1 with
      | .ok (o, os'), hp1 => exact fun G' H' v s x => hp1 G' H' [v] (s1.trans s) ((RX.left (vs := [v]) (os := [o]) rfl (back G' H' (v :: vs) (o :: os') s x))) v rfl
      | .error (.exn _ _), hp1 => exact hp1.elim
    · rw [if_neg hl] at hp1
      exact hp1.elim
  · rintro us s1 ⟨vs, H1, I1, r, q⟩
    refine ⟨I1.kIn, ?_⟩
    have b := hb s1 us I1.kIn (by rw [List.append_nil, ← r.length]; exact q.1)
    rw [List.append_nil] at b
    obtain ⟨z1, z2, z3, z4, z5⟩ := I1.pin (a, oe) (List.mem_append_left _ hp)
    refine wpAny_call (codeAny_mono (F.run X.A X.stack s1 H1 ⟨us, []⟩ us vs Q a oe c hc hr hot ⟨z1, z2, fun hm => (List.mem_cons.mp (I1.stkSub a hm)).elim z3 z4, z5⟩ hz I1.env0 b r q) fun r s' hq => ?_)
    match r, hq with
    | .error e, ⟨_, _, _, _, _, _, _, _, _, _, _, _, no⟩ => exact no.elim
    | .ok (.ret u), hq => exact I1.after hq
    | .ok .next, hq => exact False.elim hq
    | .ok .brk, hq => exact False.elim hq
    | .ok .cont, hq => exact False.elim hq
end
/-! ### isinstance of the handled exception -/
omit [Tabs] in
def isRef (u : V) (a : Addr) : Bool := match u with
  | .ref b => decide (b = a)
  | _ => false
omit [Tabs] in
theorem isRef_eq {u : V} {a : Addr} (h : isRef u a = true) : u = .ref a := by
  cases u with
  | ref b => rw [of_decide_eq_true (show decide (b = a) = true from h)]
  | _ => cases h
omit [Tabs] in
theorem isRef_self {a : Addr} : isRef (.ref a) a = true := decide_eq_true rfl
omit [Tabs] in
def eIsH (b : Bool) (ck : V → Bool) (da : DE) : DE := fun en => bd (da en) fun p => match p.1 with
  | .opq u => (match ck u with
    | true => .ok (.d (.bool b), p.2)
    | false => .error .stuck)
  | _ => .error .stuck
section
variable {X : Cx} {W : WX} {c x : Str} {a : Addr} {p1 p2 p3 pos : Pos} {e : Expr} {es : List Expr} {da : DE} {b : Bool} {vs : List V} {us : List Value} {n : Nat}
theorem Bears.inst (B : Bears X c a) {pins : List (Addr × Obj)} {σ : L2.St} {H : Hp} {s : Shared} (I : Inv X pins σ H s) : ∃ oe, PySem.W.InstAt s.heap a oe (He.ga X.K c) none := by
  obtain ⟨oe, ⟨_, fs, hd, _⟩, hp, hz⟩ := B
  have hget := (I.pin _ (List.mem_append_left _ hp)).1
  refine ⟨oe, ?_⟩
  obtain ⟨oc, od, dt, sl⟩ := oe
  obtain ⟨h1, h2⟩ := hz
  dsimp only at h1 h2 hd
  subst h1 h2 hd
  exact ⟨hget, rfl, rfl, trivial⟩
theorem call_isHot (B : Bears X c a) (C : ExcC X.K (He.ga X.K c)) : CallR X (.builtin "isinstance") (fun xs H Q => ∃ cV cv b, xs = [.ref a, cV] ∧ ClsV cV cv ∧ PySem.W.kitOne X.K (clV X.K c) cv = some b ∧ Q (.bl b) H) := by
  intro pins s σ H xs ws Q I r h
  obtain ⟨cV, cv, b, rfl, k, e, q⟩ := h
  obtain ⟨u1, u2, rfl, r1, r2⟩ := vals2 r
  cases (show u1 = Value.ref a from r1)
  cases k.eq r2
  obtain ⟨oe, J⟩ := B.inst I
  exact PySem.W.kia_one (PySem.W.handS_kitx_exc C.hg C.hk C.hs C.hd C.ha C.hn C.ht C.hm) I.kIn J e (fun z => nomatch z) fun tk => ⟨.bl b, H, I.tok tk, rfl, q⟩
/-- a class's name -/
inductive CNm (X : Cx) : Expr → V → Value → Prop
  | own {x : Str} {p : Pos} (hg : Gl X x) (hm : X.mg x = some (clV X.K x)) (hd : (x == ("__debug__" : Str)) = false) : CNm X (.Name x p) (.ref (He.ga X.K x)) (clV X.K x)
  | ty {x : Str} {T : String} {p : Pos} (hg : Gl X x) (hm : X.mg x = none) (hv : bootBuiltins x = some (.type T)) (hn : x ≠ "__name__") (hd : (x == ("__debug__" : Str)) = false) : CNm X (.Name x p) (.ty T) (.type T)
theorem CNm.pe {e : Expr} {v : V} {u : Value} (h : CNm X e v u) : PE X e (tC v) := by
  cases h with
  | own hg hm hd => exact pe_glob hg hm rfl hd
  | ty hg hm hv hn hd => exact pe_bltn hg hm hv rfl hn hd
theorem CNm.cls {e : Expr} {v : V} {u : Value} (h : CNm X e v u) : ClsV v u := by
  cases h with
  | own hg hm hd => exact .own _
  | ty hg hm hv hn hd => exact .ty _
theorem EX_isH (B : Bears X c a) (C : ExcC X.K (He.ga X.K c)) (hg : Gl X "isinstance") (hm : X.mg "isinstance" = none) (hb : bootBuiltins "isinstance" = some (.builtin "isinstance")) {v : V} {u : Value} (hn : CNm X e v u) (hk : PySem.W.kitOne X.K (clV X.K c) u = some b) {y : Expr} (ha : EX X W y da)
    (he : starEach [y, e] X.env = (false, eval y X.env) :: starEach [e] X.env := by rfl) (he2 : starEach [e] X.env = (false, eval e X.env) :: starEach [] X.env := by rfl) (hpl : (backTo pos (starEach [e] X.env)).any (·.1) = false := by rfl) :
    EX X W (.Call (.Name "isinstance" p1) [y, e] [] pos) (eIsH b (fun u => isRef u a) da) :=
  PE.imp (pe_callB (call_isHot B C) hg hm hb (pa_cons ha (pa_cons hn.pe pa_nil he2) he) (by decide) (by decide) he hpl) fun σ H Q q => by
  obtain ⟨G, F, τ, en, h, hp⟩ := q
  refine bindE h hp fun o e1 hp1 G1 H1 v1 s1 h1 => ?_
  have h1 : RX X.K G1 F τ σ H1 e1 [v1] [o] := h1
  dsimp only at hp1
  split at hp1
  · rename_i u1
    split at hp1
    · rename_i hr
      have e2 := (h1.opq).trans (isRef_eq hr)
      subst e2
      exact ⟨v, u, b, rfl, hn.cls, hk, hp1 G1 H1 [.bl b] s1 (h1.nil.withD (.bl b)) _ rfl⟩
    · exact hp1.elim
  · exact hp1.elim
end
/-! ### list comprehensions, targets -/
def iSqL (da : DE) : DI := fun en => bd (da en) fun p => match frz p.1 with
  | some (.list xs) => .ok (xs, p.2)
  | _ => .error .stuck
section
variable {X : Cx} {W : WX} {c : Str} {a : Addr} {elt tg l : Expr} {ifs : List Expr} {scope : Scope} {own : List (Str × Nat)} {vs is : List Nat} {pos : Pos} {da : DE} {g : DG} {tt : DT} {te : DE}
theorem GX_tupH {es : List Expr} {k : Nat} (B : Bears X c a) (h : PGs X es (liftGs X.K is is)) (hl : is.length = es.length := by rfl) (hn : (assignEach es X.env).length = es.length := by rfl) (hst : (assignEach es X.env).findIdx? (·.1) = none := by rfl) : GX X (.Tuple es k pos) is (gTp is) :=
  PG.imp (pg_parts B h hn hst) fun v σ H Q q => by
    obtain ⟨G, F, τ, en, x, h, hp⟩ := q
    unfold gTp at hp
    split at hp
    · rename_i e1 he
      split at he
      · rename_i xs
        cases h.dataG with
        | tup hs ha =>
          have len : xs.length = is.length := by
            have : ∀ (is : List Nat) (xs : List PyData) (en : En), gNms is xs en = some e1 → xs.length = is.length := by
              intro is
              induction is with
              | nil => intro xs en e; cases xs with | nil => rfl | cons _ _ => simp [gNms] at e
              | cons i is ih =>
                intro xs en e
                cases xs with
                | nil => simp [gNms] at e
                | cons x xs =>
                  simp only [gNms, Option.bind_eq_some_iff] at e
                  obtain ⟨e2, _, e⟩ := e
                  simp [ih xs e2 e]
            exact this is xs en he
          exact ⟨_, _, rfl, sqT_same h.same hs, by rw [DqAll.length ha, len, hl], G, F, τ, en, xs, h.nil, ha, by rw [he]; exact hp⟩
      · cases he
    · exact hp.elim
theorem lcHot_lift {σ : L2.St} {H : Hp} {Q : VK} (hs : ∀ i ∈ is, i ∈ own.map (·.2)) (q : liftE X.K W (eLc (own.map (·.2)) (iSqL da) g tt te) σ H Q) : tLc (iList X.K (liftE X.K W da)) (liftG X.K is g) (liftT X.K W0 tt) (liftE X.K W0 te) (own.map (·.2)) σ H Q := by
  have q2 := lc_lift (X := X) (W := W) (di := iSqL da) (g := g) (tt := tt) (te := te) hs q
  obtain ⟨G, F, τ, en, h, hp⟩ := q2
  refine bindEI h hp fun o e1 hp1 G1 H1 v s1 h1 => ?_
  dsimp only at hp1
  split at hp1
  · rename_i xs e2 hx
    split at hx
    · rename_i ys hy
      cases hx
      obtain ⟨G2, s2, h2⟩ := RX.freeze (vs := []) (os := []) h1 hy
      have dv := h2.dataG
      cases dv with
      | lst hq ha => exact ⟨_, rfl, ⟨_, h2.same.seq hq⟩, hp1 G2 H1 _ (s1.trans s2) h2.nil (its_list hq ha)⟩
    · cases hx
  · exact hp1.elim
  · rename_i hx
    split at hx <;> cases hx
theorem XLHot (own : List (Str × Nat)) (hv : own.map (·.2) = vs) (B : Bears X c a) (hN : X.N.Nodup) (hl : EX X W l da) (ok : BlkOk X.N X.env.scope scope own) (hs : ∀ i ∈ is, i ∈ own.map (·.2))
    (hg : ∀ (s : Shared) (H : Hp) (C : Addr) (cl : List (Str × Addr)) (fp : List Addr), GX (blkH X s H scope (PySem.compEnvC scope cl C X.env) fp) tg is g) (ht : ∀ (s : Shared) (H : Hp) (C : Addr) (cl : List (Str × Addr)) (fp : List Addr), PTs (blkH X s H scope (PySem.compEnvC scope cl C X.env) fp) ifs (liftT X.K W0 tt))
    (he : ∀ (s : Shared) (H : Hp) (C : Addr) (cl : List (Str × Addr)) (fp : List Addr), EX (blkH X s H scope (PySem.compEnvC scope cl C X.env) fp) W0 elt te) (hz : ∀ x, foldedSetIterable l X.env x = pure x := by intro _; rfl) :
    EX X W (.ListComp elt [⟨tg, l, ifs, 0⟩] scope pos) (eLc vs (iSqL da) g tt te) := by
  subst hv
  refine PE.imp (pe_lcHot (g := liftG X.K is g) (tt := liftT X.K W0 tt) (te := liftE X.K W0 te) B hN hl ok hg ht he hz) fun σ H Q q => lcHot_lift hs q
end
/-! ### sep.join(..) -/
end Lf
end
section
set_option Elab.async false
set_option linter.all false
set_option maxRecDepth 100000
set_option maxHeartbeats 2000000
/-! what a law's head must tell of the classes of refusals -/
namespace Lf
open PySem PySem.Spec L2 L2H
structure ExAll (cs ys tops : List Str) (bs : List String) (K : PySem.W.Frag) : Prop where
  top : ∀ t ∈ tops, ∀ c ∈ cs, PySem.W.exmOne K (clV K c) (clV K t) = some true
  ex : ∀ c ∈ cs, ExcC K (He.ga K c)
  is_ : ∀ y ∈ ys, ∀ c ∈ cs, PySem.W.kitOne K (clV K c) (clV K y) = some (isB c y)
  ty : ∀ b ∈ bs, ∀ c ∈ cs, PySem.W.kitOne K (clV K c) (.type b) = some true
theorem exB_ok {cs ys tops : List Str} {bs : List String} {K : PySem.W.Frag} (h : exB cs ys tops bs K = true) : ExAll cs ys tops bs K := by
  simp only [exB, List.all_eq_true, Bool.and_eq_true, decide_eq_true_eq] at h
  exact ⟨fun t ht c hc => (h c hc).1.1.1 t ht, fun c hc => excB_ok (h c hc).1.1.2, fun y hy c hc => (h c hc).1.2 y hy, fun b hb c hc => (h c hc).2 b hb⟩
theorem bears_suite {X : Cx} {c : Str} {a : Addr} {oe : Obj} {pn : List (Addr × Obj)} (hz : L2N.Zn (clV X.K c) none oe) (hd : ∃ vs, oe.data = .fields vs) : Bears (X.suite a ((a, oe) :: pn)) c a := by
  obtain ⟨fs, e⟩ := hd
  exact ⟨oe, ⟨rfl, fs, e, hz.2.2 fs e⟩, List.mem_cons_self, hz.zc⟩
theorem room_suite {X : Cx} {k : Nat} {a : Addr} {pn : List (Addr × Obj)} (hr : Rm k X.A) : RoomH k (X.suite a pn).A := ⟨hr.hr.dp, hr.hr.un⟩
theorem DefOkH.mono [Tabs] {P : Program} {w : World} {K : PySem.W.Frag} {mg : Str → Option Value} {base : Heap} {j k : Nat} {f : Addr} {fd : FuncData} {ps cs : List Str} {g : Str → Addr → DF} (F : DefOkH P w K mg base j f fd ps cs g) (h : j ≤ k) : DefOkH P w K mg base k f fd ps cs g :=
  ⟨fun A out s H args us vs Q a oe c hc hr => F.run A out s H args us vs Q a oe c hc (hr.mono h)⟩
/-! in of tuples -/
end Lf
end
section
set_option Elab.async false
set_option linter.all false
set_option maxRecDepth 100000
set_option maxHeartbeats 2000000
/-! rooms: what comes out of any data -/
namespace Ev
open PySem PySem.Spec L2 Lf
theorem try_ok {cs : List Str} {i : Nat} {d : DS} {ds : Str → Addr → DS} {en : En} {r : Fl × En} (h : d en = .ok r) : dTry cs i d ds en = .ok r := by simp [dTry, h]
theorem try_ex {cs : List Str} {i : Nat} {d : DS} {ds : Str → Addr → DS} {en e1 : En} {c : Str} {r : Fl × En} (h : d en = .error (.exn c e1)) (hc : c ∈ cs) (k : ∀ a, suiteD i (ds c) e1 a = .ok r) : dTry cs i d ds en = .ok r := by
  unfold dTry
  rw [h]
  dsimp only
  rw [if_pos hc]
  exact allA_eq k
theorem suite {i : Nat} {ds : Addr → DS} {e1 e2 e3 e4 : En} {f : Fl} {a : Addr} {s : Slot} (h : stor i (.opq (.ref a)) e1 = some e2) (k : ds a e2 = .ok (f, e3)) (hs : e3[i]? = some s) (hp : Pl.np s = true) (hr : e3.set i .un = e4) : suiteD i ds e1 a = .ok (f, e4) := by
  unfold suiteD
  rw [h]
  dsimp only
  rw [k]
  unfold clr
  dsimp only
  rw [hs]
  cases s with
  | p o => simp [Pl.np] at hp
  | _ => simp [hr]
theorem clH {n : Nat} {f : DF} {dr : DA} {en e1 : En} {os q : List OT} {o : OT} (h : dr en = .ok (os, e1)) (hn : os.length = n) (hf : noFrs os = true) (hz : f os = .ok (o, q)) : eClH n f dr en = .ok (o, e1) := by simp [eClH, h, bd, ar, hn, hf, hz]
theorem varq {i : Nat} {en : En} {u : V} (h : en[i]? = some (.v (.opq u))) : eVar i en = .ok (.opq u, en) := by simp [eVar, h]
end Ev
namespace Xp
open PySem PySem.Spec L2 Lf Pl Mt Mr
section
variable {m n : Nat} {W : Int} {H : List (List Int)} {x0 x1 x2 x3 : PyData}
/-- one move: whether it can be done, and what then -/
theorem one2 {c : Nat} (h : HOk m n W H) (hc : c + 1 < m) : ∃ M N : Int, 0 ≤ M ∧ Cm.f_can_move [.d (hallP H), I c] = .ok (.d (.tuple [.int M, .int N]), [.hole, .hole]) ∧
    ((M = 0 ∧ Cs.f_move [.d (hallP H), I c] = .ok (.d .none, [.hole, .hole])) ∨ (M ≠ 0 ∧ ∃ W1 S H1, Two m n c W W1 S H H1)) := by
  obtain ⟨A, r, s, B, rfl, hA⟩ := Mr.split_at h.len hc
  have w0 : (0 : Int) ≤ W := by
    have hr := h.rows r (by simp)
    have n1 := h.n1
    cases r with
    | nil => have := hr.1; simp at this; omega
    | cons a r => have := hr.2 a List.mem_cons_self; omega
  obtain ⟨M, hM, M0, N0, MN, hu⟩ := moves (c := c) h w0
  refine ⟨M, M + s.sum - r.sum, M0, can_move h hA hM, ?_⟩
  by_cases z : M = 0
  · have em := moved_none (k := 1) h hA hM (.inl (by omega))
    exact .inl ⟨z, fn_ok (fl := [false, false]) (k := 0) (B := Cs.D_move) (os := [.d (hallP (A ++ r :: s :: B)), I c]) rfl (Ev.rt (Ev.cl (Ev.cons_ (Ev.var rfl) (Ev.cons_ (Ev.var rfl) (Ev.cons_ Ev.d_ Ev.nil_))) rfl rfl em)) rfl⟩
  · refine .inr ⟨z, ?_⟩
    have u := hu 1 (by omega) (by omega)
    obtain ⟨W1, hW1⟩ := unseen_ok h u
    have w := with_one_gone h hA hM (by omega) N0
    have s0 : 0 ≤ ((A ++ r :: s :: B).map List.sum).sum := (sum_ge fun x hx => by
      obtain ⟨q, hq, rfl⟩ := List.mem_map.mp hx
      exact (sum_ge fun y hy => ((h.rows q hq).2 y hy).1).1).1
    exact ⟨W1, _, _, ⟨h, hW1, hc, w.1, w.2, rfl, by omega⟩⟩
end
end Xp
end
section
set_option Elab.async false
set_option linter.all false
set_option maxRecDepth 100000
set_option maxHeartbeats 1000000
/-! a, b, .. = a list or a tuple -/
namespace Lf
open PySem PySem.Spec L2
end Lf
end
section
set_option Elab.async false
set_option linter.all false
set_option maxRecDepth 100000
set_option maxHeartbeats 1000000
/-! a dict without entries as data; repr of data that holds such -/
namespace Lf
open PySem PySem.Spec L2
variable [Tabs]
def eDic0 : DE := fun en => .ok (.d (.dict []), en)
def showQ (x : PyData) : Bool := match x with
  | .none => true
  | .bool _ => true
  | .int _ => false
  | .str _ => false
  | y => PyData.showable y && decide ((PyData.shown y).length ≤ 100000) && decide (PyData.depth y ≤ 30)
def eRepQ (i : Nat) : DE := fun en => match sVar i en with
  | some x => if showQ x = true then .ok (.d (.str (PyData.shown x)), en) else .error .stuck
  | none => .error .stuck
section
variable {X : Cx} {W : WX} {i : Nat} {a : Expr} {p pos : Pos}
theorem EX_dic0 : EX X W (.Dict [] [] pos) eDic0 := PE.imp pe_dnewK fun σ H Q q => by
  obtain ⟨G, F, τ, en, h, hp⟩ := q
  intro p np
  obtain ⟨s2, h2⟩ := h.newG (u := .dK []) np
  exact hp _ _ [.ref p] s2 (h2.nil.withD (.dic upd_same)) _ rfl
def rReprQ (K : PySem.W.Frag) : List V → Hp → VK → Prop := fun xs H Q => ∃ v x, (xs = [v] ∧ Dq K H v x) ∧ showQ x = true ∧ Q (.str (PyData.shown x)) H
theorem call_reprQ {k : Nat} (ks : SysK X.K) (hr : Rm k X.A) : CallR X (.builtin "repr") (rReprQ X.K) := fun pins s σ H xs us Q I r ⟨v, x, ⟨e, hd⟩, hx, q⟩ => by
  subst e
  obtain ⟨u, rfl, rx⟩ := vals1 r
  have big : ∀ b, u = .ref b → PyData.showable x = true → (PyData.shown x).length ≤ 100000 → PyData.depth x ≤ 30 → wpAny (model X.prog X.w) X.A (call (.builtin "repr") [u]) (fun z s' => ∃ y H', Inv X pins σ H' s' ∧ RelV y z ∧ Q y H') X.xe s := fun b e h1 h2 h3 => by
    subst e
    obtain ⟨as, rr, nm⟩ := Dq.reads I x v _ hd rx
    have hu := hr.hr.units
    exact PySem.repr_of_reads' rr h1 (fun _ => nm ks) hr.gd (by omega) (fun _ _ e => e) (fun h' u tk hk => ⟨.str _, H, I.kept (t' := tk) hk, ⟨_, rfl⟩, q⟩) (by rw [sizeLine_eq]; omega)
  cases x with
  | none => cases hd; cases rx; exact PySem.P.repr_of_none ⟨.str _, H, I.tok _, ⟨_, rfl⟩, q⟩
  | bool b =>
    cases hd
    cases rx
    refine PySem.P.repr_of_bool ⟨.str _, H, I.tok _, ⟨_, rfl⟩, ?_⟩
    cases b <;> exact q
  | int _ => cases hx
  | str _ => cases hx
  | list xs =>
    simp only [showQ, Bool.and_eq_true, decide_eq_true_eq] at hx
    cases hd
    exact big _ rx hx.1.1 hx.1.2 hx.2
  | tuple xs =>
    simp only [showQ, Bool.and_eq_true, decide_eq_true_eq] at hx
    cases hd
    exact big _ rx hx.1.1 hx.1.2 hx.2
  | dict xs =>
    simp only [showQ, Bool.and_eq_true, decide_eq_true_eq] at hx
    cases hd
    exact big _ rx hx.1.1 hx.1.2 hx.2
theorem EX_repQ {k : Nat} (ks : SysK X.K) (hr : Rm k X.A) (hg : Gl X "repr") (hm : X.mg "repr" = none) (ha : PE X a (tVar i)) (he : starEach (a :: []) X.env = (false, eval a X.env) :: starEach [] X.env := by rfl) (hpl : (backTo pos (starEach [] X.env)).any (·.1) = false := by rfl) :
    EX X W (.Call (.Name "repr" p) [a] [] pos) (eRepQ i) :=
  PE.imp (pe_callB (call_reprQ ks hr) hg hm PyProof.Rows.boot_repr (pa_cons ha pa_nil he) (he := he) (hpl := hpl)) fun σ H Q q => by
  obtain ⟨G, F, τ, en, h, hp⟩ := q
  unfold eRepQ at hp
  split at hp
  · rename_i x ex
    split at hp
    · rename_i hx
      obtain ⟨v, hv, dx⟩ := h.peekS ex
      exact ⟨v, hv, v, x, ⟨rfl, dx⟩, hx, hp G H [.str _] (Same.refl _) (h.withD (.str _)) _ rfl⟩
    · exact hp.elim
  · exact hp.elim
end
omit [Tabs] in
theorem fine_showQ {k d : Nat} {x : PyData} (h : Fine k d x) (hk : k ≤ 100000) (hd : d ≤ 30) (hx : (∃ xs, x = .list xs) ∨ (∃ xs, x = .tuple xs) ∨ ∃ xs, x = .dict xs) : showQ x = true := by
  have a := h.k
  have b := h.d
  obtain ⟨h1, h2⟩ := shown_le x (by omega)
  rcases hx with ⟨xs, rfl⟩ | ⟨xs, rfl⟩ | ⟨xs, rfl⟩ <;> (simp only [showQ, h2, Bool.true_and, Bool.and_eq_true, decide_eq_true_eq]; omega)
end Lf
namespace Ev
open PySem PySem.Spec L2 Lf
theorem repQ {i : Nat} {en : En} {x : PyData} (h : sVar i en = some x) (g : showQ x = true) : eRepQ i en = .ok (.d (.str (PyData.shown x)), en) := by simp [eRepQ, h, g]
end Ev
end
section
set_option Elab.async false
set_option linter.all false
set_option maxRecDepth 100000
set_option maxHeartbeats 2000000
/-! a list of three defs, one of them called -/
namespace Lf
open PySem PySem.Spec L2 PyProof.Rows
variable [Tabs]
def eFn3 (n : Nat) (f g q : DF) (de : DE) (da : DA) : DE := fun en => bd (de en) fun p => match p.1 with
  | .d (.int k) => if k = 0 then eCl n f da p.2 else if k = 1 then eCl n g da p.2 else if k = 2 then eCl n q da p.2 else .error .stuck
  | _ => .error .stuck
section
variable {X : Cx} {W : WX} {k n : Nat} {f1 f2 f3 : Addr} {fd1 fd2 fd3 : FuncData} {ps1 ps2 ps3 : List Str} {g1 g2 g3 : DF} {x1 x2 x3 : Str} {p1 p2 p3 p4 p5 pos : Pos} {c e : Expr} {es : List Expr} {de : DE} {da : DA}
theorem EX_fn3 (F1 : DefOk X.prog X.w X.K X.mg X.base k f1 fd1 ps1 g1) (F2 : DefOk X.prog X.w X.K X.mg X.base k f2 fd2 ps2 g2) (F3 : DefOk X.prog X.w X.K X.mg X.base k f3 fd3 ps3 g3) (hr : Rm k X.A) (hd1 : Gl X x1) (hd2 : Gl X x2) (hd3 : Gl X x3) (hm1 : X.mg x1 = some (.ref f1)) (hm2 : X.mg x2 = some (.ref f2)) (hm3 : X.mg x3 = some (.ref f3))
    (hk1 : PySem.W.keepIn X.K (.ref f1) = true) (hk2 : PySem.W.keepIn X.K (.ref f2) = true) (hk3 : PySem.W.keepIn X.K (.ref f3) = true) (hb1 : Binds X.K fd1 ps1 []) (hb2 : Binds X.K fd2 ps2 []) (hb3 : Binds X.K fd3 ps3 []) (h1 : ps1.length = n) (h2 : ps2.length = n) (h3 : ps3.length = n) (tk : L2N.Takes X W)
    (hc : EX X W c de) (ha : AX X W (e :: es) da) (hs : PlainIx c := by exact fun _ _ => rfl)
    (hdb1 : (x1 == ("__debug__" : Str)) = false := by decide) (hdb2 : (x2 == ("__debug__" : Str)) = false := by decide) (hdb3 : (x3 == ("__debug__" : Str)) = false := by decide)
    (he : starEach (e :: es) X.env = (false, eval e X.env) :: starEach es X.env := by rfl) (hpl : (backTo pos (starEach es X.env)).any (·.1) = false := by rfl)
    (hcall : eval (.Call (.Subscript (.List [.Name x1 p1, .Name x2 p2, .Name x3 p5] p3) c p4) (e :: es) [] pos) X.env = (do callWith pos (← eval (.Subscript (.List [.Name x1 p1, .Name x2 p2, .Name x3 p5] p3) c p4) X.env) [] (backTo pos (starEach (e :: es) X.env)) (backToKw pos (keywordEach [] X.env))) := by rfl) :
    EX X W (.Call (.Subscript (.List [.Name x1 p1, .Name x2 p2, .Name x3 p5] p3) c p4) (e :: es) [] pos) (eFn3 n g1 g2 g3 de da) := by
  have hf : EX X W (.Subscript (.List [.Name x1 p1, .Name x2 p2, .Name x3 p5] p3) c p4) (eIx (eLst (aCons (eOpq (.ref f1)) (aCons (eOpq (.ref f2)) (aCons (eOpq (.ref f3)) aNil)))) de) := EX_ix (EX_lst (AX_cons (EX_opq hd1 hm1 hdb1) (AX_cons (EX_opq hd2 hm2 hdb2) (AX_cons (EX_opq hd3 hm3 hdb3) AX_nil)))) hc hs
  refine ⟨fun pins s σ H Q I q => ?_⟩
  refine Call_ (thn (hf.run pins s σ H (fun v H1 => (v = .ref f1 ∧ tCalD X.K W ps1.length g1 (liftA X.K W da) σ H1 Q) ∨ (v = .ref f2 ∧ tCalD X.K W ps2.length g2 (liftA X.K W da) σ H1 Q) ∨ (v = .ref f3 ∧ tCalD X.K W ps3.length g3 (liftA X.K W da) σ H1 Q)) I ?_) fun u s1 ⟨v, H1, I1, r, q1⟩ => ?_) hcall
  · obtain ⟨G, F, τ, en, h, hp⟩ := q
    refine ⟨G, F, τ, en, h, ?_⟩
    unfold eFn3 at hp
    have hl : eLst (aCons (eOpq (.ref f1)) (aCons (eOpq (.ref f2)) (aCons (eOpq (.ref f3)) aNil))) en = .ok (.own [.opq (.ref f1), .opq (.ref f2), .opq (.ref f3)], en) := rfl
    unfold eIx
    rw [hl]
    simp only [bd]
    revert hp
    cases de en with
    | error z =>
      cases z with
      | stuck => exact fun hp => hp
      | exn c e1 => exact fun hp => hp
    | ok p =>
      obtain ⟨o, e1⟩ := p
      intro hp
      simp only [bd] at hp ⊢
      split at hp
      · rename_i kk
        by_cases z : kk = 0
        · subst z
          rw [if_pos rfl] at hp
          show Post X.K G F τ σ W ob1 _ (.ok (OT.opq (.ref f1), e1))
          intro G' H' vs sg x v ev
          subst ev
          refine .inl ⟨RX.opq x, ?_⟩
          rw [h1]
          exact liftCl ⟨G', F, τ, e1, x.nil, hp.mono sg⟩
        · rw [if_neg z] at hp
          by_cases z1 : kk = 1
          · subst z1
            rw [if_pos rfl] at hp
            show Post X.K G F τ σ W ob1 _ (.ok (OT.opq (.ref f2), e1))
            intro G' H' vs sg x v ev
            subst ev
            refine .inr (.inl ⟨RX.opq x, ?_⟩)
            rw [h2]
            exact liftCl ⟨G', F, τ, e1, x.nil, hp.mono sg⟩
          · rw [if_neg z1] at hp
            by_cases z2 : kk = 2
            · subst z2
              rw [if_pos rfl] at hp
              show Post X.K G F τ σ W ob1 _ (.ok (OT.opq (.ref f3), e1))
              intro G' H' vs sg x v ev
              subst ev
              refine .inr (.inr ⟨RX.opq x, ?_⟩)
              rw [h3]
              exact liftCl ⟨G', F, τ, e1, x.nil, hp.mono sg⟩
            · rw [if_neg z2] at hp
              exact hp.elim
      · exact hp.elim
  · rcases q1 with ⟨rfl, q1⟩ | ⟨rfl, q1⟩ | ⟨rfl, q1⟩
    · cases r
      refine PySem.W.callWith_K (h₀ := X.base) I1.ok.mod.kin hk1 (thn (ha.run pos pins s1 σ H1 _ I1 q1) ?_) he hpl
      rintro us s2 ⟨vs, H2, I2, r2, q2⟩
      refine ⟨I2.kIn, runD F1 hr tk ?_ I2 r2 q2⟩
      have b := hb1 s2 us I2.kIn (by rw [List.append_nil, ← r2.length]; exact q2.1)
      rwa [List.append_nil] at b
    · cases r
      refine PySem.W.callWith_K (h₀ := X.base) I1.ok.mod.kin hk2 (thn (ha.run pos pins s1 σ H1 _ I1 q1) ?_) he hpl
      rintro us s2 ⟨vs, H2, I2, r2, q2⟩
      refine ⟨I2.kIn, runD F2 hr tk ?_ I2 r2 q2⟩
      have b := hb2 s2 us I2.kIn (by rw [List.append_nil, ← r2.length]; exact q2.1)
      rwa [List.append_nil] at b
    · cases r
      refine PySem.W.callWith_K (h₀ := X.base) I1.ok.mod.kin hk3 (thn (ha.run pos pins s1 σ H1 _ I1 q1) ?_) he hpl
      rintro us s2 ⟨vs, H2, I2, r2, q2⟩
      refine ⟨I2.kIn, runD F3 hr tk ?_ I2 r2 q2⟩
      have b := hb3 s2 us I2.kIn (by rw [List.append_nil, ← r2.length]; exact q2.1)
      rwa [List.append_nil] at b
end
end Lf
namespace Ev
open PySem PySem.Spec L2 Lf
variable {n : Nat} {f g q : DF} {de : DE} {da : DA} {en e1 : En} {r : R (OT × En)}
theorem fn30 (h : de en = .ok (.d (.int 0), e1)) (k : eCl n f da e1 = r) : eFn3 n f g q de da en = r := by simp [eFn3, h, bd, k]
theorem fn31 (h : de en = .ok (.d (.int 1), e1)) (k : eCl n g da e1 = r) : eFn3 n f g q de da en = r := by simp [eFn3, h, bd, k]
theorem fn32 (h : de en = .ok (.d (.int 2), e1)) (k : eCl n q da e1 = r) : eFn3 n f g q de da en = r := by simp [eFn3, h, bd, k]
end Ev
end
section
set_option Elab.async false
set_option linter.all false
set_option maxRecDepth 100000
set_option maxHeartbeats 2000000
namespace K17
open PySem PySem.Spec L2 Lf
abbrev FnP (K : PySem.W.Frag) (x : Str) (st : Stmt) (fd : FuncData) : Prop := FunD K x x (defArgs st) (defBody st) (defScope st) [] [] (He.ga K x) fd
theorem sc_is_whole : FnScope ["thing"] ["thing"] (defScope s_is_whole) := ⟨rfl, rfl, rfl, by decide +kernel, rfl, by decide +kernel, by decide +kernel⟩
theorem sc_is_short_tuple : FnScope ["thing"] ["thing"] (defScope s_is_short_tuple) := ⟨rfl, rfl, rfl, by decide +kernel, rfl, by decide +kernel, by decide +kernel⟩
theorem sc_is_row : FnScope ["thing", "minutes"] ["thing"] (defScope s_is_row) := ⟨rfl, rfl, rfl, by decide +kernel, rfl, by decide +kernel, by decide +kernel⟩
theorem sc_is_hall : FnScope ["thing", "row"] ["thing"] (defScope s_is_hall) := ⟨rfl, rfl, rfl, by decide +kernel, rfl, by decide +kernel, by decide +kernel⟩
theorem sc_check_hall : FnScope ["hall"] ["hall"] (defScope s_check_hall) := ⟨rfl, rfl, rfl, by decide +kernel, rfl, by decide +kernel, by decide +kernel⟩
theorem sc_check_counter : FnScope ["hall", "counter"] ["hall", "counter"] (defScope s_check_counter) := ⟨rfl, rfl, rfl, by decide +kernel, rfl, by decide +kernel, by decide +kernel⟩
theorem sc_check_neighbours : FnScope ["hall", "counter"] ["hall", "counter"] (defScope s_check_neighbours) := ⟨rfl, rfl, rfl, by decide +kernel, rfl, by decide +kernel, by decide +kernel⟩
theorem sc_leads : FnScope ["row", "next_row", "lead", "told", "minutes", "next_minutes"] ["row", "next_row"] (defScope s_leads) := ⟨rfl, rfl, rfl, by decide +kernel, rfl, by decide +kernel, by decide +kernel⟩
theorem sc_most_moves : FnScope ["row", "next_row", "on"] ["row", "next_row"] (defScope s_most_moves) := ⟨rfl, rfl, rfl, by decide +kernel, rfl, by decide +kernel, by decide +kernel⟩
theorem sc_going_on : FnScope ["row", "next_row", "many", "told", "reached", "minutes", "lead"] ["row", "next_row", "many"] (defScope s_going_on) := ⟨rfl, rfl, rfl, by decide +kernel, rfl, by decide +kernel, by decide +kernel⟩
theorem sc_going_back : FnScope ["row", "next_row", "many"] ["row", "next_row", "many"] (defScope s_going_back) := ⟨rfl, rfl, rfl, by decide +kernel, rfl, by decide +kernel, by decide +kernel⟩
theorem sc_carried : FnScope ["hall", "counter", "many", "row", "next_row", "gone", "left", "next_left", "minutes", "moving"] ["hall", "counter", "many"] (defScope s_carried) := ⟨rfl, rfl, rfl, by decide +kernel, rfl, by decide +kernel, by decide +kernel⟩
theorem sc_moved : FnScope ["hall", "counter", "many", "most_on", "most_back"] ["hall", "counter", "many"] (defScope s_moved) := ⟨rfl, rfl, rfl, by decide +kernel, rfl, by decide +kernel, by decide +kernel⟩
theorem sc_move : FnScope ["hall", "counter"] ["hall", "counter"] (defScope s_move) := ⟨rfl, rfl, rfl, by decide +kernel, rfl, by decide +kernel, by decide +kernel⟩
theorem sc_back : FnScope ["hall", "counter"] ["hall", "counter"] (defScope s_back) := ⟨rfl, rfl, rfl, by decide +kernel, rfl, by decide +kernel, by decide +kernel⟩
theorem sc_can_move : FnScope ["hall", "counter"] ["hall", "counter"] (defScope s_can_move) := ⟨rfl, rfl, rfl, by decide +kernel, rfl, by decide +kernel, by decide +kernel⟩
theorem sc__law_cell_at : FnScope ["script", "k"] ["script", "k"] (defScope s__law_cell_at) := ⟨rfl, rfl, rfl, by decide +kernel, rfl, by decide +kernel, by decide +kernel⟩
theorem sc__law_bag : FnScope ["cell"] ["cell"] (defScope s__law_bag) := ⟨rfl, rfl, rfl, by decide +kernel, rfl, by decide +kernel, by decide +kernel⟩
theorem sc__law_draw : FnScope ["bag", "sides", "digit"] ["bag", "sides"] (defScope s__law_draw) := ⟨rfl, rfl, rfl, by decide +kernel, rfl, by decide +kernel, by decide +kernel⟩
theorem sc__law_minutes : FnScope ["bag", "lot", "most"] ["bag", "lot"] (defScope s__law_minutes) := ⟨rfl, rfl, rfl, by decide +kernel, rfl, by decide +kernel, by decide +kernel⟩
theorem sc__law_hall : FnScope ["bag", "rows_upto", "upto", "few", "size", "long", "lot", "row", "k"] ["bag", "rows_upto", "upto", "few"] (defScope s__law_hall) := ⟨rfl, rfl, rfl, by decide +kernel, rfl, by decide +kernel, by decide +kernel⟩
theorem sc__law_words : FnScope ["e", "some", "word", "fits"] ["e"] (defScope s__law_words) := ⟨rfl, rfl, rfl, by decide +kernel, rfl, by decide +kernel, by decide +kernel⟩
theorem sc__law_no_hall : FnScope ["bag", "some"] ["bag"] (defScope s__law_no_hall) := ⟨rfl, rfl, rfl, by decide +kernel, rfl, by decide +kernel, by decide +kernel⟩
theorem sc__law_no_number : FnScope ["bag", "size"] ["bag", "size"] (defScope s__law_no_number) := ⟨rfl, rfl, rfl, by decide +kernel, rfl, by decide +kernel, by decide +kernel⟩
theorem sc__law_said : FnScope ["door", "some", "rooms", "i", "many_moves", "kept_words", "e"] ["door", "some"] (defScope s__law_said) := ⟨rfl, rfl, rfl, by decide +kernel, rfl, by decide +kernel, by decide +kernel⟩
theorem sc_law : FnScope ["script", "k", "bag", "rooms", "bad_hall", "bad_i", "bad_many", "door", "asks", "some", "word", "before", "i"] ["script"] (defScope s_law) := ⟨rfl, rfl, rfl, by decide +kernel, rfl, by decide +kernel, by decide +kernel⟩
/-- the classes that are raised -/
def excs : List Str := ["NoHall", "NoCounter", "NoNumber"]
/-! ### the defs as functions on things -/
def D__law_words (c : Str) (ck : V → Bool) : DS := (dSq (dSet 1 (eLst (aCons (eTup (aCons (eD (.str "NoHall")) (aCons (eIsH (isB c "NoHall") ck (eVar 0)) aNil))) (aCons (eTup (aCons (eD (.str "NoDay")) (aCons (eIsH (isB c "NoDay") ck (eVar 0)) aNil))) aNil)))) (dSq (dSet 1 (eCat (eVar 1) (eLst (aCons (eTup (aCons (eD (.str "NoCustomer")) (aCons (eIsH (isB c "NoCustomer") ck (eVar 0)) aNil))) (aCons (eTup (aCons (eD (.str "NoCounter")) (aCons (eIsH (isB c "NoCounter") ck (eVar 0)) aNil))) aNil))))) (dSq (dSet 1 (eCat (eVar 1) (eLst (aCons (eTup (aCons (eD (.str "NoNumber")) (aCons (eIsH (isB c "NoNumber") ck (eVar 0)) aNil))) (aCons (eTup (aCons (eD (.str "NoTotals")) (aCons (eIsH (isB c "NoTotals") ck (eVar 0)) aNil))) aNil))))) (dSq (dSet 1 (eCat (eVar 1) (eLst (aCons (eTup (aCons (eD (.str "NoMany")) (aCons (eIsH (isB c "NoMany") ck (eVar 0)) aNil))) (aCons (eTup (aCons (eD (.str "NoCustomers")) (aCons (eIsH (isB c "NoCustomers") ck (eVar 0)) aNil))) aNil))))) (dSq (dSet 1 (eCat (eVar 1) (eLst (aCons (eTup (aCons (eD (.str "NoTowers")) (aCons (eIsH (isB c "NoTowers") ck (eVar 0)) aNil))) (aCons (eTup (aCons (eD (.str "NoRoom")) (aCons (eIsH (isB c "NoRoom") ck (eVar 0)) aNil))) aNil))))) (dSq (dSet 1 (eCat (eVar 1) (eLst (aCons (eTup (aCons (eD (.str "NoMove")) (aCons (eIsH (isB c "NoMove") ck (eVar 0)) aNil))) (aCons (eTup (aCons (eD (.str "Unlike")) (aCons (eIsH (isB c "Unlike") ck (eVar 0)) aNil))) aNil))))) (dSq (dSet 1 (eCat (eVar 1) (eLst (aCons (eTup (aCons (eD (.str "NoWay")) (aCons (eIsH (isB c "NoWay") ck (eVar 0)) aNil))) (aCons (eTup (aCons (eD (.str "NoRoad")) (aCons (eIsH (isB c "NoRoad") ck (eVar 0)) aNil))) aNil))))) (dSq (dSet 1 (eCat (eVar 1) (eLst (aCons (eTup (aCons (eD (.str "TooMany")) (aCons (eIsH (isB c "TooMany") ck (eVar 0)) aNil))) (aCons (eTup (aCons (eD (.str "NoText")) (aCons (eIsH (isB c "NoText") ck (eVar 0)) aNil))) aNil))))) (dSq (dEx (eApp 1 (eTup (aCons (eD (.str "value")) (aCons (eIsH true ck (eVar 0)) aNil))))) (dRt (eLc [2, 3] (iSqL (eVar 1)) (gTp [2, 3]) (tV (eVar 3)) (eVar 2))))))))))))
def f__law_words (c : Str) (ck : V → Bool) : DF := dFn [false] 3 (D__law_words c ck)
noncomputable def D__law_no_hall : DS := (dSq (dSet 1 (eLst (aCons (eD .none) (aCons (eTup aNil) (aCons (eTup (aCons (eTup aNil) aNil)) (aCons (eLst (aCons (eTup (aCons (eD (.int 1)) (aCons (eD (.int 2)) aNil))) aNil)) (aCons (eTup (aCons (eLst (aCons (eD (.int 1)) (aCons (eD (.int 2)) aNil))) aNil)) (aCons (eTup (aCons (eTup (aCons (eD (.int 1)) (aCons (eD (.int 2)) aNil))) (aCons (eTup (aCons (eD (.int 1)) aNil)) aNil))) (aCons (eTup (aCons (eTup (aCons (eNeg (eD (.int 1))) aNil)) aNil)) (aCons (eTup (aCons (eTup (aCons (eD (.bool true)) aNil)) aNil)) (aCons (eTup (aCons (eTup (aCons (eD (.str "1")) aNil)) aNil)) (aCons (eD (.int 3)) (aCons (eTup (aCons (eTup (aCons (eD (.int 1)) (aCons (eD .none) aNil))) aNil)) aNil))))))))))))) (dSq (dSet 1 (eCat (eVar 1) (eLst (aCons (eMul (eTup (aCons (eTup (aCons (eD (.int 1)) aNil)) aNil)) (eD (.int 9))) (aCons (eTup (aCons (eMul (eTup (aCons (eD (.int 1)) aNil)) (eD (.int 9))) aNil)) (aCons eDic0 (aCons (eTup (aCons (eD (.int 1)) (aCons (eD (.int 2)) aNil))) aNil))))))) (dRt (eIx (eVar 1) (eClB 2 Cb.f__law_draw 0 (aCons (eD (.int 15)) aNil))))))
noncomputable def f__law_no_hall : DF := dFn [true] 1 D__law_no_hall
noncomputable def D__law_no_number : DS := (dRt (eIx (eLst (aCons (eVar 1) (aCons (eNeg (eD (.int 1))) (aCons (eD .none) (aCons (eD (.bool true)) (aCons (eD (.str "0")) (aCons (eTup (aCons (eD (.int 0)) aNil)) (aCons (eLst (aCons (eD (.int 0)) aNil)) (aCons (eOp2 fAdd (eVar 1) (eOp2 fPow (eD (.int 10)) (eD (.int 9)))) aNil))))))))) (eClB 2 Cb.f__law_draw 0 (aCons (eD (.int 8)) aNil))))
noncomputable def f__law_no_number : DF := dFn [true, false] 0 D__law_no_number
noncomputable def D__law_said : DS := (dSq (dAsg (gTp [2, 3, 4]) (eVar 1)) (dSq (dSet 5 (eLst aNil)) (dSq (dTry excs 6 (dIf (tV (eOp2 fLt (eVar 0) (eD (.int 3)))) (dEx (eFn3 2 Cs.f_move Cy.f_back Cm.f_can_move (eVar 0) (aCons (eVar 2) (aCons (eVar 3) aNil)))) (dEx (eCl 3 Cm.f_moved (aCons (eVar 2) (aCons (eVar 3) (aCons (eVar 4) aNil)))))) (fun c a => (dSet 5 (eClH 1 (f__law_words c (fun u => isRef u a)) (aCons (eVar 6) aNil))))) (dRt (eMov 5)))))
noncomputable def f__law_said : DF := dFn [false, false] 5 D__law_said
noncomputable def D_law : DS := (dSq (dFor (iR1 (aCons (eCb fMax2 (aCons (eD (.int 1)) (aCons (eCb fMin2 (aCons (eD (.int 6)) (aCons (eLen (eVar 0)) aNil))) aNil))) aNil)) (gNm 1) (dSq (dSet 2 (eCl 1 Cb.f__law_bag (aCons (eOp2 fAdd (eCl 2 Cb.f__law_cell_at (aCons (eVar 0) (aCons (eVar 1) aNil))) (eD (.int 4))) aNil))) (dSq (dSet 3 (eClB 4 Cb.f__law_hall 2 (aCons (eD (.int 6)) (aCons (eD (.int 8)) (aCons (eD (.bool false)) aNil))))) (dSq (dSet 4 (eClB 1 f__law_no_hall 2 aNil)) (dSq (dSet 5 (eClB 2 f__law_no_number 2 (aCons (eOp2 fSub (eLen (eVar 3)) (eD (.int 1))) aNil))) (dSq (dSet 6 (eIx (eLst (aCons (eD .none) (aCons (eD (.bool true)) (aCons (eD (.str "1")) (aCons (eTup (aCons (eD (.int 1)) aNil)) (aCons (eLst (aCons (eD (.int 0)) aNil)) (aCons (eD (.bool false)) aNil))))))) (eClB 2 Cb.f__law_draw 2 (aCons (eD (.int 6)) aNil)))) (dFor (iR1 (aCons (eD (.int 4)) aNil)) (gNm 7) (dSq (dSet 8 (eLst (aCons (eTup (aCons (eTup (aCons (eVar 4) (aCons (eVar 5) (aCons (eVar 6) aNil)))) (aCons (eD (.str "NoHall")) aNil))) (aCons (eTup (aCons (eTup (aCons (eVar 3) (aCons (eVar 5) (aCons (eVar 6) aNil)))) (aCons (eD (.str "NoCounter")) aNil))) aNil)))) (dSq (dEx (eApp 8 (eTup (aCons (eTup (aCons (eVar 3) (aCons (eOp2 fSub (eLen (eVar 3)) (eD (.int 1))) (aCons (eD (.int 0)) aNil)))) (aCons (eD (.str "NoCounter")) aNil))))) (dSq (dIf (tAn (tV (eOp2 fEq (eVar 7) (eD (.int 3)))) (tV (eOp2 fGt (eLen (eVar 3)) (eD (.int 1))))) (dEx (eApp 8 (eTup (aCons (eTup (aCons (eVar 3) (aCons (eD (.int 0)) (aCons (eVar 6) aNil)))) (aCons (eD (.str "NoNumber")) aNil))))) dNx) (dSq (dFor (iSq (eVar 8)) (gTp [9, 10]) (dSq (dSet 11 (eRepQ 9)) (dIf (tOr' (tV (eOp2 fNe (eCl 2 f__law_said (aCons (eVar 7) (aCons (eVar 9) aNil))) (eLst (aCons (eVar 10) (aCons (eD (.str "value")) aNil))))) (tV (eOp2 fNe (eRepQ 9) (eVar 11)))) (dRt (eD (.bool false))) dNx))) (dFor (iR1 (aCons (eOp2 fSub (eLen (eVar 3)) (eD (.int 1))) aNil)) (gNm 12) (dIf (tV (eOp2 fNe (eCat (eCl 2 f__law_said (aCons (eVar 7) (aCons (eTup (aCons (eVar 3) (aCons (eVar 12) (aCons (eOp2 fPow (eD (.int 10)) (eD (.int 14))) aNil)))) aNil))) (eCl 2 f__law_said (aCons (eVar 7) (aCons (eTup (aCons (eVar 3) (aCons (eVar 12) (aCons (eNeg (eOp2 fPow (eD (.int 10)) (eD (.int 14)))) aNil)))) aNil)))) (eLst aNil))) (dRt (eD (.bool false))) dNx))))))))))))) (dRt (eD (.bool true))))
noncomputable def f_law : DF := dFn [false] 12 D_law
/-! ### what the top has left -/
structure Tx [Tabs] (K : PySem.W.Frag) (mg : Str → Option Value) (base : Heap) : Prop where
  F_is_whole : ∃ fd, FnP K "is_whole" s_is_whole fd
  m_is_whole : mg "is_whole" = some (.ref (He.ga K "is_whole"))
  F_is_short_tuple : ∃ fd, FnP K "is_short_tuple" s_is_short_tuple fd
  m_is_short_tuple : mg "is_short_tuple" = some (.ref (He.ga K "is_short_tuple"))
  F_is_row : ∃ fd, FnP K "is_row" s_is_row fd
  m_is_row : mg "is_row" = some (.ref (He.ga K "is_row"))
  t_is_row : (He.cT K ("is_row", none)).2 ∈ Tabs.ts ∧ GxR.TabB base mg (He.cT K ("is_row", none)).1 (He.cT K ("is_row", none)).2
  F_is_hall : ∃ fd, FnP K "is_hall" s_is_hall fd
  m_is_hall : mg "is_hall" = some (.ref (He.ga K "is_hall"))
  t_is_hall : (He.cT K ("is_hall", none)).2 ∈ Tabs.ts ∧ GxR.TabB base mg (He.cT K ("is_hall", none)).1 (He.cT K ("is_hall", none)).2
  F_check_hall : ∃ fd, FnP K "check_hall" s_check_hall fd
  m_check_hall : mg "check_hall" = some (.ref (He.ga K "check_hall"))
  F_check_counter : ∃ fd, FnP K "check_counter" s_check_counter fd
  m_check_counter : mg "check_counter" = some (.ref (He.ga K "check_counter"))
  F_check_neighbours : ∃ fd, FnP K "check_neighbours" s_check_neighbours fd
  m_check_neighbours : mg "check_neighbours" = some (.ref (He.ga K "check_neighbours"))
  F_leads : ∃ fd, FnP K "leads" s_leads fd
  m_leads : mg "leads" = some (.ref (He.ga K "leads"))
  F_most_moves : ∃ fd, FnP K "most_moves" s_most_moves fd
  m_most_moves : mg "most_moves" = some (.ref (He.ga K "most_moves"))
  F_going_on : ∃ fd, FnP K "going_on" s_going_on fd
  m_going_on : mg "going_on" = some (.ref (He.ga K "going_on"))
  F_going_back : ∃ fd, FnP K "going_back" s_going_back fd
  m_going_back : mg "going_back" = some (.ref (He.ga K "going_back"))
  F_carried : ∃ fd, FnP K "carried" s_carried fd
  m_carried : mg "carried" = some (.ref (He.ga K "carried"))
  F_moved : ∃ fd, FnP K "moved" s_moved fd
  m_moved : mg "moved" = some (.ref (He.ga K "moved"))
  F_move : ∃ fd, FnP K "move" s_move fd
  m_move : mg "move" = some (.ref (He.ga K "move"))
  F_back : ∃ fd, FnP K "back" s_back fd
  m_back : mg "back" = some (.ref (He.ga K "back"))
  F_can_move : ∃ fd, FnP K "can_move" s_can_move fd
  m_can_move : mg "can_move" = some (.ref (He.ga K "can_move"))
  F__law_cell_at : ∃ fd, FnP K "_law_cell_at" s__law_cell_at fd
  m__law_cell_at : mg "_law_cell_at" = some (.ref (He.ga K "_law_cell_at"))
  F__law_bag : ∃ fd, FnP K "_law_bag" s__law_bag fd
  m__law_bag : mg "_law_bag" = some (.ref (He.ga K "_law_bag"))
  F__law_draw : ∃ fd, FnP K "_law_draw" s__law_draw fd
  m__law_draw : mg "_law_draw" = some (.ref (He.ga K "_law_draw"))
  F__law_minutes : ∃ fd, FnP K "_law_minutes" s__law_minutes fd
  m__law_minutes : mg "_law_minutes" = some (.ref (He.ga K "_law_minutes"))
  F__law_hall : ∃ fd, FnP K "_law_hall" s__law_hall fd
  m__law_hall : mg "_law_hall" = some (.ref (He.ga K "_law_hall"))
  F__law_words : ∃ fd, FnP K "_law_words" s__law_words fd
  m__law_words : mg "_law_words" = some (.ref (He.ga K "_law_words"))
  F__law_no_hall : ∃ fd, FnP K "_law_no_hall" s__law_no_hall fd
  m__law_no_hall : mg "_law_no_hall" = some (.ref (He.ga K "_law_no_hall"))
  F__law_no_number : ∃ fd, FnP K "_law_no_number" s__law_no_number fd
  m__law_no_number : mg "_law_no_number" = some (.ref (He.ga K "_law_no_number"))
  F__law_said : ∃ fd, FnP K "_law_said" s__law_said fd
  m__law_said : mg "_law_said" = some (.ref (He.ga K "_law_said"))
  F_law : ∃ fd, FnP K "law" s_law fd
  m_law : mg "law" = some (.ref (He.ga K "law"))
  x_NoHall : ExcF K mg "NoHall"
  x_NoCounter : ExcF K mg "NoCounter"
  x_NoNumber : ExcF K mg "NoNumber"
  c_HallError : mg "HallError" = some (clV K "HallError")
  c_NoCounter : mg "NoCounter" = some (clV K "NoCounter")
  c_NoCustomer : mg "NoCustomer" = some (clV K "NoCustomer")
  c_NoCustomers : mg "NoCustomers" = some (clV K "NoCustomers")
  c_NoDay : mg "NoDay" = some (clV K "NoDay")
  c_NoHall : mg "NoHall" = some (clV K "NoHall")
  c_NoMany : mg "NoMany" = some (clV K "NoMany")
  c_NoMove : mg "NoMove" = some (clV K "NoMove")
  c_NoNumber : mg "NoNumber" = some (clV K "NoNumber")
  c_NoRoad : mg "NoRoad" = some (clV K "NoRoad")
  c_NoRoom : mg "NoRoom" = some (clV K "NoRoom")
  c_NoText : mg "NoText" = some (clV K "NoText")
  c_NoTotals : mg "NoTotals" = some (clV K "NoTotals")
  c_NoTowers : mg "NoTowers" = some (clV K "NoTowers")
  c_NoWay : mg "NoWay" = some (clV K "NoWay")
  c_TooMany : mg "TooMany" = some (clV K "TooMany")
  c_Unlike : mg "Unlike" = some (clV K "Unlike")
  sm : SysK K
  xx : ExAll excs ["NoCounter", "NoCustomer", "NoCustomers", "NoDay", "NoHall", "NoMany", "NoMove", "NoNumber", "NoRoad", "NoRoom", "NoText", "NoTotals", "NoTowers", "NoWay", "TooMany", "Unlike"] ["HallError"] ["ValueError"] K
  i_MOST : ∃ u, mg "MOST" = some u ∧ RelV (.int 8) u
  n_ValueError : mg "ValueError" = none
  n_all : mg "all" = none
  n_int : mg "int" = none
  n_isinstance : mg "isinstance" = none
  n_len : mg "len" = none
  n_max : mg "max" = none
  n_min : mg "min" = none
  n_range : mg "range" = none
  n_repr : mg "repr" = none
  n_sum : mg "sum" = none
  n_tuple : mg "tuple" = none
  n_type : mg "type" = none
  n_zip : mg "zip" = none
/-- a def that keeps its function -/
def Df [Tabs] (P : Program) (w : World) (K : PySem.W.Frag) (mg : Str → Option Value) (base : Heap) (k : Nat) (x : Str) (st : Stmt) (ps : List Str) (f : DF) : Prop :=
  ∃ fd, FnP K x st fd ∧ DefOk P w K mg base k (He.ga K x) fd ps f ∧ Binds K fd ps []
/-- a def that keeps its function while an exception is handled -/
def DfH [Tabs] (P : Program) (w : World) (K : PySem.W.Frag) (mg : Str → Option Value) (base : Heap) (k : Nat) (x : Str) (st : Stmt) (ps : List Str) (f : Str → Addr → DF) : Prop :=
  ∃ fd, FnP K x st fd ∧ DefOkH P w K mg base k (He.ga K x) fd ps excs f ∧ Binds K fd ps []
section
variable [Tabs] {P : Program} {w : World} {K : PySem.W.Frag} {mg : Str → Option Value} {base : Heap}
theorem ok_is_whole (T : Tx K mg base) : Df P w K mg base 2 "is_whole" s_is_whole ["thing"] Cp.f_is_whole := by
  obtain ⟨fd, F⟩ := T.F_is_whole
  refine ⟨fd, F, def_okD F sc_is_whole rfl rfl fun c A out s H E hc hr => ?_, FunD.bindsN (ps := ["thing"]) F fun _ _ _ _ _ _ us hl => match us, hl with | [_], _ => rfl⟩
  exact (SXs_one (SX_ret (EX_and (And.left (BX_tyIs rfl T.n_type (EX_var (pv 0)) rfl T.n_int (by decide +kernel))) (EX_one (EX_cmp op_ge (nomark _) flat_ge (EX_var (pv 0)) EX_int)))))
theorem ok_is_short_tuple (T : Tx K mg base) : Df P w K mg base 2 "is_short_tuple" s_is_short_tuple ["thing"] Cp.f_is_short_tuple := by
  obtain ⟨fd, F⟩ := T.F_is_short_tuple
  refine ⟨fd, F, def_okD F sc_is_short_tuple rfl rfl fun c A out s H E hc hr => ?_, FunD.bindsN (ps := ["thing"]) F fun _ _ _ _ _ _ us hl => match us, hl with | [_], _ => rfl⟩
  exact (SXs_one (SX_ret (EX_and (And.left (BX_tyIs rfl T.n_type (EX_var (pv 0)) rfl T.n_tuple (by decide +kernel))) (EX_one (And.left (BX_chn op_le op_le flat_le flat_le EX_int (EX_len rfl T.n_len (EX_var (pv 0))) (EX_gi rfl T.i_MOST)))))))
theorem ok_is_row (T : Tx K mg base) : Df P w K mg base 6 "is_row" s_is_row ["thing"] Cp.f_is_row := by
  obtain ⟨fd, F⟩ := T.F_is_row
  obtain ⟨fd_is_short_tuple, F_is_short_tuple, D_is_short_tuple, b_is_short_tuple⟩ := ok_is_short_tuple (P := P) (w := w) T
  obtain ⟨fd_is_whole, F_is_whole, D_is_whole, b_is_whole⟩ := ok_is_whole (P := P) (w := w) T
  obtain ⟨hP, TB0⟩ := T.t_is_row
  refine ⟨fd, F, def_okD F sc_is_row rfl rfl fun c A out s H E hc hr => ?_, FunD.bindsN (ps := ["thing"]) F fun _ _ _ _ _ _ us hl => match us, hl with | [_], _ => rfl⟩
  have TB : GxR.TabB base mg c (He.cT K ("is_row", none)).2 := by rw [← hc ("is_row", none) rfl]; exact TB0
  exact (SXs_one (SX_ret (EX_and (XC (D_is_short_tuple.mono (k := 5) (by decide)) hr rfl T.m_is_short_tuple F_is_short_tuple.kp b_is_short_tuple (L2N.takes_of rfl rfl rfl rfl) (AX_cons (EX_var (pv 0)) AX_nil)) (EX_one (XA (k := 2) [("minutes", 1)] rfl hP hr rfl T.n_all TB rfl rfl sc_is_row.nd (blk_ok (N := ["thing", "minutes"]) (sc := defScope s_is_row) (by decide +kernel)) (gok_ok (by decide +kernel)) (IX_sq (EX_var (pv 0))) (is := [1]) (by decide) (fun B s H C cl cd fp hr2 => (GX_name sc_is_row.nd rfl (by first | exact Or.inl rfl | exact Or.inr rfl))) (fun B s H C cl cd fp hr2 => TS_nil) (fun B s H C cl cd fp hr2 => (XC (D_is_whole.mono (k := 2) (by decide)) hr2 rfl T.m_is_whole F_is_whole.kp b_is_whole takesN0 (AX_cons (EX_var (pv 1)) AX_nil))))))))
theorem ok_is_hall (T : Tx K mg base) : Df P w K mg base 10 "is_hall" s_is_hall ["thing"] Cp.f_is_hall := by
  obtain ⟨fd, F⟩ := T.F_is_hall
  obtain ⟨fd_is_short_tuple, F_is_short_tuple, D_is_short_tuple, b_is_short_tuple⟩ := ok_is_short_tuple (P := P) (w := w) T
  obtain ⟨fd_is_row, F_is_row, D_is_row, b_is_row⟩ := ok_is_row (P := P) (w := w) T
  obtain ⟨hP, TB0⟩ := T.t_is_hall
  refine ⟨fd, F, def_okD F sc_is_hall rfl rfl fun c A out s H E hc hr => ?_, FunD.bindsN (ps := ["thing"]) F fun _ _ _ _ _ _ us hl => match us, hl with | [_], _ => rfl⟩
  have TB : GxR.TabB base mg c (He.cT K ("is_hall", none)).2 := by rw [← hc ("is_hall", none) rfl]; exact TB0
  exact (SXs_cons (SX_if (TX_w (TW_or (TX_not (TX_val (XC (D_is_short_tuple.mono (k := 9) (by decide)) hr rfl T.m_is_short_tuple F_is_short_tuple.kp b_is_short_tuple (L2N.takes_of rfl rfl rfl rfl) (AX_cons (EX_var (pv 0)) AX_nil)))) (TW_or1 (TX_not (TX_val (XA (k := 6) [("row", 1)] rfl hP hr rfl T.n_all TB rfl rfl sc_is_hall.nd (blk_ok (N := ["thing", "row"]) (sc := defScope s_is_hall) (by decide +kernel)) (gok_ok (by decide +kernel)) (IX_sq (EX_var (pv 0))) (is := [1]) (by decide) (fun B s H C cl cd fp hr2 => (GX_name sc_is_hall.nd rfl (by first | exact Or.inl rfl | exact Or.inr rfl))) (fun B s H C cl cd fp hr2 => TS_nil) (fun B s H C cl cd fp hr2 => (XC (D_is_row.mono (k := 6) (by decide)) hr2 rfl T.m_is_row F_is_row.kp b_is_row takesN0 (AX_cons (EX_var (pv 1)) AX_nil))))))))) (SXs_one (SX_ret EX_bl)) SXs_nil) (SXs_one (SX_ret (XA (k := 6) [("row", 1)] rfl hP hr rfl T.n_all TB rfl rfl sc_is_hall.nd (blk_ok (N := ["thing", "row"]) (sc := defScope s_is_hall) (by decide +kernel)) (gok_ok (by decide +kernel)) (IX_sq (EX_var (pv 0))) (is := [1]) (by decide) (fun B s H C cl cd fp hr2 => (GX_name sc_is_hall.nd rfl (by first | exact Or.inl rfl | exact Or.inr rfl))) (fun B s H C cl cd fp hr2 => TS_nil) (fun B s H C cl cd fp hr2 => (EX_cmp (op_eqQ (units_ok hr2)) (nomark _) flat_eq (EX_len rfl T.n_len (EX_var (pv 1))) (EX_len rfl T.n_len (EX_ix (EX_var (pv 0)) EX_int))))))))
theorem ok_check_hall (T : Tx K mg base) : Df P w K mg base 11 "check_hall" s_check_hall ["hall"] Cp.f_check_hall := by
  obtain ⟨fd, F⟩ := T.F_check_hall
  obtain ⟨fd_is_hall, F_is_hall, D_is_hall, b_is_hall⟩ := ok_is_hall (P := P) (w := w) T
  refine ⟨fd, F, def_okD F sc_check_hall rfl rfl fun c A out s H E hc hr => ?_, FunD.bindsN (ps := ["hall"]) F fun _ _ _ _ _ _ us hl => match us, hl with | [_], _ => rfl⟩
  exact (SXs_one (SX_if (TX_not (TX_val (XC (D_is_hall.mono (k := 10) (by decide)) hr rfl T.m_is_hall F_is_hall.kp b_is_hall (L2N.takes_of rfl rfl rfl rfl) (AX_cons (EX_var (pv 0)) AX_nil)))) (SXs_one (SX_raise rfl (L2N.takes_of rfl rfl rfl rfl) T.x_NoHall rfl)) SXs_nil))
theorem ok_check_counter (T : Tx K mg base) : Df P w K mg base 3 "check_counter" s_check_counter ["hall", "counter"] Cm.f_check_counter := by
  obtain ⟨fd, F⟩ := T.F_check_counter
  obtain ⟨fd_is_whole, F_is_whole, D_is_whole, b_is_whole⟩ := ok_is_whole (P := P) (w := w) T
  refine ⟨fd, F, def_okD F sc_check_counter rfl rfl fun c A out s H E hc hr => ?_, FunD.bindsN (ps := ["hall", "counter"]) F fun _ _ _ _ _ _ us hl => match us, hl with | [_, _], _ => rfl⟩
  exact (SXs_one (SX_if (TX_w (TW_or (TX_not (TX_val (XC (D_is_whole.mono (k := 2) (by decide)) hr rfl T.m_is_whole F_is_whole.kp b_is_whole (L2N.takes_of rfl rfl rfl rfl) (AX_cons (EX_var (pv 1)) AX_nil)))) (TW_or1 (TX_cmp op_ge (nomark _) flat_ge (EX_var (pv 1)) (EX_len rfl T.n_len (EX_var (pv 0))))))) (SXs_one (SX_raise rfl (L2N.takes_of rfl rfl rfl rfl) T.x_NoCounter rfl)) SXs_nil))
theorem ok_check_neighbours (T : Tx K mg base) : Df P w K mg base 12 "check_neighbours" s_check_neighbours ["hall", "counter"] Cm.f_check_neighbours := by
  obtain ⟨fd, F⟩ := T.F_check_neighbours
  obtain ⟨fd_check_hall, F_check_hall, D_check_hall, b_check_hall⟩ := ok_check_hall (P := P) (w := w) T
  obtain ⟨fd_check_counter, F_check_counter, D_check_counter, b_check_counter⟩ := ok_check_counter (P := P) (w := w) T
  refine ⟨fd, F, def_okD F sc_check_neighbours rfl rfl fun c A out s H E hc hr => ?_, FunD.bindsN (ps := ["hall", "counter"]) F fun _ _ _ _ _ _ us hl => match us, hl with | [_, _], _ => rfl⟩
  exact (SXs_cons (SX_expr (XC (D_check_hall.mono (k := 11) (by decide)) hr rfl T.m_check_hall F_check_hall.kp b_check_hall (L2N.takes_of rfl rfl rfl rfl) (AX_cons (EX_var (pv 0)) AX_nil))) (SXs_one (SX_expr (XC (D_check_counter.mono (k := 11) (by decide)) hr rfl T.m_check_counter F_check_counter.kp b_check_counter (L2N.takes_of rfl rfl rfl rfl) (AX_cons (EX_sl (EX_var (pv 0)) PX_no (PX_sm (EX_neg EX_int))) (AX_cons (EX_var (pv 1)) AX_nil))))))
theorem ok_leads (T : Tx K mg base) : Df P w K mg base 2 "leads" s_leads ["row", "next_row"] Cm.f_leads := by
  obtain ⟨fd, F⟩ := T.F_leads
  refine ⟨fd, F, def_okD F sc_leads rfl rfl fun c A out s H E hc hr => ?_, FunD.bindsN (ps := ["row", "next_row"]) F fun _ _ _ _ _ _ us hl => match us, hl with | [_, _], _ => rfl⟩
  exact (SXs_cons (SX_set sc_leads.nd rfl (by first | exact Or.inl rfl | exact Or.inr rfl) EX_int) (SXs_cons (SX_set sc_leads.nd rfl (by first | exact Or.inl rfl | exact Or.inr rfl) (EX_lst AX_nil)) (SXs_cons (SX_for (passes_of rfl) rfl (IX_z2 rfl T.n_zip (AX_cons (EX_var (pv 0)) (AX_cons (EX_var (pv 1)) AX_nil))) (GX_tup rfl (GXs_cons (pg_name sc_leads.nd rfl (by first | exact Or.inl rfl | exact Or.inr rfl)) (GXs_cons (pg_name sc_leads.nd rfl (by first | exact Or.inl rfl | exact Or.inr rfl)) GXs_nil (by decide)) (by decide)) rfl) (SXs_cons (SX_augAdd sc_leads.nd rfl (by first | exact Or.inl rfl | exact Or.inr rfl) (EX_var (pv 4))) (SXs_cons (SX_expr (EX_app (pv 3) (EX_var (pv 2)))) (SXs_one (SX_augSub sc_leads.nd rfl (by first | exact Or.inl rfl | exact Or.inr rfl) (EX_var (pv 5))))))) (SXs_one (SX_ret (EX_mov (pv 3)))))))
theorem ok_most_moves (T : Tx K mg base) : Df P w K mg base 3 "most_moves" s_most_moves ["row", "next_row"] Cm.f_most_moves := by
  obtain ⟨fd, F⟩ := T.F_most_moves
  obtain ⟨fd_leads, F_leads, D_leads, b_leads⟩ := ok_leads (P := P) (w := w) T
  refine ⟨fd, F, def_okD F sc_most_moves rfl rfl fun c A out s H E hc hr => ?_, FunD.bindsN (ps := ["row", "next_row"]) F fun _ _ _ _ _ _ us hl => match us, hl with | [_, _], _ => rfl⟩
  exact (SXs_cons (SX_set sc_most_moves.nd rfl (by first | exact Or.inl rfl | exact Or.inr rfl) (EX_cb (cr_maxA rfl) flat_maxA rfl T.n_max (by decide +kernel) (AX_cons (XC (D_leads.mono (k := 2) (by decide)) hr rfl T.m_leads F_leads.kp b_leads (L2N.takes_of rfl rfl rfl rfl) (AX_cons (EX_var (pv 0)) (AX_cons (EX_var (pv 1)) AX_nil))) AX_nil))) (SXs_one (SX_ret (EX_tup (AX_cons (EX_var (pv 2)) (AX_cons (EX_op op_sub flat_sub (EX_op op_add flat_add (EX_var (pv 2)) (EX_cb (cr_sumA rfl) flat_sumA rfl T.n_sum (by decide +kernel) (AX_cons (EX_var (pv 1)) AX_nil))) (EX_cb (cr_sumA rfl) flat_sumA rfl T.n_sum (by decide +kernel) (AX_cons (EX_var (pv 0)) AX_nil))) AX_nil))))))
theorem ok_going_on (T : Tx K mg base) : Df P w K mg base 3 "going_on" s_going_on ["row", "next_row", "many"] Cm.f_going_on := by
  obtain ⟨fd, F⟩ := T.F_going_on
  obtain ⟨fd_leads, F_leads, D_leads, b_leads⟩ := ok_leads (P := P) (w := w) T
  refine ⟨fd, F, def_okD F sc_going_on rfl rfl fun c A out s H E hc hr => ?_, FunD.bindsN (ps := ["row", "next_row", "many"]) F fun _ _ _ _ _ _ us hl => match us, hl with | [_, _, _], _ => rfl⟩
  exact (SXs_cons (SX_set sc_going_on.nd rfl (by first | exact Or.inl rfl | exact Or.inr rfl) (XC (D_leads.mono (k := 2) (by decide)) hr rfl T.m_leads F_leads.kp b_leads (L2N.takes_of rfl rfl rfl rfl) (AX_cons (EX_var (pv 0)) (AX_cons (EX_var (pv 1)) AX_nil)))) (SXs_cons (SX_set sc_going_on.nd rfl (by first | exact Or.inl rfl | exact Or.inr rfl) (EX_op op_sub flat_sub (EX_cb (cr_maxA rfl) flat_maxA rfl T.n_max (by decide +kernel) (AX_cons (EX_var (pv 3)) AX_nil)) (EX_var (pv 2)))) (SXs_cons (SX_set sc_going_on.nd rfl (by first | exact Or.inl rfl | exact Or.inr rfl) (EX_lst AX_nil)) (SXs_cons (SX_for (passes_of rfl) rfl (IX_sq (EX_var (pv 3))) (GX_name sc_going_on.nd rfl (by first | exact Or.inl rfl | exact Or.inr rfl)) (SXs_cons (SX_expr (EX_app (pv 5) (EX_cb (call_max2 rfl) flat_max2 rfl T.n_max (by decide +kernel) (AX_cons (EX_op op_sub flat_sub (EX_var (pv 6)) (EX_var (pv 4))) (AX_cons EX_int AX_nil))))) (SXs_one (SX_set sc_going_on.nd rfl (by first | exact Or.inl rfl | exact Or.inr rfl) (EX_cb (call_max2 rfl) flat_max2 rfl T.n_max (by decide +kernel) (AX_cons (EX_var (pv 4)) (AX_cons (EX_var (pv 6)) AX_nil))))))) (SXs_one (SX_ret (EX_mov (pv 5))))))))
theorem ok_going_back (T : Tx K mg base) : Df P w K mg base 4 "going_back" s_going_back ["row", "next_row", "many"] Cm.f_going_back := by
  obtain ⟨fd, F⟩ := T.F_going_back
  obtain ⟨fd_going_on, F_going_on, D_going_on, b_going_on⟩ := ok_going_on (P := P) (w := w) T
  refine ⟨fd, F, def_okD F sc_going_back rfl rfl fun c A out s H E hc hr => ?_, FunD.bindsN (ps := ["row", "next_row", "many"]) F fun _ _ _ _ _ _ us hl => match us, hl with | [_, _, _], _ => rfl⟩
  exact (SXs_one (SX_ret (EX_rv (XC (D_going_on.mono (k := 3) (by decide)) hr rfl T.m_going_on F_going_on.kp b_going_on (L2N.takes_of rfl rfl rfl rfl) (AX_cons (EX_rv (EX_var (pv 1))) (AX_cons (EX_rv (EX_var (pv 0))) (AX_cons (EX_var (pv 2)) AX_nil)))))))
theorem ok_carried (T : Tx K mg base) : Df P w K mg base 5 "carried" s_carried ["hall", "counter", "many"] Cm.f_carried := by
  obtain ⟨fd, F⟩ := T.F_carried
  obtain ⟨fd_going_on, F_going_on, D_going_on, b_going_on⟩ := ok_going_on (P := P) (w := w) T
  obtain ⟨fd_going_back, F_going_back, D_going_back, b_going_back⟩ := ok_going_back (P := P) (w := w) T
  refine ⟨fd, F, def_okD F sc_carried rfl rfl fun c A out s H E hc hr => ?_, FunD.bindsN (ps := ["hall", "counter", "many"]) F fun _ _ _ _ _ _ us hl => match us, hl with | [_, _, _], _ => rfl⟩
  exact (SXs_cons (SX_set sc_carried.nd rfl (by first | exact Or.inl rfl | exact Or.inr rfl) (EX_ix (EX_var (pv 0)) (EX_var (pv 1)))) (SXs_cons (SX_set sc_carried.nd rfl (by first | exact Or.inl rfl | exact Or.inr rfl) (EX_ix (EX_var (pv 0)) (EX_op op_add flat_add (EX_var (pv 1)) EX_int))) (SXs_cons (SX_if (TX_cmp op_ge (nomark _) flat_ge (EX_var (pv 2)) EX_int) (SXs_one (SX_set sc_carried.nd rfl (by first | exact Or.inl rfl | exact Or.inr rfl) (XC (D_going_on.mono (k := 4) (by decide)) hr rfl T.m_going_on F_going_on.kp b_going_on (L2N.takes_of rfl rfl rfl rfl) (AX_cons (EX_var (pv 3)) (AX_cons (EX_var (pv 4)) (AX_cons (EX_var (pv 2)) AX_nil)))))) (SXs_one (XSL [("minutes", 8)] rfl rfl sc_carried.nd rfl rfl (sw_true rfl rfl rfl rfl) (IX_sq (XC (D_going_back.mono (k := 4) (by decide)) hr rfl T.m_going_back F_going_back.kp b_going_back (L2N.takes_of rfl rfl rfl rfl) (AX_cons (EX_var (pv 3)) (AX_cons (EX_var (pv 4)) (AX_cons (EX_neg (EX_var (pv 2))) AX_nil))))) (blk_ok (N := ["hall", "counter", "many", "row", "next_row", "gone", "left", "next_left", "minutes", "moving"]) (sc := defScope s_carried) (by decide +kernel)) (is := [8]) (by decide) (fun s H C cl fp => (GX_name sc_carried.nd rfl (by first | exact Or.inl rfl | exact Or.inr rfl))) (fun s H C cl fp => TS_nil) (fun s H C cl fp => (EX_neg (EX_var (pv 8))))))) (SXs_cons (SX_set sc_carried.nd rfl (by first | exact Or.inl rfl | exact Or.inr rfl) (EX_tp rfl T.n_tuple (by decide +kernel) (XL [("minutes", 8), ("moving", 9)] rfl rfl sc_carried.nd (IX_z2 rfl T.n_zip (AX_cons (EX_var (pv 3)) (AX_cons (EX_var (pv 5)) AX_nil))) (blk_ok (N := ["hall", "counter", "many", "row", "next_row", "gone", "left", "next_left", "minutes", "moving"]) (sc := defScope s_carried) (by decide +kernel)) (is := [8, 9]) (by decide) (fun s H C cl fp => (GX_tup rfl (GXs_cons (pg_name sc_carried.nd rfl (by first | exact Or.inl rfl | exact Or.inr rfl)) (GXs_cons (pg_name sc_carried.nd rfl (by first | exact Or.inl rfl | exact Or.inr rfl)) GXs_nil (by decide)) (by decide)) rfl)) (fun s H C cl fp => TS_nil) (fun s H C cl fp => (EX_op op_sub flat_sub (EX_var (pv 8)) (EX_var (pv 9))))))) (SXs_cons (SX_set sc_carried.nd rfl (by first | exact Or.inl rfl | exact Or.inr rfl) (EX_tp rfl T.n_tuple (by decide +kernel) (XL [("minutes", 8), ("moving", 9)] rfl rfl sc_carried.nd (IX_z2 rfl T.n_zip (AX_cons (EX_var (pv 4)) (AX_cons (EX_var (pv 5)) AX_nil))) (blk_ok (N := ["hall", "counter", "many", "row", "next_row", "gone", "left", "next_left", "minutes", "moving"]) (sc := defScope s_carried) (by decide +kernel)) (is := [8, 9]) (by decide) (fun s H C cl fp => (GX_tup rfl (GXs_cons (pg_name sc_carried.nd rfl (by first | exact Or.inl rfl | exact Or.inr rfl)) (GXs_cons (pg_name sc_carried.nd rfl (by first | exact Or.inl rfl | exact Or.inr rfl)) GXs_nil (by decide)) (by decide)) rfl)) (fun s H C cl fp => TS_nil) (fun s H C cl fp => (EX_op op_add flat_add (EX_var (pv 8)) (EX_var (pv 9))))))) (SXs_one (SX_ret (EX_cat (EX_cat (EX_sl (EX_var (pv 0)) PX_no (PX_sm (EX_var (pv 1)))) (EX_tup (AX_cons (EX_var (pv 6)) (AX_cons (EX_var (pv 7)) AX_nil)))) (EX_sl (EX_var (pv 0)) (PX_sm (EX_op op_add flat_add (EX_var (pv 1)) EX_int)) PX_no)))))))))
theorem ok_moved (T : Tx K mg base) : Df P w K mg base 13 "moved" s_moved ["hall", "counter", "many"] Cm.f_moved := by
  obtain ⟨fd, F⟩ := T.F_moved
  obtain ⟨fd_check_neighbours, F_check_neighbours, D_check_neighbours, b_check_neighbours⟩ := ok_check_neighbours (P := P) (w := w) T
  obtain ⟨fd_most_moves, F_most_moves, D_most_moves, b_most_moves⟩ := ok_most_moves (P := P) (w := w) T
  obtain ⟨fd_carried, F_carried, D_carried, b_carried⟩ := ok_carried (P := P) (w := w) T
  refine ⟨fd, F, def_okD F sc_moved rfl rfl fun c A out s H E hc hr => ?_, FunD.bindsN (ps := ["hall", "counter", "many"]) F fun _ _ _ _ _ _ us hl => match us, hl with | [_, _, _], _ => rfl⟩
  exact (SXs_cons (SX_expr (XC (D_check_neighbours.mono (k := 12) (by decide)) hr rfl T.m_check_neighbours F_check_neighbours.kp b_check_neighbours (L2N.takes_of rfl rfl rfl rfl) (AX_cons (EX_var (pv 0)) (AX_cons (EX_var (pv 1)) AX_nil)))) (SXs_cons (SX_if (And.right (BX_tyNot rfl T.n_type (EX_var (pv 2)) rfl T.n_int (by decide +kernel))) (SXs_one (SX_raise rfl (L2N.takes_of rfl rfl rfl rfl) T.x_NoNumber rfl)) SXs_nil) (SXs_cons (SX_asg (XC (D_most_moves.mono (k := 12) (by decide)) hr rfl T.m_most_moves F_most_moves.kp b_most_moves (L2N.takes_of rfl rfl rfl rfl) (AX_cons (EX_ix (EX_var (pv 0)) (EX_var (pv 1))) (AX_cons (EX_ix (EX_var (pv 0)) (EX_op op_add flat_add (EX_var (pv 1)) EX_int)) AX_nil))) (GX_tup rfl (GXs_cons (pg_name sc_moved.nd rfl (by first | exact Or.inl rfl | exact Or.inr rfl)) (GXs_cons (pg_name sc_moved.nd rfl (by first | exact Or.inl rfl | exact Or.inr rfl)) GXs_nil (by decide)) (by decide)) rfl)) (SXs_cons (SX_if (TX_w (TW_or (TX_cmp op_gt (nomark _) flat_gt (EX_var (pv 2)) (EX_var (pv 3))) (TW_or1 (TX_cmp op_gt (nomark _) flat_gt (EX_neg (EX_var (pv 2))) (EX_var (pv 4)))))) (SXs_one (SX_ret EX_non)) SXs_nil) (SXs_one (SX_ret (XC (D_carried.mono (k := 12) (by decide)) hr rfl T.m_carried F_carried.kp b_carried (L2N.takes_of rfl rfl rfl rfl) (AX_cons (EX_var (pv 0)) (AX_cons (EX_var (pv 1)) (AX_cons (EX_var (pv 2)) AX_nil))))))))))
theorem ok_move (T : Tx K mg base) : Df P w K mg base 14 "move" s_move ["hall", "counter"] Cs.f_move := by
  obtain ⟨fd, F⟩ := T.F_move
  obtain ⟨fd_moved, F_moved, D_moved, b_moved⟩ := ok_moved (P := P) (w := w) T
  refine ⟨fd, F, def_okD F sc_move rfl rfl fun c A out s H E hc hr => ?_, FunD.bindsN (ps := ["hall", "counter"]) F fun _ _ _ _ _ _ us hl => match us, hl with | [_, _], _ => rfl⟩
  exact (SXs_one (SX_ret (XC (D_moved.mono (k := 13) (by decide)) hr rfl T.m_moved F_moved.kp b_moved (L2N.takes_of rfl rfl rfl rfl) (AX_cons (EX_var (pv 0)) (AX_cons (EX_var (pv 1)) (AX_cons EX_int AX_nil))))))
theorem ok_back (T : Tx K mg base) : Df P w K mg base 14 "back" s_back ["hall", "counter"] Cy.f_back := by
  obtain ⟨fd, F⟩ := T.F_back
  obtain ⟨fd_moved, F_moved, D_moved, b_moved⟩ := ok_moved (P := P) (w := w) T
  refine ⟨fd, F, def_okD F sc_back rfl rfl fun c A out s H E hc hr => ?_, FunD.bindsN (ps := ["hall", "counter"]) F fun _ _ _ _ _ _ us hl => match us, hl with | [_, _], _ => rfl⟩
  exact (SXs_one (SX_ret (XC (D_moved.mono (k := 13) (by decide)) hr rfl T.m_moved F_moved.kp b_moved (L2N.takes_of rfl rfl rfl rfl) (AX_cons (EX_var (pv 0)) (AX_cons (EX_var (pv 1)) (AX_cons (EX_neg EX_int) AX_nil))))))
theorem ok_can_move (T : Tx K mg base) : Df P w K mg base 13 "can_move" s_can_move ["hall", "counter"] Cm.f_can_move := by
  obtain ⟨fd, F⟩ := T.F_can_move
  obtain ⟨fd_check_neighbours, F_check_neighbours, D_check_neighbours, b_check_neighbours⟩ := ok_check_neighbours (P := P) (w := w) T
  obtain ⟨fd_most_moves, F_most_moves, D_most_moves, b_most_moves⟩ := ok_most_moves (P := P) (w := w) T
  refine ⟨fd, F, def_okD F sc_can_move rfl rfl fun c A out s H E hc hr => ?_, FunD.bindsN (ps := ["hall", "counter"]) F fun _ _ _ _ _ _ us hl => match us, hl with | [_, _], _ => rfl⟩
  exact (SXs_cons (SX_expr (XC (D_check_neighbours.mono (k := 12) (by decide)) hr rfl T.m_check_neighbours F_check_neighbours.kp b_check_neighbours (L2N.takes_of rfl rfl rfl rfl) (AX_cons (EX_var (pv 0)) (AX_cons (EX_var (pv 1)) AX_nil)))) (SXs_one (SX_ret (XC (D_most_moves.mono (k := 12) (by decide)) hr rfl T.m_most_moves F_most_moves.kp b_most_moves (L2N.takes_of rfl rfl rfl rfl) (AX_cons (EX_ix (EX_var (pv 0)) (EX_var (pv 1))) (AX_cons (EX_ix (EX_var (pv 0)) (EX_op op_add flat_add (EX_var (pv 1)) EX_int)) AX_nil))))))
theorem ok__law_cell_at (T : Tx K mg base) : Df P w K mg base 2 "_law_cell_at" s__law_cell_at ["script", "k"] Cb.f__law_cell_at := by
  obtain ⟨fd, F⟩ := T.F__law_cell_at
  refine ⟨fd, F, def_okD F sc__law_cell_at rfl rfl fun c A out s H E hc hr => ?_, FunD.bindsN (ps := ["script", "k"]) F fun _ _ _ _ _ _ us hl => match us, hl with | [_, _], _ => rfl⟩
  exact (SXs_cons (SX_if (TX_cmp op_lt (nomark _) flat_lt (EX_var (pv 1)) (EX_len rfl T.n_len (EX_var (pv 0)))) (SXs_one (SX_ret (EX_ix (EX_var (pv 0)) (EX_var (pv 1))))) SXs_nil) (SXs_one (SX_ret EX_int)))
theorem ok__law_bag (T : Tx K mg base) : Df P w K mg base 2 "_law_bag" s__law_bag ["cell"] Cb.f__law_bag := by
  obtain ⟨fd, F⟩ := T.F__law_bag
  refine ⟨fd, F, def_okD F sc__law_bag rfl rfl fun c A out s H E hc hr => ?_, FunD.bindsN (ps := ["cell"]) F fun _ _ _ _ _ _ us hl => match us, hl with | [_], _ => rfl⟩
  exact (SXs_one (SX_ret (EX_lst (AX_cons (EX_cb (call_max2 rfl) flat_max2 rfl T.n_max (by decide +kernel) (AX_cons EX_int (AX_cons (EX_op op_sub flat_sub (EX_var (pv 0)) (EX_op op_powW flat_pow EX_int EX_int)) AX_nil))) (AX_cons (EX_op op_mod flat_mod (EX_var (pv 0)) (EX_op op_add flat_add (EX_op op_powW flat_pow EX_int EX_int) EX_int)) (AX_cons EX_int AX_nil))))))
theorem ok__law_draw (T : Tx K mg base) : Df P w K mg base 2 "_law_draw" s__law_draw ["bag", "sides"] Cb.f__law_draw := by
  obtain ⟨fd, F⟩ := T.F__law_draw
  refine ⟨fd, F, def_okD F sc__law_draw rfl rfl fun c A out s H E hc hr => ?_, FunD.bindsN (ps := ["bag", "sides"]) F fun _ _ _ _ _ _ us hl => match us, hl with | [_, _], _ => rfl⟩
  exact (SXs_cons (SX_if (TX_cmp op_gt (nomark _) flat_gt (EX_ixS (pv 0) EX_int) EX_int) (SXs_cons (SX_set sc__law_draw.nd rfl (by first | exact Or.inl rfl | exact Or.inr rfl) (EX_op op_mod flat_mod (EX_ixS (pv 0) EX_int) (EX_var (pv 1)))) (SXs_cons (SX_stI (pv 0) EX_int (EX_op op_fdivW flat_div (EX_ixS (pv 0) EX_int) (EX_var (pv 1)))) (SXs_one (SX_ret (EX_mov (pv 2)))))) SXs_nil) (SXs_cons (SX_stI (pv 0) EX_int (EX_op op_add flat_add (EX_ixS (pv 0) EX_int) EX_int)) (SXs_cons (SX_set sc__law_draw.nd rfl (by first | exact Or.inl rfl | exact Or.inr rfl) (EX_op op_mod flat_mod (EX_op op_powW flat_pow (EX_op op_add flat_add (EX_ixS (pv 0) EX_int) (EX_op op_mulW flat_mul (EX_ixS (pv 0) EX_int) EX_int)) EX_int) (EX_op op_add flat_add (EX_op op_powW flat_pow EX_int EX_int) EX_int))) (SXs_cons (SX_set sc__law_draw.nd rfl (by first | exact Or.inl rfl | exact Or.inr rfl) (EX_op op_mod flat_mod (EX_op op_powW flat_pow (EX_op op_add flat_add (EX_var (pv 2)) (EX_op op_mulW flat_mul (EX_ixS (pv 0) EX_int) EX_int)) EX_int) (EX_op op_add flat_add (EX_op op_powW flat_pow EX_int EX_int) EX_int))) (SXs_one (SX_ret (EX_op op_mod flat_mod (EX_op op_fdivW flat_div (EX_var (pv 2)) EX_int) (EX_var (pv 1)))))))))
theorem ok__law_minutes (T : Tx K mg base) : Df P w K mg base 3 "_law_minutes" s__law_minutes ["bag", "lot"] Cb.f__law_minutes := by
  obtain ⟨fd, F⟩ := T.F__law_minutes
  obtain ⟨fd__law_draw, F__law_draw, D__law_draw, b__law_draw⟩ := ok__law_draw (P := P) (w := w) T
  refine ⟨fd, F, def_okD F sc__law_minutes rfl rfl fun c A out s H E hc hr => ?_, FunD.bindsN (ps := ["bag", "lot"]) F fun _ _ _ _ _ _ us hl => match us, hl with | [_, _], _ => rfl⟩
  exact (SXs_cons (SX_set sc__law_minutes.nd rfl (by first | exact Or.inl rfl | exact Or.inr rfl) (EX_ix (EX_lst (AX_cons EX_int (AX_cons EX_int (AX_cons EX_int (AX_cons (EX_op op_powW flat_pow EX_int EX_int) (AX_cons EX_int AX_nil)))))) (EX_var (pv 1)))) (SXs_cons (SX_if (TX_cmp (op_eqQ (units_ok hr)) (nomark _) flat_eq (EX_var (pv 2)) EX_int) (SXs_one (SX_set sc__law_minutes.nd rfl (by first | exact Or.inl rfl | exact Or.inr rfl) (EX_ix (EX_lst (AX_cons EX_int (AX_cons EX_int (AX_cons EX_int (AX_cons EX_int (AX_cons (EX_op op_powW flat_pow EX_int EX_int) AX_nil)))))) (XCB (D__law_draw.mono (k := 2) (by decide)) hr rfl T.m__law_draw F__law_draw.kp b__law_draw (L2N.takes_of rfl rfl rfl rfl) (pv 0) (AX_cons EX_int AX_nil))))) SXs_nil) (SXs_one (SX_ret (EX_op op_mulW flat_mul (XCB (D__law_draw.mono (k := 2) (by decide)) hr rfl T.m__law_draw F__law_draw.kp b__law_draw (L2N.takes_of rfl rfl rfl rfl) (pv 0) (AX_cons (EX_var (pv 2)) AX_nil)) (EX_cb (call_min2 rfl) flat_min2 rfl T.n_min (by decide +kernel) (AX_cons EX_int (AX_cons (XCB (D__law_draw.mono (k := 2) (by decide)) hr rfl T.m__law_draw F__law_draw.kp b__law_draw (L2N.takes_of rfl rfl rfl rfl) (pv 0) (AX_cons EX_int AX_nil)) AX_nil))))))))
theorem ok__law_hall (T : Tx K mg base) : Df P w K mg base 4 "_law_hall" s__law_hall ["bag", "rows_upto", "upto", "few"] Cb.f__law_hall := by
  obtain ⟨fd, F⟩ := T.F__law_hall
  obtain ⟨fd__law_draw, F__law_draw, D__law_draw, b__law_draw⟩ := ok__law_draw (P := P) (w := w) T
  obtain ⟨fd__law_minutes, F__law_minutes, D__law_minutes, b__law_minutes⟩ := ok__law_minutes (P := P) (w := w) T
  refine ⟨fd, F, def_okD F sc__law_hall rfl rfl fun c A out s H E hc hr => ?_, FunD.bindsN (ps := ["bag", "rows_upto", "upto", "few"]) F fun _ _ _ _ _ _ us hl => match us, hl with | [_, _, _, _], _ => rfl⟩
  exact (SXs_cons (SX_asg (EX_tup (AX_cons (EX_op op_add flat_add EX_int (XCB (D__law_draw.mono (k := 3) (by decide)) hr rfl T.m__law_draw F__law_draw.kp b__law_draw (L2N.takes_of rfl rfl rfl rfl) (pv 0) (AX_cons (EX_var (pv 1)) AX_nil))) (AX_cons (EX_op op_add flat_add EX_int (XCB (D__law_draw.mono (k := 3) (by decide)) hr rfl T.m__law_draw F__law_draw.kp b__law_draw (L2N.takes_of rfl rfl rfl rfl) (pv 0) (AX_cons (EX_var (pv 2)) AX_nil))) AX_nil))) (GX_tup rfl (GXs_cons (pg_name sc__law_hall.nd rfl (by first | exact Or.inl rfl | exact Or.inr rfl)) (GXs_cons (pg_name sc__law_hall.nd rfl (by first | exact Or.inl rfl | exact Or.inr rfl)) GXs_nil (by decide)) (by decide)) rfl)) (SXs_cons (SX_set sc__law_hall.nd rfl (by first | exact Or.inl rfl | exact Or.inr rfl) (XCB (D__law_draw.mono (k := 3) (by decide)) hr rfl T.m__law_draw F__law_draw.kp b__law_draw (L2N.takes_of rfl rfl rfl rfl) (pv 0) (AX_cons (EX_if (TX_val (EX_var (pv 3))) EX_int EX_int) AX_nil))) (SXs_one (SX_ret (EX_tp rfl T.n_tuple (by decide +kernel) (XL [("row", 7)] rfl rfl sc__law_hall.nd (IX_r1 rfl T.n_range (AX_cons (EX_var (pv 4)) AX_nil)) (blk_ok (N := ["bag", "rows_upto", "upto", "few", "size", "long", "lot", "row", "k"]) (sc := defScope s__law_hall) (by decide +kernel)) (is := [7]) (by decide) (fun s H C cl fp => (GX_name sc__law_hall.nd rfl (by first | exact Or.inl rfl | exact Or.inr rfl))) (fun s H C cl fp => TS_nil) (fun s H C cl fp => (EX_tp rfl T.n_tuple (by decide +kernel) (XL [("k", 8)] rfl rfl sc__law_hall.nd (IX_r1 rfl T.n_range (AX_cons (EX_var (pv 5)) AX_nil)) (blk_ok (by kernel_rfl)) (is := [8]) (by decide) (fun s H C cl fp => (GX_name sc__law_hall.nd rfl (by first | exact Or.inl rfl | exact Or.inr rfl))) (fun s H C cl fp => TS_nil) (fun s H C cl fp => (XCB (D__law_minutes.mono (k := 3) (by decide)) hr rfl T.m__law_minutes F__law_minutes.kp b__law_minutes takesN0 (pv 0) (AX_cons (EX_var (pv 6)) AX_nil))))))))))))
theorem ok__law_words (T : Tx K mg base) : DfH P w K mg base 2 "_law_words" s__law_words ["e"] (fun c a => f__law_words c (fun u => isRef u a)) := by
  obtain ⟨fd, F⟩ := T.F__law_words
  refine ⟨fd, F, def_okH (body := fun c a => D__law_words c (fun u => isRef u a)) F sc__law_words rfl rfl fun c hc z A out s H a oe hr B => ?_, FunD.bindsN (ps := ["e"]) F fun _ _ _ _ _ _ us hl => match us, hl with | [_], _ => rfl⟩
  exact (SXs_cons (SX_set sc__law_words.nd rfl (by first | exact Or.inl rfl | exact Or.inr rfl) (EX_lst (AX_cons (EX_tup (AX_cons EX_str (AX_cons (EX_isH B (T.xx.ex c hc) rfl T.n_isinstance (by decide +kernel) (CNm.own (x := "NoHall") rfl T.c_NoHall (by decide)) (T.xx.is_ "NoHall" (by decide) c hc) (EX_var (pv 0))) AX_nil))) (AX_cons (EX_tup (AX_cons EX_str (AX_cons (EX_isH B (T.xx.ex c hc) rfl T.n_isinstance (by decide +kernel) (CNm.own (x := "NoDay") rfl T.c_NoDay (by decide)) (T.xx.is_ "NoDay" (by decide) c hc) (EX_var (pv 0))) AX_nil))) AX_nil)))) (SXs_cons (SX_set sc__law_words.nd rfl (by first | exact Or.inl rfl | exact Or.inr rfl) (EX_cat (EX_var (pv 1)) (EX_lst (AX_cons (EX_tup (AX_cons EX_str (AX_cons (EX_isH B (T.xx.ex c hc) rfl T.n_isinstance (by decide +kernel) (CNm.own (x := "NoCustomer") rfl T.c_NoCustomer (by decide)) (T.xx.is_ "NoCustomer" (by decide) c hc) (EX_var (pv 0))) AX_nil))) (AX_cons (EX_tup (AX_cons EX_str (AX_cons (EX_isH B (T.xx.ex c hc) rfl T.n_isinstance (by decide +kernel) (CNm.own (x := "NoCounter") rfl T.c_NoCounter (by decide)) (T.xx.is_ "NoCounter" (by decide) c hc) (EX_var (pv 0))) AX_nil))) AX_nil))))) (SXs_cons (SX_set sc__law_words.nd rfl (by first | exact Or.inl rfl | exact Or.inr rfl) (EX_cat (EX_var (pv 1)) (EX_lst (AX_cons (EX_tup (AX_cons EX_str (AX_cons (EX_isH B (T.xx.ex c hc) rfl T.n_isinstance (by decide +kernel) (CNm.own (x := "NoNumber") rfl T.c_NoNumber (by decide)) (T.xx.is_ "NoNumber" (by decide) c hc) (EX_var (pv 0))) AX_nil))) (AX_cons (EX_tup (AX_cons EX_str (AX_cons (EX_isH B (T.xx.ex c hc) rfl T.n_isinstance (by decide +kernel) (CNm.own (x := "NoTotals") rfl T.c_NoTotals (by decide)) (T.xx.is_ "NoTotals" (by decide) c hc) (EX_var (pv 0))) AX_nil))) AX_nil))))) (SXs_cons (SX_set sc__law_words.nd rfl (by first | exact Or.inl rfl | exact Or.inr rfl) (EX_cat (EX_var (pv 1)) (EX_lst (AX_cons (EX_tup (AX_cons EX_str (AX_cons (EX_isH B (T.xx.ex c hc) rfl T.n_isinstance (by decide +kernel) (CNm.own (x := "NoMany") rfl T.c_NoMany (by decide)) (T.xx.is_ "NoMany" (by decide) c hc) (EX_var (pv 0))) AX_nil))) (AX_cons (EX_tup (AX_cons EX_str (AX_cons (EX_isH B (T.xx.ex c hc) rfl T.n_isinstance (by decide +kernel) (CNm.own (x := "NoCustomers") rfl T.c_NoCustomers (by decide)) (T.xx.is_ "NoCustomers" (by decide) c hc) (EX_var (pv 0))) AX_nil))) AX_nil))))) (SXs_cons (SX_set sc__law_words.nd rfl (by first | exact Or.inl rfl | exact Or.inr rfl) (EX_cat (EX_var (pv 1)) (EX_lst (AX_cons (EX_tup (AX_cons EX_str (AX_cons (EX_isH B (T.xx.ex c hc) rfl T.n_isinstance (by decide +kernel) (CNm.own (x := "NoTowers") rfl T.c_NoTowers (by decide)) (T.xx.is_ "NoTowers" (by decide) c hc) (EX_var (pv 0))) AX_nil))) (AX_cons (EX_tup (AX_cons EX_str (AX_cons (EX_isH B (T.xx.ex c hc) rfl T.n_isinstance (by decide +kernel) (CNm.own (x := "NoRoom") rfl T.c_NoRoom (by decide)) (T.xx.is_ "NoRoom" (by decide) c hc) (EX_var (pv 0))) AX_nil))) AX_nil))))) (SXs_cons (SX_set sc__law_words.nd rfl (by first | exact Or.inl rfl | exact Or.inr rfl) (EX_cat (EX_var (pv 1)) (EX_lst (AX_cons (EX_tup (AX_cons EX_str (AX_cons (EX_isH B (T.xx.ex c hc) rfl T.n_isinstance (by decide +kernel) (CNm.own (x := "NoMove") rfl T.c_NoMove (by decide)) (T.xx.is_ "NoMove" (by decide) c hc) (EX_var (pv 0))) AX_nil))) (AX_cons (EX_tup (AX_cons EX_str (AX_cons (EX_isH B (T.xx.ex c hc) rfl T.n_isinstance (by decide +kernel) (CNm.own (x := "Unlike") rfl T.c_Unlike (by decide)) (T.xx.is_ "Unlike" (by decide) c hc) (EX_var (pv 0))) AX_nil))) AX_nil))))) (SXs_cons (SX_set sc__law_words.nd rfl (by first | exact Or.inl rfl | exact Or.inr rfl) (EX_cat (EX_var (pv 1)) (EX_lst (AX_cons (EX_tup (AX_cons EX_str (AX_cons (EX_isH B (T.xx.ex c hc) rfl T.n_isinstance (by decide +kernel) (CNm.own (x := "NoWay") rfl T.c_NoWay (by decide)) (T.xx.is_ "NoWay" (by decide) c hc) (EX_var (pv 0))) AX_nil))) (AX_cons (EX_tup (AX_cons EX_str (AX_cons (EX_isH B (T.xx.ex c hc) rfl T.n_isinstance (by decide +kernel) (CNm.own (x := "NoRoad") rfl T.c_NoRoad (by decide)) (T.xx.is_ "NoRoad" (by decide) c hc) (EX_var (pv 0))) AX_nil))) AX_nil))))) (SXs_cons (SX_set sc__law_words.nd rfl (by first | exact Or.inl rfl | exact Or.inr rfl) (EX_cat (EX_var (pv 1)) (EX_lst (AX_cons (EX_tup (AX_cons EX_str (AX_cons (EX_isH B (T.xx.ex c hc) rfl T.n_isinstance (by decide +kernel) (CNm.own (x := "TooMany") rfl T.c_TooMany (by decide)) (T.xx.is_ "TooMany" (by decide) c hc) (EX_var (pv 0))) AX_nil))) (AX_cons (EX_tup (AX_cons EX_str (AX_cons (EX_isH B (T.xx.ex c hc) rfl T.n_isinstance (by decide +kernel) (CNm.own (x := "NoText") rfl T.c_NoText (by decide)) (T.xx.is_ "NoText" (by decide) c hc) (EX_var (pv 0))) AX_nil))) AX_nil))))) (SXs_cons (SX_expr (EX_app (pv 1) (EX_tup (AX_cons EX_str (AX_cons (EX_isH B (T.xx.ex c hc) rfl T.n_isinstance (by decide +kernel) (CNm.ty (x := "ValueError") rfl T.n_ValueError (by decide +kernel) (by decide) (by decide)) (T.xx.ty "ValueError" (by decide) c hc) (EX_var (pv 0))) AX_nil))))) (SXs_one (SX_ret (XLHot [("word", 2), ("fits", 3)] rfl B sc__law_words.nd (EX_var (pv 1)) (blk_ok (N := ["e", "some", "word", "fits"]) (sc := defScope s__law_words) (by decide +kernel)) (is := [2, 3]) (by decide) (fun s H C cl fp => (GX_tupH (show Bears _ c a from B) (GXs_cons (pg_name sc__law_words.nd rfl (by first | exact Or.inl rfl | exact Or.inr rfl)) (GXs_cons (pg_name sc__law_words.nd rfl (by first | exact Or.inl rfl | exact Or.inr rfl)) GXs_nil (by decide)) (by decide)) rfl)) (fun s H C cl fp => (TS_one (TX_val (EX_var (pv 3))))) (fun s H C cl fp => (EX_var (pv 2)))))))))))))))
theorem ok__law_no_hall (T : Tx K mg base) : Df P w K mg base 3 "_law_no_hall" s__law_no_hall ["bag"] f__law_no_hall := by
  obtain ⟨fd, F⟩ := T.F__law_no_hall
  obtain ⟨fd__law_draw, F__law_draw, D__law_draw, b__law_draw⟩ := ok__law_draw (P := P) (w := w) T
  refine ⟨fd, F, def_okD F sc__law_no_hall rfl rfl fun c A out s H E hc hr => ?_, FunD.bindsN (ps := ["bag"]) F fun _ _ _ _ _ _ us hl => match us, hl with | [_], _ => rfl⟩
  exact (SXs_cons (SX_set sc__law_no_hall.nd rfl (by first | exact Or.inl rfl | exact Or.inr rfl) (EX_lst (AX_cons EX_non (AX_cons (EX_tup AX_nil) (AX_cons (EX_tup (AX_cons (EX_tup AX_nil) AX_nil)) (AX_cons (EX_lst (AX_cons (EX_tup (AX_cons EX_int (AX_cons EX_int AX_nil))) AX_nil)) (AX_cons (EX_tup (AX_cons (EX_lst (AX_cons EX_int (AX_cons EX_int AX_nil))) AX_nil)) (AX_cons (EX_tup (AX_cons (EX_tup (AX_cons EX_int (AX_cons EX_int AX_nil))) (AX_cons (EX_tup (AX_cons EX_int AX_nil)) AX_nil))) (AX_cons (EX_tup (AX_cons (EX_tup (AX_cons (EX_neg EX_int) AX_nil)) AX_nil)) (AX_cons (EX_tup (AX_cons (EX_tup (AX_cons EX_bl AX_nil)) AX_nil)) (AX_cons (EX_tup (AX_cons (EX_tup (AX_cons EX_str AX_nil)) AX_nil)) (AX_cons EX_int (AX_cons (EX_tup (AX_cons (EX_tup (AX_cons EX_int (AX_cons EX_non AX_nil))) AX_nil)) AX_nil))))))))))))) (SXs_cons (SX_set sc__law_no_hall.nd rfl (by first | exact Or.inl rfl | exact Or.inr rfl) (EX_cat (EX_var (pv 1)) (EX_lst (AX_cons (EX_mul (EX_tup (AX_cons (EX_tup (AX_cons EX_int AX_nil)) AX_nil)) EX_int) (AX_cons (EX_tup (AX_cons (EX_mul (EX_tup (AX_cons EX_int AX_nil)) EX_int) AX_nil)) (AX_cons EX_dic0 (AX_cons (EX_tup (AX_cons EX_int (AX_cons EX_int AX_nil))) AX_nil))))))) (SXs_one (SX_ret (EX_ix (EX_var (pv 1)) (XCB (D__law_draw.mono (k := 2) (by decide)) hr rfl T.m__law_draw F__law_draw.kp b__law_draw (L2N.takes_of rfl rfl rfl rfl) (pv 0) (AX_cons EX_int AX_nil)))))))
theorem ok__law_no_number (T : Tx K mg base) : Df P w K mg base 3 "_law_no_number" s__law_no_number ["bag", "size"] f__law_no_number := by
  obtain ⟨fd, F⟩ := T.F__law_no_number
  obtain ⟨fd__law_draw, F__law_draw, D__law_draw, b__law_draw⟩ := ok__law_draw (P := P) (w := w) T
  refine ⟨fd, F, def_okD F sc__law_no_number rfl rfl fun c A out s H E hc hr => ?_, FunD.bindsN (ps := ["bag", "size"]) F fun _ _ _ _ _ _ us hl => match us, hl with | [_, _], _ => rfl⟩
  exact (SXs_one (SX_ret (EX_ix (EX_lst (AX_cons (EX_var (pv 1)) (AX_cons (EX_neg EX_int) (AX_cons EX_non (AX_cons EX_bl (AX_cons EX_str (AX_cons (EX_tup (AX_cons EX_int AX_nil)) (AX_cons (EX_lst (AX_cons EX_int AX_nil)) (AX_cons (EX_op op_add flat_add (EX_var (pv 1)) (EX_op op_powW flat_pow EX_int EX_int)) AX_nil))))))))) (XCB (D__law_draw.mono (k := 2) (by decide)) hr rfl T.m__law_draw F__law_draw.kp b__law_draw (L2N.takes_of rfl rfl rfl rfl) (pv 0) (AX_cons EX_int AX_nil)))))
theorem ok__law_said (T : Tx K mg base) : Df P w K mg base 15 "_law_said" s__law_said ["door", "some"] f__law_said := by
  obtain ⟨fd, F⟩ := T.F__law_said
  obtain ⟨fd_move, F_move, D_move, b_move⟩ := ok_move (P := P) (w := w) T
  obtain ⟨fd_back, F_back, D_back, b_back⟩ := ok_back (P := P) (w := w) T
  obtain ⟨fd_can_move, F_can_move, D_can_move, b_can_move⟩ := ok_can_move (P := P) (w := w) T
  obtain ⟨fd_moved, F_moved, D_moved, b_moved⟩ := ok_moved (P := P) (w := w) T
  obtain ⟨fd__law_words, F__law_words, D__law_words, b__law_words⟩ := ok__law_words (P := P) (w := w) T
  refine ⟨fd, F, def_okD F sc__law_said rfl rfl fun c A out s H E hc hr => ?_, FunD.bindsN (ps := ["door", "some"]) F fun _ _ _ _ _ _ us hl => match us, hl with | [_, _], _ => rfl⟩
  exact (SXs_cons (SX_asg (EX_var (pv 1)) (GX_tup rfl (GXs_cons (pg_name sc__law_said.nd rfl (by first | exact Or.inl rfl | exact Or.inr rfl)) (GXs_cons (pg_name sc__law_said.nd rfl (by first | exact Or.inl rfl | exact Or.inr rfl)) (GXs_cons (pg_name sc__law_said.nd rfl (by first | exact Or.inl rfl | exact Or.inr rfl)) GXs_nil (by decide)) (by decide)) (by decide)) rfl)) (SXs_cons (SX_set sc__law_said.nd rfl (by first | exact Or.inl rfl | exact Or.inr rfl) (EX_lst AX_nil)) (SXs_cons (SX_try (x := "HallError") rfl rfl sc__law_said.nd rfl rfl rfl rfl T.c_HallError (T.xx.top "HallError" (by decide)) (L2N.takes_of rfl rfl rfl rfl) (fun W' pn xe tk hp => (SXs_one (SX_if (TX_cmp op_lt (nomark _) flat_lt (EX_var (pv 0)) EX_int) (SXs_one (SX_expr (EX_fn3 (D_move.mono (k := 14) (by decide)) (D_back.mono (k := 14) (by decide)) (D_can_move.mono (k := 14) (by decide)) hr rfl rfl rfl T.m_move T.m_back T.m_can_move F_move.kp F_back.kp F_can_move.kp b_move b_back b_can_move rfl rfl rfl tk (EX_var (pv 0)) (AX_cons (EX_var (pv 2)) (AX_cons (EX_var (pv 3)) AX_nil))))) (SXs_one (SX_expr (XC (D_moved.mono (k := 14) (by decide)) hr rfl T.m_moved F_moved.kp b_moved tk (AX_cons (EX_var (pv 2)) (AX_cons (EX_var (pv 3)) (AX_cons (EX_var (pv 4)) AX_nil))))))))) (fun c hc a oe pn hz hd => (SXs_one (SX_set sc__law_said.nd rfl (by first | exact Or.inl rfl | exact Or.inr rfl) (XCH (x := "_law_words") (c := c) (a := a) (D__law_words.mono (k := 14) (by decide)) hc (bears_suite hz hd) (room_suite hr) rfl T.m__law_words F__law_words.kp b__law_words (AX_cons (EX_var (pv 6)) AX_nil)))))) (SXs_one (SX_ret (EX_mov (pv 5)))))))
theorem ok_law (T : Tx K mg base) : Df P w K mg base 16 "law" s_law ["script"] f_law := by
  obtain ⟨fd, F⟩ := T.F_law
  obtain ⟨fd__law_bag, F__law_bag, D__law_bag, b__law_bag⟩ := ok__law_bag (P := P) (w := w) T
  obtain ⟨fd__law_hall, F__law_hall, D__law_hall, b__law_hall⟩ := ok__law_hall (P := P) (w := w) T
  obtain ⟨fd__law_no_hall, F__law_no_hall, D__law_no_hall, b__law_no_hall⟩ := ok__law_no_hall (P := P) (w := w) T
  obtain ⟨fd__law_no_number, F__law_no_number, D__law_no_number, b__law_no_number⟩ := ok__law_no_number (P := P) (w := w) T
  obtain ⟨fd__law_draw, F__law_draw, D__law_draw, b__law_draw⟩ := ok__law_draw (P := P) (w := w) T
  obtain ⟨fd__law_cell_at, F__law_cell_at, D__law_cell_at, b__law_cell_at⟩ := ok__law_cell_at (P := P) (w := w) T
  obtain ⟨fd__law_said, F__law_said, D__law_said, b__law_said⟩ := ok__law_said (P := P) (w := w) T
  refine ⟨fd, F, def_okD F sc_law rfl rfl fun c A out s H E hc hr => ?_, FunD.bindsN (ps := ["script"]) F fun _ _ _ _ _ _ us hl => match us, hl with | [_], _ => rfl⟩
  exact (SXs_cons (SX_for (passes_of rfl) rfl (IX_r1 rfl T.n_range (AX_cons (EX_cb (call_max2 rfl) flat_max2 rfl T.n_max (by decide +kernel) (AX_cons EX_int (AX_cons (EX_cb (call_min2 rfl) flat_min2 rfl T.n_min (by decide +kernel) (AX_cons EX_int (AX_cons (EX_len rfl T.n_len (EX_var (pv 0))) AX_nil))) AX_nil))) AX_nil)) (GX_name sc_law.nd rfl (by first | exact Or.inl rfl | exact Or.inr rfl)) (SXs_cons (SX_set sc_law.nd rfl (by first | exact Or.inl rfl | exact Or.inr rfl) (XC (D__law_bag.mono (k := 15) (by decide)) hr rfl T.m__law_bag F__law_bag.kp b__law_bag (L2N.takes_of rfl rfl rfl rfl) (AX_cons (EX_op op_add flat_add (XC (D__law_cell_at.mono (k := 15) (by decide)) hr rfl T.m__law_cell_at F__law_cell_at.kp b__law_cell_at (L2N.takes_of rfl rfl rfl rfl) (AX_cons (EX_var (pv 0)) (AX_cons (EX_var (pv 1)) AX_nil))) EX_int) AX_nil))) (SXs_cons (SX_set sc_law.nd rfl (by first | exact Or.inl rfl | exact Or.inr rfl) (XCB (D__law_hall.mono (k := 15) (by decide)) hr rfl T.m__law_hall F__law_hall.kp b__law_hall (L2N.takes_of rfl rfl rfl rfl) (pv 2) (AX_cons EX_int (AX_cons EX_int (AX_cons EX_bl AX_nil))))) (SXs_cons (SX_set sc_law.nd rfl (by first | exact Or.inl rfl | exact Or.inr rfl) (XCB (D__law_no_hall.mono (k := 15) (by decide)) hr rfl T.m__law_no_hall F__law_no_hall.kp b__law_no_hall (L2N.takes_of rfl rfl rfl rfl) (pv 2) AX_nil)) (SXs_cons (SX_set sc_law.nd rfl (by first | exact Or.inl rfl | exact Or.inr rfl) (XCB (D__law_no_number.mono (k := 15) (by decide)) hr rfl T.m__law_no_number F__law_no_number.kp b__law_no_number (L2N.takes_of rfl rfl rfl rfl) (pv 2) (AX_cons (EX_op op_sub flat_sub (EX_len rfl T.n_len (EX_var (pv 3))) EX_int) AX_nil))) (SXs_cons (SX_set sc_law.nd rfl (by first | exact Or.inl rfl | exact Or.inr rfl) (EX_ix (EX_lst (AX_cons EX_non (AX_cons EX_bl (AX_cons EX_str (AX_cons (EX_tup (AX_cons EX_int AX_nil)) (AX_cons (EX_lst (AX_cons EX_int AX_nil)) (AX_cons EX_bl AX_nil))))))) (XCB (D__law_draw.mono (k := 15) (by decide)) hr rfl T.m__law_draw F__law_draw.kp b__law_draw (L2N.takes_of rfl rfl rfl rfl) (pv 2) (AX_cons EX_int AX_nil)))) (SXs_one (SX_for (passes_of rfl) rfl (IX_r1 rfl T.n_range (AX_cons EX_int AX_nil)) (GX_name sc_law.nd rfl (by first | exact Or.inl rfl | exact Or.inr rfl)) (SXs_cons (SX_set sc_law.nd rfl (by first | exact Or.inl rfl | exact Or.inr rfl) (EX_lst (AX_cons (EX_tup (AX_cons (EX_tup (AX_cons (EX_var (pv 4)) (AX_cons (EX_var (pv 5)) (AX_cons (EX_var (pv 6)) AX_nil)))) (AX_cons EX_str AX_nil))) (AX_cons (EX_tup (AX_cons (EX_tup (AX_cons (EX_var (pv 3)) (AX_cons (EX_var (pv 5)) (AX_cons (EX_var (pv 6)) AX_nil)))) (AX_cons EX_str AX_nil))) AX_nil)))) (SXs_cons (SX_expr (EX_app (pv 8) (EX_tup (AX_cons (EX_tup (AX_cons (EX_var (pv 3)) (AX_cons (EX_op op_sub flat_sub (EX_len rfl T.n_len (EX_var (pv 3))) EX_int) (AX_cons EX_int AX_nil)))) (AX_cons EX_str AX_nil))))) (SXs_cons (SX_if (TX_w (TW_and (TX_cmp (op_eqQ (units_ok hr)) (nomark _) flat_eq (EX_var (pv 7)) EX_int) (TW_and1 (TX_cmp op_gt (nomark _) flat_gt (EX_len rfl T.n_len (EX_var (pv 3))) EX_int)))) (SXs_one (SX_expr (EX_app (pv 8) (EX_tup (AX_cons (EX_tup (AX_cons (EX_var (pv 3)) (AX_cons EX_int (AX_cons (EX_var (pv 6)) AX_nil)))) (AX_cons EX_str AX_nil)))))) SXs_nil) (SXs_cons (SX_for (passes_of rfl) rfl (IX_sq (EX_var (pv 8))) (GX_tup rfl (GXs_cons (pg_name sc_law.nd rfl (by first | exact Or.inl rfl | exact Or.inr rfl)) (GXs_cons (pg_name sc_law.nd rfl (by first | exact Or.inl rfl | exact Or.inr rfl)) GXs_nil (by decide)) (by decide)) rfl) (SXs_cons (SX_set sc_law.nd rfl (by first | exact Or.inl rfl | exact Or.inr rfl) (EX_repQ T.sm hr rfl T.n_repr (pv 9))) (SXs_one (SX_if (TX_w (TW_or (TX_cmp (op_neQ (units_ok hr)) (nomark _) flat_ne (XC (D__law_said.mono (k := 15) (by decide)) hr rfl T.m__law_said F__law_said.kp b__law_said (L2N.takes_of rfl rfl rfl rfl) (AX_cons (EX_var (pv 7)) (AX_cons (EX_var (pv 9)) AX_nil))) (EX_lst (AX_cons (EX_var (pv 10)) (AX_cons EX_str AX_nil)))) (TW_or1 (TX_cmp (op_neQ (units_ok hr)) (nomark _) flat_ne (EX_repQ T.sm hr rfl T.n_repr (pv 9)) (EX_var (pv 11)))))) (SXs_one (SX_ret EX_bl)) SXs_nil)))) (SXs_one (SX_for (passes_of rfl) rfl (IX_r1 rfl T.n_range (AX_cons (EX_op op_sub flat_sub (EX_len rfl T.n_len (EX_var (pv 3))) EX_int) AX_nil)) (GX_name sc_law.nd rfl (by first | exact Or.inl rfl | exact Or.inr rfl)) (SXs_one (SX_if (TX_cmp (op_neQ (units_ok hr)) (nomark _) flat_ne (EX_cat (XC (D__law_said.mono (k := 15) (by decide)) hr rfl T.m__law_said F__law_said.kp b__law_said (L2N.takes_of rfl rfl rfl rfl) (AX_cons (EX_var (pv 7)) (AX_cons (EX_tup (AX_cons (EX_var (pv 3)) (AX_cons (EX_var (pv 12)) (AX_cons (EX_op op_powW flat_pow EX_int EX_int) AX_nil)))) AX_nil))) (XC (D__law_said.mono (k := 15) (by decide)) hr rfl T.m__law_said F__law_said.kp b__law_said (L2N.takes_of rfl rfl rfl rfl) (AX_cons (EX_var (pv 7)) (AX_cons (EX_tup (AX_cons (EX_var (pv 3)) (AX_cons (EX_var (pv 12)) (AX_cons (EX_neg (EX_op op_powW flat_pow EX_int EX_int)) AX_nil)))) AX_nil)))) (EX_lst AX_nil)) (SXs_one (SX_ret EX_bl)) SXs_nil)))))))))))))))) (SXs_one (SX_ret EX_bl)))
end
end K17
end
section
set_option Elab.async false
set_option linter.all false
set_option maxRecDepth 100000
set_option maxHeartbeats 4000000
namespace K17
open PySem PySem.Spec L2 Lf Cp Pl Mt Mr Xp
theorem isH {b : Bool} {ck : V → Bool} {da : DE} {en e1 : En} {u : V} (h : da en = .ok (.opq u, e1)) (k : ck u = true) : eIsH b ck da en = .ok (.d (.bool b), e1) := by simp [eIsH, h, bd, k]
theorem two {b : Bool} {ck : V → Bool} {da : DE} {en e1 : En} {s : Str} (h : eIsH b ck da en = .ok (.d (.bool b), e1)) : eTup (aCons (eD (.str s)) (aCons (eIsH b ck da) aNil)) en = .ok (.d (.tuple [.str s, .bool b]), e1) := Ev.tup (Ev.cons_ Ev.d_ (Ev.cons_ h Ev.nil_)) rfl rfl
def kp (c y : Str) : PyData := .tuple [.str y, .bool (isB c y)]
def ends : OT := .d (.tuple [.str "value", .bool true])
theorem word {c : Str} (hc : c ∈ excs) (a : Addr) : f__law_words c (fun u => isRef u a) [.opq (.ref a)] = .ok (.own [.d (.str c), .d (.str "value")], [.hole]) := by
  have v0 : ∀ (s1 s2 s3 : Slot) (b : Bool), eIsH b (fun u => isRef u a) (eVar 0) [.v (.opq (.ref a)), s1, s2, s3] = .ok (.d (.bool b), [.v (.opq (.ref a)), s1, s2, s3]) := fun _ _ _ _ => isH (Ev.varq rfl) isRef_self
  have k0 : (dSet 1 (eLst (aCons (eTup (aCons (eD (.str "NoHall")) (aCons (eIsH (isB c "NoHall") (fun u => isRef u a) (eVar 0)) aNil))) (aCons (eTup (aCons (eD (.str "NoDay")) (aCons (eIsH (isB c "NoDay") (fun u => isRef u a) (eVar 0)) aNil))) aNil)))) [.v (.opq (.ref a)), .un, .un, .un] = .ok (.nx, [.v (.opq (.ref a)), .v (.own [.d (kp c "NoHall"), .d (kp c "NoDay")]), .un, .un]) := Ev.set_ (Ev.lst (os := [.d (kp c "NoHall"), .d (kp c "NoDay")]) (Ev.cons_ (two (v0 _ _ _ _)) (Ev.cons_ (two (v0 _ _ _ _)) Ev.nil_)) rfl) rfl
  have k1 : (dSet 1 (eCat (eVar 1) (eLst (aCons (eTup (aCons (eD (.str "NoCustomer")) (aCons (eIsH (isB c "NoCustomer") (fun u => isRef u a) (eVar 0)) aNil))) (aCons (eTup (aCons (eD (.str "NoCounter")) (aCons (eIsH (isB c "NoCounter") (fun u => isRef u a) (eVar 0)) aNil))) aNil))))) [.v (.opq (.ref a)), .v (.own [.d (kp c "NoHall"), .d (kp c "NoDay")]), .un, .un] = .ok (.nx, [.v (.opq (.ref a)), .v (.own [.d (kp c "NoHall"), .d (kp c "NoDay"), .d (kp c "NoCustomer"), .d (kp c "NoCounter")]), .un, .un]) := Ev.set_ (Ev.cat (o := .own [.d (kp c "NoHall"), .d (kp c "NoDay"), .d (kp c "NoCustomer"), .d (kp c "NoCounter")]) (Ev.varo (os := [.d (kp c "NoHall"), .d (kp c "NoDay")]) rfl rfl rfl) (Ev.lst (os := [.d (kp c "NoCustomer"), .d (kp c "NoCounter")]) (Ev.cons_ (two (v0 _ _ _ _)) (Ev.cons_ (two (v0 _ _ _ _)) Ev.nil_)) rfl) rfl rfl rfl) rfl
  have k2 : (dSet 1 (eCat (eVar 1) (eLst (aCons (eTup (aCons (eD (.str "NoNumber")) (aCons (eIsH (isB c "NoNumber") (fun u => isRef u a) (eVar 0)) aNil))) (aCons (eTup (aCons (eD (.str "NoTotals")) (aCons (eIsH (isB c "NoTotals") (fun u => isRef u a) (eVar 0)) aNil))) aNil))))) [.v (.opq (.ref a)), .v (.own [.d (kp c "NoHall"), .d (kp c "NoDay"), .d (kp c "NoCustomer"), .d (kp c "NoCounter")]), .un, .un] = .ok (.nx, [.v (.opq (.ref a)), .v (.own [.d (kp c "NoHall"), .d (kp c "NoDay"), .d (kp c "NoCustomer"), .d (kp c "NoCounter"), .d (kp c "NoNumber"), .d (kp c "NoTotals")]), .un, .un]) := Ev.set_ (Ev.cat (o := .own [.d (kp c "NoHall"), .d (kp c "NoDay"), .d (kp c "NoCustomer"), .d (kp c "NoCounter"), .d (kp c "NoNumber"), .d (kp c "NoTotals")]) (Ev.varo (os := [.d (kp c "NoHall"), .d (kp c "NoDay"), .d (kp c "NoCustomer"), .d (kp c "NoCounter")]) rfl rfl rfl) (Ev.lst (os := [.d (kp c "NoNumber"), .d (kp c "NoTotals")]) (Ev.cons_ (two (v0 _ _ _ _)) (Ev.cons_ (two (v0 _ _ _ _)) Ev.nil_)) rfl) rfl rfl rfl) rfl
  have k3 : (dSet 1 (eCat (eVar 1) (eLst (aCons (eTup (aCons (eD (.str "NoMany")) (aCons (eIsH (isB c "NoMany") (fun u => isRef u a) (eVar 0)) aNil))) (aCons (eTup (aCons (eD (.str "NoCustomers")) (aCons (eIsH (isB c "NoCustomers") (fun u => isRef u a) (eVar 0)) aNil))) aNil))))) [.v (.opq (.ref a)), .v (.own [.d (kp c "NoHall"), .d (kp c "NoDay"), .d (kp c "NoCustomer"), .d (kp c "NoCounter"), .d (kp c "NoNumber"), .d (kp c "NoTotals")]), .un, .un] = .ok (.nx, [.v (.opq (.ref a)), .v (.own [.d (kp c "NoHall"), .d (kp c "NoDay"), .d (kp c "NoCustomer"), .d (kp c "NoCounter"), .d (kp c "NoNumber"), .d (kp c "NoTotals"), .d (kp c "NoMany"), .d (kp c "NoCustomers")]), .un, .un]) := Ev.set_ (Ev.cat (o := .own [.d (kp c "NoHall"), .d (kp c "NoDay"), .d (kp c "NoCustomer"), .d (kp c "NoCounter"), .d (kp c "NoNumber"), .d (kp c "NoTotals"), .d (kp c "NoMany"), .d (kp c "NoCustomers")]) (Ev.varo (os := [.d (kp c "NoHall"), .d (kp c "NoDay"), .d (kp c "NoCustomer"), .d (kp c "NoCounter"), .d (kp c "NoNumber"), .d (kp c "NoTotals")]) rfl rfl rfl) (Ev.lst (os := [.d (kp c "NoMany"), .d (kp c "NoCustomers")]) (Ev.cons_ (two (v0 _ _ _ _)) (Ev.cons_ (two (v0 _ _ _ _)) Ev.nil_)) rfl) rfl rfl rfl) rfl
  have k4 : (dSet 1 (eCat (eVar 1) (eLst (aCons (eTup (aCons (eD (.str "NoTowers")) (aCons (eIsH (isB c "NoTowers") (fun u => isRef u a) (eVar 0)) aNil))) (aCons (eTup (aCons (eD (.str "NoRoom")) (aCons (eIsH (isB c "NoRoom") (fun u => isRef u a) (eVar 0)) aNil))) aNil))))) [.v (.opq (.ref a)), .v (.own [.d (kp c "NoHall"), .d (kp c "NoDay"), .d (kp c "NoCustomer"), .d (kp c "NoCounter"), .d (kp c "NoNumber"), .d (kp c "NoTotals"), .d (kp c "NoMany"), .d (kp c "NoCustomers")]), .un, .un] = .ok (.nx, [.v (.opq (.ref a)), .v (.own [.d (kp c "NoHall"), .d (kp c "NoDay"), .d (kp c "NoCustomer"), .d (kp c "NoCounter"), .d (kp c "NoNumber"), .d (kp c "NoTotals"), .d (kp c "NoMany"), .d (kp c "NoCustomers"), .d (kp c "NoTowers"), .d (kp c "NoRoom")]), .un, .un]) := Ev.set_ (Ev.cat (o := .own [.d (kp c "NoHall"), .d (kp c "NoDay"), .d (kp c "NoCustomer"), .d (kp c "NoCounter"), .d (kp c "NoNumber"), .d (kp c "NoTotals"), .d (kp c "NoMany"), .d (kp c "NoCustomers"), .d (kp c "NoTowers"), .d (kp c "NoRoom")]) (Ev.varo (os := [.d (kp c "NoHall"), .d (kp c "NoDay"), .d (kp c "NoCustomer"), .d (kp c "NoCounter"), .d (kp c "NoNumber"), .d (kp c "NoTotals"), .d (kp c "NoMany"), .d (kp c "NoCustomers")]) rfl rfl rfl) (Ev.lst (os := [.d (kp c "NoTowers"), .d (kp c "NoRoom")]) (Ev.cons_ (two (v0 _ _ _ _)) (Ev.cons_ (two (v0 _ _ _ _)) Ev.nil_)) rfl) rfl rfl rfl) rfl
  have k5 : (dSet 1 (eCat (eVar 1) (eLst (aCons (eTup (aCons (eD (.str "NoMove")) (aCons (eIsH (isB c "NoMove") (fun u => isRef u a) (eVar 0)) aNil))) (aCons (eTup (aCons (eD (.str "Unlike")) (aCons (eIsH (isB c "Unlike") (fun u => isRef u a) (eVar 0)) aNil))) aNil))))) [.v (.opq (.ref a)), .v (.own [.d (kp c "NoHall"), .d (kp c "NoDay"), .d (kp c "NoCustomer"), .d (kp c "NoCounter"), .d (kp c "NoNumber"), .d (kp c "NoTotals"), .d (kp c "NoMany"), .d (kp c "NoCustomers"), .d (kp c "NoTowers"), .d (kp c "NoRoom")]), .un, .un] = .ok (.nx, [.v (.opq (.ref a)), .v (.own [.d (kp c "NoHall"), .d (kp c "NoDay"), .d (kp c "NoCustomer"), .d (kp c "NoCounter"), .d (kp c "NoNumber"), .d (kp c "NoTotals"), .d (kp c "NoMany"), .d (kp c "NoCustomers"), .d (kp c "NoTowers"), .d (kp c "NoRoom"), .d (kp c "NoMove"), .d (kp c "Unlike")]), .un, .un]) := Ev.set_ (Ev.cat (o := .own [.d (kp c "NoHall"), .d (kp c "NoDay"), .d (kp c "NoCustomer"), .d (kp c "NoCounter"), .d (kp c "NoNumber"), .d (kp c "NoTotals"), .d (kp c "NoMany"), .d (kp c "NoCustomers"), .d (kp c "NoTowers"), .d (kp c "NoRoom"), .d (kp c "NoMove"), .d (kp c "Unlike")]) (Ev.varo (os := [.d (kp c "NoHall"), .d (kp c "NoDay"), .d (kp c "NoCustomer"), .d (kp c "NoCounter"), .d (kp c "NoNumber"), .d (kp c "NoTotals"), .d (kp c "NoMany"), .d (kp c "NoCustomers"), .d (kp c "NoTowers"), .d (kp c "NoRoom")]) rfl rfl rfl) (Ev.lst (os := [.d (kp c "NoMove"), .d (kp c "Unlike")]) (Ev.cons_ (two (v0 _ _ _ _)) (Ev.cons_ (two (v0 _ _ _ _)) Ev.nil_)) rfl) rfl rfl rfl) rfl
  have k6 : (dSet 1 (eCat (eVar 1) (eLst (aCons (eTup (aCons (eD (.str "NoWay")) (aCons (eIsH (isB c "NoWay") (fun u => isRef u a) (eVar 0)) aNil))) (aCons (eTup (aCons (eD (.str "NoRoad")) (aCons (eIsH (isB c "NoRoad") (fun u => isRef u a) (eVar 0)) aNil))) aNil))))) [.v (.opq (.ref a)), .v (.own [.d (kp c "NoHall"), .d (kp c "NoDay"), .d (kp c "NoCustomer"), .d (kp c "NoCounter"), .d (kp c "NoNumber"), .d (kp c "NoTotals"), .d (kp c "NoMany"), .d (kp c "NoCustomers"), .d (kp c "NoTowers"), .d (kp c "NoRoom"), .d (kp c "NoMove"), .d (kp c "Unlike")]), .un, .un] = .ok (.nx, [.v (.opq (.ref a)), .v (.own [.d (kp c "NoHall"), .d (kp c "NoDay"), .d (kp c "NoCustomer"), .d (kp c "NoCounter"), .d (kp c "NoNumber"), .d (kp c "NoTotals"), .d (kp c "NoMany"), .d (kp c "NoCustomers"), .d (kp c "NoTowers"), .d (kp c "NoRoom"), .d (kp c "NoMove"), .d (kp c "Unlike"), .d (kp c "NoWay"), .d (kp c "NoRoad")]), .un, .un]) := Ev.set_ (Ev.cat (o := .own [.d (kp c "NoHall"), .d (kp c "NoDay"), .d (kp c "NoCustomer"), .d (kp c "NoCounter"), .d (kp c "NoNumber"), .d (kp c "NoTotals"), .d (kp c "NoMany"), .d (kp c "NoCustomers"), .d (kp c "NoTowers"), .d (kp c "NoRoom"), .d (kp c "NoMove"), .d (kp c "Unlike"), .d (kp c "NoWay"), .d (kp c "NoRoad")]) (Ev.varo (os := [.d (kp c "NoHall"), .d (kp c "NoDay"), .d (kp c "NoCustomer"), .d (kp c "NoCounter"), .d (kp c "NoNumber"), .d (kp c "NoTotals"), .d (kp c "NoMany"), .d (kp c "NoCustomers"), .d (kp c "NoTowers"), .d (kp c "NoRoom"), .d (kp c "NoMove"), .d (kp c "Unlike")]) rfl rfl rfl) (Ev.lst (os := [.d (kp c "NoWay"), .d (kp c "NoRoad")]) (Ev.cons_ (two (v0 _ _ _ _)) (Ev.cons_ (two (v0 _ _ _ _)) Ev.nil_)) rfl) rfl rfl rfl) rfl
  have k7 : (dSet 1 (eCat (eVar 1) (eLst (aCons (eTup (aCons (eD (.str "TooMany")) (aCons (eIsH (isB c "TooMany") (fun u => isRef u a) (eVar 0)) aNil))) (aCons (eTup (aCons (eD (.str "NoText")) (aCons (eIsH (isB c "NoText") (fun u => isRef u a) (eVar 0)) aNil))) aNil))))) [.v (.opq (.ref a)), .v (.own [.d (kp c "NoHall"), .d (kp c "NoDay"), .d (kp c "NoCustomer"), .d (kp c "NoCounter"), .d (kp c "NoNumber"), .d (kp c "NoTotals"), .d (kp c "NoMany"), .d (kp c "NoCustomers"), .d (kp c "NoTowers"), .d (kp c "NoRoom"), .d (kp c "NoMove"), .d (kp c "Unlike"), .d (kp c "NoWay"), .d (kp c "NoRoad")]), .un, .un] = .ok (.nx, [.v (.opq (.ref a)), .v (.own [.d (kp c "NoHall"), .d (kp c "NoDay"), .d (kp c "NoCustomer"), .d (kp c "NoCounter"), .d (kp c "NoNumber"), .d (kp c "NoTotals"), .d (kp c "NoMany"), .d (kp c "NoCustomers"), .d (kp c "NoTowers"), .d (kp c "NoRoom"), .d (kp c "NoMove"), .d (kp c "Unlike"), .d (kp c "NoWay"), .d (kp c "NoRoad"), .d (kp c "TooMany"), .d (kp c "NoText")]), .un, .un]) := Ev.set_ (Ev.cat (o := .own [.d (kp c "NoHall"), .d (kp c "NoDay"), .d (kp c "NoCustomer"), .d (kp c "NoCounter"), .d (kp c "NoNumber"), .d (kp c "NoTotals"), .d (kp c "NoMany"), .d (kp c "NoCustomers"), .d (kp c "NoTowers"), .d (kp c "NoRoom"), .d (kp c "NoMove"), .d (kp c "Unlike"), .d (kp c "NoWay"), .d (kp c "NoRoad"), .d (kp c "TooMany"), .d (kp c "NoText")]) (Ev.varo (os := [.d (kp c "NoHall"), .d (kp c "NoDay"), .d (kp c "NoCustomer"), .d (kp c "NoCounter"), .d (kp c "NoNumber"), .d (kp c "NoTotals"), .d (kp c "NoMany"), .d (kp c "NoCustomers"), .d (kp c "NoTowers"), .d (kp c "NoRoom"), .d (kp c "NoMove"), .d (kp c "Unlike"), .d (kp c "NoWay"), .d (kp c "NoRoad")]) rfl rfl rfl) (Ev.lst (os := [.d (kp c "TooMany"), .d (kp c "NoText")]) (Ev.cons_ (two (v0 _ _ _ _)) (Ev.cons_ (two (v0 _ _ _ _)) Ev.nil_)) rfl) rfl rfl rfl) rfl
  have k8 : (dEx (eApp 1 (eTup (aCons (eD (.str "value")) (aCons (eIsH true (fun u => isRef u a) (eVar 0)) aNil))))) [.v (.opq (.ref a)), .v (.own [.d (kp c "NoHall"), .d (kp c "NoDay"), .d (kp c "NoCustomer"), .d (kp c "NoCounter"), .d (kp c "NoNumber"), .d (kp c "NoTotals"), .d (kp c "NoMany"), .d (kp c "NoCustomers"), .d (kp c "NoTowers"), .d (kp c "NoRoom"), .d (kp c "NoMove"), .d (kp c "Unlike"), .d (kp c "NoWay"), .d (kp c "NoRoad"), .d (kp c "TooMany"), .d (kp c "NoText")]), .un, .un] = .ok (.nx, [.v (.opq (.ref a)), .v (.own [.d (kp c "NoHall"), .d (kp c "NoDay"), .d (kp c "NoCustomer"), .d (kp c "NoCounter"), .d (kp c "NoNumber"), .d (kp c "NoTotals"), .d (kp c "NoMany"), .d (kp c "NoCustomers"), .d (kp c "NoTowers"), .d (kp c "NoRoom"), .d (kp c "NoMove"), .d (kp c "Unlike"), .d (kp c "NoWay"), .d (kp c "NoRoad"), .d (kp c "TooMany"), .d (kp c "NoText"), ends]), .un, .un]) := Ev.ex (Ev.app (b := false) (ps := [.d (kp c "NoHall"), .d (kp c "NoDay"), .d (kp c "NoCustomer"), .d (kp c "NoCounter"), .d (kp c "NoNumber"), .d (kp c "NoTotals"), .d (kp c "NoMany"), .d (kp c "NoCustomers"), .d (kp c "NoTowers"), .d (kp c "NoRoom"), .d (kp c "NoMove"), .d (kp c "Unlike"), .d (kp c "NoWay"), .d (kp c "NoRoad"), .d (kp c "TooMany"), .d (kp c "NoText")]) (os := [.d (kp c "NoHall"), .d (kp c "NoDay"), .d (kp c "NoCustomer"), .d (kp c "NoCounter"), .d (kp c "NoNumber"), .d (kp c "NoTotals"), .d (kp c "NoMany"), .d (kp c "NoCustomers"), .d (kp c "NoTowers"), .d (kp c "NoRoom"), .d (kp c "NoMove"), .d (kp c "Unlike"), .d (kp c "NoWay"), .d (kp c "NoRoad"), .d (kp c "TooMany"), .d (kp c "NoText")]) rfl (two (v0 _ _ _ _)) rfl rfl rfl)
  obtain ⟨en, k9⟩ : ∃ en, (dRt (eLc [2, 3] (iSqL (eVar 1)) (gTp [2, 3]) (tV (eVar 3)) (eVar 2))) [.v (.opq (.ref a)), .v (.own [.d (kp c "NoHall"), .d (kp c "NoDay"), .d (kp c "NoCustomer"), .d (kp c "NoCounter"), .d (kp c "NoNumber"), .d (kp c "NoTotals"), .d (kp c "NoMany"), .d (kp c "NoCustomers"), .d (kp c "NoTowers"), .d (kp c "NoRoom"), .d (kp c "NoMove"), .d (kp c "Unlike"), .d (kp c "NoWay"), .d (kp c "NoRoad"), .d (kp c "TooMany"), .d (kp c "NoText"), ends]), .un, .un] = .ok (.rt (.own [.d (.str c), .d (.str "value")]), .v (.opq (.ref a)) :: en) := by
    refine ⟨[.v (.d (.list [kp c "NoHall", kp c "NoDay", kp c "NoCustomer", kp c "NoCounter", kp c "NoNumber", kp c "NoTotals", kp c "NoMany", kp c "NoCustomers", kp c "NoTowers", kp c "NoRoom", kp c "NoMove", kp c "Unlike", kp c "NoWay", kp c "NoRoad", kp c "TooMany", kp c "NoText", .tuple [.str "value", .bool true]])), .un, .un], ?_⟩
    simp only [excs, List.mem_cons, List.not_mem_nil, or_false] at hc
    rcases hc with rfl | rfl | rfl <;> kernel_rfl
  exact fn_ok (fl := [false]) (k := 3) (B := D__law_words c (fun u => isRef u a)) (os := [.opq (.ref a)]) rfl (Ev.sq k0 (Ev.sq k1 (Ev.sq k2 (Ev.sq k3 (Ev.sq k4 (Ev.sq k5 (Ev.sq k6 (Ev.sq k7 (Ev.sq k8 k9))))))))) rfl
noncomputable def askB : DS := (dIf (tV (eOp2 fLt (eVar 0) (eD (.int 3)))) (dEx (eFn3 2 Cs.f_move Cy.f_back Cm.f_can_move (eVar 0) (aCons (eVar 2) (aCons (eVar 3) aNil)))) (dEx (eCl 3 Cm.f_moved (aCons (eVar 2) (aCons (eVar 3) (aCons (eVar 4) aNil))))))
/-! ### moves of any data -/
section
variable {m n c d : Nat} {W : Int} {H : List (List Int)} {x0 x1 x2 : PyData}
theorem moved_no (h0 : Xp.nd x0 = true) (k : Xp.hallB x0 = false) : Cm.f_moved [.d x0, .d x1, .d x2] = .error (.exn "NoHall" []) :=
  Ev.fnE (fl := [false, false, false]) (k := 2) (B := Cm.D_moved) rfl (Ev.sqE (Ev.exE (Ev.clE (Ev.cons_ (Ev.var rfl) (Ev.cons_ (Ev.var rfl) Ev.nil_)) rfl rfl (neigh_no h0 k))))
theorem can_no (h0 : Xp.nd x0 = true) (k : Xp.hallB x0 = false) : Cm.f_can_move [.d x0, .d x1] = .error (.exn "NoHall" []) :=
  Ev.fnE (fl := [false, false]) (k := 0) (B := Cm.D_can_move) rfl (Ev.sqE (Ev.exE (Ev.clE (Ev.cons_ (Ev.var rfl) (Ev.cons_ (Ev.var rfl) Ev.nil_)) rfl rfl (neigh_no h0 k))))
theorem neigh_ctr (h : HOk m n W H) (h1 : Xp.nd x1 = true) (k : inP (m - 1) x1 = false) : Cm.f_check_neighbours [.d (hallP H), .d x1] = .error (.exn "NoCounter" []) := by
  have := neigh_any h h1
  rwa [k, if_neg (by decide)] at this
theorem moved_ctr (h : HOk m n W H) (h1 : Xp.nd x1 = true) (k : inP (m - 1) x1 = false) : Cm.f_moved [.d (hallP H), .d x1, .d x2] = .error (.exn "NoCounter" []) :=
  Ev.fnE (fl := [false, false, false]) (k := 2) (B := Cm.D_moved) rfl (Ev.sqE (Ev.exE (Ev.clE (Ev.cons_ (Ev.var rfl) (Ev.cons_ (Ev.var rfl) Ev.nil_)) rfl rfl (neigh_ctr h h1 k))))
theorem can_ctr (h : HOk m n W H) (h1 : Xp.nd x1 = true) (k : inP (m - 1) x1 = false) : Cm.f_can_move [.d (hallP H), .d x1] = .error (.exn "NoCounter" []) :=
  Ev.fnE (fl := [false, false]) (k := 0) (B := Cm.D_can_move) rfl (Ev.sqE (Ev.exE (Ev.clE (Ev.cons_ (Ev.var rfl) (Ev.cons_ (Ev.var rfl) Ev.nil_)) rfl rfl (neigh_ctr h h1 k))))
theorem moved_num (h : HOk m n W H) (hc : c + 1 < m) (h2 : Xp.nd x2 = true) (k : ty1 x2 ≠ "int") : Cm.f_moved [.d (hallP H), I c, .d x2] = .error (.exn "NoNumber" []) := by
  have t : tV (eTyNot "int" (eVar 2)) [.v (.d (hallP H)), .v (I (c : Int)), .v (.d x2), .un, .un] = .ok (true, [.v (.d (hallP H)), .v (I (c : Int)), .v (.d x2), .un, .un]) := by
    have := Ev.tv (Ev.tyNot (da := eVar 2) (t := ty1 x2) (T := "int") (en := [.v (.d (hallP H)), .v (I (c : Int)), .v (.d x2), .un, .un]) (Ev.var rfl) (by simpa [frz] using tyOf_nd h2))
    rwa [decide_eq_false k] at this
  exact Ev.fnE (fl := [false, false, false]) (k := 2) (B := Cm.D_moved) rfl (Ev.sq (Ev.ex (Ev.cl (Ev.cons_ (Ev.var rfl) (Ev.cons_ (Ev.var rfl) Ev.nil_)) rfl rfl (check_neighbours h hc))) (Ev.sqE (Ev.difY (d := fun en => .error (.exn "NoNumber" en)) t rfl)))
theorem moved_ok (k : Int) (h : HOk m n W H) (hc : c + 1 < m) : ∃ x : PyData, Cm.f_moved [.d (hallP H), I c, I k] = .ok (.d x, [.hole, .hole, .hole]) := by
  obtain ⟨A, r, s, B, rfl, hA⟩ := Mr.split_at h.len hc
  have w0 : (0 : Int) ≤ W := by
    have hr := h.rows r (by simp)
    have n1 := h.n1
    cases r with
    | nil => have := hr.1; simp at this; omega
    | cons a r => have := hr.2 a List.mem_cons_self; omega
  obtain ⟨M, hM, _⟩ := moves (c := c) h w0
  by_cases z : k ≤ M ∧ -k ≤ M + s.sum - r.sum
  · exact ⟨_, Pl.moved h hA hM z.1 z.2⟩
  · exact ⟨_, moved_none h hA hM (by omega)⟩
theorem can_ok (h : HOk m n W H) (hc : c + 1 < m) : ∃ o, Cm.f_can_move [.d (hallP H), I c] = .ok (o, [.hole, .hole]) := by
  obtain ⟨M, N, _, e, _⟩ := one2 h hc
  exact ⟨_, e⟩
theorem move_E {s : Str} (h : Cm.f_moved [.d x0, .d x1, I 1] = .error (.exn s [])) : Cs.f_move [.d x0, .d x1] = .error (.exn s []) := Ev.fnE (fl := [false, false]) (k := 0) (B := Cs.D_move) rfl (Ev.rtE (Ev.clE (Ev.cons_ (Ev.var rfl) (Ev.cons_ (Ev.var rfl) (Ev.cons_ Ev.d_ Ev.nil_))) rfl rfl h))
theorem back_E {s : Str} (h : Cm.f_moved [.d x0, .d x1, I (-1)] = .error (.exn s [])) : Cy.f_back [.d x0, .d x1] = .error (.exn s []) := Ev.fnE (fl := [false, false]) (k := 0) (B := Cy.D_back) rfl (Ev.rtE (Ev.clE (Ev.cons_ (Ev.var rfl) (Ev.cons_ (Ev.var rfl) (Ev.cons_ (Ev.neg Ev.d_) Ev.nil_))) rfl rfl h))
theorem move_O {o : OT} (h : Cm.f_moved [.d x0, .d x1, I 1] = .ok (o, [.hole, .hole, .hole])) (hf : noFr o = true) : Cs.f_move [.d x0, .d x1] = .ok (o, [.hole, .hole]) := fn_ok (fl := [false, false]) (k := 0) (B := Cs.D_move) (os := [.d x0, .d x1]) rfl (Ev.rt (Ev.cl (Ev.cons_ (Ev.var rfl) (Ev.cons_ (Ev.var rfl) (Ev.cons_ Ev.d_ Ev.nil_))) rfl rfl h)) (by simp [outs, fin, noFrs, noFr, hf, mkEn])
theorem back_O {o : OT} (h : Cm.f_moved [.d x0, .d x1, I (-1)] = .ok (o, [.hole, .hole, .hole])) (hf : noFr o = true) : Cy.f_back [.d x0, .d x1] = .ok (o, [.hole, .hole]) := fn_ok (fl := [false, false]) (k := 0) (B := Cy.D_back) (os := [.d x0, .d x1]) rfl (Ev.rt (Ev.cl (Ev.cons_ (Ev.var rfl) (Ev.cons_ (Ev.var rfl) (Ev.cons_ (Ev.neg Ev.d_) Ev.nil_))) rfl rfl h)) (by simp [outs, fin, noFrs, noFr, hf, mkEn])
/-! ### what the doors say -/
abbrev en0 (d : Nat) (x0 x1 x2 : PyData) : En := [.v (I (d : Int)), .v (.d (.tuple [x0, x1, x2])), .v (.d x0), .v (.d x1), .v (.d x2), .v (.own []), .un]
def Came (en : En) (s : Str) : Prop := (askB en = .ok (.nx, en) ∧ s = "") ∨ (askB en = .error (.exn s en) ∧ s ≠ "")
def told (s : Str) : OT := if s = "" then .own [] else .own [.d (.str s), .d (.str "value")]
theorem said_of {s : Str} (h : Came (en0 d x0 x1 x2) s) (hs : s ≠ "" → s ∈ excs) : f__law_said [I (d : Int), .d (.tuple [x0, x1, x2])] = .ok (told s, [.hole, .hole]) := by
  have b0 : (dAsg (gTp [2, 3, 4]) (eVar 1)) [.v (I (d : Int)), .v (.d (.tuple [x0, x1, x2])), .un, .un, .un, .un, .un] = .ok (.nx, [.v (I (d : Int)), .v (.d (.tuple [x0, x1, x2])), .v (.d x0), .v (.d x1), .v (.d x2), .un, .un]) := Ev.asg (Ev.var rfl) rfl rfl
  rcases h with ⟨e, rfl⟩ | ⟨e, z⟩
  · exact fn_ok (fl := [false, false]) (k := 5) (B := D__law_said) (os := [I (d : Int), .d (.tuple [x0, x1, x2])]) (en := [.v (I (d : Int)), .v (.d (.tuple [x0, x1, x2])), .v (.d x0), .v (.d x1), .v (.d x2), .un, .un]) rfl (Ev.sq b0 (Ev.sq (Ev.set_ (Ev.lst (os := []) Ev.nil_ rfl) rfl) (Ev.sq (Ev.try_ok (d := askB) e) (Ev.rt (Ev.mov rfl rfl))))) rfl
  · have hc := hs z
    have t : told s = .own [.d (.str s), .d (.str "value")] := if_neg z
    rw [t]
    exact fn_ok (fl := [false, false]) (k := 5) (B := D__law_said) (os := [I (d : Int), .d (.tuple [x0, x1, x2])]) (en := [.v (I (d : Int)), .v (.d (.tuple [x0, x1, x2])), .v (.d x0), .v (.d x1), .v (.d x2), .un, .un]) rfl (Ev.sq b0 (Ev.sq (Ev.set_ (Ev.lst (os := []) Ev.nil_ rfl) rfl) (Ev.sq (Ev.try_ex (d := askB) e hc fun a => Ev.suite (e4 := [.v (I (d : Int)), .v (.d (.tuple [x0, x1, x2])), .v (.d x0), .v (.d x1), .v (.d x2), .v (.own [.d (.str s), .d (.str "value")]), .un]) rfl (Ev.set_ (Ev.clH (Ev.cons_ (Ev.varq rfl) Ev.nil_) rfl rfl (word hc a)) rfl) rfl rfl rfl) (Ev.rt (Ev.mov rfl rfl))))) rfl
theorem came2 {f : DF} {b : DE} {s : Str} (hf : (∃ o, f [.d x0, .d x1] = .ok (o, [.hole, .hole]) ∧ s = "") ∨ (f [.d x0, .d x1] = .error (.exn s []) ∧ s ≠ "")) (hd : d < 3)
    (hb : b (en0 d x0 x1 x2) = eCl 2 f (aCons (eVar 2) (aCons (eVar 3) aNil)) (en0 d x0 x1 x2)) (ha : askB (en0 d x0 x1 x2) = dEx b (en0 d x0 x1 x2)) : Came (en0 d x0 x1 x2) s := by
  have args : (aCons (eVar 2) (aCons (eVar 3) aNil)) (en0 d x0 x1 x2) = .ok ([.d x0, .d x1], en0 d x0 x1 x2) := Ev.cons_ (Ev.var rfl) (Ev.cons_ (Ev.var rfl) Ev.nil_)
  unfold Came
  rw [ha]
  rcases hf with ⟨o, e, z⟩ | ⟨e, z⟩
  · exact .inl ⟨Ev.ex (hb.trans (Ev.cl args rfl rfl e)), z⟩
  · exact .inr ⟨Ev.exE (hb.trans (Ev.clE args rfl rfl e)), z⟩
theorem dlt {d : Nat} (h : d < 3) : tV (eOp2 fLt (eVar 0) (eD (.int 3))) (en0 d x0 x1 x2) = .ok (true, en0 d x0 x1 x2) := Ev.tv (Ev.op2 (Ev.var rfl) Ev.d_ rfl rfl (lt_yes (by omega)))
theorem door0 {s : Str} (h : (∃ o, Cs.f_move [.d x0, .d x1] = .ok (o, [.hole, .hole]) ∧ s = "") ∨ (Cs.f_move [.d x0, .d x1] = .error (.exn s []) ∧ s ≠ "")) : Came (en0 0 x0 x1 x2) s := came2 h (by decide) (Ev.fn30 (Ev.var rfl) rfl) (Ev.difY (dlt (by decide)) rfl)
theorem door1 {s : Str} (h : (∃ o, Cy.f_back [.d x0, .d x1] = .ok (o, [.hole, .hole]) ∧ s = "") ∨ (Cy.f_back [.d x0, .d x1] = .error (.exn s []) ∧ s ≠ "")) : Came (en0 1 x0 x1 x2) s := came2 h (by decide) (Ev.fn31 (Ev.var rfl) rfl) (Ev.difY (dlt (by decide)) rfl)
theorem door2 {s : Str} (h : (∃ o, Cm.f_can_move [.d x0, .d x1] = .ok (o, [.hole, .hole]) ∧ s = "") ∨ (Cm.f_can_move [.d x0, .d x1] = .error (.exn s []) ∧ s ≠ "")) : Came (en0 2 x0 x1 x2) s := came2 h (by decide) (Ev.fn32 (Ev.var rfl) rfl) (Ev.difY (dlt (by decide)) rfl)
theorem door3 {s : Str} (h : (∃ o, Cm.f_moved [.d x0, .d x1, .d x2] = .ok (o, [.hole, .hole, .hole]) ∧ s = "") ∨ (Cm.f_moved [.d x0, .d x1, .d x2] = .error (.exn s []) ∧ s ≠ "")) : Came (en0 3 x0 x1 x2) s := by
  have args : (aCons (eVar 2) (aCons (eVar 3) (aCons (eVar 4) aNil))) (en0 3 x0 x1 x2) = .ok ([.d x0, .d x1, .d x2], en0 3 x0 x1 x2) := Ev.cons_ (Ev.var rfl) (Ev.cons_ (Ev.var rfl) (Ev.cons_ (Ev.var rfl) Ev.nil_))
  have no : tV (eOp2 fLt (eVar 0) (eD (.int 3))) (en0 3 x0 x1 x2) = .ok (false, en0 3 x0 x1 x2) := Ev.tv (Ev.op2 (Ev.var rfl) Ev.d_ rfl rfl (lt_no (by decide)))
  rcases h with ⟨o, e, z⟩ | ⟨e, z⟩
  · exact .inl ⟨Ev.difN no (Ev.ex (Ev.cl args rfl rfl e)), z⟩
  · exact .inr ⟨Ev.difN no (Ev.exE (Ev.clE args rfl rfl e)), z⟩
theorem in_excs : ("NoHall" : Str) ∈ excs ∧ ("NoCounter" : Str) ∈ excs ∧ ("NoNumber" : Str) ∈ excs := by simp [excs]
theorem ask_no (hd : d < 4) (h0 : Xp.nd x0 = true) (k : Xp.hallB x0 = false) : f__law_said [I (d : Int), .d (.tuple [x0, x1, x2])] = .ok (told "NoHall", [.hole, .hole]) := by
  have hn : ("NoHall" : Str) ≠ "" := by decide
  refine said_of ?_ fun _ => in_excs.1
  obtain rfl | rfl | rfl | rfl : d = 0 ∨ d = 1 ∨ d = 2 ∨ d = 3 := by omega
  · exact door0 (.inr ⟨move_E (moved_no h0 k), hn⟩)
  · exact door1 (.inr ⟨back_E (moved_no h0 k), hn⟩)
  · exact door2 (.inr ⟨can_no h0 k, hn⟩)
  · exact door3 (.inr ⟨moved_no h0 k, hn⟩)
theorem ask_ctr (hd : d < 4) (h : HOk m n W H) (h1 : Xp.nd x1 = true) (k : inP (m - 1) x1 = false) : f__law_said [I (d : Int), .d (.tuple [hallP H, x1, x2])] = .ok (told "NoCounter", [.hole, .hole]) := by
  have hn : ("NoCounter" : Str) ≠ "" := by decide
  refine said_of ?_ fun _ => in_excs.2.1
  obtain rfl | rfl | rfl | rfl : d = 0 ∨ d = 1 ∨ d = 2 ∨ d = 3 := by omega
  · exact door0 (.inr ⟨move_E (moved_ctr h h1 k), hn⟩)
  · exact door1 (.inr ⟨back_E (moved_ctr h h1 k), hn⟩)
  · exact door2 (.inr ⟨can_ctr h h1 k, hn⟩)
  · exact door3 (.inr ⟨moved_ctr h h1 k, hn⟩)
theorem ask_num (h : HOk m n W H) (hc : c + 1 < m) (h2 : Xp.nd x2 = true) (k : ty1 x2 ≠ "int") : f__law_said [I 3, .d (.tuple [hallP H, .int c, x2])] = .ok (told "NoNumber", [.hole, .hole]) :=
  said_of (d := 3) (door3 (.inr ⟨moved_num h hc h2 k, by decide⟩)) fun _ => in_excs.2.2
theorem ask_ok (k : Int) (hd : d < 4) (h : HOk m n W H) (hc : c + 1 < m) : f__law_said [I (d : Int), .d (.tuple [hallP H, .int c, .int k])] = .ok (.own [], [.hole, .hole]) := by
  refine said_of (s := "") ?_ fun z => absurd rfl z
  obtain rfl | rfl | rfl | rfl : d = 0 ∨ d = 1 ∨ d = 2 ∨ d = 3 := by omega
  · obtain ⟨o, e⟩ := moved_ok 1 h hc
    exact door0 (.inl ⟨_, move_O e rfl, rfl⟩)
  · obtain ⟨o, e⟩ := moved_ok (-1) h hc
    exact door1 (.inl ⟨_, back_O e rfl, rfl⟩)
  · obtain ⟨o, e⟩ := can_ok h hc
    exact door2 (.inl ⟨o, e, rfl⟩)
  · obtain ⟨o, e⟩ := moved_ok k h hc
    exact door3 (.inl ⟨_, e, rfl⟩)
end
end K17
end
section
set_option Elab.async false
set_option linter.all false
set_option maxRecDepth 100000
set_option maxHeartbeats 1000000
namespace K17
open PySem PySem.Spec L2 Lf Cp Pl Mt Mr Xp
noncomputable def askS : DS := (dSq (dSet 11 (eRepQ 9)) (dIf (tOr' (tV (eOp2 fNe (eCl 2 f__law_said (aCons (eVar 7) (aCons (eVar 9) aNil))) (eLst (aCons (eVar 10) (aCons (eD (.str "value")) aNil))))) (tV (eOp2 fNe (eRepQ 9) (eVar 11)))) (dRt (eD (.bool false))) dNx))
noncomputable def okS : DS := (dIf (tV (eOp2 fNe (eCat (eCl 2 f__law_said (aCons (eVar 7) (aCons (eTup (aCons (eVar 3) (aCons (eVar 12) (aCons (eOp2 fPow (eD (.int 10)) (eD (.int 14))) aNil)))) aNil))) (eCl 2 f__law_said (aCons (eVar 7) (aCons (eTup (aCons (eVar 3) (aCons (eVar 12) (aCons (eNeg (eOp2 fPow (eD (.int 10)) (eD (.int 14)))) aNil)))) aNil)))) (eLst aNil))) (dRt (eD (.bool false))) dNx)
noncomputable def doorS : DS := (dSq (dSet 8 (eLst (aCons (eTup (aCons (eTup (aCons (eVar 4) (aCons (eVar 5) (aCons (eVar 6) aNil)))) (aCons (eD (.str "NoHall")) aNil))) (aCons (eTup (aCons (eTup (aCons (eVar 3) (aCons (eVar 5) (aCons (eVar 6) aNil)))) (aCons (eD (.str "NoCounter")) aNil))) aNil)))) (dSq (dEx (eApp 8 (eTup (aCons (eTup (aCons (eVar 3) (aCons (eOp2 fSub (eLen (eVar 3)) (eD (.int 1))) (aCons (eD (.int 0)) aNil)))) (aCons (eD (.str "NoCounter")) aNil))))) (dSq (dIf (tAn (tV (eOp2 fEq (eVar 7) (eD (.int 3)))) (tV (eOp2 fGt (eLen (eVar 3)) (eD (.int 1))))) (dEx (eApp 8 (eTup (aCons (eTup (aCons (eVar 3) (aCons (eD (.int 0)) (aCons (eVar 6) aNil)))) (aCons (eD (.str "NoNumber")) aNil))))) dNx) (dSq (dFor (iSq (eVar 8)) (gTp [9, 10]) askS) (dFor (iR1 (aCons (eOp2 fSub (eLen (eVar 3)) (eD (.int 1))) aNil)) (gNm 12) okS)))))
noncomputable def turnS : DS := (dSq (dSet 2 (eCl 1 Cb.f__law_bag (aCons (eOp2 fAdd (eCl 2 Cb.f__law_cell_at (aCons (eVar 0) (aCons (eVar 1) aNil))) (eD (.int 4))) aNil))) (dSq (dSet 3 (eClB 4 Cb.f__law_hall 2 (aCons (eD (.int 6)) (aCons (eD (.int 8)) (aCons (eD (.bool false)) aNil))))) (dSq (dSet 4 (eClB 1 f__law_no_hall 2 aNil)) (dSq (dSet 5 (eClB 2 f__law_no_number 2 (aCons (eOp2 fSub (eLen (eVar 3)) (eD (.int 1))) aNil))) (dSq (dSet 6 (eIx (eLst (aCons (eD .none) (aCons (eD (.bool true)) (aCons (eD (.str "1")) (aCons (eTup (aCons (eD (.int 1)) aNil)) (aCons (eLst (aCons (eD (.int 0)) aNil)) (aCons (eD (.bool false)) aNil))))))) (eClB 2 Cb.f__law_draw 2 (aCons (eD (.int 6)) aNil)))) (dFor (iR1 (aCons (eD (.int 4)) aNil)) (gNm 7) doorS))))))
def Fq (x : PyData) : Prop := Fine 2000 3 x ∧ Xp.nd x = true
/-- read as it is handed on -/
def Odd (o : OT) (y : PyData) : Prop := o = .d y ∨ ∃ os xs, o = .own os ∧ frzs os = some xs ∧ y = .list xs
theorem var_any {i : Nat} {en e1 : En} {o : OT} {y : PyData} (h : en[i]? = some (.v o)) (hy : Odd o y) (hr : en.set i (.v (.d y)) = e1) : eVar i en = .ok (.d y, e1) := by
  rcases hy with rfl | ⟨os, xs, rfl, hf, rfl⟩
  · rw [← hr]
    have : en.set i (.v (.d y)) = en := by
      apply List.ext_getElem?
      intro j
      by_cases e : j = i
      · subst e; rw [List.getElem?_set_self (List.getElem?_eq_some_iff.mp h).1, h]
      · rw [List.getElem?_set_ne (Ne.symm e)]
    rw [this]
    exact Ev.var h
  · exact Ev.varo h hf hr
def noL : List PyData := [.none, .tuple [], .tuple [.tuple []], .list [.tuple [.int 1, .int 2]], .tuple [.list [.int 1, .int 2]], .tuple [.tuple [.int 1, .int 2], .tuple [.int 1]], .tuple [.tuple [.int (-1)]], .tuple [.tuple [.bool true]], .tuple [.tuple [.str "1"]], .int 3, .tuple [.tuple [.int 1, .none]],
  .tuple (List.replicate 9 (.tuple [.int 1])), .tuple [.tuple (List.replicate 9 (.int 1))], .dict [], .tuple [.int 1, .int 2]]
theorem noL_no {y : PyData} (hy : y ∈ noL) : Xp.hallB y = false ∧ Fq y := by
  have key : noL.all (fun y => !Xp.hallB y && (decide (cost y ≤ 2000) && decide (PyData.depth y ≤ 3)) && Xp.nd y) = true := by decide +kernel
  have := List.all_eq_true.mp key y hy
  simp only [Bool.and_eq_true, Bool.not_eq_true', decide_eq_true_eq] at this
  exact ⟨this.1.1, ⟨this.1.2.1, this.1.2.2⟩, this.2⟩
theorem pickL {xs : List PyData} {v : Int} (h0 : 0 ≤ v) (h1 : v < xs.length) : ∃ y, atI xs v = some y ∧ y ∈ xs := by
  have hv : v.toNat < xs.length := by omega
  have z := Pl.atI_nat hv
  rw [Int.toNat_of_nonneg h0] at z
  exact ⟨_, z, List.getElem_mem hv⟩
theorem pickO {os : List OT} {v : Int} (h0 : 0 ≤ v) (h1 : v < os.length) : ∃ o, Ev.ixV (.own os) v = some o ∧ o ∈ os := by
  have hn : v.toNat < os.length := by omega
  have q := Ev.ixVo (Pl.atI_nat hn)
  rw [Int.toNat_of_nonneg h0] at q
  exact ⟨os[v.toNat], q, List.getElem_mem hn⟩
section
variable {m n d : Nat} {H : List (List Int)} {o : OT} {t : Int} {y4 y5 y6 : PyData} {sc kk : OT} {s5 s6 s8 s9 s10 s11 s12 : Slot}
theorem no_hall (hw : BOk t o) (ht : t < 10 ^ 6) : ∃ y o', f__law_no_hall [o] = .ok (.d y, [o']) ∧ Xp.hallB y = false ∧ Fq y ∧ BOk (t + 1) o' := by
  obtain ⟨v, o1, e1, a1, c1, w1⟩ := draw (wide := 15) hw (by omega) (by decide) (by decide)
  obtain ⟨y, ey, hy⟩ := pickL (xs := noL) a1 (by exact c1)
  have b0 : (dSet 1 (eLst (aCons (eD .none) (aCons (eTup aNil) (aCons (eTup (aCons (eTup aNil) aNil)) (aCons (eLst (aCons (eTup (aCons (eD (.int 1)) (aCons (eD (.int 2)) aNil))) aNil)) (aCons (eTup (aCons (eLst (aCons (eD (.int 1)) (aCons (eD (.int 2)) aNil))) aNil)) (aCons (eTup (aCons (eTup (aCons (eD (.int 1)) (aCons (eD (.int 2)) aNil))) (aCons (eTup (aCons (eD (.int 1)) aNil)) aNil))) (aCons (eTup (aCons (eTup (aCons (eNeg (eD (.int 1))) aNil)) aNil)) (aCons (eTup (aCons (eTup (aCons (eD (.bool true)) aNil)) aNil)) (aCons (eTup (aCons (eTup (aCons (eD (.str "1")) aNil)) aNil)) (aCons (eD (.int 3)) (aCons (eTup (aCons (eTup (aCons (eD (.int 1)) (aCons (eD .none) aNil))) aNil)) aNil))))))))))))) [.p o, .un] = .ok (.nx, [.p o, .v (.own [.d .none, .d (.tuple []), .d (.tuple [.tuple []]), .own [.d (.tuple [.int 1, .int 2])], .d (.tuple [.list [.int 1, .int 2]]), .d (.tuple [.tuple [.int 1, .int 2], .tuple [.int 1]]), .d (.tuple [.tuple [.int (-1)]]), .d (.tuple [.tuple [.bool true]]), .d (.tuple [.tuple [.str "1"]]), I 3, .d (.tuple [.tuple [.int 1, .none]])])]) := by kernel_rfl
  have b1 : (dSet 1 (eCat (eVar 1) (eLst (aCons (eMul (eTup (aCons (eTup (aCons (eD (.int 1)) aNil)) aNil)) (eD (.int 9))) (aCons (eTup (aCons (eMul (eTup (aCons (eD (.int 1)) aNil)) (eD (.int 9))) aNil)) (aCons eDic0 (aCons (eTup (aCons (eD (.int 1)) (aCons (eD (.int 2)) aNil))) aNil))))))) [.p o, .v (.own [.d .none, .d (.tuple []), .d (.tuple [.tuple []]), .own [.d (.tuple [.int 1, .int 2])], .d (.tuple [.list [.int 1, .int 2]]), .d (.tuple [.tuple [.int 1, .int 2], .tuple [.int 1]]), .d (.tuple [.tuple [.int (-1)]]), .d (.tuple [.tuple [.bool true]]), .d (.tuple [.tuple [.str "1"]]), I 3, .d (.tuple [.tuple [.int 1, .none]])])] = .ok (.nx, [.p o, .v (.own (noL.map .d))]) := by kernel_rfl
  obtain ⟨hb, hf⟩ := noL_no hy
  refine ⟨y, o1, fn_ok (fl := [true]) (k := 1) (B := D__law_no_hall) (os := [o]) (en := [.p o1, .v (.d (.list noL))]) rfl (Ev.sq b0 (Ev.sq b1 (Ev.rt (Ev.ix (Ev.varo rfl (frzs_d _) rfl) (Ev.clB (b := true) (q := o) (p := o) rfl (Ev.cons_ Ev.d_ Ev.nil_) rfl rfl (by simp [noFrs, noFr, hw.noFr]) e1 rfl) (Ev.ixVl ey))))) (by simp [outs, fin, noFrs, noFr, w1.noFr]), hb, hf, w1⟩
def numO (z : Int) : List OT := [I z, I (-1), .d .none, .d (.bool true), .d (.str "0"), .d (.tuple [.int 0]), .own [I 0], I (z + 10 ^ 9)]
theorem num_no {o : OT} (hm : m ≤ 8) (ho : o ∈ numO (m : Int)) : ∃ y, Odd o y ∧ noFr o = true ∧ inP m y = false ∧ Fq y := by
  simp only [numO, List.mem_cons, List.not_mem_nil, or_false] at ho
  have big : ∀ i : Int, i.natAbs < 10 ^ 60 → Fq (.int i) := fun i hi => ⟨(nice_int hi).fine.mono (by omega) (by omega), rfl⟩
  rcases ho with rfl | rfl | rfl | rfl | rfl | rfl | rfl | rfl
  · exact ⟨_, .inl rfl, rfl, by simp [inP], big _ (by omega)⟩
  · exact ⟨_, .inl rfl, rfl, rfl, big _ (by decide)⟩
  · exact ⟨_, .inl rfl, rfl, rfl, ⟨by decide +kernel, by decide +kernel⟩, rfl⟩
  · exact ⟨_, .inl rfl, rfl, rfl, ⟨by decide +kernel, by decide +kernel⟩, rfl⟩
  · exact ⟨_, .inl rfl, rfl, rfl, ⟨by decide +kernel, by decide +kernel⟩, rfl⟩
  · exact ⟨_, .inl rfl, rfl, rfl, ⟨by decide +kernel, by decide +kernel⟩, rfl⟩
  · exact ⟨.list [.int 0], .inr ⟨_, _, rfl, rfl, rfl⟩, rfl, rfl, ⟨by decide +kernel, by decide +kernel⟩, rfl⟩
  · refine ⟨_, .inl rfl, rfl, ?_, big _ (by omega)⟩
    have : ¬ ((m : Int) + 10 ^ 9 < m) := by omega
    simp only [inP, this, decide_false, Bool.and_false]
theorem pow9 : fPow (.int 10) (.int 9) = some (.int (10 ^ 9)) := by
  have h2 : (0 : Int) ≤ 9 ∧ (Builtin.Int.intBits 10 : Int) * 9 ≤ 2 ^ 27 := by decide
  unfold fPow fI
  simp only [if_pos h2]
  rfl
theorem no_number (hw : BOk t o) (ht : t < 10 ^ 6) (hm : m ≤ 8) : ∃ x y o', f__law_no_number [o, I (m : Int)] = .ok (x, [o', .hole]) ∧ Odd x y ∧ inP m y = false ∧ Fq y ∧ BOk (t + 1) o' := by
  obtain ⟨v, o1, e1, a1, c1, w1⟩ := draw (wide := 8) hw (by omega) (by decide) (by decide)
  obtain ⟨x, ex, hx⟩ := pickO (os := numO (m : Int)) a1 (by exact c1)
  obtain ⟨y, hy, nf, hi, hf⟩ := num_no hm hx
  have b : (dRt (eIx (eLst (aCons (eVar 1) (aCons (eNeg (eD (.int 1))) (aCons (eD .none) (aCons (eD (.bool true)) (aCons (eD (.str "0")) (aCons (eTup (aCons (eD (.int 0)) aNil)) (aCons (eLst (aCons (eD (.int 0)) aNil)) (aCons (eOp2 fAdd (eVar 1) (eOp2 fPow (eD (.int 10)) (eD (.int 9)))) aNil))))))))) (eClB 2 Cb.f__law_draw 0 (aCons (eD (.int 8)) aNil)))) [.p o, .v (I (m : Int))] = .ok (.rt x, [.p o1, .v (I (m : Int))]) := Ev.rt (Ev.ix (Ev.lst (os := numO (m : Int)) (Ev.cons_ (Ev.var rfl) (Ev.cons_ (Ev.neg Ev.d_) (Ev.cons_ Ev.d_ (Ev.cons_ Ev.d_ (Ev.cons_ Ev.d_ (Ev.cons_ (Ev.tup (os := [I 0]) (Ev.cons_ Ev.d_ Ev.nil_) rfl rfl) (Ev.cons_ (Ev.lst (os := [I 0]) (Ev.cons_ Ev.d_ Ev.nil_) rfl) (Ev.cons_ (Ev.op2 (Ev.var rfl) (Ev.op2 Ev.d_ Ev.d_ rfl rfl pow9) rfl rfl rfl) Ev.nil_)))))))) rfl) (Ev.clB (b := true) (q := o) (p := o) rfl (Ev.cons_ Ev.d_ Ev.nil_) rfl rfl (by simp [noFrs, noFr, hw.noFr]) e1 rfl) ex)
  exact ⟨x, y, o1, fn_ok (fl := [true, false]) (k := 0) (B := D__law_no_number) (os := [o, I (m : Int)]) rfl b (by simp [outs, fin, noFrs, noFr, w1.noFr, nf]), hy, hi, hf, w1⟩
def manyO : List OT := [.d .none, .d (.bool true), .d (.str "1"), .d (.tuple [.int 1]), .own [I 0], .d (.bool false)]
theorem many_no {o : OT} (ho : o ∈ manyO) : ∃ y, Odd o y ∧ noFr o = true ∧ ty1 y ≠ "int" ∧ Fq y := by
  simp only [manyO, List.mem_cons, List.not_mem_nil, or_false] at ho
  rcases ho with rfl | rfl | rfl | rfl | rfl | rfl
  · exact ⟨_, .inl rfl, rfl, by decide, ⟨by decide +kernel, by decide +kernel⟩, rfl⟩
  · exact ⟨_, .inl rfl, rfl, by decide, ⟨by decide +kernel, by decide +kernel⟩, rfl⟩
  · exact ⟨_, .inl rfl, rfl, by decide, ⟨by decide +kernel, by decide +kernel⟩, rfl⟩
  · exact ⟨_, .inl rfl, rfl, by decide, ⟨by decide +kernel, by decide +kernel⟩, rfl⟩
  · exact ⟨.list [.int 0], .inr ⟨_, _, rfl, rfl, rfl⟩, rfl, by decide, ⟨by decide +kernel, by decide +kernel⟩, rfl⟩
  · exact ⟨_, .inl rfl, rfl, by decide, ⟨by decide +kernel, by decide +kernel⟩, rfl⟩
/-! ### one door -/
/-- what is asked, and the word that is due -/
structure Good (d : Nat) (p : PyData × Str) : Prop where
  said : f__law_said [I (d : Int), .d p.1] = .ok (told p.2, [.hole, .hole])
  word : p.2 ∈ excs
  fine : Fine 20000 6 p.1
  tup : ∃ xs, p.1 = .tuple xs
def itm (p : PyData × Str) : PyData := .tuple [p.1, .str p.2]
theorem ne_word {c : Str} (hc : c ∈ excs) : fNe (.list [.str c, .str "value"]) (.list [.str c, .str "value"]) = some (.bool false) := by
  simp only [excs, List.mem_cons, List.not_mem_nil, or_false] at hc
  rcases hc with rfl | rfl | rfl <;> kernel_rfl
theorem told_word {c : Str} (hc : c ∈ excs) : told c = .own [.d (.str c), .d (.str "value")] := by
  refine if_neg fun z => ?_
  subst z
  exact absurd hc (by decide)
theorem ask_walk : ∀ (L : List (PyData × Str)) (s9 s10 s11 : Slot), (∀ p ∈ L, Good d p) → np s9 = true → np s10 = true → np s11 = true → ∃ s9x s10x s11x, forD (gTp [9, 10]) askS (L.map itm) [.v sc, .v kk, .v o, .v (.d (hallP H)), .v (.d y4), s5, s6, .v (I (d : Int)), s8, s9, s10, s11, s12] = .ok (.nx, [.v sc, .v kk, .v o, .v (.d (hallP H)), .v (.d y4), s5, s6, .v (I (d : Int)), s8, s9x, s10x, s11x, s12]) ∧ np s9x = true ∧ np s10x = true ∧ np s11x = true
  | [], s9, s10, s11, _, n9, n10, n11 => ⟨s9, s10, s11, rfl, n9, n10, n11⟩
  | p :: L, s9, s10, s11, h, n9, n10, n11 => by
    obtain ⟨e, hw, hf, xs, hx⟩ := h p List.mem_cons_self
    have g : gTp [9, 10] (itm p) [.v sc, .v kk, .v o, .v (.d (hallP H)), .v (.d y4), s5, s6, .v (I (d : Int)), s8, s9, s10, s11, s12] = some [.v sc, .v kk, .v o, .v (.d (hallP H)), .v (.d y4), s5, s6, .v (I (d : Int)), s8, .v (.d p.1), .v (.d (.str p.2)), s11, s12] := by simp [gTp, itm, gNms, stor_eq, n9, n10]
    have sh : showQ p.1 = true := fine_showQ hf (by omega) (by omega) (.inr (.inl ⟨xs, hx⟩))
    have b : askS [.v sc, .v kk, .v o, .v (.d (hallP H)), .v (.d y4), s5, s6, .v (I (d : Int)), s8, .v (.d p.1), .v (.d (.str p.2)), s11, s12] = .ok (.nx, [.v sc, .v kk, .v o, .v (.d (hallP H)), .v (.d y4), s5, s6, .v (I (d : Int)), s8, .v (.d p.1), .v (.d (.str p.2)), .v (.d (.str (PyData.shown p.1))), s12]) := Ev.sq (Ev.set_ (Ev.repQ rfl sh) (Ev.stor_np rfl n11 rfl)) (Ev.difN (Ev.orN (Ev.tv (b := false) (Ev.op2 (z := .bool false) (p := told p.2) (Ev.cl (Ev.cons_ (Ev.var rfl) (Ev.cons_ (Ev.var rfl) Ev.nil_)) rfl rfl e) (Ev.lst (os := [.d (.str p.2), .d (.str "value")]) (Ev.cons_ (Ev.var rfl) (Ev.cons_ Ev.d_ Ev.nil_)) rfl) (by rw [told_word hw]; rfl) rfl (ne_word hw))) (Ev.tv (b := false) (Ev.op2 (z := .bool false) (Ev.repQ rfl sh) (Ev.var rfl) rfl rfl (fine_ne hf (by omega))))) Ev.nx_)
    obtain ⟨s9x, s10x, s11x, k, m9, m10, m11⟩ := ask_walk L (.v (.d p.1)) (.v (.d (.str p.2))) (.v (.d (.str (PyData.shown p.1)))) (fun q hq => h q (List.mem_cons_of_mem _ hq)) rfl rfl rfl
    refine ⟨s9x, s10x, s11x, ?_, m9, m10, m11⟩
    simp only [List.map_cons, forD, g, bd, b]
    exact k
theorem ne_nil : fNe (.list []) (.list []) = some (.bool false) := by kernel_rfl
theorem hall_fine (h : HOk m n (10 ^ 14) H) : Fine 5000 2 (hallP H) := by
  have hl := h.len
  have m8 := h.m8
  have n8 := h.n8
  exact ((nice_tuple (k := 8 * 63 + 3) (d := 1) (n := 8) (fun x hx => by
    obtain ⟨r, hr, rfl⟩ := List.mem_map.mp hx
    exact nice_intt (fun i hi => by have := (h.rows r hr).2 i hi; omega) (by have := (h.rows r hr).1; omega)) (by simp; omega)).fine).mono (by omega) (by omega)
theorem three_fine {a b c : PyData} (ha : Fine 5000 3 a) (hb : Fine 5000 3 b) (hc : Fine 5000 3 c) : Fine 20000 6 (.tuple [a, b, c]) := (fine_tuple (k := 5000) (d := 3) (n := 3) (fun x hx => by
  simp only [List.mem_cons, List.not_mem_nil, or_false] at hx
  rcases hx with rfl | rfl | rfl <;> assumption) (by simp)).mono (by omega) (by omega)
theorem one_door (hd : d < 4) (h : HOk m n (10 ^ 14) H) (h4 : Xp.hallB y4 = false) (f4 : Fq y4) {x5 x6 : OT} (o5 : Odd x5 y5) (i5 : inP (m - 1) y5 = false) (f5 : Fq y5) (o6 : Odd x6 y6) (t6 : ty1 y6 ≠ "int") (f6 : Fq y6)
    (n8 : np s8 = true) (n9 : np s9 = true) (n10 : np s10 = true) (n11 : np s11 = true) (n12 : np s12 = true) :
    ∃ s8x s9x s10x s11x s12x, doorS [.v sc, .v kk, .v o, .v (.d (hallP H)), .v (.d y4), .v x5, .v x6, .v (I (d : Int)), s8, s9, s10, s11, s12] = .ok (.nx, [.v sc, .v kk, .v o, .v (.d (hallP H)), .v (.d y4), .v (.d y5), .v (.d y6), .v (I (d : Int)), s8x, s9x, s10x, s11x, s12x]) ∧ np s8x = true ∧ np s9x = true ∧ np s10x = true ∧ np s11x = true ∧ np s12x = true := by
  have hl := h.len
  have m1 := h.m1
  have m8 := h.m8
  have g4 : Fine 5000 3 y4 := f4.1.mono (by omega) (by omega)
  have g5 : Fine 5000 3 y5 := f5.1.mono (by omega) (by omega)
  have g6 : Fine 5000 3 y6 := f6.1.mono (by omega) (by omega)
  have gH : Fine 5000 3 (hallP H) := (hall_fine h).mono (by omega) (by omega)
  have gi : ∀ i : Int, i.natAbs < 10 ^ 60 → Fine 5000 3 (.int i) := fun i hi => (nice_int hi).fine.mono (by omega) (by omega)
  have a1 : Good d (.tuple [y4, y5, y6], "NoHall") := ⟨ask_no hd f4.2 h4, in_excs.1, three_fine g4 g5 g6, _, rfl⟩
  have a2 : Good d (.tuple [hallP H, y5, y6], "NoCounter") := ⟨ask_ctr hd h f5.2 i5, in_excs.2.1, three_fine gH g5 g6, _, rfl⟩
  have a3 : Good d (.tuple [hallP H, .int ((m : Int) - 1), .int 0], "NoCounter") := ⟨ask_ctr hd h rfl (by
    have : ¬ ((m : Int) - 1 < ((m - 1 : Nat) : Int)) := by omega
    simp only [inP, this, decide_false, Bool.and_false]), in_excs.2.1, three_fine gH (gi _ (by omega)) (gi _ (by decide)), _, rfl⟩
  have len3 : eOp2 fSub (eLen (eVar 3)) (eD (.int 1)) = eOp2 fSub (eLen (eVar 3)) (eD (.int 1)) := rfl
  have t1 : (dSet 8 (eLst (aCons (eTup (aCons (eTup (aCons (eVar 4) (aCons (eVar 5) (aCons (eVar 6) aNil)))) (aCons (eD (.str "NoHall")) aNil))) (aCons (eTup (aCons (eTup (aCons (eVar 3) (aCons (eVar 5) (aCons (eVar 6) aNil)))) (aCons (eD (.str "NoCounter")) aNil))) aNil)))) [.v sc, .v kk, .v o, .v (.d (hallP H)), .v (.d y4), .v x5, .v x6, .v (I (d : Int)), s8, s9, s10, s11, s12] = .ok (.nx, [.v sc, .v kk, .v o, .v (.d (hallP H)), .v (.d y4), .v (.d y5), .v (.d y6), .v (I (d : Int)), .v (.own [.d (itm (PyData.tuple [y4, y5, y6], "NoHall")), .d (itm (PyData.tuple [hallP H, y5, y6], "NoCounter"))]), s9, s10, s11, s12]) :=
    Ev.set_ (Ev.lst (os := [.d (itm (.tuple [y4, y5, y6], "NoHall")), .d (itm (.tuple [hallP H, y5, y6], "NoCounter"))]) (Ev.cons_ (Ev.tup (os := [.d (.tuple [y4, y5, y6]), .d (.str "NoHall")]) (Ev.cons_ (Ev.tup (os := [.d y4, .d y5, .d y6]) (Ev.cons_ (Ev.var rfl) (Ev.cons_ (var_any rfl o5 rfl) (Ev.cons_ (var_any rfl o6 rfl) Ev.nil_))) rfl rfl) (Ev.cons_ Ev.d_ Ev.nil_)) rfl rfl)
      (Ev.cons_ (Ev.tup (os := [.d (.tuple [hallP H, y5, y6]), .d (.str "NoCounter")]) (Ev.cons_ (Ev.tup (os := [.d (hallP H), .d y5, .d y6]) (Ev.cons_ (Ev.var rfl) (Ev.cons_ (Ev.var rfl) (Ev.cons_ (Ev.var rfl) Ev.nil_))) rfl rfl) (Ev.cons_ Ev.d_ Ev.nil_)) rfl rfl) Ev.nil_)) rfl) (Ev.stor_np rfl n8 rfl)
  have ln : ∀ en : En, en[3]? = some (.v (.d (hallP H))) → eLen (eVar 3) en = .ok (.d (.int (m : Int)), en) := fun en he => Ev.len_ (n := m) (Ev.var he) (by simp [dlen, hl])
  have t2 : (dEx (eApp 8 (eTup (aCons (eTup (aCons (eVar 3) (aCons (eOp2 fSub (eLen (eVar 3)) (eD (.int 1))) (aCons (eD (.int 0)) aNil)))) (aCons (eD (.str "NoCounter")) aNil))))) [.v sc, .v kk, .v o, .v (.d (hallP H)), .v (.d y4), .v (.d y5), .v (.d y6), .v (I (d : Int)), .v (.own [.d (itm (PyData.tuple [y4, y5, y6], "NoHall")), .d (itm (PyData.tuple [hallP H, y5, y6], "NoCounter"))]), s9, s10, s11, s12] = .ok (.nx, [.v sc, .v kk, .v o, .v (.d (hallP H)), .v (.d y4), .v (.d y5), .v (.d y6), .v (I (d : Int)), .v (.own [.d (itm (PyData.tuple [y4, y5, y6], "NoHall")), .d (itm (PyData.tuple [hallP H, y5, y6], "NoCounter")), .d (itm (PyData.tuple [hallP H, .int ((m : Int) - 1), .int 0], "NoCounter"))]), s9, s10, s11, s12]) :=
    Ev.ex (Ev.app (b := false) (ps := [.d (itm (.tuple [y4, y5, y6], "NoHall")), .d (itm (.tuple [hallP H, y5, y6], "NoCounter"))]) (os := [.d (itm (.tuple [y4, y5, y6], "NoHall")), .d (itm (.tuple [hallP H, y5, y6], "NoCounter"))]) rfl (Ev.tup (os := [.d (.tuple [hallP H, .int ((m : Int) - 1), .int 0]), .d (.str "NoCounter")]) (Ev.cons_ (Ev.tup (os := [.d (hallP H), I ((m : Int) - 1), I 0]) (Ev.cons_ (Ev.var rfl) (Ev.cons_ (Ev.op2 (ln _ rfl) Ev.d_ rfl rfl rfl) (Ev.cons_ Ev.d_ Ev.nil_))) rfl rfl) (Ev.cons_ Ev.d_ Ev.nil_)) rfl rfl) rfl rfl rfl)
  obtain ⟨L, t3, hL, hlen⟩ : ∃ L : List (PyData × Str), (dIf (tAn (tV (eOp2 fEq (eVar 7) (eD (.int 3)))) (tV (eOp2 fGt (eLen (eVar 3)) (eD (.int 1))))) (dEx (eApp 8 (eTup (aCons (eTup (aCons (eVar 3) (aCons (eD (.int 0)) (aCons (eVar 6) aNil)))) (aCons (eD (.str "NoNumber")) aNil))))) dNx) [.v sc, .v kk, .v o, .v (.d (hallP H)), .v (.d y4), .v (.d y5), .v (.d y6), .v (I (d : Int)), .v (.own [.d (itm (PyData.tuple [y4, y5, y6], "NoHall")), .d (itm (PyData.tuple [hallP H, y5, y6], "NoCounter")), .d (itm (PyData.tuple [hallP H, .int ((m : Int) - 1), .int 0], "NoCounter"))]), s9, s10, s11, s12] = .ok (.nx, [.v sc, .v kk, .v o, .v (.d (hallP H)), .v (.d y4), .v (.d y5), .v (.d y6), .v (I (d : Int)), .v (.own (L.map fun p : PyData × Str => OT.d (itm p))), s9, s10, s11, s12]) ∧ (∀ p ∈ L, Good d p) ∧ L.length ≤ 4 := by
    have c1 : ∀ b, decide ((d : Int) = 3) = b → tV (eOp2 fEq (eVar 7) (eD (.int 3))) [.v sc, .v kk, .v o, .v (.d (hallP H)), .v (.d y4), .v (.d y5), .v (.d y6), .v (I (d : Int)), .v (.own [.d (itm (PyData.tuple [y4, y5, y6], "NoHall")), .d (itm (PyData.tuple [hallP H, y5, y6], "NoCounter")), .d (itm (PyData.tuple [hallP H, .int ((m : Int) - 1), .int 0], "NoCounter"))]), s9, s10, s11, s12] = .ok (b, [.v sc, .v kk, .v o, .v (.d (hallP H)), .v (.d y4), .v (.d y5), .v (.d y6), .v (I (d : Int)), .v (.own [.d (itm (PyData.tuple [y4, y5, y6], "NoHall")), .d (itm (PyData.tuple [hallP H, y5, y6], "NoCounter")), .d (itm (PyData.tuple [hallP H, .int ((m : Int) - 1), .int 0], "NoCounter"))]), s9, s10, s11, s12]) := fun b hb => Ev.tv (Ev.op2 (Ev.var rfl) Ev.d_ rfl rfl (by rw [fEq_int, hb]))
    have three : ∀ p ∈ [((.tuple [y4, y5, y6] : PyData), ("NoHall" : Str)), (.tuple [hallP H, y5, y6], "NoCounter"), (.tuple [hallP H, .int ((m : Int) - 1), .int 0], "NoCounter")], Good d p := fun p hp => by
      simp only [List.mem_cons, List.not_mem_nil, or_false] at hp
      rcases hp with rfl | rfl | rfl <;> assumption
    by_cases z : d = 3 ∧ 1 < m
    · refine ⟨[(.tuple [y4, y5, y6], "NoHall"), (.tuple [hallP H, y5, y6], "NoCounter"), (.tuple [hallP H, .int ((m : Int) - 1), .int 0], "NoCounter"), (.tuple [hallP H, .int 0, y6], "NoNumber")], Ev.difY (Ev.anY (c1 true (decide_eq_true (by omega))) (Ev.tv (Ev.op2 (ln _ rfl) Ev.d_ rfl rfl (gt_yes (by omega))))) (Ev.ex (Ev.app (b := false) (ps := [.d (itm (.tuple [y4, y5, y6], "NoHall")), .d (itm (.tuple [hallP H, y5, y6], "NoCounter")), .d (itm (.tuple [hallP H, .int ((m : Int) - 1), .int 0], "NoCounter"))]) (os := [.d (itm (.tuple [y4, y5, y6], "NoHall")), .d (itm (.tuple [hallP H, y5, y6], "NoCounter")), .d (itm (.tuple [hallP H, .int ((m : Int) - 1), .int 0], "NoCounter"))]) rfl (Ev.tup (os := [.d (.tuple [hallP H, .int 0, y6]), .d (.str "NoNumber")]) (Ev.cons_ (Ev.tup (os := [.d (hallP H), I 0, .d y6]) (Ev.cons_ (Ev.var rfl) (Ev.cons_ Ev.d_ (Ev.cons_ (Ev.var rfl) Ev.nil_))) rfl rfl) (Ev.cons_ Ev.d_ Ev.nil_)) rfl rfl) rfl rfl rfl)), fun p hp => ?_, by simp⟩
      simp only [List.mem_cons, List.not_mem_nil, or_false] at hp
      rcases hp with rfl | rfl | rfl | rfl
      · exact a1
      · exact a2
      · exact a3
      · obtain ⟨rfl, _⟩ := z
        exact ⟨ask_num (c := 0) h (by omega) f6.2 t6, in_excs.2.2, three_fine gH (gi _ (by decide)) g6, _, rfl⟩
    · refine ⟨_, ?_, three, by simp⟩
      by_cases w : d = 3
      · exact Ev.difN (Ev.anY (c1 true (decide_eq_true (by omega))) (Ev.tv (Ev.op2 (ln _ rfl) Ev.d_ rfl rfl (gt_no (by omega))))) Ev.nx_
      · exact Ev.difN (Ev.anN (c1 false (decide_eq_false (by omega)))) Ev.nx_
  obtain ⟨s9x, s10x, s11x, t4, m9, m10, m11⟩ := ask_walk (sc := sc) (kk := kk) (o := o) (H := H) (y4 := y4) (s5 := .v (.d y5)) (s6 := .v (.d y6)) (s8 := .v (.d (.list (L.map itm)))) (s12 := s12) L s9 s10 s11 hL n9 n10 n11
  have fz : frzs (L.map fun p : PyData × Str => OT.d (itm p)) = some (L.map itm) := by
    have := frzs_d (L.map itm)
    rwa [List.map_map] at this
  have q4 : (dFor (iSq (eVar 8)) (gTp [9, 10]) askS) [.v sc, .v kk, .v o, .v (.d (hallP H)), .v (.d y4), .v (.d y5), .v (.d y6), .v (I (d : Int)), .v (.own (L.map fun p : PyData × Str => OT.d (itm p))), s9, s10, s11, s12] = .ok (.nx, [.v sc, .v kk, .v o, .v (.d (hallP H)), .v (.d y4), .v (.d y5), .v (.d y6), .v (I (d : Int)), .v (.d (.list (L.map itm))), s9x, s10x, s11x, s12]) := Ev.for_ (Ev.iSq_ (Ev.varo rfl fz rfl) rfl) t4
  obtain ⟨e', l5, s12x, rfl, m12⟩ := forR (g := gNm 12) (body := okS) (en := [.v sc, .v kk, .v o, .v (.d (hallP H)), .v (.d y4), .v (.d y5), .v (.d y6), .v (I (d : Int)), .v (.d (.list (L.map itm))), s9x, s10x, s11x, s12])
    (fun i e => ∃ s12, e = [.v sc, .v kk, .v o, .v (.d (hallP H)), .v (.d y4), .v (.d y5), .v (.d y6), .v (I (d : Int)), .v (.d (.list (L.map itm))), s9x, s10x, s11x, s12] ∧ np s12 = true) (m - 1) ⟨s12, rfl, n12⟩ (by
      rintro i e hi ⟨s12, rfl, n12⟩
      have k1 : ∀ z : Int, f__law_said [I (d : Int), .d (.tuple [hallP H, .int (i : Int), .int z])] = .ok (.own [], [.hole, .hole]) := fun z => ask_ok z hd h (by omega)
      refine ⟨[.v sc, .v kk, .v o, .v (.d (hallP H)), .v (.d y4), .v (.d y5), .v (.d y6), .v (I (d : Int)), .v (.d (.list (L.map itm))), s9x, s10x, s11x, .v (I (i : Int))], _, by simp [gNm, stor_eq, n12], ?_, .v (I (i : Int)), rfl, rfl⟩
      exact Ev.difN (Ev.tv (b := false) (Ev.op2 (z := .bool false) (Ev.cat (o := .own []) (x := .list []) (y := .list []) (Ev.cl (Ev.cons_ (Ev.var rfl) (Ev.cons_ (Ev.tup (os := [.d (hallP H), I (i : Int), I (10 ^ 14)]) (Ev.cons_ (Ev.var rfl) (Ev.cons_ (Ev.var rfl) (Ev.cons_ (Ev.op2 Ev.d_ Ev.d_ rfl rfl pow14) Ev.nil_))) rfl rfl) Ev.nil_)) rfl rfl (k1 _)) (Ev.cl (Ev.cons_ (Ev.var rfl) (Ev.cons_ (Ev.tup (os := [.d (hallP H), I (i : Int), I (-(10 ^ 14))]) (Ev.cons_ (Ev.var rfl) (Ev.cons_ (Ev.var rfl) (Ev.cons_ (Ev.neg (Ev.op2 Ev.d_ Ev.d_ rfl rfl pow14)) Ev.nil_))) rfl rfl) Ev.nil_)) rfl rfl (k1 _)) rfl rfl rfl) (Ev.lst (os := []) Ev.nil_ rfl) rfl rfl ne_nil)) Ev.nx_)
  have q5 : (dFor (iR1 (aCons (eOp2 fSub (eLen (eVar 3)) (eD (.int 1))) aNil)) (gNm 12) okS) [.v sc, .v kk, .v o, .v (.d (hallP H)), .v (.d y4), .v (.d y5), .v (.d y6), .v (I (d : Int)), .v (.d (.list (L.map itm))), s9x, s10x, s11x, s12] = .ok (.nx, [.v sc, .v kk, .v o, .v (.d (hallP H)), .v (.d y4), .v (.d y5), .v (.d y6), .v (I (d : Int)), .v (.d (.list (L.map itm))), s9x, s10x, s11x, s12x]) := Ev.forN (n := m - 1) (Ev.cons_ (Ev.op2 (z := .int ((m - 1 : Nat) : Int)) (ln _ rfl) Ev.d_ rfl rfl (by simp [fSub, fI]; omega)) Ev.nil_) (by omega) l5
  exact ⟨_, s9x, s10x, s11x, s12x, Ev.sq t1 (Ev.sq t2 (Ev.sq t3 (Ev.sq q4 q5))), rfl, m9, m10, m11, m12⟩
end
end K17
end
section
set_option Elab.async false
set_option linter.all false
set_option maxRecDepth 100000
set_option maxHeartbeats 1000000
namespace K17
open PySem PySem.Spec L2 Lf Cp Pl Mt Mr Xp
section
variable {ns : List Int} {k m n : Nat} {H : List (List Int)} {o : OT} {y4 y5 y6 : PyData} {s5 s6 s7 s8 s9 s10 s11 s12 : Slot}
theorem doors (h : HOk m n (10 ^ 14) H) (h4 : Xp.hallB y4 = false) (f4 : Fq y4) {x5 x6 : OT} (o5 : Odd x5 y5) (i5 : inP (m - 1) y5 = false) (f5 : Fq y5) (o6 : Odd x6 y6) (t6 : ty1 y6 ≠ "int") (f6 : Fq y6)
    (n7 : np s7 = true) (n8 : np s8 = true) (n9 : np s9 = true) (n10 : np s10 = true) (n11 : np s11 = true) (n12 : np s12 = true) :
    ∃ x5' x6' s7x s8x s9x s10x s11x s12x, forD (gNm 7) doorS (rng 0 4) [.v (.d (.list (ns.map .int))), .v (I (k : Int)), .v o, .v (.d (hallP H)), .v (.d y4), .v x5, .v x6, s7, s8, s9, s10, s11, s12] = .ok (.nx, [.v (.d (.list (ns.map .int))), .v (I (k : Int)), .v o, .v (.d (hallP H)), .v (.d y4), .v x5', .v x6', s7x, s8x, s9x, s10x, s11x, s12x]) ∧ np s7x = true ∧ np s8x = true ∧ np s9x = true ∧ np s10x = true ∧ np s11x = true ∧ np s12x = true := by
  obtain ⟨e', l, x5', x6', s7x, s8x, s9x, s10x, s11x, s12x, rfl, _, _, hn⟩ := forR (g := gNm 7) (body := doorS) (en := [.v (.d (.list (ns.map .int))), .v (I (k : Int)), .v o, .v (.d (hallP H)), .v (.d y4), .v x5, .v x6, s7, s8, s9, s10, s11, s12])
    (fun i e => ∃ x5 x6 s7 s8 s9 s10 s11 s12, e = [.v (.d (.list (ns.map .int))), .v (I (k : Int)), .v o, .v (.d (hallP H)), .v (.d y4), .v x5, .v x6, s7, s8, s9, s10, s11, s12] ∧ Odd x5 y5 ∧ Odd x6 y6 ∧ np s7 = true ∧ np s8 = true ∧ np s9 = true ∧ np s10 = true ∧ np s11 = true ∧ np s12 = true) 4
    ⟨x5, x6, s7, s8, s9, s10, s11, s12, rfl, o5, o6, n7, n8, n9, n10, n11, n12⟩ (by
      rintro i e hi ⟨x5, x6, s7, s8, s9, s10, s11, s12, rfl, o5, o6, n7, n8, n9, n10, n11, n12⟩
      obtain ⟨s8x, s9x, s10x, s11x, s12x, e2, m8, m9, m10, m11, m12⟩ := one_door (sc := .d (.list (ns.map .int))) (kk := I (k : Int)) (o := o) (d := i) hi h h4 f4 o5 i5 f5 o6 t6 f6 n8 n9 n10 n11 n12
      exact ⟨[.v (.d (.list (ns.map .int))), .v (I (k : Int)), .v o, .v (.d (hallP H)), .v (.d y4), .v x5, .v x6, .v (I (i : Int)), s8, s9, s10, s11, s12], _, by simp [gNm, stor_eq, n7], e2, _, _, .v (I (i : Int)), s8x, s9x, s10x, s11x, s12x, rfl, .inl rfl, .inl rfl, rfl, m8, m9, m10, m11, m12⟩)
  exact ⟨x5', x6', s7x, s8x, s9x, s10x, s11x, s12x, l, hn⟩
theorem turn {s2 s3 s4 s5 s6 s7 s8 s9 s10 s11 s12 : Slot} (hn : np s2 = true ∧ np s3 = true ∧ np s4 = true ∧ np s5 = true ∧ np s6 = true ∧ np s7 = true ∧ np s8 = true ∧ np s9 = true ∧ np s10 = true ∧ np s11 = true ∧ np s12 = true) : ∃ s2x s3x s4x s5x s6x s7x s8x s9x s10x s11x s12x, turnS [.v (.d (.list (ns.map .int))), .v (I (k : Int)), s2, s3, s4, s5, s6, s7, s8, s9, s10, s11, s12] = .ok (.nx, [.v (.d (.list (ns.map .int))), .v (I (k : Int)), s2x, s3x, s4x, s5x, s6x, s7x, s8x, s9x, s10x, s11x, s12x]) ∧ np s2x = true ∧ np s3x = true ∧ np s4x = true ∧ np s5x = true ∧ np s6x = true ∧ np s7x = true ∧ np s8x = true ∧ np s9x = true ∧ np s10x = true ∧ np s11x = true ∧ np s12x = true := by
  obtain ⟨n2, n3, n4, n5, n6, n7, n8, n9, n10, n11, n12⟩ := hn
  obtain ⟨o1, e1, w1⟩ := bag (ns.getD k 0 + 4)
  obtain ⟨H, n, o2, e2, hl, hn, hrows, w2⟩ := hallB (ru := 6) (up := 8) (fw := false) w1 (by decide) (by decide) (by decide)
  have h : HOk H.length n (10 ^ 14) H := ⟨rfl, hl.1, by omega, hn.1, by omega, hrows⟩
  obtain ⟨y4, o3, e3, h4, f4, w3⟩ := no_hall w2 (by decide)
  obtain ⟨x5, y5, o4, e4, ho5, i5, f5, w4⟩ := no_number (m := H.length - 1) w3 (by decide) (by omega)
  obtain ⟨v, o5, e5, a5, c5, w5⟩ := draw (wide := 6) w4 (by decide) (by decide) (by decide)
  obtain ⟨x6, ex, hx⟩ := pickO (os := manyO) a5 (by exact c5)
  obtain ⟨y6, ho6, _, t6, f6⟩ := many_no hx
  have b1 : (dSet 2 (eCl 1 Cb.f__law_bag (aCons (eOp2 fAdd (eCl 2 Cb.f__law_cell_at (aCons (eVar 0) (aCons (eVar 1) aNil))) (eD (.int 4))) aNil))) [.v (.d (.list (ns.map .int))), .v (I (k : Int)), s2, s3, s4, s5, s6, s7, s8, s9, s10, s11, s12] = .ok (.nx, [.v (.d (.list (ns.map .int))), .v (I (k : Int)), .v o1, s3, s4, s5, s6, s7, s8, s9, s10, s11, s12]) := Ev.set_ (Ev.cl (Ev.cons_ (Ev.op2 (z := .int (ns.getD k 0 + 4)) (Ev.cl (Ev.cons_ (Ev.var rfl) (Ev.cons_ (Ev.var rfl) Ev.nil_)) rfl rfl (cell_at (ns := ns) (k := k))) Ev.d_ rfl rfl rfl) Ev.nil_) rfl rfl e1) (Ev.stor_np rfl n2 rfl)
  have b2 : (dSet 3 (eClB 4 Cb.f__law_hall 2 (aCons (eD (.int 6)) (aCons (eD (.int 8)) (aCons (eD (.bool false)) aNil))))) [.v (.d (.list (ns.map .int))), .v (I (k : Int)), .v o1, s3, s4, s5, s6, s7, s8, s9, s10, s11, s12] = .ok (.nx, [.v (.d (.list (ns.map .int))), .v (I (k : Int)), .v o2, .v (.d (hallP H)), s4, s5, s6, s7, s8, s9, s10, s11, s12]) := Ev.set_ (Ev.clB (b := false) (q := o1) (p := o1) rfl (Ev.cons_ Ev.d_ (Ev.cons_ Ev.d_ (Ev.cons_ Ev.d_ Ev.nil_))) rfl rfl (by simp [noFrs, noFr, w1.noFr]) e2 rfl) (Ev.stor_np rfl n3 rfl)
  have b3 : (dSet 4 (eClB 1 f__law_no_hall 2 aNil)) [.v (.d (.list (ns.map .int))), .v (I (k : Int)), .v o2, .v (.d (hallP H)), s4, s5, s6, s7, s8, s9, s10, s11, s12] = .ok (.nx, [.v (.d (.list (ns.map .int))), .v (I (k : Int)), .v o3, .v (.d (hallP H)), .v (.d y4), s5, s6, s7, s8, s9, s10, s11, s12]) := Ev.set_ (Ev.clB (b := false) (q := o2) (p := o2) rfl Ev.nil_ rfl rfl (by simp [noFrs, noFr, w2.noFr]) e3 rfl) (Ev.stor_np rfl n4 rfl)
  have b4 : (dSet 5 (eClB 2 f__law_no_number 2 (aCons (eOp2 fSub (eLen (eVar 3)) (eD (.int 1))) aNil))) [.v (.d (.list (ns.map .int))), .v (I (k : Int)), .v o3, .v (.d (hallP H)), .v (.d y4), s5, s6, s7, s8, s9, s10, s11, s12] = .ok (.nx, [.v (.d (.list (ns.map .int))), .v (I (k : Int)), .v o4, .v (.d (hallP H)), .v (.d y4), .v x5, s6, s7, s8, s9, s10, s11, s12]) := Ev.set_ (Ev.clB (b := false) (q := o3) (p := o3) rfl (Ev.cons_ (Ev.op2 (z := .int ((H.length - 1 : Nat) : Int)) (Ev.len_ (n := H.length) (Ev.var rfl) (by simp [dlen])) Ev.d_ rfl rfl (by simp [fSub, fI]; omega)) Ev.nil_) rfl rfl (by simp [noFrs, noFr, w3.noFr]) e4 rfl) (Ev.stor_np rfl n5 rfl)
  have b5 : (dSet 6 (eIx (eLst (aCons (eD .none) (aCons (eD (.bool true)) (aCons (eD (.str "1")) (aCons (eTup (aCons (eD (.int 1)) aNil)) (aCons (eLst (aCons (eD (.int 0)) aNil)) (aCons (eD (.bool false)) aNil))))))) (eClB 2 Cb.f__law_draw 2 (aCons (eD (.int 6)) aNil)))) [.v (.d (.list (ns.map .int))), .v (I (k : Int)), .v o4, .v (.d (hallP H)), .v (.d y4), .v x5, s6, s7, s8, s9, s10, s11, s12] = .ok (.nx, [.v (.d (.list (ns.map .int))), .v (I (k : Int)), .v o5, .v (.d (hallP H)), .v (.d y4), .v x5, .v x6, s7, s8, s9, s10, s11, s12]) := Ev.set_ (Ev.ix (Ev.lst (os := manyO) (Ev.cons_ Ev.d_ (Ev.cons_ Ev.d_ (Ev.cons_ Ev.d_ (Ev.cons_ (Ev.tup (os := [I 1]) (Ev.cons_ Ev.d_ Ev.nil_) rfl rfl) (Ev.cons_ (Ev.lst (os := [I 0]) (Ev.cons_ Ev.d_ Ev.nil_) rfl) (Ev.cons_ Ev.d_ Ev.nil_)))))) rfl) (Ev.clB (b := false) (q := o4) (p := o4) rfl (Ev.cons_ Ev.d_ Ev.nil_) rfl rfl (by simp [noFrs, noFr, w4.noFr]) e5 rfl) ex) (Ev.stor_np rfl n6 rfl)
  obtain ⟨x5', x6', s7x, s8x, s9x, s10x, s11x, s12x, l6, m⟩ := doors (ns := ns) (k := k) (o := o5) h h4 f4 ho5 i5 f5 ho6 t6 f6 n7 n8 n9 n10 n11 n12
  exact ⟨_, _, _, _, _, s7x, s8x, s9x, s10x, s11x, s12x, Ev.sq b1 (Ev.sq b2 (Ev.sq b3 (Ev.sq b4 (Ev.sq b5 (Ev.forN (n := 4) (Ev.cons_ Ev.d_ Ev.nil_) (by omega) l6))))), rfl, rfl, rfl, rfl, rfl, m⟩
end
theorem pure_law (ns : List Int) (h : ns.length ≤ 63) (hb : ∀ z ∈ ns, Builtin.Int.intBits z ≤ 1048576) : ∃ os, f_law [.d (.list (ns.map .int))] = .ok (.d (.bool true), os) := by
  obtain ⟨m, hm, hm5⟩ : ∃ m : Nat, max 1 (min 6 (ns.length : Int)) = m ∧ m ≤ 6 := ⟨(max 1 (min 6 (ns.length : Int))).toNat, by omega, by omega⟩
  obtain ⟨e, h1, s1, s2, s3, s4, s5, s6, s7, s8, s9, s10, s11, s12, rfl, _⟩ := forR (g := gNm 1) (body := turnS) (en := [.v (.d (.list (ns.map .int))), .un, .un, .un, .un, .un, .un, .un, .un, .un, .un, .un, .un])
    (fun i e => ∃ s1 s2 s3 s4 s5 s6 s7 s8 s9 s10 s11 s12, e = [.v (.d (.list (ns.map .int))), s1, s2, s3, s4, s5, s6, s7, s8, s9, s10, s11, s12] ∧ np s1 = true ∧ np s2 = true ∧ np s3 = true ∧ np s4 = true ∧ np s5 = true ∧ np s6 = true ∧ np s7 = true ∧ np s8 = true ∧ np s9 = true ∧ np s10 = true ∧ np s11 = true ∧ np s12 = true) m
    ⟨.un, .un, .un, .un, .un, .un, .un, .un, .un, .un, .un, .un, rfl, rfl, rfl, rfl, rfl, rfl, rfl, rfl, rfl, rfl, rfl, rfl, rfl⟩ (by
      rintro i e hi ⟨s1, s2, s3, s4, s5, s6, s7, s8, s9, s10, s11, s12, rfl, n1, hn⟩
      obtain ⟨s2x, s3x, s4x, s5x, s6x, s7x, s8x, s9x, s10x, s11x, s12x, e2, hn'⟩ := turn (ns := ns) (k := i) hn
      exact ⟨[.v (.d (.list (ns.map .int))), .v (I (i : Int)), s2, s3, s4, s5, s6, s7, s8, s9, s10, s11, s12], _, by simp [gNm, stor_eq, n1], e2, .v (I (i : Int)), s2x, s3x, s4x, s5x, s6x, s7x, s8x, s9x, s10x, s11x, s12x, rfl, rfl, hn'⟩)
  have q : aCons (eCb fMax2 (aCons (eD (.int 1)) (aCons (eCb fMin2 (aCons (eD (.int 6)) (aCons (eLen (eVar 0)) aNil))) aNil))) aNil [.v (.d (.list (ns.map .int))), .un, .un, .un, .un, .un, .un, .un, .un, .un, .un, .un, .un] = .ok ([I m], [.v (.d (.list (ns.map .int))), .un, .un, .un, .un, .un, .un, .un, .un, .un, .un, .un, .un]) := by
    rw [← hm]
    refine Ev.cons_ (Ev.cb (Ev.cons_ Ev.d_ (Ev.cons_ (Ev.cb (Ev.cons_ Ev.d_ (Ev.cons_ (Ev.len_ (n := ns.length) (Ev.var rfl) (by simp [dlen])) Ev.nil_)) rfl rfl) Ev.nil_)) rfl ?_) Ev.nil_
    simp only [fMax2, gt_iff_lt, if_max, if_min]
  have e := Ev.sq (Ev.forN q (by omega) h1) (Ev.rt (da := eD (.bool true)) Ev.d_)
  exact ⟨_, fn_ok (fl := [false]) (k := 12) (B := D_law) (os := [.d (.list (ns.map .int))]) rfl e rfl⟩
end K17
end
section
set_option Elab.async false
set_option linter.all false
set_option maxRecDepth 100000
set_option maxHeartbeats 0
namespace K17
open PySem PySem.Spec L2 Lf
theorem facts {w : World} {K : PySem.W.Frag} {h : Heap} {mg : Str → Option Value} {f : Addr} (X : K.In h) (G : h.Ns mainGlobals mg) (hfa : mg ("law" : Str) = some (.ref f)) (c : He.SaysX fa fn [] tf exs w h K) : LawD PySem.Challenge.rw_movedminutes_k17_moves_refused w K 16 63 "script" mg f h := by
  have e := hfa.symm.trans (He.glo_ok X G (c.t.d.fact 25 (f := .glo "law") rfl))
  cases e
  have tx : ∀ base : Heap, (∀ p ∈ tf.map (He.cT K), GxR.TabB base mg p.1 p.2) → @Tx ⟨(tf.map (He.cT K)).map (·.2)⟩ K mg base := fun base hT =>
    letI : Tabs := ⟨(tf.map (He.cT K)).map (·.2)⟩
    ⟨c.t.d.def_ 0 (d := d_is_whole) rfl,
     He.glo_ok X G (c.t.d.fact 0 (f := .glo "is_whole") rfl),
     c.t.d.def_ 1 (d := d_is_short_tuple) rfl,
     He.glo_ok X G (c.t.d.fact 1 (f := .glo "is_short_tuple") rfl),
     c.t.d.def_ 2 (d := d_is_row) rfl,
     He.glo_ok X G (c.t.d.fact 2 (f := .glo "is_row") rfl),
     ⟨List.mem_map.mpr ⟨_, List.mem_map.mpr ⟨("is_row", none), by simp [tf], rfl⟩, rfl⟩, hT _ (List.mem_map.mpr ⟨("is_row", none), by simp [tf], rfl⟩)⟩,
     c.t.d.def_ 3 (d := d_is_hall) rfl,
     He.glo_ok X G (c.t.d.fact 3 (f := .glo "is_hall") rfl),
     ⟨List.mem_map.mpr ⟨_, List.mem_map.mpr ⟨("is_hall", none), by simp [tf], rfl⟩, rfl⟩, hT _ (List.mem_map.mpr ⟨("is_hall", none), by simp [tf], rfl⟩)⟩,
     c.t.d.def_ 4 (d := d_check_hall) rfl,
     He.glo_ok X G (c.t.d.fact 4 (f := .glo "check_hall") rfl),
     c.t.d.def_ 5 (d := d_check_counter) rfl,
     He.glo_ok X G (c.t.d.fact 5 (f := .glo "check_counter") rfl),
     c.t.d.def_ 6 (d := d_check_neighbours) rfl,
     He.glo_ok X G (c.t.d.fact 6 (f := .glo "check_neighbours") rfl),
     c.t.d.def_ 7 (d := d_leads) rfl,
     He.glo_ok X G (c.t.d.fact 7 (f := .glo "leads") rfl),
     c.t.d.def_ 8 (d := d_most_moves) rfl,
     He.glo_ok X G (c.t.d.fact 8 (f := .glo "most_moves") rfl),
     c.t.d.def_ 9 (d := d_going_on) rfl,
     He.glo_ok X G (c.t.d.fact 9 (f := .glo "going_on") rfl),
     c.t.d.def_ 10 (d := d_going_back) rfl,
     He.glo_ok X G (c.t.d.fact 10 (f := .glo "going_back") rfl),
     c.t.d.def_ 11 (d := d_carried) rfl,
     He.glo_ok X G (c.t.d.fact 11 (f := .glo "carried") rfl),
     c.t.d.def_ 12 (d := d_moved) rfl,
     He.glo_ok X G (c.t.d.fact 12 (f := .glo "moved") rfl),
     c.t.d.def_ 13 (d := d_move) rfl,
     He.glo_ok X G (c.t.d.fact 13 (f := .glo "move") rfl),
     c.t.d.def_ 14 (d := d_back) rfl,
     He.glo_ok X G (c.t.d.fact 14 (f := .glo "back") rfl),
     c.t.d.def_ 15 (d := d_can_move) rfl,
     He.glo_ok X G (c.t.d.fact 15 (f := .glo "can_move") rfl),
     c.t.d.def_ 16 (d := d__law_cell_at) rfl,
     He.glo_ok X G (c.t.d.fact 16 (f := .glo "_law_cell_at") rfl),
     c.t.d.def_ 17 (d := d__law_bag) rfl,
     He.glo_ok X G (c.t.d.fact 17 (f := .glo "_law_bag") rfl),
     c.t.d.def_ 18 (d := d__law_draw) rfl,
     He.glo_ok X G (c.t.d.fact 18 (f := .glo "_law_draw") rfl),
     c.t.d.def_ 19 (d := d__law_minutes) rfl,
     He.glo_ok X G (c.t.d.fact 19 (f := .glo "_law_minutes") rfl),
     c.t.d.def_ 20 (d := d__law_hall) rfl,
     He.glo_ok X G (c.t.d.fact 20 (f := .glo "_law_hall") rfl),
     c.t.d.def_ 21 (d := d__law_words) rfl,
     He.glo_ok X G (c.t.d.fact 21 (f := .glo "_law_words") rfl),
     c.t.d.def_ 22 (d := d__law_no_hall) rfl,
     He.glo_ok X G (c.t.d.fact 22 (f := .glo "_law_no_hall") rfl),
     c.t.d.def_ 23 (d := d__law_no_number) rfl,
     He.glo_ok X G (c.t.d.fact 23 (f := .glo "_law_no_number") rfl),
     c.t.d.def_ 24 (d := d__law_said) rfl,
     He.glo_ok X G (c.t.d.fact 24 (f := .glo "_law_said") rfl),
     c.t.d.def_ 25 (d := d_law) rfl,
     He.glo_ok X G (c.t.d.fact 25 (f := .glo "law") rfl),
     ⟨He.glo_ok X G (c.t.d.fact 45 (f := .glo "NoHall") rfl), c.t.d.fact 57 (f := .exc "NoHall") rfl⟩,
     ⟨He.glo_ok X G (c.t.d.fact 41 (f := .glo "NoCounter") rfl), c.t.d.fact 58 (f := .exc "NoCounter") rfl⟩,
     ⟨He.glo_ok X G (c.t.d.fact 48 (f := .glo "NoNumber") rfl), c.t.d.fact 59 (f := .exc "NoNumber") rfl⟩,
     He.glo_ok X G (c.t.d.fact 40 (f := .glo "HallError") rfl),
     He.glo_ok X G (c.t.d.fact 41 (f := .glo "NoCounter") rfl),
     He.glo_ok X G (c.t.d.fact 42 (f := .glo "NoCustomer") rfl),
     He.glo_ok X G (c.t.d.fact 43 (f := .glo "NoCustomers") rfl),
     He.glo_ok X G (c.t.d.fact 44 (f := .glo "NoDay") rfl),
     He.glo_ok X G (c.t.d.fact 45 (f := .glo "NoHall") rfl),
     He.glo_ok X G (c.t.d.fact 46 (f := .glo "NoMany") rfl),
     He.glo_ok X G (c.t.d.fact 47 (f := .glo "NoMove") rfl),
     He.glo_ok X G (c.t.d.fact 48 (f := .glo "NoNumber") rfl),
     He.glo_ok X G (c.t.d.fact 49 (f := .glo "NoRoad") rfl),
     He.glo_ok X G (c.t.d.fact 50 (f := .glo "NoRoom") rfl),
     He.glo_ok X G (c.t.d.fact 51 (f := .glo "NoText") rfl),
     He.glo_ok X G (c.t.d.fact 52 (f := .glo "NoTotals") rfl),
     He.glo_ok X G (c.t.d.fact 53 (f := .glo "NoTowers") rfl),
     He.glo_ok X G (c.t.d.fact 54 (f := .glo "NoWay") rfl),
     He.glo_ok X G (c.t.d.fact 55 (f := .glo "TooMany") rfl),
     He.glo_ok X G (c.t.d.fact 56 (f := .glo "Unlike") rfl),
     hasSys_ok (Bool.and_eq_true_iff.mp c.more).2,
     exB_ok (Bool.and_eq_true_iff.mp c.more).1,
     (let ⟨t, e⟩ := He.int_ok X G (c.t.d.fact 39 (f := .int "MOST" 8) rfl); ⟨_, e, t, rfl⟩),
     He.free_ok X G (c.t.d.fact 26 (f := .free "ValueError") rfl),
     He.free_ok X G (c.t.d.fact 27 (f := .free "all") rfl),
     He.free_ok X G (c.t.d.fact 28 (f := .free "int") rfl),
     He.free_ok X G (c.t.d.fact 29 (f := .free "isinstance") rfl),
     He.free_ok X G (c.t.d.fact 30 (f := .free "len") rfl),
     He.free_ok X G (c.t.d.fact 31 (f := .free "max") rfl),
     He.free_ok X G (c.t.d.fact 32 (f := .free "min") rfl),
     He.free_ok X G (c.t.d.fact 33 (f := .free "range") rfl),
     He.free_ok X G (c.t.d.fact 34 (f := .free "repr") rfl),
     He.free_ok X G (c.t.d.fact 35 (f := .free "sum") rfl),
     He.free_ok X G (c.t.d.fact 36 (f := .free "tuple") rfl),
     He.free_ok X G (c.t.d.fact 37 (f := .free "type") rfl),
     He.free_ok X G (c.t.d.fact 38 (f := .free "zip") rfl)⟩
  obtain ⟨fd, F⟩ := c.t.d.def_ 25 (d := d_law) rfl
  have b := FunD.bindsA (ps := ["script"]) F fun _ _ _ _ _ _ us hl => match us, hl with | [_], _ => rfl
  refine ⟨fd, tf.map (He.cT K), f_law, fun p hp => ?_, fun p hp => ?_, fun p hp => ?_, fun s v => b s [v] rfl, pure_law, fun base hK hN hT => ?_⟩
  · obtain ⟨q, hq, rfl⟩ := List.mem_map.mp hp
    exact c.empty q hq
  · obtain ⟨q, hq, rfl⟩ := List.mem_map.mp hp
    exact c.out q hq
  · obtain ⟨q, hq, rfl⟩ := List.mem_map.mp hp
    exact PySem.W.codeHd_of_K X (c.hd q hq)
  · letI : Tabs := ⟨(tf.map (He.cT K)).map (·.2)⟩
    obtain ⟨fd', F', D', _⟩ := ok_law (P := PySem.W.OpenLaw.prog PySem.Challenge.rw_movedminutes_k17_moves_refused) (w := w) (tx base hT)
    have e2 : fd' = fd := fun_one F' F
    rw [← e2]
    exact D'
end K17
open PySem PySem.W PySem.Calls PyProof.Rows
set_option maxRecDepth 100000 in
set_option maxHeartbeats 0 in
theorem PySem.Challenge.cw_movedminutes_k17_moves_refused_holds : PySem.Challenge.rw_movedminutes_k17_moves_refused.Holds := by
  w_on; o_law
  refine HandSHeadRun.head_any (r := OpenLaw.row PySem.Challenge.rw_movedminutes_k17_moves_refused) (q := view (OpenLaw.row PySem.Challenge.rw_movedminutes_k17_moves_refused).prog [47]) (H := K17.hk) (ob := K17.ob) (M := 20000) (loose := K17.loose) (d := HandSHeadRun.topDef (OpenLaw.row PySem.Challenge.rw_movedminutes_k17_moves_refused).prog 47) (kwd := []) K17.ob_eq
    (by kernel_rfl) (fun s => by kernel_rfl) K17.run (by kernel_rfl) (by kernel_rfl) (by kernel_rfl) (by rfl) (by first | assumption | decide +kernel) (by decide +kernel) ⟨rfl, rfl, rfl, rfl, rfl, by decide +kernel⟩ ?hw ?hc
  case hw => w_witness2
  case hc =>
    refine Lf.walk_D (l := PySem.Challenge.rw_movedminutes_k17_moves_refused) (n := 63) (k := 16) (x := "script") rfl (by decide) (by kernel_rfl) ⟨rfl, by decide, by decide⟩ rfl ?F
    intro w mg fa h Y G hmg0
    obtain ⟨K, KX, c⟩ := Y
    have hmg : mg ("law" : PySem.Str) = some (.ref fa) := by
      have e : (HandSHeadRun.topDef (OpenLaw.row PySem.Challenge.rw_movedminutes_k17_moves_refused).prog 47).name = ("law" : PySem.Str) := by kernel_rfl
      rw [← e]
      exact hmg0
    exact ⟨K, KX, K17.facts KX G hmg c⟩
end
