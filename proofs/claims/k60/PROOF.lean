import PyProof.Rows.All
import Wide.All
import OpenK.AllK
import Wide.FinOn
import HandS.ForMost
import HandS.Exc
import HandS.TryOnly
import HandS.ExcOwn
import HandS.WordsExc
import HandS.IsInst
import HandS.Conv
import HandS.Sort
import HandS.SortInts
import HandS.Zip
import HandS.Zip0
import HandS.Wide
import HandS.Deep
import HandS.Flow
import HandS.Style
import HandS.TupAny
import KE.GoesEnum
import KE.KEqSeq
import KE.KEqDeep
import PyProof.TupleOfSeq
import HandS.Lambda
import HandS.Nested
import HandS.EndTab
import KE.KDictDisplayH
import KE.KDictCopyH
import KE.KIndexOf
import HandS.Dict
import HandS.DictTup
import HandS.TupLen
import HandS.Defaults
import HandS.SortRule
import KE.GoesZip
import HandS.ExcIs
import HandS.RaiseMore
import HandS.FStr
import HandS.Property
import KE.KExcSuper
import HandS.ExcInit
import HandS.ExcField
import HandS.TupMul
import PyProof.FString2
import HandS.Strs
import HandS.SetFor
import HandS.SetBool
import HandS.SetIn
import HandS.More
import KE.KDictSum
import KE.KDflt
import HandS.TryMany
import KE.SortKeyHeap
import HandS.SortKw
import HandS.ExcValue
import KE.DataFind
import HandS.Iter
import HandS.TupSets
import KE.KDictPairs
import KE.SortData
import PyProof.Rows.InDataRows
import HandS.DictComp
import PyProof.SetKind
import PyProof.Rows.SetFrom
import PySem.Challenge.RW_restlesshelf_k60_whole_plays
set_option Elab.async false
set_option linter.all false
set_option maxRecDepth 100000
set_option maxHeartbeats 2000000
/-! Two rules more: a walk over enumerate of a tuple, sorted of a tuple of ints. -/
set_option Elab.async false
set_option linter.all false
set_option maxRecDepth 100000
set_option maxHeartbeats 2000000
/-! Lambdas with parameters and captured names, as values: made, handed to a def of the text, called there. -/
namespace RH
open PySem PySem.Spec PyProof.Rows L2
open LamX (Tabs TabS TabB ExtN CodeO codeO_ne inv_table among_app)
open NdefX (NF CellsAt NScope startF ncx inv_startN codeO_at slotAt Caps cells_of upd_none)
/-- a lambda's words, what it captured, its code object -/
structure LF where
  qual : Str
  params : Arguments
  body : Expr
  scope : Scope
  cl : List (Str × Addr)
  c : Addr
abbrev LF.fd (F : LF) (pm ctv : Value) : FuncData := PySem.W.kla_fn "<lambda>" F.qual F.params F.body F.scope F.cl pm (.ref F.c) ctv
/-- the object at f is this lambda -/
def FnL (f : Addr) (F : LF) : HO := .ext fun h => ∃ (od : Option Addr) (sl : Array (Option Value)) (pm ctv : Value), h.get? f = some (⟨.type "function", od, .func (F.fd pm ctv), sl⟩ : Obj)
theorem fnL_ne {f : Addr} {F : LF} (ps : Array Value) : FnL f F ≠ .tbl ps := fun z => by
  unfold FnL at z
  cases z
/-! ### what a lambda promises -/
/-! ### a def that is handed things that can be called -/
end RH
set_option Elab.async false
set_option linter.all false
set_option maxRecDepth 100000
set_option maxHeartbeats 2000000
/-! Dicts with tuples for keys: one pair written out, their values; where an int stands in a tuple. -/
set_option Elab.async false
set_option linter.all false
set_option maxRecDepth 100000
set_option maxHeartbeats 2000000
/-! Tuples told by their very object, and dicts whose keys are such tuples of ints. -/
namespace RH
open PySem PySem.Spec PyProof.Rows L2
def keyOf (s : List Int) : List L2.Key := s.map Sum.inl
theorem keyOf_kV (s : List Int) : (keyOf s).map kV = s.map V.int := by
  unfold keyOf
  rw [List.map_map]
  rfl
theorem mapInt_inj : ∀ {s t : List Int}, s.map V.int = t.map V.int → s = t
  | [], [], _ => rfl
  | [], _ :: _, e => by simp at e
  | _ :: _, [], e => by simp at e
  | a :: s, b :: t, e => by
    rw [List.map_cons, List.map_cons] at e
    injection e with e1 e2
    rw [V.int.inj e1, mapInt_inj e2]
theorem keyOf_inj {s t : List Int} (h : keyOf s = keyOf t) : s = t := by
  have e : (keyOf s).map kV = (keyOf t).map kV := by rw [h]
  rw [keyOf_kV, keyOf_kV] at e
  exact mapInt_inj e
/-- b is a tuple of these ints -/
def KX (H : Hp) (b : Addr) (s : List Int) : Prop := Rd H b (.tup (s.map V.int))
inductive XS : List (List Int × V) → List Addr → List (List L2.Key × Addr × Value) → Prop
  | nil : XS [] [] []
  | cons {q : List Int × V} {b : Addr} {u : Value} {as : List (List Int × V)} {bs : List Addr} {xs : List (List L2.Key × Addr × Value)} : RelV q.2 u → XS as bs xs → XS (q :: as) (b :: bs) ((keyOf q.1, b, u) :: xs)
inductive KB (H : Hp) : List (List Int × V) → List Addr → Prop
  | nil : KB H [] []
  | cons {q : List Int × V} {b : Addr} {as : List (List Int × V)} {bs : List Addr} : KX H b q.1 → KB H as bs → KB H (q :: as) (b :: bs)
theorem KB.imp {H H' : Hp} (f : ∀ b s, KX H b s → KX H' b s) : ∀ {as : List (List Int × V)} {bs : List Addr}, KB H as bs → KB H' as bs
  | _, _, .nil => .nil
  | _, _, .cons g t => .cons (f _ _ g) (t.imp f)
theorem XS.len : ∀ {as : List (List Int × V)} {bs : List Addr} {xs : List (List L2.Key × Addr × Value)}, XS as bs xs → xs.length = as.length
  | _, _, _, .nil => rfl
  | _, _, _, .cons _ t => congrArg (· + 1) t.len
theorem atKey_neg {x : List L2.Key × Addr × Value} {xs : List (List L2.Key × Addr × Value)} {k : List L2.Key} (e : ¬ x.1 = k) : atKey (x :: xs) k = atKey xs k := by simp [atKey, List.find?_cons, e]
theorem XS.no {s : List Int} : ∀ {as : List (List Int × V)} {bs : List Addr} {xs : List (List L2.Key × Addr × Value)}, XS as bs xs → s ∉ as.map Prod.fst → atKey xs (keyOf s) = none
  | _, _, _, .nil, _ => rfl
  | _, _, _, .cons g t, h => (atKey_neg fun e => h (by rw [← keyOf_inj e]; exact List.mem_cons_self ..)).trans (t.no fun z => h (List.mem_cons_of_mem _ z))
/-- the dict at d: as with its values, bs its keys' tuples -/
abbrev DE (P : Program) (w : World) (as : List (List Int × V)) (bs : List Addr) (d : Addr) : HO := .ext fun h => (d == sysModules) = false ∧ as.length ≤ sizeLine ∧ ∃ xs : List (List L2.Key × Addr × Value), XS as bs xs ∧
  ∃ o es ep, h.get? d = some o ∧ o.ExactDict ∧ o.data = .dict es ep ∧ es.toList = xs.map (entryOfKey (tupleKind (mixKind P w))) ∧ (xs.map (·.1)).Nodup
theorem DE.ok {P : Program} {w : World} {H : Hp} {h : Heap} {as : List (List Int × V)} {bs : List Addr} {d : Addr} {xs : List (List L2.Key × Addr × Value)} (hd : (d == sysModules) = false) (hl : as.length ≤ sizeLine) (hx : XS as bs xs) (dd : h.DictOfH (tupleKind (mixKind P w)) d xs) : ObjOk P w H h d (DE P w as bs d) := by
  obtain ⟨o, es, ep, h1, h2, h3, h4, _, h5⟩ := dd
  refine ⟨⟨hd, hl, xs, hx, o, es, ep, h1, h2, h3, h4, h5⟩, ⟨o, h1⟩, fun h1 h2 ⟨a1, a2, xs, a3, o, es, ep, b1, b2⟩ k => ⟨a1, a2, xs, a3, o, es, ep, k _ b1, b2⟩⟩
/-! ### the rules -/
end RH
set_option Elab.async false
set_option linter.all false
set_option maxRecDepth 100000
set_option maxHeartbeats 2000000
/-! Sorted lists of tuples of ints, of any length; more rules for dicts whose keys are such tuples. -/
namespace RH
open PySem PySem.Spec PyProof.Rows L2
open SrtO (Swo Srtd Stb SortableO Cmp lt2)
open TS (TupInts intsOf code Bd lex_ints firsts_of)
/-- each of xs is a tuple of the ints -/
inductive EX (H : Hp) : List V → List (List Int) → Prop
  | nil : EX H [] []
  | cons {b : Addr} {s : List Int} {xs : List V} {ls : List (List Int)} : KX H b s → EX H xs ls → EX H (.ref b :: xs) (s :: ls)
theorem EX.len {H : Hp} : ∀ {xs : List V} {ls : List (List Int)}, EX H xs ls → xs.length = ls.length
  | _, _, .nil => rfl
  | _, _, .cons _ t => congrArg (· + 1) t.len
theorem EX.imp {H H' : Hp} (f : ∀ b s, KX H b s → KX H' b s) : ∀ {xs : List V} {ls : List (List Int)}, EX H xs ls → EX H' xs ls
  | _, _, .nil => .nil
  | _, _, .cons g t => .cons (f _ _ g) (t.imp f)
theorem EX.at {H : Hp} : ∀ {xs : List V} {ls : List (List Int)} {i : Nat} {s : List Int}, EX H xs ls → ls[i]? = some s → ∃ b, xs[i]? = some (V.ref b) ∧ KX H b s
  | _, _, _, _, .nil, e => by simp at e
  | _, _, 0, _, .cons h _, e => by
    cases Option.some.inj e
    exact ⟨_, rfl, h⟩
  | _, _, i + 1, _, .cons _ t, e => t.at (i := i) e
end RH
set_option Elab.async false
set_option linter.all false
set_option maxRecDepth 100000
set_option maxHeartbeats 2000000
namespace RH
open PySem PySem.Spec PyProof.Rows L2
open SrtO (Swo Srtd Stb SortableO Cmp lt2)
open TS (TupInts intsOf code Bd lex_ints firsts_of)
theorem KB.ex {H : Hp} : ∀ {as : List (List Int × V)} {bs : List Addr}, KB H as bs → EX H (bs.map V.ref) (as.map Prod.fst)
  | _, _, .nil => .nil
  | _, _, .cons g t => .cons g t.ex
/-! ### get, in, a new one, [..] = -/
end RH
set_option Elab.async false
set_option linter.all false
set_option maxRecDepth 100000
set_option maxHeartbeats 2000000
/-! Lambdas that a def hands back: the cells that they caught are tracked from then on. -/
namespace RH
open PySem PySem.Spec PyProof.Rows L2
open LamX (Tabs TabS TabB ExtN CodeO codeO_ne)
open NdefX (NF CellsAt NScope startF ncx codeO_at slotAt Caps cells_of)
/-- the cell at c holds v -/
def CellO (c : Addr) (v : V) : HO := .ext fun h => ∃ u, L2.RelV v u ∧ h.IsCell c (some u)
theorem cellO_ne {c : Addr} {v : V} : (∀ y, CellO c v ≠ .own y) ∧ (∀ xs, CellO c v ≠ .tup xs) ∧ (∀ o u, CellO c v ≠ .frz o u) ∧ (∀ ps, CellO c v ≠ .tbl ps) := by
  unfold CellO
  exact ⟨fun _ z => (nomatch z), fun _ z => (nomatch z), fun _ _ z => (nomatch z), fun _ z => (nomatch z)⟩
abbrev CL := List (Addr × V)
/-- f may be called from any place, while it is alive -/
structure CallableA (P : Program) (w : World) (K : PySem.W.Frag) (mg : Str → Option Value) (base : Heap) (CX : CXT) (k : Nat) (f : Addr) (live : Hp → Prop) (sp : Sp) : Prop where
  at_ : ∀ (X : Cx), X.prog = P → X.w = w → X.K = K → X.base = base → ∀ pins σ H' s', Inv X pins σ H' s' → live H' → PySem.W.FnAt f s'.heap
  run : ∀ (X : Cx), X.prog = P → X.w = w → X.K = K → X.mg = mg → X.base = base → Room k X.A → ∀ pins σ H' s' us vs Q E, Inv X pins σ H' s' → live H' → Vals vs us → Passes CX X E → sp vs H' Q E →
    wpAny (model P w) X.A (call (.ref f) us) (EP X pins σ Q) X.xe s'
theorem CallableA.imp {P : Program} {w : World} {K : PySem.W.Frag} {mg : Str → Option Value} {base : Heap} {CX : CXT} {k : Nat} {f : Addr} {live live' : Hp → Prop} {sp sp' : Sp} (C : CallableA P w K mg base CX k f live sp) (hl : ∀ H, live' H → live H) (hs : ∀ vs H Q E, live' H → sp' vs H Q E → sp vs H Q E) :
    CallableA P w K mg base CX k f live' sp' :=
  ⟨fun X e1 e2 e3 e4 pins σ H' s' I l => C.at_ X e1 e2 e3 e4 pins σ H' s' I (hl _ l), fun X e1 e2 e3 e4 e5 hr pins σ H' s' us vs Q E I l r hx q => C.run X e1 e2 e3 e4 e5 hr pins σ H' s' us vs Q E I (hl _ l) r hx (hs _ _ _ _ l q)⟩
/-- without the cells, with them -/
def era (l : CL) (H : Hp) : Hp := fun b => match l.lookup b with
  | some _ => none
  | none => H b
def lay (l : CL) (H : Hp) : Hp := fun b => match l.lookup b with
  | some v => some (CellO b v)
  | none => H b
theorem era_in {l : CL} {H : Hp} {b : Addr} {v : V} (e : l.lookup b = some v) : era l H b = none := by
  unfold era
  rw [e]
theorem era_no {l : CL} {H : Hp} {b : Addr} (e : l.lookup b = none) : era l H b = H b := by
  unfold era
  rw [e]
theorem lay_in {l : CL} {H : Hp} {b : Addr} {v : V} (e : l.lookup b = some v) : lay l H b = some (CellO b v) := by
  unfold lay
  rw [e]
theorem lay_no {l : CL} {H : Hp} {b : Addr} (e : l.lookup b = none) : lay l H b = H b := by
  unfold lay
  rw [e]
/-- the cells stand -/
def Stand (l : CL) (H : Hp) : Prop := ∀ b v, l.lookup b = some v → H b = some (CellO b v)
theorem Stand.ext {l : CL} {H H' : Hp} (s : Stand l H) (e : ExtN H H') : Stand l H' := fun b v q => e b _ (s b v q) cellO_ne.2.2.2
theorem Stand.same {l : CL} {H H' : Hp} (s : Stand l H) (e : Same H H') : Stand l H' := fun b v q => e b _ (s b v q)
theorem Stand.cases {l : CL} {H : Hp} (s : Stand l H) {b : Addr} {o : HO} (e : H b = some o) : (∃ v, l.lookup b = some v ∧ o = CellO b v) ∨ (l.lookup b = none ∧ era l H b = some o) := by
  cases q : l.lookup b with
  | some v => exact .inl ⟨v, rfl, Option.some.inj (e.symm.trans (s b v q))⟩
  | none => exact .inr ⟨rfl, (era_no q).trans e⟩
theorem Stand.tup {l : CL} {H : Hp} (s : Stand l H) {b : Addr} {xs : List V} (e : H b = some (.tup xs)) : era l H b = some (.tup xs) := by
  rcases s.cases e with ⟨v, _, z⟩ | ⟨_, z⟩
  · exact absurd z.symm (cellO_ne.2.1 xs)
  · exact z
theorem Stand.frz {l : CL} {H : Hp} (s : Stand l H) {b : Addr} {o : Obj} {u : HO} (e : H b = some (.frz o u)) : era l H b = some (.frz o u) := by
  rcases s.cases e with ⟨v, _, z⟩ | ⟨_, z⟩
  · exact absurd z.symm (cellO_ne.2.2.1 o u)
  · exact z
/-- the heap with the cells goes on as the one without them does -/
theorem Stand.on {l : CL} {H H2 : Hp} (s : Stand l H) (e : Same (era l H) H2) : Same H (RH.lay l H2) := fun b o q => by
  rcases s.cases q with ⟨v, z, rfl⟩ | ⟨z, y⟩
  · exact lay_in z
  · exact (lay_no z).trans (e b o y)
theorem Stand.hok {P : Program} {w : World} {l : CL} {H : Hp} {h : Heap} (s : Stand l H) (k : HOk P w H h) : HOk P w (era l H) h := fun a o e => by
  cases q : l.lookup a with
  | some v =>
    rw [era_in q] at e
    cases e
  | none =>
    rw [era_no q] at e
    refine (k a o e).stay (fun _ _ _ z => z) (fun b z => ?_) fun b xs z => s.tup z
    rcases s.cases z with ⟨v, _, y⟩ | ⟨_, y⟩
    · exact absurd y.symm (cellO_ne.1 a)
    · exact y
/-- the lambda at f stands, with its code and its cells -/
structure LiveK (f : Addr) (F : LF) (l : CL) (H : Hp) : Prop where
  fn : H f = some (FnL f F)
  code : H F.c = some (CodeO F.c F.qual)
  st : Stand l H
theorem LiveK.same {f : Addr} {F : LF} {l : CL} {H H' : Hp} (k : LiveK f F l H) (e : Same H H') : LiveK f F l H' := ⟨e _ _ k.fn, e _ _ k.code, k.st.same e⟩
theorem LiveK.ext {f : Addr} {F : LF} {l : CL} {H H' : Hp} (k : LiveK f F l H) (e : ExtN H H') : LiveK f F l H' := ⟨e _ _ k.fn (fun ps => fnL_ne ps), e _ _ k.code (fun ps => codeO_ne ps), k.st.ext e⟩
/-! ### a body that ends with a return, its names kept -/
end RH
set_option Elab.async false
set_option linter.all false
set_option maxRecDepth 100000
set_option maxHeartbeats 2000000
/-! A walk over zip of a tuple and a list. -/
set_option Elab.async false
set_option linter.all false
set_option maxRecDepth 100000
set_option maxHeartbeats 2000000
/-! Defs and methods that may raise, lambdas handed back that are called without arguments and may raise, what an except suite asks of its error. -/
set_option Elab.async false
set_option linter.all false
set_option maxRecDepth 100000
set_option maxHeartbeats 4000000
/-! own errors whose __init__ asks super().__init__ first -/
namespace L2
open PySem PySem.Calls PySem.Spec PyProof.Rows PySem.W
open NdefX (NScope NF CellsAt startF ncx envF inv_startN)
end L2
/-! ### isinstance of an error with a dict -/
namespace PySem.W
open PySem PySem.Spec PySem.Calls PyProof.Rows
end PySem.W
namespace L2
open PySem PySem.Spec PyProof.Rows
/-! ### f-strings with None -/
end L2
set_option Elab.async false
set_option linter.all false
set_option maxRecDepth 100000
set_option maxHeartbeats 2000000
/-! Sets of ints, made of a list, of a display, of a comprehension; the tuple of a dict's keys. -/
namespace RH
open PySem PySem.Spec PyProof.Rows L2
/-! ### the tuple of a dict's keys -/
/-! ### a set display of two ints -/
/-! ### set(xs) of a list of ints -/
section
variable {M : Program} {w : World} {A : Around} {E : Value → Shared → Prop} {s : Shared}
/-- what a new set is -/
abbrev bare (w : World) : Obj := { cls := .type "set", dict := none, data := .set #[] 0 (.fresh 0 0 (!w.params.followText "set-order")) }
theorem bare_get (h : Heap) (w : World) : (h.push (bare w)).get? h.objs.size = some (bare w) := Heap.get?_push_size _ rfl
end
end RH
set_option Elab.async false
set_option linter.all false
set_option maxRecDepth 100000
set_option maxHeartbeats 2000000
/-! A set comprehension whose members are ints. -/
set_option Elab.async false
set_option linter.all false
set_option maxRecDepth 100000
set_option maxHeartbeats 2000000
/-! Lambdas with a default, as values that a def of the text calls without arguments, and that may raise. -/
set_option Elab.async false
set_option linter.all false
set_option maxRecDepth 100000
set_option maxHeartbeats 2000000
/-! try with several except clauses, each with a name. -/
namespace RH
open PySem PySem.Spec PyProof.Rows L2
/-- an error of class cls that has come to the try of X, at the heap h -/
structure Caught (X : Cx) (pins : List (Addr × Obj)) (a : Addr) (cls : Value) (d : Option Addr) (σ : L2.St) (H : Hp) (s : Shared) : Prop where
  ex : ∃ (B : Heap) (sI : Shared), Inv X pins σ H sI ∧ (∀ b o, sI.heap.get? b = some o → b ∉ frs X.stack → B.get? b = some o) ∧ sI.heap.UpToSlots s.heap ∧ HandSPX.FlyingZ B (X.env :: X.outer) a (Zc cls d) s.heap ∧ s.os = sI.os ∧ AllBare s.gens
  na : H a = none
section
variable {X : Cx} {pins : List (Addr × Obj)} {a : Addr} {cls : Value} {d : Option Addr} {σ : L2.St} {H : Hp} {s : Shared}
/-- no clause takes it -/
theorem Caught.on {W : WX} {D : Ends} (c : Caught X pins a cls d σ H s) (hs : X.stack = X.env :: X.outer) (hf : X.env.frame = some X.env.locals) (tk : Takes X W) (w : W cls d σ H) : wpAny (model X.prog X.w) X.A (handleBy (.ref a) X.env []) (SP X pins D) X.xe s := by
  obtain ⟨B, sI, I, nb, up, fl, os, ag⟩ := c.ex
  refine wpAny_handleBy_nil ?_
  obtain ⟨_, _, _, oe, vs, T, oT, ts, at_, z, dat, one, _⟩ := id fl
  unfold PySem.passOn
  refine wpAny_bind (wpAny_field at_ dat one ?_)
  rw [if_neg (by simp : ¬ ((Value.ref T == Value.none) = true)), hf]
  have out : wpAny (model X.prog X.w) X.A (setFlight (.ref a) (some X.env.locals)) (fun _ s4 => wpAny (model X.prog X.w) X.A (throw (.ref a) : Sem Flow) (SP X pins D) X.xe s4) X.xe s :=
    HandSPX.setFlight_upZ fl fun h4 hh up4 => wpAny_throw (tk _ _ ⟨a, B, sI, pins, σ, H, cls, d, rfl, I, nb, up.trans up4, .inr (.inr (hs ▸ hh)), c.na, os, ag, w⟩)
  first
    | exact wpAny_bind (wpAny_pure (wpAny_bind out))
    | exact wpAny_bind out
end
/-- a clause: its class, its name's place, its suite's reading -/
abbrev Cls := Value × Nat × (Addr → Value → Option Addr → TS)
end RH
set_option Elab.async false
set_option linter.all false
set_option maxRecDepth 100000
set_option maxHeartbeats 2000000
/-! sorted(range(n), key=f) and sorted(xs, key=f), f a lambda that may see names of the def; tuple.count. -/
namespace RH
open PySem PySem.Spec PyProof.Rows L2
/-! ### keys that stay -/
section
variable {K : PySem.W.Frag} {H H' : Hp}
theorem rdUp (e : Same H H') {b : Addr} {o : HO} (r : Rd H b o) : Rd H' b o := r.elim (fun z => .inl (e _ _ z)) fun ⟨ob, z⟩ => .inr ⟨ob, e _ _ z⟩
theorem keyUp (e : Same H H') {v : V} {d : PyData} (h : Dp K H v d) : Dp K H' v d :=
  Dp.rec (motive_1 := fun v d _ => Dp K H' v d) (motive_2 := fun vs ds _ => DpAll K H' vs ds) .non .bl .int .str (fun hs _ t => .lst (hs.imp_left (rdUp e)) t) (fun hs _ t => .tup (hs.imp_left (rdUp e)) t) .nil (fun _ _ a b => .cons a b) h
end
/-- the keys made so far: for each value a V, and its data -/
inductive KeysOk (K : PySem.W.Frag) (H : Hp) : List Value → List PyData → Prop
  | nil : KeysOk K H [] []
  | cons {u : Value} {us : List Value} {d : PyData} {ds : List PyData} (v : V) : RelV v u → Dp K H v d → KeysOk K H us ds → KeysOk K H (u :: us) (d :: ds)
section
variable {K : PySem.W.Frag} {H H' : Hp} {us : List Value} {ds : List PyData}
theorem KeysOk.up (e : Same H H') (k : KeysOk K H us ds) : KeysOk K H' us ds := by
  induction k with
  | nil => exact .nil
  | cons v r h _ ih => exact .cons v r (keyUp e h) ih
theorem KeysOk.more {u : Value} {d : PyData} {v : V} (k : KeysOk K H us ds) (r : RelV v u) (h : Dp K H v d) : KeysOk K H (us ++ [u]) (ds ++ [d]) := by
  induction k with
  | nil => exact .cons v r h .nil
  | cons v' r' h' _ ih => exact .cons v' r' h' ih
theorem KeysOk.size (k : KeysOk K H us ds) : us.length = ds.length := by
  induction k with
  | nil => rfl
  | cons _ _ _ _ ih => rw [List.length_cons, List.length_cons, ih]
end
/-! ### list.sort(key=f) over a list of our own -/
section
variable {X : Cx} {A : Around} {pins : List (Addr × Obj)} {σ : L2.St} {H : Hp} {a kS f : Addr} {xs : List V} {kd : V → PyData} {e1 : Nat}
/-- while the keys are made: the list is empty, the keys so far are kept beside -/
structure Making (X : Cx) (pins : List (Addr × Obj)) (σ : L2.St) (H : Hp) (a kS : Addr) (e1 : Nat) (ds : List PyData) (H' : Hp) (ks : Array Value) (e : Nat) (s : Shared) : Prop where
  inv : Inv X pins σ H' s
  same : Same H H'
  na : H' a = none
  nk : H' kS = none
  la : s.heap.get? a = some (seqObj "list" #[] e1)
  lk : s.heap.get? kS = some (seqObj "list" ks e)
  ok : KeysOk X.K H' ks.toList ds
theorem Making.push {ds : List PyData} {H' : Hp} {ks : Array Value} {e : Nat} {s : Shared} {w : Value} {v : V} {d : PyData} (M : Making X pins σ H a kS e1 ds H' ks e s) (fk : FpOk X pins H kS) (hka : kS ≠ a) (rv : RelV v w) (dv : Dp X.K H' v d) :
    ∃ e', Making X pins σ H a kS e1 (ds ++ [d]) H' (ks.push w) e' { s with heap := s.heap.update kS (Obj.mapSeq (·.push w)) } := by
  have apart := Heap.SameBut.update s.heap kS (Obj.mapSeq (·.push w))
  refine ⟨_, M.inv.turned (t' := s.toks) (it := kS) (fun b o hb z => (apart.2 b hb).trans z) M.nk fk.2.1 fk.2.2.2.1 fk.2.2.2.2.1 fk.2.2.2.2.2, M.same, M.na, M.nk, (apart.2 a hka.symm).trans M.la, get?_update_seq M.lk (·.push w), ?_⟩
  rw [Array.toList_push]
  exact M.ok.more rv dv
end
/-! ### sorted(.., key=f) -/
/-! ### ranges of one bound, tuple.count -/
end RH
set_option Elab.async false
set_option linter.all false
set_option maxRecDepth 100000
set_option maxHeartbeats 2000000
/-! t[::-1] of a tuple; list(range(a, b, -1)). -/
set_option Elab.async false
set_option linter.all false
set_option maxRecDepth 100000
/-! FiExt: dict(t) of a tuple of pairs that is told by its very object. -/
namespace RH
open PySem PySem.Spec PyProof.Rows L2
section
variable {X : Cx}
/-- pairs at addresses, their keys and values as the machine has them -/
theorem pairs_val {pins : List (Addr × Obj)} {σ : L2.St} {H : Hp} {s : Shared} (I : Inv X pins σ H s) {ps : List Addr} {kvs : List (Key × V)} (h : Paired (fun p kv => SqT X.K H p [kV kv.1, kv.2]) ps kvs) :
    ∃ (prs : List (Key × Value)) (vv : List (Value × Value)), KV kvs prs ∧ prs.length = ps.length ∧ vv.length = ps.length ∧
      ∀ (j : Nat) (k v : Value), vv[j]? = some (k, v) → ∃ (b : Addr) (key : Key), ps[j]? = some b ∧ prs[j]? = some (key, v) ∧ IsTup s.heap b #[k, v] ∧ (mixKind X.prog X.w).is key k = true := by
  induction h with
  | nil => exact ⟨[], [], .nil, rfl, rfl, fun j k v e => by simp at e⟩
  | @cons p kv l₁ l₂ h _ ih =>
    obtain ⟨prs, vv, r, e1, e2, hp⟩ := ih
    obtain ⟨its, rv, ht, _⟩ := I.tuple h
    obtain ⟨u, y, rfl, ru, ry⟩ := vals2 rv
    refine ⟨(kv.1, y) :: prs, (u, y) :: vv, .cons ⟨rfl, ry⟩ r, by rw [List.length_cons, List.length_cons, e1], by rw [List.length_cons, List.length_cons, e2], fun j k v e => ?_⟩
    match j with
    | 0 =>
      cases (Option.some.inj e : (u, y) = (k, v))
      exact ⟨p, kv.1, rfl, rfl, ht, kV_is ru⟩
    | j + 1 =>
      obtain ⟨b, key, h1, h2, h3⟩ := hp j k v (by simpa using e)
      exact ⟨b, key, by simpa using h1, by simpa using h2, h3⟩
/-- dict(t) of a tuple of pairs -/
def rDictT (K : PySem.W.Frag) : List V → Hp → VK → Prop := fun xs H Q => ∃ (a : Addr) (ob : Obj) (ps : List Addr) (kvs : List (Key × V)), xs = [.ref a] ∧ H a = some (.frz ob (.tup (ps.map V.ref))) ∧ ob.dict = none ∧ Paired (fun p kv => SqT K H p [kV kv.1, kv.2]) ps kvs ∧
  ∀ p, H p = none → Q (.ref p) (upd H p (.dK (mergeK [] kvs)))
theorem call_dictT (hc : X.calm = true) : CallR X (.type "dict") (rDictT X.K) := by
  intro pins s σ H xs us Q I r q
  obtain ⟨a, ob, ps, kvs, rfl, hq, hob, hp, q⟩ := q
  obtain ⟨u, rfl, rx⟩ := vals1 r
  cases rx
  obtain ⟨g, z, its, rv, hl⟩ := (show ObjOk X.prog X.w H s.heap a (.frz ob (.tup (ps.map V.ref))) from I.hok a _ hq)
  obtain rfl := refs_at rv
  rw [List.length_map] at z
  obtain ⟨prs, vv, rel, e1, e2, hv⟩ := pairs_val I hp
  have plain : PlainSeq "tuple" s.heap a (ps.map Value.ref).toArray := by
    obtain ⟨o, ho, hc, n, hd⟩ := hl
    have e : o = ob := by
      rw [g] at ho
      exact (Option.some.inj ho).symm
    subst e
    exact ⟨o, n, ho, hc, hob, hd⟩
  have items : PairItems s.heap (ps.map Value.ref).toArray (fun j => ps.getD j a) vv := by
    refine ⟨by simp [e2], fun j k v e => ?_⟩
    obtain ⟨b, key, h1, _, h3, _⟩ := hv j k v e
    have eb : ps.getD j a = b := by rw [List.getD_eq_getElem?_getD, h1]; rfl
    exact ⟨by simp [h1, eb], .inl (by show s.heap.IsTuple (ps.getD j a) _; rw [eb]; exact h3)⟩
  refine PySem.call_dict_pairs (knd := mixKind X.prog X.w) (kvs := prs) (PairArg.tuple a (ps.map Value.ref).toArray (fun j => ps.getD j a) vv) (I.ok.hd hc) ⟨plain, items⟩ ⟨by rw [e1, e2], fun i k v e => ?_⟩ (by rw [e2]; exact z) fun h' tk hd' k => ?_
  · obtain ⟨b, key, _, h2, _, h4⟩ := hv i k v e
    exact ⟨key, h2, h4⟩
  · have away := beq_eq_false_iff_ne.mpr (Nat.ne_of_gt I.big)
    have few : (mergeK [] kvs).length ≤ sizeLine := by
      have h1 := length_mergeK kvs []
      have h2 := rel.length
      rw [List.length_nil] at h1
      omega
    have kept := fun b o e => k b o (fun z => nomatch z) e
    have new : ObjOk X.prog X.w (upd H s.heap.objs.size (.dK (mergeK [] kvs))) h' s.heap.objs.size (.dK (mergeK [] kvs)) := ⟨few, away, merged [] prs, KV.merge rel .nil, hd'⟩
    exact ⟨.ref s.heap.objs.size, _, I.laid (t' := tk) kept (Nat.le_refl _) new, rfl, q _ (I.hok.fresh (Nat.le_refl _))⟩
end
end RH
set_option Elab.async false
set_option linter.all false
set_option maxRecDepth 100000
set_option maxHeartbeats 3200000
/-! Sets that are made of a tuple, whatever the members are; `in` of data; a set of one tuple. -/
namespace RH
open PySem PySem.Spec PyProof.Rows L2
/-! ### a set gathers a tuple's members -/
/-- how a set S grows: Gr i holds behind i members; U bounds how deep it may be asked -/
structure Gathers (M : Program) (w : World) (U : Nat) (h0 : Heap) (S : Addr) (cells : Array Value) (Gr : Nat → Heap → Prop) : Prop where
  keep : ∀ i h h', Gr i h → (∀ o, h.get? S = some o → h'.get? S = some o) → (∀ b o, h0.get? b = some o → h'.get? b = some o) → Gr i h'
  add : ∀ (A : Around) (E : Value → Shared → Prop) i v (s : Shared) (Q : Bool → Shared → Prop), A.units ≤ U → cells[i]? = some v → (∀ b o, h0.get? b = some o → s.heap.get? b = some o) → Gr i s.heap →
    (∀ b h' tk, s.toks ≤ tk → Heap.SameBut S s.heap h' → Gr (i + 1) h' → Q b { s with heap := h', toks := tk }) → wpAny (model M w) A (setAdd S v) Q E s
section
variable {M : Program} {w : World} {A : Around} {U : Nat} {h0 : Heap} {S : Addr} {cells : Array Value} {Gr : Nat → Heap → Prop}
theorem gather_loop {I : Addr} {fp wr : List Addr} {G : Array GenState → Array GenState → Prop} {Pv : Nat → Value → Prop} {Wt : Nat → Shared → Prop} {R : Result → Shared → Prop} (W : WalksS M w A.in1 I fp wr G cells.size Pv Wt) (apart : S ∉ fp)
    (vals : ∀ i v, Pv i v → cells[i]? = some v) (g : Gathers M w U h0 S cells Gr) (newS : h0.get? S = none) (newW : ∀ b ∈ wr, h0.get? b = none) (deep : A.in1.units ≤ U) :
    ∀ (m i : Nat) (s : Shared), m + i = cells.size → Wt i s → (∀ b o, h0.get? b = some o → s.heap.get? b = some o) → Gr i s.heap →
      (∀ s', Moved (S :: wr) G s s' → Gr cells.size s'.heap → (∀ b o, h0.get? b = some o → s'.heap.get? b = some o) → R (.ok (.ret .none)) s') → codeAny (model M w) A (.builtin "set.update.loop" ⟨[.ref S, .ref I], []⟩) R s := by
  have apartW : S ∉ wr := fun z => apart (W.sub _ z)
  have wider : ∀ b ∈ wr, b ∈ S :: wr := fun b z => List.mem_cons_of_mem _ z
  have old : ∀ {s s' : Shared}, Moved wr G s s' → (∀ b o, h0.get? b = some o → s.heap.get? b = some o) → ∀ b o, h0.get? b = some o → s'.heap.get? b = some o := fun mv k b o e => by
    refine mv.heap b o (fun z => ?_) (k b o e)
    have := newW b z
    rw [e] at this
    cases this
  intro m
  induction m with
  | zero =>
    intro i s ei st k gr fin
    obtain rfl : i = cells.size := by omega
    refine codeAny_builtin F.entry_set_update_loop ?_
    rw [Around.under_plainId F.plain_set_update_loop _]
    refine wpAny_bind (W.done s _ _ st fun s' mv => ?_)
    have k2 := old mv k
    exact wpAny_pure (fin s' (mv.mono wider) (g.keep _ _ _ gr (fun o e => mv.heap S o apartW e) k2) k2)
  | succ m ih =>
    intro i s ei st k gr fin
    refine codeAny_builtin F.entry_set_update_loop ?_
    rw [Around.under_plainId F.plain_set_update_loop _]
    refine wpAny_bind (W.item i s _ _ (by omega) st fun v s1 pv st1 mv => ?_)
    have k1 := old mv k
    have gr1 := g.keep _ _ _ gr (fun o e => mv.heap S o apartW e) k1
    refine wpAny_bind (wpAny_holding (g.add _ _ i v s1 _ deep (vals i v pv) k1 gr1 fun b h2 tk le sb gr2 => ?_))
    have k2 : ∀ b o, h0.get? b = some o → h2.get? b = some o := fun b o e => by
      rw [sb.2 b (fun z => by rw [z, newS] at e; cases e)]
      exact k1 b o e
    refine wpAny_pure ⟨plainId_quiet F.plain_set_update_loop _, ih (i + 1) _ (by omega) (W.frame _ s1 _ _ st1 le fun b hb o e => ?_) k2 gr2 fun s3 mv3 gr3 k3 => ?_⟩
    · rw [sb.2 b (fun z : b = S => apart (by rw [← z]; exact hb))]
      exact e
    · refine fin s3 (Moved.trans W.gtrans ((mv.mono wider).then_heap le fun b o hb e => ?_) mv3) gr3 k3
      rw [sb.2 b (fun z : b = S => hb (by rw [z]; exact List.mem_cons_self))]
      exact e
theorem tup_no_set : isSubtype (.type "tuple") (.type "set") = pure false := by rw [isSubtype_type]; kernel_rfl
theorem tup_no_frozen : isSubtype (.type "tuple") (.type "frozenset") = pure false := by rw [isSubtype_type]; kernel_rfl
end
section
variable {M : Program} {w : World} {A : Around} {E : Value → Shared → Prop} {s : Shared} {U : Nat} {cells : Array Value} {Gr : Nat → Heap → Prop}
/-- set(t) of a tuple t -/
theorem setT_call {l : Addr} {Q : Value → Shared → Prop} (free : A.handled = none) (isl : s.heap.IsTuple l cells) (g : Gathers M w U s.heap s.heap.objs.size cells Gr) (deep : A.units + 5 ≤ U)
    (start : ∀ h, h.get? s.heap.objs.size = some (bare w) → (∀ b o, s.heap.get? b = some o → h.get? b = some o) → Gr 0 h)
    (fin : ∀ (h2 : Heap) (k2 : Nat), Gr cells.size h2 → (∀ b o, s.heap.get? b = some o → h2.get? b = some o) → Q (.ref s.heap.objs.size) { s with heap := h2, toks := k2 }) :
    wpAny (model M w) A (call (.type "set") [.ref l]) Q E s := by
  obtain ⟨c, tl, hmro⟩ := F.called_set.mro
  have y1 := F.called_set.made
  have y2 := F.called_set.sub
  refine wpAny_call (codeAny_of_tree (wpAny_pure ⟨Code.quiet_builtin _ (by decide +kernel), codeAny_builtin F.entry_type_call ?_⟩))
  rw [Around.under_plain (weight_type_call_type "set" [.ref l] []) rfl]
  have y3 := F.called_set.notType
  have y4 := F.called_set.canCreate
  have y5 := F.typeCall_set_1 (.ref l)
  repeat (any_goals (first | assumption | wp_step))
  refine codeAny_mono (code_set_led1 (.ref l) (E := E) (Q₁ := fun obj s1 => obj = .ref s.heap.objs.size ∧ s1 = { s with heap := s.heap.push (bare w) }) ⟨rfl, rfl⟩) fun r s1 got => ?_
  cases r with
  | error e => exact got
  | ok fl =>
    cases fl with
    | ret obj =>
      obtain ⟨rfl, rfl⟩ := got
      have there := bare_get s.heap w
      have kind : Shared.TypeIs { s with heap := s.heap.push (bare w) } (.ref s.heap.objs.size) "set" := ⟨_, there, rfl⟩
      have y6 := F.called_set.init.lookup
      have y7 := F.called_set.init.bind (.ref s.heap.objs.size)
      repeat (any_goals (first | assumption | wp_step))
      refine codeAny_mono (codeAny_call_builtin (R := wants (fun r s2 => r = .none ∧ ∃ h2 k2, s2 = { s with heap := h2, toks := k2 } ∧ Gr cells.size h2 ∧ (∀ b o, s.heap.get? b = some o → h2.get? b = some o)) E)
        F.called_set.init.plain F.entry_set_init (check_set_init_1 kind ?_)) fun r2 s2 got2 => ?_
      · obtain ⟨⟨ocls, odict, odata, oslots⟩, hol, hcl, nl, hdl⟩ := isl
        simp only at hcl hdl
        subst hcl; subst hdl
        have hol2 : (s.heap.push (bare w)).get? l = some { cls := .type "tuple", dict := odict, data := .seq cells nl, slots := oslots } := Heap.get?_push_of_some _ hol
        have y8 := tup_no_set
        have y9 := tup_no_frozen
        have y10 : (Value.type "tuple" == Value.type "dict") = false := by decide
        have isl2 : (s.heap.push (bare w)).IsTuple l cells := ⟨_, hol2, rfl, nl, rfl⟩
        unfold Builtin.«set.__init__» noKeywords Builtin.Frozenset.updateFrom
        generalize hPI : pyIter = PI
        wp_walk
        subst hPI
        refine wpAny_pyIter_tuple isl2 (wpAny_bind (wpAny_runValue ?_))
        have below : l < s.heap.objs.size := Heap.lt_size hol
        have free3 : A.in1.in1.in1.handled = none := by simp [free]
        have other : l ≠ (s.heap.push (bare w)).objs.size := fun z => by
          rw [Heap.size_push] at z
          exact absurd z (Nat.ne_of_lt (Nat.lt_succ_of_lt below))
        have apart : s.heap.objs.size ∉ [(s.heap.push (bare w)).objs.size, l] := by
          rw [Heap.size_push, List.mem_cons, List.mem_singleton]
          exact fun z => z.elim (fun z => Nat.lt_irrefl _ (Nat.lt_of_lt_of_eq (Nat.lt_succ_self _) z.symm)) fun z => Nat.lt_irrefl _ (Nat.lt_of_lt_of_eq below z)
        have fresh : ∀ b, s.heap.objs.size ≤ b → s.heap.get? b = none := fun b le => by
          cases q : s.heap.get? b with
          | none => rfl
          | some o => exact absurd (Heap.lt_size q) (Nat.not_lt.mpr le)
        refine gather_loop ((Walks.tuple free3 _ l other cells).toS) apart (fun i v e => e) g (fresh _ (Nat.le_refl _)) (fun b hb => fresh b (by rw [List.mem_singleton.mp hb, Heap.size_push]; exact Nat.le_succ _)) ?deep cells.size 0 _ rfl
          ⟨⟨_, Heap.get?_push_size _ rfl, rfl, rfl⟩, isl2.push _⟩ (fun b o e => Heap.get?_push_of_some _ (Heap.get?_push_of_some _ e)) ?begin fun s3 mv gr k => ?_
        case deep => exact Nat.le_trans (Nat.add_le_add_left (by decide : 3 ≤ 5) _) deep
        case begin => exact start _ (Heap.get?_push_of_some _ there) fun b o e => Heap.get?_push_of_some _ (Heap.get?_push_of_some _ e)
        obtain ⟨h3, g3, d3, k3, o3⟩ := s3
        obtain rfl : g3 = s.gens := mv.gens
        obtain rfl : d3 = s.drawn := mv.drawn
        obtain rfl : o3 = s.os := mv.os
        exact wpAny_pure (wpAny_pure ⟨rfl, h3, k3, rfl, gr, k⟩)
      · cases r2 with
        | error e => exact got2
        | ok fl2 =>
          cases fl2 with
          | ret r =>
            obtain ⟨rfl, h2, k2, rfl, gr, keep⟩ := got2
            repeat (any_goals (first | assumption | wp_step))
            exact fin _ _ gr keep
          | _ => exact got2.elim
    | _ => exact got.elim
end
/-! ### tuples of ints -/
/-! ### a set of one tuple of numbers and truth values -/
end RH
set_option Elab.async false
set_option linter.all false
set_option maxRecDepth 100000
set_option maxHeartbeats 2000000
/-! PlExt: written tuples and sums of tuples told by their very objects; how many different texts a tuple holds; {k: v for ..}; a dict of the module, asked by .get. -/
namespace RH
open PySem PySem.Spec PyProof.Rows L2 HT
section
variable {X : Cx}
/-! ### tuples told by their objects -/
def tTupF (t : TA) : TE := fun σ H Q => t σ H fun vs H1 => vs.length ≤ sizeLine ∧ ∀ p ob, H1 p = none → ob.dict = none → Q (.ref p) (upd H1 p (.frz ob (.tup vs)))
theorem pe_tupF {es : List Expr} {t : TA} {cx : Nat} {pos : Pos} (parts : PA X es t) : PE X (.Tuple es cx pos) (tTupF t) := by
  refine ⟨fun pins s σ H Q I told => ?_⟩
  refine wpAny_Tuple_spliced (thn (parts.run pos pins s σ H _ I told) fun us sh ⟨vs, Hn, In, rel, few, fin⟩ => ⟨rel.length ▸ few, ?_⟩)
  have got : (sh.heap.push { cls := .type "tuple", data := .seq us.toArray }).get? sh.heap.objs.size = some { cls := .type "tuple", data := .seq us.toArray } := Heap.get?_push_size _ rfl
  have In2 : Inv X pins σ (upd Hn sh.heap.objs.size (.frz { cls := .type "tuple", data := .seq us.toArray } (.tup vs))) { sh with heap := sh.heap.push { cls := .type "tuple", data := .seq us.toArray } } :=
    In.laid (t' := sh.toks) (fun b o e => Heap.get?_push_of_some _ e) (Nat.le_refl _) ⟨got, few, us, rel, ⟨_, got, rfl, _, rfl⟩⟩
  exact ⟨.ref sh.heap.objs.size, _, In2, rfl, fin _ _ (In.hok.fresh (Nat.le_refl _)) rfl⟩
def rCatO (K : PySem.W.Frag) : R2 := fun x y H Q => ∃ (a b : Addr) (xs ys : List V), x = .ref a ∧ y = .ref b ∧ SqT K H a xs ∧ SqT K H b ys ∧ xs.length + ys.length ≤ sizeLine ∧ (xs = [] → Q (.ref b) H) ∧ (xs ≠ [] → ys = [] → Q (.ref a) H) ∧
  (xs ≠ [] → ys ≠ [] → ∀ p ob, H p = none → ob.dict = none → Q (.ref p) (upd H p (.frz ob (.tup (xs ++ ys)))))
theorem op_catO : OpR X (binaryOp .Add) (rCatO X.K) := by
  intro pins s σ H x y v u Q I rx ry told
  obtain ⟨a, b, xs, ys, rfl, rfl, ha, hb, few, q0, q1, q2⟩ := told
  cases rx
  cases ry
  obtain ⟨vs, rv, tv, _⟩ := I.tuple ha
  obtain ⟨ws, rw', tw, _⟩ := I.tuple hb
  by_cases nx : xs = []
  · subst nx
    cases rv
    exact cat_tup0 tv tw ⟨.ref b, H, I, rfl, q0 rfl⟩
  refine HT.cat_tup tv tw (fun z => nx (rv.nil_iff.mp z)) (fun z => ⟨.ref a, H, I, rfl, q1 nx (rw'.nil_iff.mp z)⟩) (fun z => ?_) (by rw [← rv.length, ← rw'.length]; exact few)
  have got : (s.heap.push { cls := .type "tuple", data := .seq (vs ++ ws).toArray }).get? s.heap.objs.size = some { cls := .type "tuple", data := .seq (vs ++ ws).toArray } := Heap.get?_push_size _ rfl
  have I2 : Inv X pins σ (upd H s.heap.objs.size (.frz { cls := .type "tuple", data := .seq (vs ++ ws).toArray } (.tup (xs ++ ys)))) { s with heap := s.heap.push { cls := .type "tuple", data := .seq (vs ++ ws).toArray } } :=
    I.laid (t' := s.toks) (fun b o q => Heap.get?_push_of_some _ q) (Nat.le_refl _) ⟨got, by rw [List.length_append]; exact few, _, rv.append rw', IsTup.new _ _⟩
  exact ⟨.ref s.heap.objs.size, _, I2, rfl, q2 nx (fun w => z (rw'.nil_iff.mpr w)) _ _ (I.hok.fresh (Nat.le_refl _)) rfl⟩
/-! ### different texts in a tuple -/
theorem strs_vals : ∀ {ys : List Str} {us : List Value}, Vals (ys.map V.str) us → ∀ (i : Nat) (u : Value), us[i]? = some u → ∃ z t, ys[i]? = some z ∧ u = .str z t
  | [], _, r, i, u, e => by
    cases r
    simp at e
  | y :: ys, _, .cons r t, 0, u, e => by
    obtain ⟨k, rfl⟩ := r
    cases e
    exact ⟨y, k, rfl, rfl⟩
  | y :: ys, _, .cons _ t, i + 1, u, e => strs_vals t i u e
theorem gathers_strs {M : Program} {w : World} {U : Nat} {h0 : Heap} {S : Addr} {cells : Array Value} (xs : List Str) (nd : xs.Nodup) (mem : ∀ (i : Nat) (u : Value), cells[i]? = some u → ∃ z t, xs[i]? = some z ∧ u = .str z t) (few : xs.length < 64) :
    Gathers M w U h0 S cells fun i h => h.SetOf (strKind M w) S (fun k => decide (k ∈ xs.take i)) i where
  keep := fun i h h' ⟨o, es, ep, tb, ho, rest⟩ kS k => ⟨o, es, ep, tb, kS _ ho, rest⟩
  add := fun A E i v s Q du hv k R fin => by
    obtain ⟨z, t, hz, rfl⟩ := mem i v hv
    have li := (List.getElem?_eq_some_iff.mp hz).1
    unfold setAdd
    refine wpAny_holding (wpAny_bind ((strKind M w).pyHash (k := z) (strKind_is _ _ _ _) ?_))
    refine wpAny_setAddHashed_of (knd := strKind M w) (s := { s with toks := s.toks + 1 }) (strKind_is _ _ _ _) rfl R (by unfold scanBound; omega) fun h2 sb R2 => ?_
    have fresh : decide (z ∈ xs.take i) = false := by
      rw [decide_eq_false_iff_not]
      intro hm
      obtain ⟨j, hj, e⟩ := List.mem_iff_getElem.mp hm
      rw [List.getElem_take] at e
      rw [List.length_take] at hj
      have e2 : xs[i] = z := (List.getElem?_eq_some_iff.mp hz).2
      have := (List.getElem_inj nd).mp (e.trans e2.symm)
      omega
    have more : h2.SetOf (strKind M w) S (fun k => decide (k ∈ xs.take (i + 1))) (i + 1) := by
      refine SetOf_congr R2 (fun k => ?_) (by rw [fresh]; rfl)
      rw [List.take_add_one, hz]
      simp [List.mem_append, Bool.decide_or]
    exact fin _ h2 _ (Nat.le_add_right _ _) sb more
def tDiff (K : PySem.W.Frag) (ta : TE) : TE := fun σ H Q => ta σ H fun x H1 => ∃ (l : Addr) (xs : List Str), x = .ref l ∧ SqT K H1 l (xs.map V.str) ∧ xs.Nodup ∧ xs.length < 64 ∧ Q (.int xs.length) H1
theorem pe_diff {a : Expr} {ta : TE} {p p2 q pos : Pos} (calm : X.calm = true) (deep : X.A.units + 64 < cLine) (g1 : Gl X "len") (n1 : X.mg "len" = none) (g2 : Gl X "set") (n2 : X.mg "set" = none) (ha : PE X a ta)
    (na : starEach [a] X.env = (false, eval a X.env) :: starEach [] X.env := by rfl) : PE X (.Call (.Name "len" p) [.Call (.Name "set" p2) [a] [] q] [] pos) (tDiff X.K ta) := by
  refine ⟨fun pins s σ H Q I told => ?_⟩
  refine Call_ (ld_blt I g1 n1 boot_len (PyProof.Rows.callWith_builtin1 (PyProof.Rows.args_cons ?_ rfl) rfl rfl))
  refine Call_ (ld_blt I g2 n2 boot_set (PyProof.Rows.callWith_type1 (PyProof.Rows.args_cons (thn (ha.run pins s σ H _ I told) fun v sh ⟨x, Hn, In, rel, fin⟩ => PyProof.Rows.args_nil ?_) na) na rfl))
  obtain ⟨l, xs, rfl, hl, nd, few, fin⟩ := fin
  cases rel
  obtain ⟨us, ru, tu, _⟩ := In.tuple hl
  have lu : us.length = xs.length := by rw [← ru.length, List.length_map]
  refine setT_call (U := X.A.units + 5) (In.ok.hd calm) tu (gathers_strs xs nd (fun i u e => strs_vals ru i u (by simpa using e)) few) (Nat.le_refl _) (fun h e _ => ?_) fun h2 k2 R keep => ?_
  · exact ⟨_, #[], 0, _, e, ⟨rfl, rfl, rfl⟩, rfl, fun e he => by simp at he, fun k => by simp, by decide, by rfl, rfl⟩
  · obtain ⟨o, es, ep, tb, ho, hex, hd, _, _, _, hf, hn⟩ := R
    have ln : (us.toArray).size = xs.length := by rw [List.size_toArray, lu]
    rw [ln] at hn
    have Ik : Inv X pins σ Hn { sh with heap := h2, toks := k2 } := In.kept keep
    refine PyProof.Rows.args_nil (call_len_set ho hex hd hf (by rw [hn]; omega) ⟨.int xs.length, Hn, Ik.tok _, ⟨_, by rw [hn]⟩, fin⟩)
end
/-! ### a dict of the module, asked by .get -/
/-- what stands at a, for good: a dict of these keys and values -/
def KDict (P : Program) (w : World) (K : PySem.W.Frag) (a : Addr) (kvs : List (Key × V)) : Prop := (a == sysModules) = false ∧ ∃ o, K.lookup a = some o ∧ ∀ h : Heap, h.get? a = some o → ∃ vs, KV kvs vs ∧ h.DictOf (mixKind P w) a vs
section
variable {X : Cx} {o e : Expr} {apos cpos : Pos} {td ty : TE}
def tKGet (P : Program) (w : World) (K : PySem.W.Frag) (td ty : TE) : TE := fun σ H Q => td σ H fun x H1 => ∃ a kvs, x = .ref a ∧ KDict P w K a kvs ∧ ty σ H1 fun y H2 => ∃ k, y = kV k ∧ Q ((valV kvs k).getD .non) H2
theorem pe_kget (ho : PE X o td) (he : PE X e ty) (m : M1 X o "get" apos e cpos) : PE X (.Call (.Attribute o "get" apos) [e] [] cpos) (tKGet X.prog X.w X.K td ty) := by
  refine ⟨fun pins s σ H Q I told => ?_⟩
  refine wpAny_Call_method m.base m.few m.line PySem.F.plainAttrs_dict PySem.F.slot_dict_get PySem.F.type_dict_get (thn (ho.run pins s σ H _ I told) fun u sh ⟨x, Hn, In, rx, a, kvs, ex, KD, more⟩ => ?_)
  subst ex
  obtain rfl : u = Value.ref a := rx
  obtain ⟨hd, ob, hk, dd⟩ := KD
  obtain ⟨vs, _, da⟩ := dd _ (In.kIn a ob hk)
  refine ⟨da.typeIs, fun b q => ?_, ?_⟩
  · cases q
    obtain ⟨ob, _, _, h1, h2, _⟩ := da
    exact ⟨ob, h1, h2.2.1⟩
  rw [m.trees]
  refine Calls.callWith_builtin rfl (Calls.evalArgs_plain (Calls.spliced_cons (thn (he.run pins sh σ Hn _ In more) fun iv s2 ⟨y, H2, I2, ry, k, ey, fin⟩ => Calls.spliced_nil ?_)))
  subst ey
  obtain ⟨ws, rel, db⟩ := dd _ (I2.kIn a ob hk)
  exact call_meetsIn PySem.F.slot_dict_get db.typeIs PySem.F.entry_dict_get (PySem.F.args_dict_get_2 _ _) (meets_dict_get (mixKind X.prog X.w) a (kV_is ry) hd) ⟨_, db.mapOf, (valV kvs k).getD .non, H2, I2.tok _, (rel.val k).getD (show RelV V.non Value.none from rfl), fin⟩
end
end RH
set_option Elab.async false
set_option linter.all false
set_option maxRecDepth 100000
set_option maxHeartbeats 2000000
namespace RH
open PySem PySem.Spec PyProof.Rows L2
def topS (i : Nat) : Stmt := PySem.Challenge.pw_restlesshelf_k60_whole_plays.main.body.getD i (.Pass ⟨0, 0, 0, 0⟩)
abbrev st_is_integer : Stmt := topS 8
theorem sc_is_integer : FnScope ["value"] ["value"] (defScope st_is_integer) :=
  ⟨rfl, rfl, rfl, by decide +kernel, rfl, by decide +kernel, by decide +kernel⟩
abbrev st_is_number : Stmt := topS 9
theorem sc_is_number : FnScope ["value", "low", "high"] ["value", "low", "high"] (defScope st_is_number) :=
  ⟨rfl, rfl, rfl, by decide +kernel, rfl, by decide +kernel, by decide +kernel⟩
abbrev st_is_row : Stmt := topS 10
theorem sc_is_row : FnScope ["value", "low", "high"] ["value", "low", "high"] (defScope st_is_row) :=
  ⟨rfl, rfl, rfl, by decide +kernel, rfl, by decide +kernel, by decide +kernel⟩
abbrev st_check_number : Stmt := topS 11
theorem sc_check_number : FnScope ["value", "low", "high"] ["value", "low", "high"] (defScope st_check_number) :=
  ⟨rfl, rfl, rfl, by decide +kernel, rfl, by decide +kernel, by decide +kernel⟩
abbrev st_check_inputs : Stmt := topS 12
theorem sc_check_inputs : FnScope ["inputs", "number"] ["inputs"] (defScope st_check_inputs) :=
  ⟨rfl, rfl, rfl, by decide +kernel, rfl, by decide +kernel, by decide +kernel⟩
abbrev st_check_block_program : Stmt := topS 29
theorem sc_check_block_program : FnScope ["program"] ["program"] (defScope st_check_block_program) :=
  ⟨rfl, rfl, rfl, by decide +kernel, rfl, by decide +kernel, by decide +kernel⟩
abbrev st_is_block_program : Stmt := topS 30
theorem sc_is_block_program : FnScope ["value", "names", "procedures", "block", "before", "left", "procedure"] ["value"] (defScope st_is_block_program) :=
  ⟨rfl, rfl, rfl, by decide +kernel, rfl, by decide +kernel, by decide +kernel⟩
abbrev st_is_free_word : Stmt := topS 31
theorem sc_is_free_word : FnScope ["value", "letter"] ["value"] (defScope st_is_free_word) :=
  ⟨rfl, rfl, rfl, by decide +kernel, rfl, by decide +kernel, by decide +kernel⟩
abbrev st_are_names : Stmt := topS 32
theorem sc_are_names : FnScope ["value", "name"] ["value"] (defScope st_are_names) :=
  ⟨rfl, rfl, rfl, by decide +kernel, rfl, by decide +kernel, by decide +kernel⟩
abbrev st_are_unlike : Stmt := topS 33
theorem sc_are_unlike : FnScope ["words"] ["words"] (defScope st_are_unlike) :=
  ⟨rfl, rfl, rfl, by decide +kernel, rfl, by decide +kernel, by decide +kernel⟩
abbrev st_is_term : Stmt := topS 34
theorem sc_is_term : FnScope ["value", "names"] ["value", "names"] (defScope st_is_term) :=
  ⟨rfl, rfl, rfl, by decide +kernel, rfl, by decide +kernel, by decide +kernel⟩
abbrev st_is_sum : Stmt := topS 35
theorem sc_is_sum : FnScope ["value", "names"] ["value", "names"] (defScope st_is_sum) :=
  ⟨rfl, rfl, rfl, by decide +kernel, rfl, by decide +kernel, by decide +kernel⟩
abbrev st_terms_in : Stmt := topS 36
theorem sc_terms_in : FnScope ["value", "names", "most", "first", "second"] ["value", "names", "most"] (defScope st_terms_in) :=
  ⟨rfl, rfl, rfl, by decide +kernel, rfl, by decide +kernel, by decide +kernel⟩
abbrev st_is_test : Stmt := topS 37
theorem sc_is_test : FnScope ["value", "names"] ["value", "names"] (defScope st_is_test) :=
  ⟨rfl, rfl, rfl, by decide +kernel, rfl, by decide +kernel, by decide +kernel⟩
abbrev st_is_part : Stmt := topS 38
theorem sc_is_part : FnScope ["value", "names", "before", "word"] ["value", "names", "before"] (defScope st_is_part) :=
  ⟨rfl, rfl, rfl, by decide +kernel, rfl, by decide +kernel, by decide +kernel⟩
abbrev st_blocks_in : Stmt := topS 39
theorem sc_blocks_in : FnScope ["part"] ["part"] (defScope st_blocks_in) :=
  ⟨rfl, rfl, rfl, by decide +kernel, rfl, by decide +kernel, by decide +kernel⟩
abbrev st_left_behind_block : Stmt := topS 40
theorem sc_left_behind_block : FnScope ["value", "deep", "names", "before", "left", "part", "block"] ["value", "deep", "names", "before", "left"] (defScope st_left_behind_block) :=
  ⟨rfl, rfl, rfl, by decide +kernel, rfl, by decide +kernel, by decide +kernel⟩
abbrev st_m___init__ : Stmt := inClass (topS 43) 0
theorem sc_m___init__ : FnScope ["self", "program", "inputs", "most", "names", "procedures", "_", "name"] ["self", "program", "inputs", "most"] (defScope st_m___init__) :=
  ⟨rfl, rfl, rfl, by decide +kernel, rfl, by decide +kernel, by decide +kernel⟩
abbrev st_m_may_do : Stmt := inClass (topS 43) 1
theorem sc_m_may_do : FnScope ["self"] ["self"] (defScope st_m_may_do) :=
  ⟨rfl, rfl, rfl, by decide +kernel, rfl, by decide +kernel, by decide +kernel⟩
abbrev st_m_do_block : Stmt := inClass (topS 43) 2
theorem sc_m_do_block : FnScope ["self", "block", "part"] ["self", "block"] (defScope st_m_do_block) :=
  ⟨rfl, rfl, rfl, by decide +kernel, rfl, by decide +kernel, by decide +kernel⟩
abbrev st_m_do_part : Stmt := inClass (topS 43) 3
theorem sc_m_do_part : FnScope ["self", "part", "word"] ["self", "part"] (defScope st_m_do_part) :=
  ⟨rfl, rfl, rfl, by decide +kernel, rfl, by decide +kernel, by decide +kernel⟩
abbrev st_m_do_while : Stmt := inClass (topS 43) 4
theorem sc_m_do_while : FnScope ["self", "part"] ["self", "part"] (defScope st_m_do_while) :=
  ⟨rfl, rfl, rfl, by decide +kernel, rfl, by decide +kernel, by decide +kernel⟩
abbrev st_m_do_rounds : Stmt := inClass (topS 43) 5
theorem sc_m_do_rounds : FnScope ["self", "many", "block", "_"] ["self", "many", "block"] (defScope st_m_do_rounds) :=
  ⟨rfl, rfl, rfl, by decide +kernel, rfl, by decide +kernel, by decide +kernel⟩
abbrev st_m_holds : Stmt := inClass (topS 43) 6
theorem sc_m_holds : FnScope ["self", "test"] ["self", "test"] (defScope st_m_holds) :=
  ⟨rfl, rfl, rfl, by decide +kernel, rfl, by decide +kernel, by decide +kernel⟩
abbrev st_m_worth : Stmt := inClass (topS 43) 7
theorem sc_m_worth : FnScope ["self", "value", "first", "second"] ["self", "value"] (defScope st_m_worth) :=
  ⟨rfl, rfl, rfl, by decide +kernel, rfl, by decide +kernel, by decide +kernel⟩
abbrev st_m_next_input : Stmt := inClass (topS 43) 8
theorem sc_m_next_input : FnScope ["self"] ["self"] (defScope st_m_next_input) :=
  ⟨rfl, rfl, rfl, by decide +kernel, rfl, by decide +kernel, by decide +kernel⟩
abbrev st_play : Stmt := topS 44
theorem sc_play : FnScope ["program", "inputs", "most", "player"] ["program", "inputs", "most"] (defScope st_play) :=
  ⟨rfl, rfl, rfl, by decide +kernel, rfl, by decide +kernel, by decide +kernel⟩
abbrev st__law_taken : Stmt := topS 46
theorem sc__law_taken : FnScope ["row", "many", "found", "cell"] ["row", "many"] (defScope st__law_taken) :=
  ⟨rfl, rfl, rfl, by decide +kernel, rfl, by decide +kernel, by decide +kernel⟩
abbrev st__law_pick : Stmt := topS 47
theorem sc__law_pick : FnScope ["row", "things"] ["row", "things"] (defScope st__law_pick) :=
  ⟨rfl, rfl, rfl, by decide +kernel, rfl, by decide +kernel, by decide +kernel⟩
abbrev st__law_sum : Stmt := topS 48
theorem sc__law_sum : FnScope ["row", "names", "deep", "way"] ["row", "names", "deep"] (defScope st__law_sum) :=
  ⟨rfl, rfl, rfl, by decide +kernel, rfl, by decide +kernel, by decide +kernel⟩
abbrev st__law_block : Stmt := topS 49
theorem sc__law_block : FnScope ["row", "names", "done", "deep", "found", "turn", "way", "inner", "test", "other"] ["row", "names", "done", "deep"] (defScope st__law_block) :=
  ⟨rfl, rfl, rfl, by decide +kernel, rfl, by decide +kernel, by decide +kernel⟩
abbrev st__law_parts : Stmt := topS 50
theorem sc__law_parts : FnScope ["block", "found", "part", "inner"] ["block"] (defScope st__law_parts) :=
  ⟨rfl, rfl, rfl, by decide +kernel, rfl, by decide +kernel, by decide +kernel⟩
abbrev st__law_program : Stmt := topS 51
theorem sc__law_program : FnScope ["row", "names", "procedures", "done", "at", "block"] ["row"] (defScope st__law_program) :=
  ⟨rfl, rfl, rfl, by decide +kernel, rfl, by decide +kernel, by decide +kernel⟩
abbrev st__law_alike : Stmt := topS 52
theorem sc__law_alike : FnScope ["found", "due", "k"] ["found", "due"] (defScope st__law_alike) :=
  ⟨rfl, rfl, rfl, by decide +kernel, rfl, by decide +kernel, by decide +kernel⟩
abbrev st__law_worth : Stmt := topS 53
theorem sc__law_worth : FnScope ["held", "value", "one", "two"] ["held", "value"] (defScope st__law_worth) :=
  ⟨rfl, rfl, rfl, by decide +kernel, rfl, by decide +kernel, by decide +kernel⟩
abbrev st__law_play : Stmt := topS 54
theorem sc__law_play : FnScope ["program", "inputs", "most", "held", "todo", "said", "left", "procedures", "turn", "part", "good", "name"] ["program", "inputs", "most"] (defScope st__law_play) :=
  ⟨rfl, rfl, rfl, by decide +kernel, rfl, by decide +kernel, by decide +kernel⟩
abbrev st_law : Stmt := topS 55
theorem sc_law : FnScope ["script", "row", "program", "turn", "inputs", "most", "k"] ["script"] (defScope st_law) :=
  ⟨rfl, rfl, rfl, by decide +kernel, rfl, by decide +kernel, by decide +kernel⟩
/-! ### what the top has written -/
/-- the def x of the text stands in the module under its name -/
structure Df (K : PySem.W.Frag) (mg : Str → Option Value) (x : Str) (st : Stmt) (ps : List Str) : Prop where
  ex : ∃ (f : Addr) (fd : FuncData), Fun K x x st f fd ∧ mg x = some (.ref f) ∧ Binds K fd ps []
/-- names of the interpreter that the module leaves alone -/
structure Bu (mg : Str → Option Value) : Prop where
  isi : mg "isinstance" = none
  int : mg "int" = none
  bool : mg "bool" = none
  str : mg "str" = none
  tuple : mg "tuple" = none
  list : mg "list" = none
  len : mg "len" = none
  all : mg "all" = none
  zip : mg "zip" = none
  range : mg "range" = none
  sorted : mg "sorted" = none
  enumerate : mg "enumerate" = none
  max : mg "max" = none
section
variable {P : Program} {w : World} {K : PySem.W.Frag} {mg : Str → Option Value} {base : Heap}
/-- a def that may be called by its name -/
structure Cal (P : Program) (w : World) (K : PySem.W.Frag) (mg : Str → Option Value) (base : Heap) (k : Nat) (x : Str) (sp : Sp) : Prop where
  ex : ∃ (f : Addr) (fd : FuncData) (ps : List Str), FnOk P w K mg base CX0 k f fd ps sp ∧ mg x = some (.ref f) ∧ PySem.W.keepIn K (.ref f) = true ∧ Binds K fd ps []
theorem mkCal {x : Str} {st : Stmt} {N ps : List Str} {k : Nat} {sp : Sp} (F : Df K mg x st ps) (S : FnScope N ps (defScope st)) (len : ∀ vs H Q E, sp vs H Q E → vs.length = ps.length)
    (hbody : ∀ (f : Addr) (cdv : Value) (A : Around) (outer : List Env) (s : Shared) (H : Hp) (vs : List V) (Q : VK) (E : XK), Room k (A.deeper (envOfC x (defScope st) s.heap.objs.size f cdv)) → sp vs H Q E →
      ∃ t, PSs (cxOf CX0 P w K mg base N x (defScope st) f cdv A outer s H E).nox (defBody st) t ∧ t { nx := fun _ H' => Q .non H', rt := Q } (start N vs) H) : Cal P w K mg base (k + 1) x sp := by
  obtain ⟨f, fd, F, g, b⟩ := F.ex
  exact ⟨f, fd, ps, F.ok S len (hbody f), g, F.kp, b⟩
theorem Cal.imp {k : Nat} {x : Str} {sp sp' : Sp} (c : Cal P w K mg base k x sp) (h : ∀ vs H Q E, sp' vs H Q E → sp vs H Q E) : Cal P w K mg base k x sp' := by
  obtain ⟨f, fd, ps, F, g, kp, b⟩ := c.ex
  exact ⟨f, fd, ps, F.imp h, g, kp, b⟩
end
theorem pc {X : Cx} {k j : Nat} {x : Str} {sp : Sp} {p pos : Pos} {e : Expr} {es : List Expr} {t : TA} (c : Cal X.prog X.w X.K X.mg X.base k x sp) (hr : Room j X.A) (ha : PA X (e :: es) t) (hk : k ≤ j := by decide) (hg : Gl X x := by rfl)
    (hdb : (x == ("__debug__" : Str)) = false := by decide) (he : starEach (e :: es) X.env = (false, eval e X.env) :: starEach es X.env := by rfl) (hpl : (backTo pos (starEach es X.env)).any (·.1) = false := by rfl) :
    PE X (.Call (.Name x p) (e :: es) [] pos) (tCall sp [] E0 t) := by
  obtain ⟨f, fd, ps, F, hm, kp, b⟩ := c.ex
  exact pe_call F (hr.mono hk) hg hm kp b .nil pass0 ha hdb he hpl
/-- a statement that is never come to -/
theorem ps_no {X : Cx} {st : Stmt} : PS X st (fun _ _ _ => False) := ⟨fun _ _ _ _ _ _ h => h.elim⟩
/-! ### heaps, tuples of ints, and of such -/
theorem same_new {H : Hp} {p : Addr} {o : HO} (h : H p = none) : Same H (upd H p o) := fun b x e => by
  rw [upd_ne (ne_of_none e h)]
  exact e
theorem seqT {K : PySem.W.Frag} {H H' : Hp} {a : Addr} {xs : List V} (e : ∀ o, H a = some o → H' a = some o) (h : SqT K H a xs) : SqT K H' a xs := by
  rcases h with (h | ⟨o, h⟩) | h
  · exact .inl (.inl (e _ h))
  · exact .inl (.inr ⟨o, e _ h⟩)
  · exact .inr h
theorem onT {K : PySem.W.Frag} {H H' : Hp} {a : Addr} {xs : List V} (e : Same H H') (h : SqT K H a xs) : SqT K H' a xs := seqT (fun o => e a o) h
theorem tupAt {K : PySem.W.Frag} {H : Hp} {a : Addr} {xs : List V} (h : H a = some (.tup xs)) : SqT K H a xs := .inl (.inl h)
theorem lstAt {K : PySem.W.Frag} {H : Hp} {a : Addr} {xs : List V} (h : H a = some (.lst xs)) : SqL K H a xs := .inl (.inl h)
/-- a tuple's type -/
theorem ty_tup {K : PySem.W.Frag} {H : Hp} {a : Addr} {xs : List V} (h : SqT K H a xs) : TyX K H (.ref a) (.type "tuple") := by
  rcases h with (h | ⟨o, h⟩) | ⟨o, its, n, h, c, _⟩
  · exact .base (.tup h)
  · exact .fTuple h
  · exact .kTuple h c
/-- each by each -/
inductive Each {α : Type} (R : V → α → Prop) : List V → List α → Prop
  | nil : Each R [] []
  | cons {v : V} {d : α} {vs : List V} {ds : List α} : R v d → Each R vs ds → Each R (v :: vs) (d :: ds)
theorem Each.len {α : Type} {R : V → α → Prop} : ∀ {vs : List V} {ds : List α}, Each R vs ds → vs.length = ds.length
  | _, _, .nil => rfl
  | _, _, .cons _ t => congrArg (· + 1) t.len
theorem Each.imp {α : Type} {R R' : V → α → Prop} (f : ∀ v d, R v d → R' v d) : ∀ {vs : List V} {ds : List α}, Each R vs ds → Each R' vs ds
  | _, _, .nil => .nil
  | _, _, .cons h t => .cons (f _ _ h) (t.imp f)
theorem Each.at {α : Type} {R : V → α → Prop} : ∀ {vs : List V} {ds : List α} {i : Nat} {v : V}, Each R vs ds → vs[i]? = some v → ∃ d, ds[i]? = some d ∧ R v d
  | _, _, _, _, .nil, e => by simp at e
  | _, _, 0, _, .cons h _, e => by
    have e' := Option.some.inj e
    subst e'
    exact ⟨_, rfl, h⟩
  | _, _, i + 1, _, .cons _ t, e => t.at (i := i) e
/-- a tuple of ints -/
def TI (K : PySem.W.Frag) (H : Hp) (v : V) (ns : List Int) : Prop := ∃ a, v = .ref a ∧ SqT K H a (ns.map V.int)
/-- a tuple of such -/
def TII (K : PySem.W.Frag) (H : Hp) (v : V) (nss : List (List Int)) : Prop := ∃ a vs, v = .ref a ∧ SqT K H a vs ∧ Each (TI K H) vs nss
def THs (K : PySem.W.Frag) (H : Hp) (v : V) (hs : List (List (List Int))) : Prop := ∃ a vs, v = .ref a ∧ SqT K H a vs ∧ Each (TII K H) vs hs
/-- all tuples stand -/
def Tups (K : PySem.W.Frag) (H H' : Hp) : Prop := ∀ a xs, SqT K H a xs → SqT K H' a xs
theorem Same.tups {K : PySem.W.Frag} {H H' : Hp} (e : Same H H') : Tups K H H' := fun _ _ h => onT e h
theorem TI.on {K : PySem.W.Frag} {H H' : Hp} {v : V} {ns : List Int} (e : Tups K H H') (h : TI K H v ns) : TI K H' v ns := let ⟨a, h1, h2⟩ := h; ⟨a, h1, e _ _ h2⟩
theorem TII.on {K : PySem.W.Frag} {H H' : Hp} {v : V} {nss : List (List Int)} (e : Tups K H H') (h : TII K H v nss) : TII K H' v nss := let ⟨a, vs, h1, h2, h3⟩ := h; ⟨a, vs, h1, e _ _ h2, h3.imp fun _ _ z => z.on e⟩
theorem THs.on {K : PySem.W.Frag} {H H' : Hp} {v : V} {hs : List (List (List Int))} (e : Tups K H H') (h : THs K H v hs) : THs K H' v hs := let ⟨a, vs, h1, h2, h3⟩ := h; ⟨a, vs, h1, e _ _ h2, h3.imp fun _ _ z => z.on e⟩
theorem at_map {ns : List Int} {i : Nat} {n : Int} (h : ns[i]? = some n) : (ns.map V.int)[i]? = some (.int n) := by
  rw [List.getElem?_map, h]
  rfl
/-! ### lists of ints, compared -/
theorem dpAll_ints {K : PySem.W.Frag} {H : Hp} : ∀ ns : List Int, DpAll K H (ns.map V.int) (ns.map PyData.int)
  | [] => .nil
  | n :: ns => .cons (.int n) (dpAll_ints ns)
theorem dp_lst {K : PySem.W.Frag} {H : Hp} {a : Addr} {ns : List Int} (h : SqL K H a (ns.map V.int)) : Dp K H (.ref a) (.list (ns.map PyData.int)) := .lst h (dpAll_ints ns)
theorem dp_tup {K : PySem.W.Frag} {H : Hp} {a : Addr} {ns : List Int} (h : SqT K H a (ns.map V.int)) : Dp K H (.ref a) (.tuple (ns.map PyData.int)) := .tup h (dpAll_ints ns)
def rg (n : Nat) : List Int := (List.range n).map fun i : Nat => (i : Int)
theorem rg_len (n : Nat) : (rg n).length = n := by
  unfold rg
  rw [List.length_map, List.length_range]
theorem rg_mem {n : Nat} {x : Int} : x ∈ rg n ↔ 0 ≤ x ∧ x < n := by
  unfold rg
  rw [List.mem_map]
  constructor
  · rintro ⟨i, h, rfl⟩
    have := List.mem_range.mp h
    omega
  · rintro ⟨h1, h2⟩
    exact ⟨x.toNat, List.mem_range.mpr (by omega), by omega⟩
/-! ### walks over enumerate and zip of tuples -/
end RH
set_option Elab.async false
set_option linter.all false
set_option maxRecDepth 100000
set_option maxHeartbeats 2000000
set_option Elab.async false
set_option linter.all false
set_option maxRecDepth 100000
set_option maxHeartbeats 2000000
set_option Elab.async false
set_option linter.all false
set_option maxRecDepth 100000
set_option maxHeartbeats 2000000
namespace RH
open PySem PySem.Spec PyProof.Rows L2
/-! ### slices and constants -/
theorem cut_from (xs : List V) (k : Nat) : cutV xs (some (k : Int)) none = xs.drop k := by
  unfold cutV
  rw [HT.sIx_nat, HT.sIx_none]
  rcases Nat.le_total k xs.length with h | h
  · rw [Nat.min_eq_left h]
    exact List.take_of_length_le (by rw [List.length_drop]; exact Nat.le_refl _)
  · rw [Nat.min_eq_right h, Nat.sub_self, List.take_zero, List.drop_eq_nil_of_le h]
theorem cut_to (xs : List V) (k : Nat) : cutV xs none (some (k : Int)) = xs.take k := by
  unfold cutV
  rw [HT.sIx_nat, HT.sIx_none, List.drop_zero, Nat.sub_zero]
  rcases Nat.le_total k xs.length with h | h
  · rw [Nat.min_eq_left h]
  · rw [Nat.min_eq_right h, List.take_length, List.take_of_length_le h]
/-- t[k:], k written -/
theorem slT_from {K : PySem.W.Frag} {H : Hp} {a : Addr} {xs : List V} {Q : VK} (z : Int) (k : Nat) (hz : z = (k : Int)) (h : SqT K H a xs) (q : ∀ b H2, Same H H2 → SqT K H2 b (xs.drop k) → Q (.ref b) H2) : rSlA K (.ref a) (some z) none H Q := by
  subst hz
  refine ⟨a, xs, rfl, h, fun hf => q a H (Same.refl H) ?_, fun _ p hp => q p _ (same_new hp) (tupAt (by rw [upd_same, cut_from]))⟩
  have e := hf.1
  rw [HT.sIx_nat] at e
  rcases Nat.le_total k xs.length with h' | h'
  · rw [Nat.min_eq_left h'] at e
    rw [e, List.drop_zero]
    exact h
  · rw [Nat.min_eq_right h'] at e
    have e2 : xs = [] := List.eq_nil_of_length_eq_zero e
    subst e2
    rw [List.drop_nil]
    exact h
/-- a number that the module keeps -/
theorem pk {X : Cx} {x : Str} {i : Int} {pos : Pos} (h : ∃ t, X.mg x = some (.int i t)) (hg : Gl X x := by rfl) (hn : x ≠ "__name__" := by decide) (hd : (x == ("__debug__" : Str)) = false := by decide) : PE X (.Name x pos) (tC (.int i)) := by
  obtain ⟨t, h⟩ := h
  exact pe_glob (v := .int i) hg h ⟨_, rfl⟩ hd
/-! ### rules within a comprehension: the written part is told -/
def rLenK (K : PySem.W.Frag) : List V → Hp → VK → Prop := fun xs H Q => ∃ p ys, xs = [.ref p] ∧ (SqL K H p ys ∨ SqT K H p ys) ∧ Q (.int ys.length) H
theorem cl_len {X : Cx} (K : PySem.W.Frag) (h : X.K = K := by rfl) : CallR X (.builtin "len") (rLenK K) := by
  subst h
  exact call_len_seq
theorem ixT {X : Cx} (K : PySem.W.Frag) (h : X.K = K := by rfl) : IxR X (rIxT K) := by
  subst h
  exact ix_tup
theorem ixL {X : Cx} (K : PySem.W.Frag) (h : X.K = K := by rfl) : IxR X (rIxL K) := by
  subst h
  exact ix_list
theorem opIn {X : Cx} (K : PySem.W.Frag) (h : X.K = K := by rfl) : OpR X (compareOp .In) (rIn K false) := by
  subst h
  exact op_in_seq
/-! ### rising, a layout, a habit -/
def isLay (p : Nat) (ns : List Int) : Bool := ns.isPerm (rg p)
def isHab (nss : List (List Int)) : Bool := decide (2 ≤ nss.length) && decide (nss.length ≤ 5) && nss.all (isLay nss.length)
end RH
set_option Elab.async false
set_option linter.all false
set_option maxRecDepth 100000
set_option maxHeartbeats 2000000
namespace RH
open PySem PySem.Spec PyProof.Rows L2
/-! ### the mathematics of marks -/
theorem ifT {c : Bool} {A B : Prop} (hc : c = true) (h : A) : if c = true then A else B := by
  rw [if_pos hc]
  exact h
theorem ifF {c : Bool} {A B : Prop} (hc : c = false) (h : B) : if c = true then A else B := by
  rw [hc, if_neg Bool.false_ne_true]
  exact h
/-- a habit of n places -/
structure Hb (n : Nat) (h : List (List Int)) : Prop where
  len : h.length = n
  perm : ∀ ns ∈ h, ns.Perm (rg n)
  lo : 2 ≤ n
  hi : n ≤ 5
theorem Hb.is {n : Nat} {h : List (List Int)} (q : Hb n h) : isHab h = true := by
  unfold isHab
  simp only [Bool.and_eq_true, decide_eq_true_eq, List.all_eq_true]
  refine ⟨⟨by have := q.len; have := q.lo; omega, by have := q.len; have := q.hi; omega⟩, fun ns hm => ?_⟩
  unfold isLay
  rw [q.len, List.isPerm_iff]
  exact q.perm ns hm
theorem Hb.short {n : Nat} {h : List (List Int)} (q : Hb n h) {ns : List Int} (hm : ns ∈ h) : ns.length = n := by
  rw [(q.perm ns hm).length_eq, rg_len]
def mv (h : List (List Int)) (t s : Int) : Int := (h.getD t.toNat []).getD s.toNat 0
theorem Hb.at {n : Nat} {h : List (List Int)} (q : Hb n h) {t s : Int} (t0 : 0 ≤ t) (t1 : t < n) (s0 : 0 ≤ s) (s1 : s < n) :
    ∃ ns, h[t.toNat]? = some ns ∧ ns[s.toNat]? = some (mv h t s) ∧ 0 ≤ mv h t s ∧ mv h t s < n := by
  have h1 : t.toNat < h.length := by rw [q.len]; omega
  have e1 : h[t.toNat]? = some h[t.toNat] := List.getElem?_eq_getElem h1
  have hm : h[t.toNat] ∈ h := List.getElem_mem h1
  have h2 : s.toNat < h[t.toNat].length := by rw [q.short hm]; omega
  have e2 : h[t.toNat][s.toNat]? = some h[t.toNat][s.toNat] := List.getElem?_eq_getElem h2
  have e4 : h.getD t.toNat [] = h[t.toNat] := by
    rw [List.getD_eq_getElem?_getD, e1]
    rfl
  have e3 : mv h t s = h[t.toNat][s.toNat] := by
    unfold mv
    rw [e4, List.getD_eq_getElem?_getD, e2]
    rfl
  have h4 := rg_mem.mp ((q.perm _ hm).mem_iff.mp (List.getElem_mem h2))
  rw [← e3] at h4
  exact ⟨_, e1, by rw [e3]; exact e2, h4⟩
/-- an item of an int's place -/
theorem at_int {α : Type} {xs : List α} {z : Int} {v : α} (h0 : 0 ≤ z) (h : xs[z.toNat]? = some v) : atI xs z = some v := by
  have e : z = ((z.toNat : Nat) : Int) := by omega
  rw [e]
  exact atI_nat h
end RH
set_option Elab.async false
set_option linter.all false
set_option maxRecDepth 100000
set_option maxHeartbeats 2000000
namespace RH
open PySem PySem.Spec PyProof.Rows L2
/-! ### the law's own row of draws -/
/-- all but what stands at p is as it was -/
def But (p : Addr) (H H' : Hp) : Prop := ∀ b o, H b = some o → b ≠ p → H' b = some o
theorem But.refl (p : Addr) (H : Hp) : But p H H := fun _ _ e _ => e
theorem But.trans {p : Addr} {H H1 H2 : Hp} (a : But p H H1) (b : But p H1 H2) : But p H H2 := fun c o e n => b c o (a c o e n) n
theorem But.same {p : Addr} {H H1 : Hp} (a : Same H H1) : But p H H1 := fun c o e _ => a c o e
theorem But.upd {p : Addr} {H H1 : Hp} {o : HO} (a : But p H H1) : But p H (upd H1 p o) := fun c u e n => by
  rw [upd_ne n]
  exact a c u e n
/-- all that is no list is as it was -/
def Fix (H H' : Hp) : Prop := ∀ b o, H b = some o → (∀ xs, o ≠ .lst xs) → H' b = some o
theorem Fix.refl (H : Hp) : Fix H H := fun _ _ e _ => e
theorem Fix.trans {H H1 H2 : Hp} (a : Fix H H1) (b : Fix H1 H2) : Fix H H2 := fun c o e n => b c o (a c o e n) n
theorem Fix.same {H H1 : Hp} (a : Same H H1) : Fix H H1 := fun c o e _ => a c o e
theorem Fix.lst {H : Hp} {p : Addr} {xs : List V} {o : HO} (h : H p = some (.lst xs)) : Fix H (L2.upd H p o) := fun b u e n => by
  by_cases z : b = p
  · subst z
    rw [h] at e
    cases e
    exact absurd rfl (n _)
  · rw [upd_ne z]
    exact e
theorem Fix.tups {K : PySem.W.Frag} {H H' : Hp} (b : Fix H H') : Tups K H H' := fun a xs hS => by
  rcases hS with (hS | ⟨u, hS⟩) | hS
  · exact .inl (.inl (b _ _ hS (fun _ z => nomatch z)))
  · exact .inl (.inr ⟨u, b _ _ hS (fun _ z => nomatch z)⟩)
  · exact .inr hS
theorem But.fix {H H' : Hp} {p : Addr} {xs : List V} (h : H p = some (.lst xs)) (b : But p H H') : Fix H H' := fun c o e n => b c o e fun z => by
  subst z
  rw [h] at e
  cases e
  exact n _ rfl
/-- a list that never changes -/
def Fz (K : PySem.W.Frag) (H : Hp) (a : Addr) (xs : List V) : Prop := (∃ o, H a = some (.frz o (.lst xs))) ∨ ∀ H', SqL K H' a xs
theorem Fz.seq {K : PySem.W.Frag} {H : Hp} {a : Addr} {xs : List V} (h : Fz K H a xs) : SqL K H a xs := by
  rcases h with ⟨o, h⟩ | h
  · exact .inl (.inr ⟨o, h⟩)
  · exact h H
theorem Fz.on {K : PySem.W.Frag} {H H' : Hp} {a : Addr} {xs : List V} (f : Fix H H') (h : Fz K H a xs) : Fz K H' a xs := by
  rcases h with ⟨o, h⟩ | h
  · exact .inl ⟨o, f _ _ h (fun _ z => nomatch z)⟩
  · exact .inr h
theorem Fz.of {K : PySem.W.Frag} {H : Hp} {a : Addr} {xs : List V} (o : Only H) (h : SqL K H a xs) : Fz K H a xs := by
  rcases h with (h | h) | h
  · rcases o a with e | ⟨u, ys, e⟩
    · rw [e] at h
      cases h
    · rw [e] at h
      cases h
  · exact .inl h
  · exact .inr fun H' => .inr h
/-- row: the script, how many of it are taken, the running number, what is left of a great one -/
structure RowA (K : PySem.W.Frag) (H : Hp) (p a : Addr) (ns : List Int) (i r c : Int) : Prop where
  at_ : H p = some (.lst [.ref a, .int i, .int r, .int c])
  fz : Fz K H a (ns.map V.int)
  pos : 0 ≤ i
theorem RowA.scr {K : PySem.W.Frag} {H : Hp} {p a : Addr} {ns : List Int} {i r c : Int} (h : RowA K H p a ns i r c) : SqL K H a (ns.map V.int) := h.fz.seq
def Row (K : PySem.W.Frag) (H : Hp) (p : Addr) : Prop := ∃ a ns i r c, RowA K H p a ns i r c
theorem RowA.put {K : PySem.W.Frag} {H : Hp} {p a : Addr} {ns : List Int} {i r c i' r' c' : Int} (h : RowA K H p a ns i r c) (hi : 0 ≤ i') :
    RowA K (upd H p (.lst [.ref a, .int i', .int r', .int c'])) p a ns i' r' c' :=
  ⟨upd_same, h.fz.on (Fix.lst h.at_), hi⟩
theorem RowA.row {K : PySem.W.Frag} {H : Hp} {p a : Addr} {ns : List Int} {i r c : Int} (h : RowA K H p a ns i r c) : Row K H p := ⟨_, _, _, _, _, h⟩
theorem Row.lst {K : PySem.W.Frag} {H : Hp} {p : Addr} (h : Row K H p) : ∃ xs, H p = some (.lst xs) := by
  obtain ⟨a, ns, i, r, c, h⟩ := h
  exact ⟨_, h.at_⟩
theorem Row.fix {K : PySem.W.Frag} {H H' : Hp} {p : Addr} (h : Row K H p) (b : But p H H') : Fix H H' := by
  obtain ⟨xs, e⟩ := h.lst
  exact But.fix e b
theorem Row.on {K : PySem.W.Frag} {H H' : Hp} {p : Addr} (h : Row K H p) (f : Fix H H') (e : H' p = H p) : Row K H' p := by
  obtain ⟨a, ns, i, r, c, h⟩ := h
  exact ⟨a, ns, i, r, c, e.trans h.at_, h.fz.on f, h.pos⟩
theorem Row.same {K : PySem.W.Frag} {H H' : Hp} {p : Addr} (h : Row K H p) (s : Same H H') : Row K H' p := by
  obtain ⟨xs, e⟩ := h.lst
  exact h.on (Fix.same s) ((s _ _ e).trans e.symm)
/-- another list is written -/
theorem Row.lst_upd {K : PySem.W.Frag} {H : Hp} {p q : Addr} {xs : List V} {o : HO} (h : Row K H p) (e : H q = some (.lst xs)) (n : p ≠ q) : Row K (upd H q o) p := h.on (Fix.lst e) (upd_ne n)
/-- a new object -/
theorem Row.new {K : PySem.W.Frag} {H : Hp} {p q : Addr} {o : HO} (h : Row K H p) (e : H q = none) : Row K (upd H q o) p := h.same (same_new e)
theorem Row.ne {K : PySem.W.Frag} {H : Hp} {p q : Addr} (h : Row K H p) (e : H q = none) : p ≠ q := by
  obtain ⟨xs, e'⟩ := h.lst
  exact ne_of_none e' e
section
variable {P : Program} {w : World} {K : PySem.W.Frag} {mg : Str → Option Value} {base : Heap}
def spTaken (K : PySem.W.Frag) : Sp := fun vs H Q _ => ∃ (p : Addr) (m : Int), vs = [.ref p, .int m] ∧ Row K H p ∧ 0 < m ∧ m < 1048576 ∧ ∀ k H', 0 ≤ k → k < m → But p H H' → Row K H' p → Q (.int k) H'
theorem ok_taken (F : Df K mg "_law_taken" st__law_taken ["row", "many"]) (B : Bu mg) : Cal P w K mg base 1 "_law_taken" (spTaken K) := by
  refine mkCal F sc__law_taken (fun vs H Q E h => ?_) (fun f cdv A outer s H vs Q E hr h => ?_)
  · obtain ⟨p, m, rfl, _⟩ := h
    rfl
  · obtain ⟨p, m, rfl, ⟨a, ns, i, r, c, hR⟩, m0, m1, q⟩ := h
    refine ⟨_, pss_cons (ps_if (pt_cmpR op_gt (pe_ix ix_list (pv 0) pe_int (fun _ _ => rfl)) pe_int (nomark _))
        (pss_cons (ps_set (i := 2) sc__law_taken.nd rfl (.inl rfl) (pe_op op_mod (pe_callTy call_int1 (by rfl) B.int (by decide +kernel) (pa_cons (pe_ix ix_list (pv 0) pe_int (fun _ _ => rfl)) pa_nil)) (pv 1)))
        (pss_cons (ps_asg (pe_op op_fdiv (pe_ix ix_list (pv 0) pe_int (fun _ _ => rfl)) (pv 1)) (pg_sub (pv 0) pe_int set_list))
        (pss_one (ps_ret (pv 2))))) pss_nil)
      (pss_cons (ps_asg (pe_op op_add (pe_ix ix_list (pv 0) pe_int (fun _ _ => rfl)) pe_int) (pg_sub (pv 0) pe_int set_list))
      (pss_cons (ps_if (pt_cmpR op_gt (pe_ix ix_list (pv 0) pe_int (fun _ _ => rfl)) (pe_callB (cl_len K) (by rfl) B.len PySem.boot_len (pa_cons (pe_ix ix_list (pv 0) pe_int (fun _ _ => rfl)) pa_nil)) (nomark _))
        (pss_cons (ps_asg (pe_op op_mod (pe_callTy call_int1 (by rfl) B.int (by decide +kernel) (pa_cons (pe_op op_add (pe_op op_mul (pe_ix ix_list (pv 0) pe_int (fun _ _ => rfl)) pe_int) pe_int) pa_nil)) pe_int) (pg_sub (pv 0) pe_int set_list))
        (pss_one (ps_ret (pe_op op_mod (pe_callTy call_int1 (by rfl) B.int (by decide +kernel) (pa_cons (pe_op op_fdiv (pe_ix ix_list (pv 0) pe_int (fun _ _ => rfl)) pe_int) pa_nil)) (pv 1))))) pss_nil)
      (pss_cons (ps_set (i := 3) sc__law_taken.nd rfl (.inl rfl) (pe_ix ix_list (pe_ix ix_list (pv 0) pe_int (fun _ _ => rfl)) (pe_op op_sub (pe_ix ix_list (pv 0) pe_int (fun _ _ => rfl)) pe_int) (fun _ _ => rfl)))
      (pss_cons (ps_asg (pe_op op_mod (pe_callTy call_int1 (by rfl) B.int (by decide +kernel) (pa_cons (pe_op op_add (pe_op op_add (pe_op op_mul (pe_ix ix_list (pv 0) pe_int (fun _ _ => rfl)) pe_int) (pv 3)) pe_int) pa_nil)) pe_int) (pg_sub (pv 0) pe_int set_list))
      (pss_cons (ps_if (pt_cmpR op_ge (pv 3) (pe_op op_pow pe_int pe_int) (nomark _))
        (pss_one (ps_asg (pe_op op_fdiv (pv 3) (pv 1)) (pg_sub (pv 0) pe_int set_list))) pss_nil)
      (pss_one (ps_ret (pe_op op_mod (pe_callTy call_int1 (by rfl) B.int (by decide +kernel) (pa_cons (pv 3) pa_nil)) (pv 1))))))))), ?_⟩
    have L := hR.at_
    refine ⟨_, rfl, p, _, 3, .int c, rfl, rfl, lstAt L, rfl, c, 0, rfl, rfl, _, rfl, ite2 (fun e => ?_) (fun e => ?_)⟩
    · refine ⟨_, rfl, p, _, 3, .int c, rfl, rfl, lstAt L, rfl, .inl ⟨c, rfl, _, rfl, c, m, rfl, rfl, m0, ?_⟩⟩
      refine ⟨_, rfl, p, _, 3, .int c, rfl, rfl, lstAt L, rfl, _, rfl, c, m, rfl, rfl, ⟨m0, by omega⟩, _, rfl, p, _, 3, 3, rfl, rfl, L, rfl, ?_⟩
      exact ⟨_, rfl, q (c % m) _ (Int.emod_nonneg _ (by omega)) (Int.emod_lt_of_pos _ m0) (But.upd (But.refl p H)) (hR.put hR.pos).row⟩
    · refine ⟨_, rfl, p, _, 1, .int i, rfl, rfl, lstAt L, rfl, i, 1, rfl, rfl, _, rfl, p, _, 1, 1, rfl, rfl, L, rfl, ?_⟩
      have R1 : RowA K (upd H p (.lst [.ref a, .int (i + 1), .int r, .int c])) p a ns (i + 1) r c := hR.put (by have := hR.pos; omega)
      have L1 := R1.at_
      refine ⟨_, rfl, p, _, 1, .int (i + 1), rfl, rfl, lstAt L1, rfl, _, rfl, p, _, 0, .ref a, rfl, rfl, lstAt L1, rfl, a, _, rfl, .inl R1.scr, _, _, rfl, rfl, _, rfl, ite2 (fun e1 => ?_) (fun e1 => ?_)⟩
      · refine ⟨_, rfl, p, _, 2, .int r, rfl, rfl, lstAt L1, rfl, r, 48271, rfl, rfl, .inr ⟨by decide, by decide⟩, _, 11, rfl, rfl, .inl ⟨_, rfl, _, _, rfl, rfl, (by show (0 : Int) < 2147483647; decide), _, rfl, p, _, 2, 2, rfl, rfl, L1, rfl, ?_⟩⟩
        have R2 : RowA K (upd (upd H p (.lst [.ref a, .int (i + 1), .int r, .int c])) p (.lst [.ref a, .int (i + 1), .int ((r * 48271 + 11) % 2147483647), .int c])) p a ns (i + 1) ((r * 48271 + 11) % 2147483647) c := R1.put R1.pos
        refine ⟨_, rfl, p, _, 2, _, rfl, rfl, lstAt R2.at_, rfl, _, 7, rfl, rfl, ⟨by decide, by decide⟩, .inl ⟨_, rfl, _, rfl, _, m, rfl, rfl, m0, ?_⟩⟩
        exact q _ _ (Int.emod_nonneg _ (by omega)) (Int.emod_lt_of_pos _ m0) (But.upd (But.upd (But.refl p H))) R2.row
      · have hi : i < (ns.length : Int) := by
          rw [List.length_map] at e1
          have e9 : i + 1 ≤ (ns.length : Int) := by simpa using e1
          omega
        have hi0 := hR.pos
        obtain ⟨z, hz⟩ : ∃ z, ns[i.toNat]? = some z := ⟨ns[i.toNat]'(by omega), List.getElem?_eq_getElem (by omega)⟩
        refine ⟨_, rfl, p, _, 0, .ref a, rfl, rfl, lstAt L1, rfl, _, rfl, p, _, 1, .int (i + 1), rfl, rfl, lstAt L1, rfl, _, 1, rfl, rfl, a, _, i + 1 - 1, .int z, rfl, rfl, R1.scr, at_int (by omega) (at_map (by rw [show (i + 1 - 1).toNat = i.toNat by omega]; exact hz)), ?_⟩
        refine ⟨_, rfl, p, _, 2, .int r, rfl, rfl, lstAt L1, rfl, r, 48271, rfl, rfl, .inr ⟨by decide, by decide⟩, _, rfl, _, z, rfl, rfl, _, 11, rfl, rfl, .inl ⟨_, rfl, _, _, rfl, rfl, (by show (0 : Int) < 2147483647; decide), _, rfl, p, _, 2, 2, rfl, rfl, L1, rfl, ?_⟩⟩
        have R2 : RowA K (upd (upd H p (.lst [.ref a, .int (i + 1), .int r, .int c])) p (.lst [.ref a, .int (i + 1), .int ((r * 48271 + z + 11) % 2147483647), .int c])) p a ns (i + 1) ((r * 48271 + z + 11) % 2147483647) c := R1.put R1.pos
        refine ⟨_, rfl, 10, 18, rfl, rfl, ⟨by decide, by decide, by decide⟩, z, _, rfl, rfl, _, rfl, ite2 (fun e2 => ?_) (fun e2 => ?_)⟩
        · refine ⟨_, rfl, _, rfl, z, m, rfl, rfl, ⟨m0, by omega⟩, _, rfl, p, _, 3, 3, rfl, rfl, R2.at_, rfl, ?_⟩
          refine ⟨_, rfl, .inl ⟨z, rfl, _, rfl, z, m, rfl, rfl, m0, ?_⟩⟩
          exact q _ _ (Int.emod_nonneg _ (by omega)) (Int.emod_lt_of_pos _ m0) (But.upd (But.upd (But.upd (But.refl p H)))) (R2.put R2.pos).row
        · refine ⟨_, rfl, .inl ⟨z, rfl, _, rfl, z, m, rfl, rfl, m0, ?_⟩⟩
          exact q _ _ (Int.emod_nonneg _ (by omega)) (Int.emod_lt_of_pos _ m0) (But.upd (But.upd (But.refl p H))) R2.row
end
end RH
set_option Elab.async false
set_option linter.all false
set_option maxRecDepth 100000
set_option maxHeartbeats 2000000
namespace RH
open PySem PySem.Spec PyProof.Rows L2
theorem But.fresh {p l : Addr} {H H1 : Hp} {o : HO} (a : But p H H1) (e : H l = none) : But p H (L2.upd H1 l o) := fun c u h n => by
  rw [upd_ne (ne_of_none h e)]
  exact a c u h n
section
variable {P : Program} {w : World} {K : PySem.W.Frag} {mg : Str → Option Value} {base : Heap}
def spPick (K : PySem.W.Frag) : Sp := fun vs H Q _ => ∃ (p l : Addr) (xs : List V), vs = [.ref p, .ref l] ∧ Row K H p ∧ H l = some (.lst xs) ∧ l ≠ p ∧ 0 < xs.length ∧ xs.length ≤ 1000 ∧
  ∀ (i : Nat) x H', xs[i]? = some x → But p H H' → Row K H' p → Q x H'
theorem ok_pick (F : Df K mg "_law_pick" st__law_pick ["row", "things"]) (B : Bu mg) (CT : Cal P w K mg base 1 "_law_taken" (spTaken K)) : Cal P w K mg base 2 "_law_pick" (spPick K) := by
  refine mkCal F sc__law_pick (fun vs H Q E h => ?_) (fun f cdv A outer s H vs Q E hr h => ?_)
  · obtain ⟨p, l, xs, rfl, _⟩ := h
    rfl
  · obtain ⟨p, l, xs, rfl, hR, hl, hlp, l0, l1, q⟩ := h
    refine ⟨_, pss_one (ps_ret (pe_ix ix_list (pv 1) (pc CT hr (pa_cons (pv 0) (pa_cons (pe_callB (cl_len K) (by rfl) B.len PySem.boot_len (pa_cons (pv 1) pa_nil)) pa_nil))) (fun _ _ => rfl))), ?_⟩
    refine ⟨_, rfl, _, rfl, _, rfl, l, xs, rfl, .inl (lstAt hl), p, xs.length, rfl, hR, by omega, by omega, fun k H' k0 k1 hB hR' => ?_⟩
    have hk : k.toNat < xs.length := by omega
    exact ⟨l, xs, k, _, rfl, rfl, lstAt (hB _ _ hl hlp), at_int k0 (List.getElem?_eq_getElem hk), q _ _ H' (List.getElem?_eq_getElem hk) hB hR'⟩
end
end RH
set_option Elab.async false
set_option linter.all false
set_option maxRecDepth 100000
set_option maxHeartbeats 2000000
namespace RH
open PySem PySem.Spec PyProof.Rows L2
/-! ### _law_alike of equal data -/
theorem Dp.on {K : PySem.W.Frag} {H H' : Hp} (s : Same H H') : ∀ (d : PyData) (v : V), Dp K H v d → Dp K H' v d
  | d, v, h => by
    refine Dp.rec (motive_1 := fun v d _ => Dp K H' v d) (motive_2 := fun vs ds _ => DpAll K H' vs ds) .non .bl .int .str ?_ ?_ .nil ?_ h
    · intro a xs ds h1 _ h2
      exact .lst (s.seq h1) h2
    · intro a xs ds h1 _ h2
      exact .tup (onT s h1) h2
    · intro v vs d ds _ _ h1 h2
      exact .cons h1 h2
theorem DpAll.len {K : PySem.W.Frag} {H : Hp} : ∀ {vs : List V} {ds : List PyData}, DpAll K H vs ds → vs.length = ds.length
  | _, _, .nil => rfl
  | _, _, .cons _ t => congrArg (· + 1) (DpAll.len t)
theorem DpAll.of {K : PySem.W.Frag} {H : Hp} : ∀ {vs : List V} {ds : List PyData} {i : Nat} {d : PyData}, DpAll K H vs ds → ds[i]? = some d → ∃ v, vs[i]? = some v ∧ Dp K H v d
  | _, _, _, _, .nil, e => by simp at e
  | _, _, 0, _, .cons h _, e => by
    have e' := Option.some.inj e
    subst e'
    exact ⟨_, rfl, h⟩
  | _, _, i + 1, _, .cons _ t, e => DpAll.of (i := i) t e
def okD : Nat → PyData → Prop
  | 0, .none => True
  | 0, .bool _ => True
  | 0, .int _ => True
  | 0, .str _ => True
  | 0, _ => False
  | _ + 1, .none => True
  | _ + 1, .bool _ => True
  | _ + 1, .int _ => True
  | _ + 1, .str _ => True
  | k + 1, .list ds => ds.length ≤ 1000 ∧ ∀ d ∈ ds, okD k d
  | k + 1, .tuple ds => ds.length ≤ 1000 ∧ ∀ d ∈ ds, okD k d
  | _ + 1, .dict _ => False
theorem kit2 {K : PySem.W.Frag} {t : String} {b1 b2 : Bool} (h1 : kitB t "tuple" = some b1) (h2 : kitB t "list" = some b2) : PySem.W.kitAny K (.type t) [.type "tuple", .type "list"] = some (b1 || b2) := by
  cases b1 with
  | true => exact kitAny_cons (kit_ty h1) (fun z => nomatch z) (fun _ => rfl)
  | false =>
    cases b2 with
    | true => exact kitAny_cons (kit_ty h1) (fun _ => kitAny_cons (kit_ty h2) (fun z => nomatch z) (fun _ => rfl)) (fun z => nomatch z)
    | false => exact kitAny_cons (kit_ty h1) (fun _ => kitAny_cons (kit_ty h2) (fun _ => kitAny_nil) (fun z => nomatch z)) (fun z => nomatch z)
theorem cls2 : Paired ClsV [V.ty "tuple", V.ty "list"] [Value.type "tuple", Value.type "list"] := .cons (.ty _) (.cons (.ty _) .nil)
theorem ixS {X : Cx} (K : PySem.W.Frag) (h : X.K = K := by rfl) : IxR X (rIx K) := by
  subst h
  exact ix_seq
/-- a list or a tuple -/
structure Sq2 (K : PySem.W.Frag) (H : Hp) (a : Addr) (xs : List V) (T : String) (b : Bool) : Prop where
  ty : TyX K H (.ref a) (.type T)
  sq : SqL K H a xs ∨ SqT K H a xs
  k1 : PySem.W.kitAny K (.type T) [.type "tuple", .type "list"] = some true
  k2 : PySem.W.kitOne K (.type T) (.type "list") = some b
  ix : ∀ (i : Nat) (x : V) (Q : VK), xs[i]? = some x → Q x H → rIx K (.ref a) (.int (i : Int)) H Q
theorem sq2T {K : PySem.W.Frag} {H : Hp} {a : Addr} {xs : List V} (h : SqT K H a xs) : Sq2 K H a xs "tuple" false :=
  ⟨ty_tup h, .inr h, kit2 (b1 := true) (b2 := false) (by decide +kernel) (by decide +kernel), kit_ty (by decide +kernel), fun i x Q e q => .inr (.inl ⟨a, xs, i, x, rfl, rfl, h, atI_nat e, q⟩)⟩
theorem ty_lst {K : PySem.W.Frag} {H : Hp} {a : Addr} {xs : List V} (h : SqL K H a xs) : TyX K H (.ref a) (.type "list") := by
  rcases h with (h | ⟨o, h⟩) | ⟨o, vz, n, h, c, _⟩
  · exact .base (.lst h)
  · exact .base (.frz h)
  · exact .kList h c
theorem sq2L {K : PySem.W.Frag} {H : Hp} {a : Addr} {xs : List V} (h : SqL K H a xs) : Sq2 K H a xs "list" true :=
  ⟨ty_lst h, .inl h, kit2 (b1 := false) (b2 := true) (by decide +kernel) (by decide +kernel), kit_ty (by decide +kernel), fun i x Q e q => .inl ⟨a, xs, i, x, rfl, rfl, h, atI_nat e, q⟩⟩
theorem pss_no {X : Cx} {sts : List Stmt} : PSs X sts (fun _ _ _ => False) := ⟨fun _ _ _ _ _ _ h => h.elim⟩
section
variable {P : Program} {w : World} {K : PySem.W.Frag} {mg : Str → Option Value} {base : Heap}
def spAlike (K : PySem.W.Frag) (k : Nat) : Sp := fun vs H Q _ => ∃ (v u : V) (d : PyData), vs = [v, u] ∧ Dp K H v d ∧ Dp K H u d ∧ okD k d ∧ ∀ H', Same H H' → Q (.bl true) H'
theorem ok_alike0 (F : Df K mg "_law_alike" st__law_alike ["found", "due"]) (B : Bu mg) : Cal P w K mg base 1 "_law_alike" (spAlike K 0) := by
  refine mkCal F sc__law_alike (fun vs H Q E h => ?_) (fun f cdv A outer s H vs Q E hr h => ?_)
  · obtain ⟨v, u, d, rfl, _⟩ := h
    rfl
  · obtain ⟨v, u, d, rfl, hv, hu, hk, q⟩ := h
    refine ⟨_, pss_cons (ps_if (pt_val (pe_callB call_isiT (by rfl) B.isi (by decide +kernel) (pa_cons (pv 1) (pa_cons (pe_tup (pa_cons (pe_bltn (v := .ty "tuple") (by rfl) B.tuple (by decide +kernel) rfl) (pa_cons (pe_bltn (v := .ty "list") (by rfl) B.list (by decide +kernel) rfl) pa_nil))) pa_nil)))) pss_no pss_nil)
      (pss_cons (ps_if (PW.pt (pw_or (pt_cmp (pc_isN (pv 1))) (pw_or1 (pt_val (pe_callB call_isi (by rfl) B.isi (by decide +kernel) (pa_cons (pv 1) (pa_cons (pe_bltn (v := .ty "str") (by rfl) B.str (by decide +kernel) rfl) pa_nil)))))))
        (pss_one (ps_ret (pe_and (pe_cmpR op_eq (pv 0) (pv 1) (nomark _)) (pe_one (pe_cmpR op_eq (pe_callB call_isi (by rfl) B.isi (by decide +kernel) (pa_cons (pv 0) (pa_cons (pe_bltn (v := .ty "str") (by rfl) B.str (by decide +kernel) rfl) pa_nil)))
          (pe_callB call_isi (by rfl) B.isi (by decide +kernel) (pa_cons (pv 1) (pa_cons (pe_bltn (v := .ty "str") (by rfl) B.str (by decide +kernel) rfl) pa_nil))) (nomark _)))))) pss_nil)
      (pss_one (ps_ret (pe_and (pe_callB call_isi (by rfl) B.isi (by decide +kernel) (pa_cons (pv 0) (pa_cons (pe_bltn (v := .ty "int") (by rfl) B.int (by decide +kernel) rfl) pa_nil)))
        (pe_and (pe_cmpR op_eq (pe_callB call_isi (by rfl) B.isi (by decide +kernel) (pa_cons (pv 0) (pa_cons (pe_bltn (v := .ty "bool") (by rfl) B.bool (by decide +kernel) rfl) pa_nil)))
          (pe_callB call_isi (by rfl) B.isi (by decide +kernel) (pa_cons (pv 1) (pa_cons (pe_bltn (v := .ty "bool") (by rfl) B.bool (by decide +kernel) rfl) pa_nil))) (nomark _)) (pe_one (pe_cmpR op_eq (pv 0) (pv 1) (nomark _)))))))), ?_⟩
    cases hv with
    | non =>
      cases hu
      refine ⟨_, rfl, (by show 2 ≤ sizeLine; decide), fun t ht => ⟨.non, t, _, _, _, false, rfl, upd_same, cls2, .base .non, kit2 (b1 := false) (b2 := false) (by decide +kernel) (by decide +kernel), _, rfl, ifF rfl ?_⟩⟩
      refine ⟨_, rfl, _, rfl, ifT (decide_eq_true rfl) (ifT rfl ?_)⟩
      exact ⟨_, rfl, _, rfl, rfl, _, rfl, ifT (decide_eq_true rfl) ⟨_, rfl, .non, .ty "str", _, _, false, rfl, .ty "str", .base .non, kit_ty (by decide +kernel), _, rfl, .non, .ty "str", _, _, false, rfl, .ty "str", .base .non, kit_ty (by decide +kernel), rfl, q _ (same_new ht)⟩⟩
    | bl b =>
      cases hu
      refine ⟨_, rfl, (by show 2 ≤ sizeLine; decide), fun t ht => ⟨.bl b, t, _, _, _, false, rfl, upd_same, cls2, .base (.bl b), kit2 (b1 := false) (b2 := false) (by decide +kernel) (by decide +kernel), _, rfl, ifF rfl ?_⟩⟩
      refine ⟨_, rfl, _, rfl, ifF (decide_eq_false (fun z => nomatch z)) ⟨_, rfl, .bl b, .ty "str", _, _, false, rfl, .ty "str", .base (.bl b), kit_ty (by decide +kernel), _, rfl, ifF rfl ?_⟩⟩
      refine ⟨_, rfl, .bl b, .ty "int", _, _, true, rfl, .ty "int", .base (.bl b), kit_ty (by decide +kernel), _, rfl, ifT rfl ?_⟩
      refine ⟨_, rfl, .bl b, .ty "bool", _, _, true, rfl, .ty "bool", .base (.bl b), kit_ty (by decide +kernel), _, rfl, .bl b, .ty "bool", _, _, true, rfl, .ty "bool", .base (.bl b), kit_ty (by decide +kernel), rfl, _, rfl, ifT (decide_eq_true rfl) ?_⟩
      refine ⟨_, rfl, _, rfl, rfl, ?_⟩
      rw [decide_eq_true (rfl : V.bl b = V.bl b)]
      exact q _ (same_new ht)
    | int i =>
      cases hu
      refine ⟨_, rfl, (by show 2 ≤ sizeLine; decide), fun t ht => ⟨.int i, t, _, _, _, false, rfl, upd_same, cls2, .base (.int i), kit2 (b1 := false) (b2 := false) (by decide +kernel) (by decide +kernel), _, rfl, ifF rfl ?_⟩⟩
      refine ⟨_, rfl, _, rfl, ifF (decide_eq_false (fun z => nomatch z)) ⟨_, rfl, .int i, .ty "str", _, _, false, rfl, .ty "str", .base (.int i), kit_ty (by decide +kernel), _, rfl, ifF rfl ?_⟩⟩
      refine ⟨_, rfl, .int i, .ty "int", _, _, true, rfl, .ty "int", .base (.int i), kit_ty (by decide +kernel), _, rfl, ifT rfl ?_⟩
      refine ⟨_, rfl, .int i, .ty "bool", _, _, false, rfl, .ty "bool", .base (.int i), kit_ty (by decide +kernel), _, rfl, .int i, .ty "bool", _, _, false, rfl, .ty "bool", .base (.int i), kit_ty (by decide +kernel), rfl, _, rfl, ifT (decide_eq_true rfl) ?_⟩
      refine ⟨_, rfl, _, rfl, rfl, ?_⟩
      rw [decide_eq_true (rfl : V.int i = V.int i)]
      exact q _ (same_new ht)
    | str x =>
      cases hu
      refine ⟨_, rfl, (by show 2 ≤ sizeLine; decide), fun t ht => ⟨.str x, t, _, _, _, false, rfl, upd_same, cls2, .base (.str x), kit2 (b1 := false) (b2 := false) (by decide +kernel) (by decide +kernel), _, rfl, ifF rfl ?_⟩⟩
      refine ⟨_, rfl, _, rfl, ifF (decide_eq_false (fun z => nomatch z)) ⟨_, rfl, .str x, .ty "str", _, _, true, rfl, .ty "str", .base (.str x), kit_ty (by decide +kernel), _, rfl, ifT rfl ?_⟩⟩
      exact ⟨_, rfl, _, rfl, rfl, _, rfl, ifT (decide_eq_true rfl) ⟨_, rfl, .str x, .ty "str", _, _, true, rfl, .ty "str", .base (.str x), kit_ty (by decide +kernel), _, rfl, .str x, .ty "str", _, _, true, rfl, .ty "str", .base (.str x), kit_ty (by decide +kernel), rfl, q _ (same_new ht)⟩⟩
    | lst _ _ => exact hk.elim
    | tup _ _ => exact hk.elim
end
end RH
set_option Elab.async false
set_option linter.all false
set_option maxRecDepth 100000
set_option maxHeartbeats 2000000
namespace RH
open PySem PySem.Spec PyProof.Rows L2
theorem V_int (a b : Int) : decide (V.int a = V.int b) = decide (a = b) := by
  rw [Bool.eq_iff_iff, decide_eq_true_iff, decide_eq_true_iff]
  exact ⟨fun h => V.int.inj h, fun h => by rw [h]⟩
end RH
set_option Elab.async false
set_option linter.all false
set_option maxRecDepth 100000
set_option maxHeartbeats 2000000
namespace RH
open PySem PySem.Spec PyProof.Rows L2
theorem alike_cases {K : PySem.W.Frag} {H : Hp} {k : Nat} {v u : V} {d : PyData} (hv : Dp K H v d) (hu : Dp K H u d) (hk : okD (k + 1) d) : okD 0 d ∨ ∃ (a b : Addr) (xs ys : List V) (ds : List PyData) (T : String) (bl : Bool), v = .ref a ∧ u = .ref b ∧
    (∀ H', Same H H' → Sq2 K H' a xs T bl) ∧ (∀ H', Same H H' → Sq2 K H' b ys T bl) ∧ DpAll K H xs ds ∧ DpAll K H ys ds ∧ ds.length ≤ 1000 ∧ ∀ d ∈ ds, okD k d := by
  cases hv with
  | non => exact .inl True.intro
  | bl _ => exact .inl True.intro
  | int _ => exact .inl True.intro
  | str _ => exact .inl True.intro
  | @lst a xs ds h1 h2 =>
    cases hu with
    | @lst b ys _ h3 h4 => exact .inr ⟨a, b, xs, ys, ds, "list", true, rfl, rfl, fun _ s => sq2L (s.seq h1), fun _ s => sq2L (s.seq h3), h2, h4, hk.1, hk.2⟩
  | @tup a xs ds h1 h2 =>
    cases hu with
    | @tup b ys _ h3 h4 => exact .inr ⟨a, b, xs, ys, ds, "tuple", false, rfl, rfl, fun _ s => sq2T (onT s h1), fun _ s => sq2T (onT s h3), h2, h4, hk.1, hk.2⟩
section
variable {P : Program} {w : World} {K : PySem.W.Frag} {mg : Str → Option Value} {base : Heap}
theorem ok_alikeS (k : Nat) (F : Df K mg "_law_alike" st__law_alike ["found", "due"]) (B : Bu mg) (C : Cal P w K mg base (k + 1) "_law_alike" (spAlike K k)) : Cal P w K mg base (k + 2) "_law_alike" (spAlike K (k + 1)) := by
  refine mkCal F sc__law_alike (fun vs H Q E h => ?_) (fun f cdv A outer s H vs Q E hr h => ?_)
  · obtain ⟨v, u, d, rfl, _⟩ := h
    rfl
  · obtain ⟨v, u, d, rfl, hv, hu, hk, q⟩ := h
    refine ⟨_, pss_cons (ps_if (pt_val (pe_callB call_isiT (by rfl) B.isi (by decide +kernel) (pa_cons (pv 1) (pa_cons (pe_tup (pa_cons (pe_bltn (v := .ty "tuple") (by rfl) B.tuple (by decide +kernel) rfl) (pa_cons (pe_bltn (v := .ty "list") (by rfl) B.list (by decide +kernel) rfl) pa_nil))) pa_nil))))
        (pss_cons (ps_if (PW.pt (pw_or (pt_not (pt_val (pe_callB call_isiT (by rfl) B.isi (by decide +kernel) (pa_cons (pv 0) (pa_cons (pe_tup (pa_cons (pe_bltn (v := .ty "tuple") (by rfl) B.tuple (by decide +kernel) rfl) (pa_cons (pe_bltn (v := .ty "list") (by rfl) B.list (by decide +kernel) rfl) pa_nil))) pa_nil)))))
            (pw_or1 (pt_cmpR op_ne (pe_callB call_isi (by rfl) B.isi (by decide +kernel) (pa_cons (pv 0) (pa_cons (pe_bltn (v := .ty "list") (by rfl) B.list (by decide +kernel) rfl) pa_nil)))
              (pe_callB call_isi (by rfl) B.isi (by decide +kernel) (pa_cons (pv 1) (pa_cons (pe_bltn (v := .ty "list") (by rfl) B.list (by decide +kernel) rfl) pa_nil))) (nomark _))))) (pss_one (ps_ret pe_bl)) pss_nil)
        (pss_cons (ps_if (pt_cmpR op_ne (pe_callB (cl_len K) (by rfl) B.len PySem.boot_len (pa_cons (pv 0) pa_nil)) (pe_callB (cl_len K) (by rfl) B.len PySem.boot_len (pa_cons (pv 1) pa_nil)) (nomark _)) (pss_one (ps_ret pe_bl)) pss_nil)
        (pss_one (ps_ret (pe_cmpR (op_eqD hr.units) (pe_lc (own := [("k", 2)]) (g := gName 2) rfl sc__law_alike.nd (pi_range1 (by rfl) B.range (pa_cons (pe_callB (cl_len K) (by rfl) B.len PySem.boot_len (pa_cons (pv 1) pa_nil)) pa_nil))
          (blkOk_by (N := ["found", "due", "k"]) (sc := defScope st__law_alike) (by decide +kernel)) (fun _ _ _ _ _ => pg_name (i := 2) sc__law_alike.nd rfl (Or.inl rfl))
          (fun _ _ _ _ _ => pts_one (pt_not (pt_val (pc C hr (pa_cons (pe_ix (ixS K) (pv 0) (pv 2) (fun _ _ => rfl)) (pa_cons (pe_ix (ixS K) (pv 1) (pv 2) (fun _ _ => rfl)) pa_nil)) (hk := Nat.le_refl _))))) (fun _ _ _ _ _ => pv 2)) (pe_lst pa_nil) (nomark _)))))) pss_nil)
      (pss_cons (ps_if (PW.pt (pw_or (pt_cmp (pc_isN (pv 1))) (pw_or1 (pt_val (pe_callB call_isi (by rfl) B.isi (by decide +kernel) (pa_cons (pv 1) (pa_cons (pe_bltn (v := .ty "str") (by rfl) B.str (by decide +kernel) rfl) pa_nil)))))))
        (pss_one (ps_ret (pe_and (pe_cmpR op_eq (pv 0) (pv 1) (nomark _)) (pe_one (pe_cmpR op_eq (pe_callB call_isi (by rfl) B.isi (by decide +kernel) (pa_cons (pv 0) (pa_cons (pe_bltn (v := .ty "str") (by rfl) B.str (by decide +kernel) rfl) pa_nil)))
          (pe_callB call_isi (by rfl) B.isi (by decide +kernel) (pa_cons (pv 1) (pa_cons (pe_bltn (v := .ty "str") (by rfl) B.str (by decide +kernel) rfl) pa_nil))) (nomark _)))))) pss_nil)
      (pss_one (ps_ret (pe_and (pe_callB call_isi (by rfl) B.isi (by decide +kernel) (pa_cons (pv 0) (pa_cons (pe_bltn (v := .ty "int") (by rfl) B.int (by decide +kernel) rfl) pa_nil)))
        (pe_and (pe_cmpR op_eq (pe_callB call_isi (by rfl) B.isi (by decide +kernel) (pa_cons (pv 0) (pa_cons (pe_bltn (v := .ty "bool") (by rfl) B.bool (by decide +kernel) rfl) pa_nil)))
          (pe_callB call_isi (by rfl) B.isi (by decide +kernel) (pa_cons (pv 1) (pa_cons (pe_bltn (v := .ty "bool") (by rfl) B.bool (by decide +kernel) rfl) pa_nil))) (nomark _)) (pe_one (pe_cmpR op_eq (pv 0) (pv 1) (nomark _)))))))), ?_⟩
    rcases alike_cases hv hu hk with hk0 | ⟨a, b, xs, ys, ds, T, bl, rfl, rfl, ha, hb, hx, hy, hl, hd⟩
    · clear hk
      cases hv with
      | non =>
        cases hu
        refine ⟨_, rfl, (by show 2 ≤ sizeLine; decide), fun t ht => ⟨.non, t, _, _, _, false, rfl, upd_same, cls2, .base .non, kit2 (b1 := false) (b2 := false) (by decide +kernel) (by decide +kernel), _, rfl, ifF rfl ?_⟩⟩
        refine ⟨_, rfl, _, rfl, ifT (decide_eq_true rfl) (ifT rfl ?_)⟩
        exact ⟨_, rfl, _, rfl, rfl, _, rfl, ifT (decide_eq_true rfl) ⟨_, rfl, .non, .ty "str", _, _, false, rfl, .ty "str", .base .non, kit_ty (by decide +kernel), _, rfl, .non, .ty "str", _, _, false, rfl, .ty "str", .base .non, kit_ty (by decide +kernel), rfl, q _ (same_new ht)⟩⟩
      | bl b =>
        cases hu
        refine ⟨_, rfl, (by show 2 ≤ sizeLine; decide), fun t ht => ⟨.bl b, t, _, _, _, false, rfl, upd_same, cls2, .base (.bl b), kit2 (b1 := false) (b2 := false) (by decide +kernel) (by decide +kernel), _, rfl, ifF rfl ?_⟩⟩
        refine ⟨_, rfl, _, rfl, ifF (decide_eq_false (fun z => nomatch z)) ⟨_, rfl, .bl b, .ty "str", _, _, false, rfl, .ty "str", .base (.bl b), kit_ty (by decide +kernel), _, rfl, ifF rfl ?_⟩⟩
        refine ⟨_, rfl, .bl b, .ty "int", _, _, true, rfl, .ty "int", .base (.bl b), kit_ty (by decide +kernel), _, rfl, ifT rfl ?_⟩
        refine ⟨_, rfl, .bl b, .ty "bool", _, _, true, rfl, .ty "bool", .base (.bl b), kit_ty (by decide +kernel), _, rfl, .bl b, .ty "bool", _, _, true, rfl, .ty "bool", .base (.bl b), kit_ty (by decide +kernel), rfl, _, rfl, ifT (decide_eq_true rfl) ?_⟩
        refine ⟨_, rfl, _, rfl, rfl, ?_⟩
        rw [decide_eq_true (rfl : V.bl b = V.bl b)]
        exact q _ (same_new ht)
      | int i =>
        cases hu
        refine ⟨_, rfl, (by show 2 ≤ sizeLine; decide), fun t ht => ⟨.int i, t, _, _, _, false, rfl, upd_same, cls2, .base (.int i), kit2 (b1 := false) (b2 := false) (by decide +kernel) (by decide +kernel), _, rfl, ifF rfl ?_⟩⟩
        refine ⟨_, rfl, _, rfl, ifF (decide_eq_false (fun z => nomatch z)) ⟨_, rfl, .int i, .ty "str", _, _, false, rfl, .ty "str", .base (.int i), kit_ty (by decide +kernel), _, rfl, ifF rfl ?_⟩⟩
        refine ⟨_, rfl, .int i, .ty "int", _, _, true, rfl, .ty "int", .base (.int i), kit_ty (by decide +kernel), _, rfl, ifT rfl ?_⟩
        refine ⟨_, rfl, .int i, .ty "bool", _, _, false, rfl, .ty "bool", .base (.int i), kit_ty (by decide +kernel), _, rfl, .int i, .ty "bool", _, _, false, rfl, .ty "bool", .base (.int i), kit_ty (by decide +kernel), rfl, _, rfl, ifT (decide_eq_true rfl) ?_⟩
        refine ⟨_, rfl, _, rfl, rfl, ?_⟩
        rw [decide_eq_true (rfl : V.int i = V.int i)]
        exact q _ (same_new ht)
      | str x =>
        cases hu
        refine ⟨_, rfl, (by show 2 ≤ sizeLine; decide), fun t ht => ⟨.str x, t, _, _, _, false, rfl, upd_same, cls2, .base (.str x), kit2 (b1 := false) (b2 := false) (by decide +kernel) (by decide +kernel), _, rfl, ifF rfl ?_⟩⟩
        refine ⟨_, rfl, _, rfl, ifF (decide_eq_false (fun z => nomatch z)) ⟨_, rfl, .str x, .ty "str", _, _, true, rfl, .ty "str", .base (.str x), kit_ty (by decide +kernel), _, rfl, ifT rfl ?_⟩⟩
        exact ⟨_, rfl, _, rfl, rfl, _, rfl, ifT (decide_eq_true rfl) ⟨_, rfl, .str x, .ty "str", _, _, true, rfl, .ty "str", .base (.str x), kit_ty (by decide +kernel), _, rfl, .str x, .ty "str", _, _, true, rfl, .ty "str", .base (.str x), kit_ty (by decide +kernel), rfl, q _ (same_new ht)⟩⟩
      | lst _ _ => exact hk0.elim
      | tup _ _ => exact hk0.elim
    · have lx : xs.length = ds.length := DpAll.len hx
      have ly : ys.length = ds.length := DpAll.len hy
      refine ⟨_, rfl, (by show 2 ≤ sizeLine; decide), fun t ht => ?_⟩
      have s1 : Same H (upd H t (.tup [.ty "tuple", .ty "list"])) := same_new ht
      have b1 := hb _ s1
      refine ⟨.ref b, t, _, _, _, true, rfl, upd_same, cls2, b1.ty, b1.k1, _, rfl, ifT rfl ?_⟩
      refine ⟨_, rfl, (by show 2 ≤ sizeLine; decide), fun t2 ht2 => ?_⟩
      have s2 := s1.trans (same_new (o := .tup [.ty "tuple", .ty "list"]) ht2)
      have a2 := ha _ s2
      have b2 := hb _ s2
      refine ⟨.ref a, t2, _, _, _, true, rfl, upd_same, cls2, a2.ty, a2.k1, _, rfl, ifF rfl ?_⟩
      refine ⟨_, rfl, .ref a, .ty "list", _, _, bl, rfl, .ty "list", a2.ty, a2.k2, _, rfl, .ref b, .ty "list", _, _, bl, rfl, .ty "list", b2.ty, b2.k2, rfl, _, rfl, ifF (by rw [decide_eq_true (rfl : V.bl bl = V.bl bl)]; rfl) ?_⟩
      refine ⟨_, rfl, a, xs, rfl, a2.sq, _, rfl, b, ys, rfl, b2.sq, rfl, _, rfl, ifF (by rw [lx, ly, decide_eq_true rfl]; rfl) ?_⟩
      refine ⟨_, rfl, b, ys, rfl, b2.sq, _, rfl, by omega, by omega, fun D hD => ?_⟩
      rw [Int.toNat_natCast]
      refine lc_range (lo := 0) (n := ys.length) (fun i H' => Same (upd (upd H t (.tup [.ty "tuple", .ty "list"])) t2 (.tup [.ty "tuple", .ty "list"])) H' ∧ H' D = some (.lst [])) ⟨same_new hD, upd_same⟩ (fun i H' hi h' => ?_) (fun H' h' => ?_)
      · obtain ⟨sm, eD⟩ := h'
        have s3 := s2.trans sm
        obtain ⟨d, hdi⟩ : ∃ d, ds[i]? = some d := ⟨_, List.getElem?_eq_getElem (by omega)⟩
        obtain ⟨x, hxi, hxd⟩ := DpAll.of hx hdi
        obtain ⟨y, hyi, hyd⟩ := DpAll.of hy hdi
        rw [Int.zero_add]
        refine ⟨rfl, _, rfl, _, rfl, ?_⟩
        refine (ha _ s3).ix i x _ hxi ⟨_, rfl, _, rfl, ?_⟩
        refine (hb _ s3).ix i y _ hyi ⟨x, y, d, rfl, Dp.on s3 d x hxd, Dp.on s3 d y hyd, hd d (List.mem_of_getElem? hdi), fun H4 s4 => ⟨_, rfl, ifF rfl ⟨?_, s4 _ _ eD⟩⟩⟩
        exact sm.trans s4
      · obtain ⟨sm, eD⟩ := h'
        refine ⟨Nat.zero_le _, fun z hz => ?_⟩
        refine ⟨_, _, dp_lst (ns := []) (lstAt (same_new hz _ _ eD)), dp_lst (ns := []) (lstAt upd_same), PySem.W.ke_shaped_ints _, PySem.W.ke_shaped_ints _, ?_⟩
        exact q _ (s2.trans (sm.trans (same_new hz)))
end
end RH
set_option Elab.async false
set_option linter.all false
set_option maxRecDepth 100000
set_option maxHeartbeats 2000000
namespace RH
open PySem PySem.Spec PyProof.Rows L2
/-! ### defs that may raise; checks of values of many kinds -/
/-- a value of any kind -/
inductive Sw (K : PySem.W.Frag) (H : Hp) : V → Prop
  | int (i : Int) : Sw K H (.int i)
  | bl (b : Bool) : Sw K H (.bl b)
  | non : Sw K H .non
  | str (s : Str) : Sw K H (.str s)
  | tup {a : Addr} {xs : List V} : SqT K H a xs → Sw K H (.ref a)
  | lst {a : Addr} {xs : List V} : SqL K H a xs → Sw K H (.ref a)
def isI : V → Bool
  | .int _ => true
  | _ => false
def inV2 (lo hi : Int) : V → Bool
  | .int i => decide (lo ≤ i) && decide (i ≤ hi)
  | _ => false
section
variable {P : Program} {w : World} {K : PySem.W.Frag} {mg : Str → Option Value} {base : Heap}
theorem Sw.on {H H' : Hp} {v : V} (e : Same H H') (h : Sw K H v) : Sw K H' v := by
  cases h with
  | int i => exact .int i
  | bl b => exact .bl b
  | non => exact .non
  | str s => exact .str s
  | tup h => exact .tup (onT e h)
  | lst h => exact .lst (e.seq h)
def spIsIntegerW (K : PySem.W.Frag) : Sp := fun vs H Q _ => ∃ v, vs = [v] ∧ Sw K H v ∧ Q (.bl (isI v)) H
theorem ok_is_integerW (F : Df K mg "is_integer" st_is_integer ["value"]) (B : Bu mg) : Cal P w K mg base 1 "is_integer" (spIsIntegerW K) := by
  refine mkCal F sc_is_integer (fun vs H Q E h => ?_) (fun f cdv A outer s H vs Q E hr h => ?_)
  · obtain ⟨v, rfl, _⟩ := h
    rfl
  · obtain ⟨v, rfl, hv, q⟩ := h
    refine ⟨_, pss_one (ps_ret (pe_and (pe_callB call_isi (by rfl) B.isi (by decide +kernel) (pa_cons (pv 0) (pa_cons (pe_bltn (v := .ty "int") (by rfl) B.int (by decide +kernel) rfl) pa_nil)))
      (pe_one (pe_not (pe_callB call_isi (by rfl) B.isi (by decide +kernel) (pa_cons (pv 0) (pa_cons (pe_bltn (v := .ty "bool") (by rfl) B.bool (by decide +kernel) rfl) pa_nil))))))), ?_⟩
    cases hv with
    | int i => exact ⟨_, rfl, .int i, .ty "int", _, _, true, rfl, .ty "int", .base (.int i), kit_ty (by decide +kernel), true, rfl, _, rfl, .int i, .ty "bool", _, _, false, rfl, .ty "bool", .base (.int i), kit_ty (by decide +kernel), false, rfl, q⟩
    | bl b => exact ⟨_, rfl, .bl b, .ty "int", _, _, true, rfl, .ty "int", .base (.bl b), kit_ty (by decide +kernel), true, rfl, _, rfl, .bl b, .ty "bool", _, _, true, rfl, .ty "bool", .base (.bl b), kit_ty (by decide +kernel), true, rfl, q⟩
    | non => exact ⟨_, rfl, .non, .ty "int", _, _, false, rfl, .ty "int", .base .non, kit_ty (by decide +kernel), false, rfl, q⟩
    | str z => exact ⟨_, rfl, .str z, .ty "int", _, _, false, rfl, .ty "int", .base (.str z), kit_ty (by decide +kernel), false, rfl, q⟩
    | @tup a xs h => exact ⟨_, rfl, .ref a, .ty "int", _, _, false, rfl, .ty "int", ty_tup h, kit_ty (by decide +kernel), false, rfl, q⟩
    | @lst a xs h => exact ⟨_, rfl, .ref a, .ty "int", _, _, false, rfl, .ty "int", ty_lst h, kit_ty (by decide +kernel), false, rfl, q⟩
def spIsNumberW (K : PySem.W.Frag) : Sp := fun vs H Q _ => ∃ (v : V) (lo hi : Int), vs = [v, .int lo, .int hi] ∧ Sw K H v ∧ Q (.bl (inV2 lo hi v)) H
theorem inV2_no {lo hi : Int} {v : V} (h : isI v = false) : inV2 lo hi v = false := by
  cases v <;> first | rfl | (cases h)
theorem isI_yes {v : V} (h : isI v = true) : ∃ i, v = .int i := by
  cases v <;> first | exact ⟨_, rfl⟩ | (cases h)
theorem ok_is_numberW (F : Df K mg "is_number" st_is_number ["value", "low", "high"]) (C1 : Cal P w K mg base 1 "is_integer" (spIsIntegerW K)) : Cal P w K mg base 2 "is_number" (spIsNumberW K) := by
  refine mkCal F sc_is_number (fun vs H Q E h => ?_) (fun f cdv A outer s H vs Q E hr h => ?_)
  · obtain ⟨v, lo, hi, rfl, _⟩ := h
    rfl
  · obtain ⟨v, lo, hi, rfl, hv, q⟩ := h
    refine ⟨_, pss_one (ps_ret (pe_and (pc C1 hr (pa_cons (pv 0) pa_nil)) (pe_one (pe_chain op_le op_le (pv 1) (pv 0) (pv 2))))), ?_⟩
    refine ⟨_, rfl, v, rfl, hv, ?_⟩
    cases ei : isI v with
    | true =>
      obtain ⟨i, rfl⟩ := isI_yes ei
      refine ⟨true, rfl, _, rfl, _, rfl, lo, i, rfl, rfl, _, rfl, ite2 (fun e => ?_) (fun e => ?_)⟩
      · refine ⟨_, rfl, i, hi, rfl, rfl, ?_⟩
        have q : Q (.bl (decide (lo ≤ i) && decide (i ≤ hi))) H := q
        rw [e, Bool.true_and] at q
        exact q
      · have e' : decide (lo ≤ i) = false := by simpa using e
        have q : Q (.bl (decide (lo ≤ i) && decide (i ≤ hi))) H := q
        rw [e', Bool.false_and] at q
        exact q
    | false =>
      rw [inV2_no ei] at q
      exact ⟨false, rfl, q⟩
end
end RH
set_option Elab.async false
set_option linter.all false
set_option maxRecDepth 100000
set_option maxHeartbeats 2000000
namespace RH
open PySem PySem.Spec PyProof.Rows L2
/-! ### the checks, for values of whatever kind -/
/-- a value: a tuple of values, or what is none -/
inductive Tk (K : PySem.W.Frag) (H : Hp) : V → Option (List V) → Prop
  | tup {a : Addr} {xs : List V} : SqT K H a xs → Tk K H (.ref a) (some xs)
  | lst {a : Addr} {xs : List V} : SqL K H a xs → Tk K H (.ref a) none
  | dct {a : Addr} {kvs : List (L2.Key × V)} : H a = some (.dK kvs) → Tk K H (.ref a) none
  | int (i : Int) : Tk K H (.int i) none
  | bl (b : Bool) : Tk K H (.bl b) none
  | non : Tk K H .non none
  | str (z : Str) : Tk K H (.str z) none
theorem Tk.on {K : PySem.W.Frag} {H H' : Hp} (e : Same H H') {v : V} {wo : Option (List V)} (h : Tk K H v wo) : Tk K H' v wo := by
  cases h with
  | tup h => exact .tup (onT e h)
  | lst h => exact .lst (e.seq h)
  | dct h => exact .dct (e _ _ h)
  | int i => exact .int i
  | bl b => exact .bl b
  | non => exact .non
  | str z => exact .str z
/-- .. of values -/
structure Wd (K : PySem.W.Frag) (H : Hp) (v : V) (wo : Option (List V)) : Prop where
  t : Tk K H v wo
  s : ∀ xs, wo = some xs → ∀ x ∈ xs, Sw K H x
  l : ∀ xs, wo = some xs → xs.length < 64
theorem Wd.on {K : PySem.W.Frag} {H H' : Hp} (e : Same H H') {v : V} {wo : Option (List V)} (h : Wd K H v wo) : Wd K H' v wo := ⟨h.t.on e, fun xs z x hm => (h.s xs z x hm).on e, h.l⟩
def rowW (lo hi : Int) : Option (List V) → Bool
  | some xs => decide (lo ≤ (xs.length : Int)) && decide ((xs.length : Int) ≤ hi)
  | none => false
section
variable {P : Program} {w : World} {K : PySem.W.Frag} {mg : Str → Option Value} {base : Heap}
def spIsRowW (K : PySem.W.Frag) : Sp := fun vs H Q _ => ∃ (v : V) (wo : Option (List V)) (lo hi : Int), vs = [v, .int lo, .int hi] ∧ Tk K H v wo ∧ Q (.bl (rowW lo hi wo)) H
theorem ok_is_rowW (F : Df K mg "is_row" st_is_row ["value", "low", "high"]) (B : Bu mg) : Cal P w K mg base 1 "is_row" (spIsRowW K) := by
  refine mkCal F sc_is_row (fun vs H Q E h => ?_) (fun f cdv A outer s H vs Q E hr h => ?_)
  · obtain ⟨v, ro, lo, hi, rfl, _⟩ := h
    rfl
  · obtain ⟨v, ro, lo, hi, rfl, hk, q⟩ := h
    refine ⟨_, pss_one (ps_ret (pe_and (pe_callB call_isi (by rfl) B.isi (by decide +kernel) (pa_cons (pv 0) (pa_cons (pe_bltn (v := .ty "tuple") (by rfl) B.tuple (by decide +kernel) rfl) pa_nil)))
      (pe_one (pe_chain op_le op_le (pv 1) (pe_callB call_len_seq (by rfl) B.len PySem.boot_len (pa_cons (pv 0) pa_nil)) (pv 2))))), ?_⟩
    cases hk with
    | int i => exact ⟨_, rfl, .int i, .ty "tuple", _, _, false, rfl, .ty "tuple", .base (.int i), kit_ty (by decide +kernel), false, rfl, q⟩
    | bl b => exact ⟨_, rfl, .bl b, .ty "tuple", _, _, false, rfl, .ty "tuple", .base (.bl b), kit_ty (by decide +kernel), false, rfl, q⟩
    | non => exact ⟨_, rfl, .non, .ty "tuple", _, _, false, rfl, .ty "tuple", .base .non, kit_ty (by decide +kernel), false, rfl, q⟩
    | str z => exact ⟨_, rfl, .str z, .ty "tuple", _, _, false, rfl, .ty "tuple", .base (.str z), kit_ty (by decide +kernel), false, rfl, q⟩
    | @lst a xs hS => exact ⟨_, rfl, .ref a, .ty "tuple", _, _, false, rfl, .ty "tuple", ty_lst hS, kit_ty (by decide +kernel), false, rfl, q⟩
    | @dct a kvs e => exact ⟨_, rfl, .ref a, .ty "tuple", _, _, false, rfl, .ty "tuple", .base (.dK e), kit_ty (by decide +kernel), false, rfl, q⟩
    | @tup a xs hS =>
      refine ⟨_, rfl, .ref a, .ty "tuple", _, _, true, rfl, .ty "tuple", ty_tup hS, kit_ty (by decide +kernel), true, rfl, _, rfl, _, rfl, a, xs, rfl, .inr hS, lo, (xs.length : Int), rfl, rfl, _, rfl, ite2 (fun e => ?_) (fun e => ?_)⟩
      · refine ⟨_, rfl, _, hi, rfl, rfl, ?_⟩
        have q : Q (.bl (decide (lo ≤ (xs.length : Int)) && decide ((xs.length : Int) ≤ hi))) H := q
        rw [e, Bool.true_and] at q
        exact q
      · have e' : decide (lo ≤ (xs.length : Int)) = false := by simpa using e
        have q : Q (.bl (decide (lo ≤ (xs.length : Int)) && decide ((xs.length : Int) ≤ hi))) H := q
        rw [e', Bool.false_and] at q
        exact q
end
end RH
set_option Elab.async false
set_option linter.all false
set_option maxRecDepth 100000
set_option maxHeartbeats 2000000
namespace RH
open PySem PySem.Spec PyProof.Rows L2
/-! ### block programs: what is done, step by step -/
inductive Ex
  | num (i : Int)
  | nam (x : Nat)
  | sum (add : Bool) (a b : Ex)
inductive Pt
  | letP (x : Nat) (e : Ex)
  | sayP (e : Ex)
  | askP (x : Nat)
  | stopP
  | doP (q : Nat)
  | ifP (e : Ex) (g : Bool) (a b : List Pt)
  | whileP (e : Ex) (g : Bool) (a : List Pt)
  | repP (k : Nat) (a : List Pt)
/-- what is held, what is left to be asked, what has been said -/
structure Mc where
  held : Nat → Int
  left : List Int
  said : List Int
def wth (held : Nat → Int) : Ex → Int
  | .num i => i
  | .nam x => held x
  | .sum true a b => wth held a + wth held b
  | .sum false a b => wth held a - wth held b
def okT (m : Mc) (e : Ex) (g : Bool) : Bool := decide (decide (wth m.held e = 0) = g)
def Mc.put (m : Mc) (x : Nat) (v : Int) : Mc := { m with held := fun y => if y = x then v else m.held y }
def stepT (bd : Nat → List Pt) : List Pt × Mc → List Pt × Mc
  | ([], m) => ([], m)
  | (.letP x e :: r, m) => (r, m.put x (wth m.held e))
  | (.sayP e :: r, m) => (r, { m with said := m.said ++ [wth m.held e] })
  | (.askP x :: r, m) => (r, { (m.put x (m.left.headD 0)) with left := m.left.drop 1 })
  | (.stopP :: _, m) => ([], m)
  | (.doP q :: r, m) => (bd q ++ r, m)
  | (.ifP e g a b :: r, m) => ((if okT m e g = true then a else b) ++ r, m)
  | (.whileP e g a :: r, m) => if okT m e g = true then (a ++ .whileP e g a :: r, m) else (r, m)
  | (.repP k a :: r, m) => ((List.replicate k a).flatten ++ r, m)
def runT (bd : Nat → List Pt) : Nat → List Pt × Mc → List Pt × Mc
  | 0, s => s
  | j + 1, s => runT bd j (stepT bd s)
/-- how a walk over a block ends: there are doings left, or there was a stop, or none is left for a part that is there -/
inductive Out
  | go (n : Nat) (m : Mc)
  | halt (m : Mc)
  | dry (m : Mc)
def Ends60 (bd : Nat → List Pt) (b : List Pt) (n : Nat) (m : Mc) (r : List Pt) : Out → Prop
  | .go n' m' => n' ≤ n ∧ runT bd (n - n') (b ++ r, m) = (r, m')
  | .halt m' => ∃ j, j ≤ n ∧ runT bd j (b ++ r, m) = ([], m')
  | .dry m' => ∃ x r', runT bd n (b ++ r, m) = (x :: r', m')
def Does (bd : Nat → List Pt) (b : List Pt) (n : Nat) (m : Mc) (o : Out) : Prop := ∀ r, Ends60 bd b n m r o
section
variable {bd : Nat → List Pt}
theorem runT_add : ∀ (i j : Nat) (s : List Pt × Mc), runT bd (i + j) s = runT bd j (runT bd i s)
  | 0, j, s => by rw [Nat.zero_add]; rfl
  | i + 1, j, s => by
    rw [show i + 1 + j = (i + j) + 1 by omega]
    exact runT_add i j (stepT bd s)
theorem runT_nil : ∀ (j : Nat) (m : Mc), runT bd j ([], m) = ([], m)
  | 0, _ => rfl
  | j + 1, m => runT_nil j m
theorem Does.nil {n : Nat} {m : Mc} : Does bd [] n m (.go n m) := fun r => ⟨Nat.le_refl _, by rw [Nat.sub_self]; rfl⟩
theorem Does.dry0 {p : Pt} {b : List Pt} {m : Mc} : Does bd (p :: b) 0 m (.dry m) := fun r => ⟨p, b ++ r, rfl⟩
/-- one block behind another -/
theorem Does.app {a b : List Pt} {n n' : Nat} {m m' : Mc} {o : Out} (h : Does bd a n m (.go n' m')) (g : Does bd b n' m' o) : Does bd (a ++ b) n m o := fun r => by
  obtain ⟨l1, e1⟩ := h (b ++ r)
  have g := g r
  cases o with
  | go k mk =>
    obtain ⟨l2, e2⟩ := g
    refine ⟨Nat.le_trans l2 l1, ?_⟩
    rw [show n - k = (n - n') + (n' - k) by omega, runT_add, List.append_assoc, e1, e2]
  | halt mk =>
    obtain ⟨j, lj, e2⟩ := g
    refine ⟨(n - n') + j, by omega, ?_⟩
    rw [runT_add, List.append_assoc, e1, e2]
  | dry mk =>
    obtain ⟨x, r', e2⟩ := g
    refine ⟨x, r', ?_⟩
    rw [show n = (n - n') + n' by omega, runT_add, List.append_assoc, e1, e2]
theorem Does.halts {a b : List Pt} {n : Nat} {m m' : Mc} (h : Does bd a n m (.halt m')) : Does bd (a ++ b) n m (.halt m') := fun r => by
  obtain ⟨j, lj, e⟩ := h (b ++ r)
  exact ⟨j, lj, by rw [List.append_assoc]; exact e⟩
theorem Does.dries {a b : List Pt} {n : Nat} {m m' : Mc} (h : Does bd a n m (.dry m')) : Does bd (a ++ b) n m (.dry m') := fun r => by
  obtain ⟨x, r', e⟩ := h (b ++ r)
  exact ⟨x, r', by rw [List.append_assoc]; exact e⟩
/-- a part whose first step leads to another block -/
theorem Does.via {p : Pt} {b : List Pt} {n : Nat} {m m1 : Mc} {o : Out} (st : ∀ r, stepT bd (p :: r, m) = (b ++ r, m1)) (h : Does bd b n m1 o) : Does bd [p] (n + 1) m o := fun r => by
  have h := h r
  have e : ∀ j, runT bd (j + 1) ([p] ++ r, m) = runT bd j (b ++ r, m1) := fun j => by
    show runT bd j (stepT bd (p :: r, m)) = _
    rw [st]
  cases o with
  | go k mk =>
    obtain ⟨l, g⟩ := h
    refine ⟨by omega, ?_⟩
    rw [show n + 1 - k = (n - k) + 1 by omega, e, g]
  | halt mk =>
    obtain ⟨j, lj, g⟩ := h
    exact ⟨j + 1, by omega, by rw [e, g]⟩
  | dry mk =>
    obtain ⟨x, r', g⟩ := h
    exact ⟨x, r', by rw [e, g]⟩
theorem Does.letP {x : Nat} {e : Ex} {n : Nat} {m : Mc} : Does bd [.letP x e] (n + 1) m (.go n (m.put x (wth m.held e))) := .via (b := []) (fun _ => rfl) .nil
theorem Does.sayP {e : Ex} {n : Nat} {m : Mc} : Does bd [.sayP e] (n + 1) m (.go n { m with said := m.said ++ [wth m.held e] }) := .via (b := []) (fun _ => rfl) .nil
theorem Does.askP {x : Nat} {n : Nat} {m : Mc} : Does bd [.askP x] (n + 1) m (.go n { (m.put x (m.left.headD 0)) with left := m.left.drop 1 }) := .via (b := []) (fun _ => rfl) .nil
theorem Does.stopP {n : Nat} {m : Mc} : Does bd [.stopP] (n + 1) m (.halt m) := fun r => ⟨1, by omega, rfl⟩
theorem Does.doP {q n : Nat} {m : Mc} {o : Out} (h : Does bd (bd q) n m o) : Does bd [.doP q] (n + 1) m o := .via (fun _ => rfl) h
theorem Does.ifP {e : Ex} {g : Bool} {a b : List Pt} {n : Nat} {m : Mc} {o : Out} (h : Does bd (if okT m e g = true then a else b) n m o) : Does bd [.ifP e g a b] (n + 1) m o := .via (fun _ => rfl) h
theorem Does.repP {k : Nat} {a : List Pt} {n : Nat} {m : Mc} {o : Out} (h : Does bd (List.replicate k a).flatten n m o) : Does bd [.repP k a] (n + 1) m o := .via (fun _ => rfl) h
theorem Does.whileNo {e : Ex} {g : Bool} {a : List Pt} {n : Nat} {m : Mc} (h : okT m e g = false) : Does bd [.whileP e g a] (n + 1) m (.go n m) := .via (b := []) (fun r => by
  show (if okT m e g = true then _ else _) = _
  rw [h]
  rfl) .nil
theorem Does.whileYes {e : Ex} {g : Bool} {a : List Pt} {n : Nat} {m : Mc} {o : Out} (h : okT m e g = true) (hb : Does bd (a ++ [.whileP e g a]) n m o) : Does bd [.whileP e g a] (n + 1) m o := .via (fun r => by
  show (if okT m e g = true then _ else _) = _
  rw [h, List.append_assoc]
  rfl) hb
/-- what stands when the most doings have been done -/
def lastM : Out → Mc
  | .go _ m => m
  | .halt m => m
  | .dry m => m
def isDry : Out → Bool
  | .dry _ => true
  | _ => false
theorem Does.last {b : List Pt} {n : Nat} {m : Mc} {o : Out} (h : Does bd b n m o) : (runT bd n (b, m)).2 = lastM o ∧ (runT bd n (b, m)).1.isEmpty = !isDry o := by
  have h := h []
  cases o with
  | go k mk =>
    obtain ⟨l, e⟩ := h
    rw [List.append_nil] at e
    rw [show n = (n - k) + k by omega, runT_add, e, runT_nil]
    exact ⟨rfl, rfl⟩
  | halt mk =>
    obtain ⟨j, lj, e⟩ := h
    rw [List.append_nil] at e
    rw [show n = j + (n - j) by omega, runT_add, e, runT_nil]
    exact ⟨rfl, rfl⟩
  | dry mk =>
    obtain ⟨x, r', e⟩ := h
    rw [List.append_nil] at e
    rw [e]
    exact ⟨rfl, rfl⟩
end
/-! ### how deep a block is, counting what it does -/
end RH
set_option Elab.async false
set_option linter.all false
set_option maxRecDepth 100000
set_option maxHeartbeats 2000000
namespace RH
open PySem PySem.Spec PyProof.Rows L2
/-! ### block programs as data -/
def nmS (x : Nat) : Str := (["a", "b", "cat", "dd"] : List Str).getD x "a"
def pcS60 (q : Nat) : Str := (["p", "q"] : List Str).getD q "p"
theorem nmS_inj {x y : Nat} (hx : x < 4) (hy : y < 4) (e : nmS x = nmS y) : x = y := by
  have : ∀ x, x < 4 → ∀ y, y < 4 → nmS x = nmS y → x = y := by decide +kernel
  exact this x hx y hy e
def exD : Ex → PyData
  | .num i => .int i
  | .nam x => .str (nmS x)
  | .sum add a b => .tuple [.str (if add = true then "plus" else "minus"), exD a, exD b]
mutual
def ptD : Pt → PyData
  | .letP x e => .tuple [.str "let", .str (nmS x), exD e]
  | .sayP e => .tuple [.str "say", exD e]
  | .askP x => .tuple [.str "ask", .str (nmS x)]
  | .stopP => .tuple [.str "stop"]
  | .doP q => .tuple [.str "do", .str (pcS60 q)]
  | .ifP e g a b => .tuple [.str "if", .tuple [exD e, .bool g], .tuple (ptsD a), .tuple (ptsD b)]
  | .whileP e g a => .tuple [.str "while", .tuple [exD e, .bool g], .tuple (ptsD a)]
  | .repP k a => .tuple [.str "repeat", .int (k : Int), .tuple (ptsD a)]
def ptsD : List Pt → List PyData
  | [] => []
  | p :: r => ptD p :: ptsD r
end
theorem ptsD_map : ∀ b : List Pt, ptsD b = b.map ptD
  | [] => by rw [ptsD]; rfl
  | p :: r => by rw [ptsD, ptsD_map r]; rfl
def bkD (b : List Pt) : PyData := .tuple (ptsD b)
/-! how many parts, those within counted -/
mutual
def cntP : Pt → Nat
  | .ifP _ _ a b => 1 + cntB a + cntB b
  | .whileP _ _ a => 1 + cntB a
  | .repP _ a => 1 + cntB a
  | _ => 1
def cntB : List Pt → Nat
  | [] => 0
  | p :: r => cntP p + cntB r
end
theorem cntB_app : ∀ a b : List Pt, cntB (a ++ b) = cntB a + cntB b
  | [], b => by rw [List.nil_append, cntB, Nat.zero_add]
  | p :: r, b => by rw [List.cons_append, cntB, cntB, cntB_app r b, Nat.add_assoc]
/-! the names, the rounds, the procedures and the depth of nesting within bounds -/
def okEx (m : Nat) : Nat → Ex → Prop
  | _, .num i => -1000 ≤ i ∧ i ≤ 1000
  | _, .nam x => x < m
  | 0, _ => False
  | k + 1, .sum _ a b => okEx m k a ∧ okEx m k b
def okPt (m q : Nat) : Nat → Pt → Prop
  | 0, p => match p with
    | .letP x e => x < m ∧ okEx m 3 e
    | .sayP e => okEx m 3 e
    | .askP x => x < m
    | .stopP => True
    | .doP p => p < q
    | _ => False
  | d + 1, p => match p with
    | .letP x e => x < m ∧ okEx m 3 e
    | .sayP e => okEx m 3 e
    | .askP x => x < m
    | .stopP => True
    | .doP p => p < q
    | .ifP e _ a b => okEx m 2 e ∧ (a.length ≤ 3 ∧ ∀ x ∈ a, okPt m q d x) ∧ (b.length ≤ 3 ∧ ∀ x ∈ b, okPt m q d x)
    | .whileP e _ a => okEx m 2 e ∧ (a.length ≤ 3 ∧ ∀ x ∈ a, okPt m q d x)
    | .repP k a => k < 3 ∧ (a.length ≤ 3 ∧ ∀ x ∈ a, okPt m q d x)
def okBk (m q d : Nat) (b : List Pt) : Prop := b.length ≤ 3 ∧ ∀ p ∈ b, okPt m q d p
end RH
set_option Elab.async false
set_option linter.all false
set_option maxRecDepth 100000
set_option maxHeartbeats 2000000
namespace RH
open PySem PySem.Spec PyProof.Rows L2
theorem cl_isi {X : Cx} (K : PySem.W.Frag) (h : X.K = K := by rfl) : CallR X (.builtin "isinstance") (rIsi K) := by
  subst h
  exact call_isi
def isTup : PyData → Bool
  | .tuple _ => true
  | _ => false
def isSt : PyData → Bool
  | .str _ => true
  | _ => false
theorem isi_tup {K : PySem.W.Frag} {H : Hp} {v : V} {d : PyData} (h : Dp K H v d) : ∃ t u, ClsV (.ty "tuple") u ∧ TyX K H v t ∧ PySem.W.kitOne K t u = some (isTup d) := by
  cases h with
  | non => exact ⟨_, _, .ty "tuple", .base .non, show _ = some false from kit_ty (by decide +kernel)⟩
  | bl b => exact ⟨_, _, .ty "tuple", .base (.bl b), show _ = some false from kit_ty (by decide +kernel)⟩
  | int i => exact ⟨_, _, .ty "tuple", .base (.int i), show _ = some false from kit_ty (by decide +kernel)⟩
  | str z => exact ⟨_, _, .ty "tuple", .base (.str z), show _ = some false from kit_ty (by decide +kernel)⟩
  | lst hS _ => exact ⟨_, _, .ty "tuple", ty_lst hS, show _ = some false from kit_ty (by decide +kernel)⟩
  | tup hS _ => exact ⟨_, _, .ty "tuple", ty_tup hS, show _ = some true from kit_ty (by decide +kernel)⟩
theorem isi_str {K : PySem.W.Frag} {H : Hp} {v : V} {d : PyData} (h : Dp K H v d) : ∃ t u, ClsV (.ty "str") u ∧ TyX K H v t ∧ PySem.W.kitOne K t u = some (isSt d) := by
  cases h with
  | non => exact ⟨_, _, .ty "str", .base .non, show _ = some false from kit_ty (by decide +kernel)⟩
  | bl b => exact ⟨_, _, .ty "str", .base (.bl b), show _ = some false from kit_ty (by decide +kernel)⟩
  | int i => exact ⟨_, _, .ty "str", .base (.int i), show _ = some false from kit_ty (by decide +kernel)⟩
  | str z => exact ⟨_, _, .ty "str", .base (.str z), show _ = some true from kit_ty (by decide +kernel)⟩
  | lst hS _ => exact ⟨_, _, .ty "str", ty_lst hS, show _ = some false from kit_ty (by decide +kernel)⟩
  | tup hS _ => exact ⟨_, _, .ty "str", ty_tup hS, show _ = some false from kit_ty (by decide +kernel)⟩
/-! ### what a sum is worth, by the law's hand -/
theorem dp_tup3 {K : PySem.W.Frag} {H : Hp} {v : V} {x y z : PyData} (h : Dp K H v (.tuple [x, y, z])) : ∃ a v1 v2 v3, v = .ref a ∧ SqT K H a [v1, v2, v3] ∧ Dp K H v1 x ∧ Dp K H v2 y ∧ Dp K H v3 z := by
  cases h with
  | tup hS hA =>
    cases hA with
    | cons h1 t =>
      cases t with
      | cons h2 t =>
        cases t with
        | cons h3 t =>
          cases t
          exact ⟨_, _, _, _, rfl, hS, h1, h2, h3⟩
theorem dp_str {K : PySem.W.Frag} {H : Hp} {v : V} {z : Str} (h : Dp K H v (.str z)) : v = .str z := by
  cases h
  rfl
theorem dp_int {K : PySem.W.Frag} {H : Hp} {v : V} {i : Int} (h : Dp K H v (.int i)) : v = .int i := by
  cases h
  rfl
/-- what is held of the first m names -/
def HeldD (H : Hp) (a : Addr) (m : Nat) (held : Nat → Int) : Prop := ∃ kvs, H a = some (.dK kvs) ∧ ∀ x, x < m → valV kvs (.inr (nmS x)) = some (.int (held x))
theorem HeldD.same {H H' : Hp} (s : Same H H') {a : Addr} {m : Nat} {held : Nat → Int} (h : HeldD H a m held) : HeldD H' a m held := let ⟨k, e, q⟩ := h; ⟨k, s _ _ e, q⟩
section
variable {P : Program} {w : World} {K : PySem.W.Frag} {mg : Str → Option Value} {base : Heap}
def spWorth (K : PySem.W.Frag) (k : Nat) : Sp := fun vs H Q _ => ∃ (a : Addr) (v : V) (m : Nat) (held : Nat → Int) (e : Ex), vs = [.ref a, v] ∧ HeldD H a m held ∧ Dp K H v (exD e) ∧ okEx m k e ∧ Q (.int (wth held e)) H
theorem ok_worth0 (F : Df K mg "_law_worth" st__law_worth ["held", "value"]) (B : Bu mg) : Cal P w K mg base 1 "_law_worth" (spWorth K 0) := by
  refine mkCal F sc__law_worth (fun vs H Q E h => ?_) (fun f cdv A outer s H vs Q E hr h => ?_)
  · obtain ⟨a, v, m, held, e, rfl, _⟩ := h
    rfl
  · obtain ⟨a, v, m, held, e, rfl, hH, hD, ok, q⟩ := h
    refine ⟨_, pss_cons (ps_if (pt_val (pe_callB (cl_isi K) (by rfl) B.isi (by decide +kernel) (pa_cons (pv 1) (pa_cons (pe_bltn (v := .ty "str") (by rfl) B.str (by decide +kernel) rfl) pa_nil)))) (pss_one (ps_ret (pe_dget (hu_of hr) (pv 0) (pv 1) (fun _ _ => rfl)))) pss_nil) (pss_cons (ps_if (pt_val (pe_callB (cl_isi K) (by rfl) B.isi (by decide +kernel) (pa_cons (pv 1) (pa_cons (pe_bltn (v := .ty "tuple") (by rfl) B.tuple (by decide +kernel) rfl) pa_nil)))) (pss_cons ps_no (pss_one ps_no)) pss_nil) (pss_one (ps_ret (pv 1)))), ?_⟩
    obtain ⟨kvs, eD, hv⟩ := hH
    obtain ⟨t1, u1, ci1, ci2, ci3⟩ := isi_str hD
    refine ⟨_, rfl, v, .ty "str", t1, u1, _, rfl, ci1, ci2, ci3, _, rfl, ?_⟩
    cases e with
    | nam x =>
      obtain rfl := dp_str hD
      exact ifT rfl ⟨_, rfl, _, rfl, a, _, rfl, .inl ⟨kvs, .inr (nmS x), .inl eD, rfl, (hv x ok).symm⟩, q⟩
    | num i =>
      obtain rfl := dp_int hD
      refine ifF rfl ?_
      obtain ⟨t2, u2, cj1, cj2, cj3⟩ := isi_tup hD
      exact ⟨_, rfl, .int i, .ty "tuple", t2, u2, _, rfl, cj1, cj2, cj3, _, rfl, ifF rfl ⟨_, rfl, q⟩⟩
    | sum add x y => exact absurd ok id
theorem ok_worthS (k : Nat) (F : Df K mg "_law_worth" st__law_worth ["held", "value"]) (B : Bu mg) (C : Cal P w K mg base (k + 1) "_law_worth" (spWorth K k)) : Cal P w K mg base (k + 2) "_law_worth" (spWorth K (k + 1)) := by
  refine mkCal F sc__law_worth (fun vs H Q E h => ?_) (fun f cdv A outer s H vs Q E hr h => ?_)
  · obtain ⟨a, v, m, held, e, rfl, _⟩ := h
    rfl
  · obtain ⟨a, v, m, held, e, rfl, hH, hD, ok, q⟩ := h
    refine ⟨_, pss_cons (ps_if (pt_val (pe_callB (cl_isi K) (by rfl) B.isi (by decide +kernel) (pa_cons (pv 1) (pa_cons (pe_bltn (v := .ty "str") (by rfl) B.str (by decide +kernel) rfl) pa_nil)))) (pss_one (ps_ret (pe_dget (hu_of hr) (pv 0) (pv 1) (fun _ _ => rfl)))) pss_nil)
      (pss_cons (ps_if (pt_val (pe_callB (cl_isi K) (by rfl) B.isi (by decide +kernel) (pa_cons (pv 1) (pa_cons (pe_bltn (v := .ty "tuple") (by rfl) B.tuple (by decide +kernel) rfl) pa_nil)))) (pss_cons (ps_par (i := 2) (j := 3) rfl sc__law_worth.nd rfl rfl (by decide) rfl rfl (pa_cons (pc C hr (pa_cons (pv 0) (pa_cons (pe_ix (ixT K) (pv 1) pe_int (fun _ _ => rfl)) pa_nil)) (hk := by omega)) (pa_cons (pc C hr (pa_cons (pv 0) (pa_cons (pe_ix (ixT K) (pv 1) pe_int (fun _ _ => rfl)) pa_nil)) (hk := by omega)) pa_nil)) rfl)
      (pss_one (ps_ret (pe_ifExp (pt_cmpR op_eq (pe_ix (ixT K) (pv 1) pe_int (fun _ _ => rfl)) pe_str (nomark _)) (pe_op op_add (pv 2) (pv 3)) (pe_op op_sub (pv 2) (pv 3)))))) pss_nil)
      (pss_one (ps_ret (pv 1)))), ?_⟩
    obtain ⟨kvs, eD, hv⟩ := id hH
    obtain ⟨t1, u1, ci1, ci2, ci3⟩ := isi_str hD
    obtain ⟨t2, u2, cj1, cj2, cj3⟩ := isi_tup hD
    refine ⟨_, rfl, v, .ty "str", t1, u1, _, rfl, ci1, ci2, ci3, _, rfl, ?_⟩
    cases e with
    | nam x =>
      obtain rfl := dp_str hD
      exact ifT rfl ⟨_, rfl, _, rfl, a, _, rfl, .inl ⟨kvs, .inr (nmS x), .inl eD, rfl, (hv x ok).symm⟩, q⟩
    | num i =>
      obtain rfl := dp_int hD
      exact ifF rfl ⟨_, rfl, .int i, .ty "tuple", t2, u2, _, rfl, cj1, cj2, cj3, _, rfl, ifF rfl ⟨_, rfl, q⟩⟩
    | sum add x y =>
      refine ifF rfl ⟨_, rfl, v, .ty "tuple", t2, u2, _, rfl, cj1, cj2, cj3, _, rfl, ifT rfl ?_⟩
      obtain ⟨b, v1, v2, v3, rfl, hS, h1, h2, h3⟩ := dp_tup3 hD
      obtain rfl := dp_str h1
      refine ⟨_, rfl, _, rfl, b, _, (1 : Int), v2, rfl, rfl, hS, rfl, a, v2, m, held, x, rfl, hH, h2, ok.1, ?_⟩
      refine ⟨_, rfl, _, rfl, b, _, (2 : Int), v3, rfl, rfl, hS, rfl, a, v3, m, held, y, rfl, hH, h3, ok.2, ?_⟩
      refine ⟨_, _, rfl, _, rfl, b, _, (0 : Int), _, rfl, rfl, hS, rfl, rfl, _, rfl, ?_⟩
      cases add with
      | true => exact ifT (by decide +kernel) ⟨_, rfl, _, rfl, _, _, rfl, rfl, q⟩
      | false => exact ifF (by decide +kernel) ⟨_, rfl, _, rfl, _, _, rfl, rfl, q⟩
end
end RH
set_option Elab.async false
set_option linter.all false
set_option maxRecDepth 100000
set_option maxHeartbeats 2000000
namespace RH
open PySem PySem.Spec PyProof.Rows L2
/-! ### sums that the law draws -/
inductive NL : PyData → Prop
  | none : NL .none
  | bl (b : Bool) : NL (.bool b)
  | int (i : Int) : NL (.int i)
  | str (z : Str) : NL (.str z)
  | tup {ds : List PyData} : (∀ d ∈ ds, NL d) → NL (.tuple ds)
theorem NL.inv {ds : List PyData} (h : NL (.tuple ds)) : ∀ d ∈ ds, NL d := by
  cases h with
  | tup h => exact h
theorem dp_fixN {K : PySem.W.Frag} {H H' : Hp} (f : Fix H H') {d : PyData} {v : V} (h : Dp K H v d) : NL d → Dp K H' v d := by
  refine Dp.rec (motive_1 := fun v d _ => NL d → Dp K H' v d) (motive_2 := fun vs ds _ => (∀ d ∈ ds, NL d) → DpAll K H' vs ds) (fun _ => .non) (fun b _ => .bl b) (fun i _ => .int i) (fun z _ => .str z) ?_ ?_ (fun _ => .nil) ?_ h
  · intro a xs ds hS hA ih n
    cases n
  · intro a xs ds hS hA ih n
    exact .tup (f.tups _ _ hS) (ih n.inv)
  · intro v vs d ds h1 h2 i1 i2 n
    exact .cons (i1 (n d (List.mem_cons_self ..))) (i2 fun e he => n e (List.mem_cons_of_mem _ he))
theorem nl_ex : ∀ e : Ex, NL (exD e)
  | .num i => .int i
  | .nam x => .str _
  | .sum add a b => .tup fun d hd => by
    rcases List.mem_cons.mp hd with rfl | hd
    · exact .str _
    · rcases List.mem_cons.mp hd with rfl | hd
      · exact nl_ex a
      · rw [List.mem_singleton.mp hd]
        exact nl_ex b
theorem nl_test (e : Ex) (g : Bool) : NL (.tuple [exD e, .bool g]) := .tup fun d hd => by
  rcases List.mem_cons.mp hd with rfl | hd
  · exact nl_ex e
  · rw [List.mem_singleton.mp hd]
    exact .bl g
mutual
theorem nl_pt : ∀ p : Pt, NL (ptD p)
  | .letP x e => .tup fun d hd => by
    rcases List.mem_cons.mp hd with rfl | hd
    · exact .str _
    · rcases List.mem_cons.mp hd with rfl | hd
      · exact .str _
      · rw [List.mem_singleton.mp hd]
        exact nl_ex e
  | .sayP e => .tup fun d hd => by
    rcases List.mem_cons.mp hd with rfl | hd
    · exact .str _
    · rw [List.mem_singleton.mp hd]
      exact nl_ex e
  | .askP x => .tup fun d hd => by
    rcases List.mem_cons.mp hd with rfl | hd
    · exact .str _
    · rw [List.mem_singleton.mp hd]
      exact .str _
  | .stopP => .tup fun d hd => by
    rw [List.mem_singleton.mp hd]
    exact .str _
  | .doP q => .tup fun d hd => by
    rcases List.mem_cons.mp hd with rfl | hd
    · exact .str _
    · rw [List.mem_singleton.mp hd]
      exact .str _
  | .ifP e g a b => .tup fun d hd => by
    rcases List.mem_cons.mp hd with rfl | hd
    · exact .str _
    · rcases List.mem_cons.mp hd with rfl | hd
      · exact nl_test e g
      · rcases List.mem_cons.mp hd with rfl | hd
        · exact .tup (nl_pts a)
        · rw [List.mem_singleton.mp hd]
          exact .tup (nl_pts b)
  | .whileP e g a => .tup fun d hd => by
    rcases List.mem_cons.mp hd with rfl | hd
    · exact .str _
    · rcases List.mem_cons.mp hd with rfl | hd
      · exact nl_test e g
      · rw [List.mem_singleton.mp hd]
        exact .tup (nl_pts a)
  | .repP k a => .tup fun d hd => by
    rcases List.mem_cons.mp hd with rfl | hd
    · exact .str _
    · rcases List.mem_cons.mp hd with rfl | hd
      · exact .int _
      · rw [List.mem_singleton.mp hd]
        exact .tup (nl_pts a)
theorem nl_pts : ∀ (b : List Pt), ∀ d ∈ ptsD b, NL d
  | [], _, hd => nomatch hd
  | p :: r, d, hd => by
    rw [ptsD] at hd
    rcases List.mem_cons.mp hd with rfl | hd
    · exact nl_pt p
    · exact nl_pts r d hd
end
/-- the names, as they stand in a program -/
def nmV (m : Nat) : List V := (List.range m).map fun x => V.str (nmS x)
theorem nmV_len (m : Nat) : (nmV m).length = m := by
  unfold nmV
  rw [List.length_map, List.length_range]
theorem nmV_at {m i : Nat} {x : V} (h : (nmV m)[i]? = some x) : i < m ∧ x = .str (nmS i) := by
  have l := (List.getElem?_eq_some_iff.mp h).1
  rw [nmV_len] at l
  refine ⟨l, ?_⟩
  unfold nmV at h
  rw [List.getElem?_map, List.getElem?_range l] at h
  exact (Option.some.inj h).symm
theorem okEx_nam {m k x : Nat} (h : x < m) : okEx m k (.nam x) := by cases k <;> exact h
theorem okEx_num {m k : Nat} {i : Int} (h1 : -1000 ≤ i) (h2 : i ≤ 1000) : okEx m k (.num i) := by cases k <;> exact ⟨h1, h2⟩
section
variable {P : Program} {w : World} {K : PySem.W.Frag} {mg : Str → Option Value} {base : Heap}
/-- a pick from a tuple -/
def spPickT (K : PySem.W.Frag) : Sp := fun vs H Q _ => ∃ (p l : Addr) (xs : List V), vs = [.ref p, .ref l] ∧ Row K H p ∧ SqT K H l xs ∧ 0 < xs.length ∧ xs.length ≤ 1000 ∧ ∀ (i : Nat) x H', xs[i]? = some x → But p H H' → Row K H' p → Q x H'
theorem ok_pickT (F : Df K mg "_law_pick" st__law_pick ["row", "things"]) (B : Bu mg) (CT : Cal P w K mg base 1 "_law_taken" (spTaken K)) : Cal P w K mg base 2 "_law_pick" (spPickT K) := by
  refine mkCal F sc__law_pick (fun vs H Q E h => ?_) (fun f cdv A outer s H vs Q E hr h => ?_)
  · obtain ⟨p, l, xs, rfl, _⟩ := h
    rfl
  · obtain ⟨p, l, xs, rfl, hR, hl, l0, l1, q⟩ := h
    refine ⟨_, pss_one (ps_ret (pe_ix (ixT K) (pv 1) (pc CT hr (pa_cons (pv 0) (pa_cons (pe_callB (cl_len K) (by rfl) B.len PySem.boot_len (pa_cons (pv 1) pa_nil)) pa_nil))) (fun _ _ => rfl))), ?_⟩
    refine ⟨_, rfl, _, rfl, _, rfl, l, xs, rfl, .inr hl, p, xs.length, rfl, hR, by omega, by omega, fun k H' k0 k1 hB hR' => ?_⟩
    have hk : k.toNat < xs.length := by omega
    exact ⟨l, xs, k, _, rfl, rfl, (hR.fix hB).tups _ _ hl, at_int k0 (List.getElem?_eq_getElem hk), q _ _ H' (List.getElem?_eq_getElem hk) hB hR'⟩
def spSum (K : PySem.W.Frag) (k : Nat) : Sp := fun vs H Q _ => ∃ (p na : Addr) (m : Nat), vs = [.ref p, .ref na, .int (4 - (k : Int))] ∧ k ≤ 3 ∧ Row K H p ∧ SqT K H na (nmV m) ∧ 1 ≤ m ∧ m ≤ 4 ∧ ∀ H' v e, But p H H' → Row K H' p → Dp K H' v (exD e) → okEx m k e → Q v H'
theorem ok_sum0 (F : Df K mg "_law_sum" st__law_sum ["row", "names", "deep"]) (B : Bu mg) (CT : Cal P w K mg base 1 "_law_taken" (spTaken K)) (CPk : Cal P w K mg base 2 "_law_pick" (spPick K)) (CPt : Cal P w K mg base 2 "_law_pick" (spPickT K)) : Cal P w K mg base 3 "_law_sum" (spSum K 0) := by
  refine mkCal F sc__law_sum (fun vs H Q E h => ?_) (fun f cdv A outer s H vs Q E hr h => ?_)
  · obtain ⟨p, na, m, rfl, _⟩ := h
    rfl
  · obtain ⟨p, na, m, rfl, k3, hR, hN, m1, m4, q⟩ := h
    refine ⟨_, pss_cons (ps_set (i := 3) sc__law_sum.nd rfl (.inl rfl) (pc CT hr (pa_cons (pv 0) (pa_cons pe_int pa_nil)) (hk := by omega))) (pss_cons (ps_if (PW.pt (pw_and (pt_cmpR op_lt (pv 3) pe_int (nomark _)) (pw_and1 (pt_cmpR op_lt (pv 2) pe_int (nomark _))))) (pss_one ps_no) pss_nil) (pss_one (ps_ret (pc CPk hr (pa_cons (pv 0) (pa_cons (pe_lst (pa_cons (pc CPt hr (pa_cons (pv 0) (pa_cons (pv 1) pa_nil)) (hk := by omega)) (pa_cons (pc CPt hr (pa_cons (pv 0) (pa_cons (pv 1) pa_nil)) (hk := by omega)) (pa_cons (pc CT hr (pa_cons (pv 0) (pa_cons pe_int pa_nil)) (hk := by omega)) (pa_cons (pe_op op_sub pe_int (pc CT hr (pa_cons (pv 0) (pa_cons pe_int pa_nil)) (hk := by omega))) pa_nil))))) pa_nil)) (hk := by omega))))), ?_⟩
    refine ⟨_, rfl, p, 6, rfl, hR, by decide, by decide, fun wy H1 w0 w6 hB1 hR1 => ?_⟩
    have fin : ∀ t : Prop, t → t := fun _ x => x
    refine ⟨_, rfl, wy, 2, rfl, rfl, _, rfl, ite2 (fun e => ⟨_, rfl, _, 4, rfl, rfl, _, rfl, ifF rfl ?_⟩) (fun e => ifF rfl ?_)⟩
    all_goals
      refine ⟨_, rfl, ?_⟩
      refine ⟨_, rfl, _, rfl, p, na, _, rfl, hR1, (hR.fix hB1).tups _ _ hN, by rw [nmV_len]; omega, by rw [nmV_len]; omega, fun i1 x1 H2 hx1 hB2 hR2 => ?_⟩
      refine ⟨_, rfl, _, rfl, p, na, _, rfl, hR2, (hR.fix (hB1.trans hB2)).tups _ _ hN, by rw [nmV_len]; omega, by rw [nmV_len]; omega, fun i2 x2 H3 hx2 hB3 hR3 => ?_⟩
      refine ⟨_, rfl, p, 4, rfl, hR3, by decide, by decide, fun z3 H4 z30 z31 hB4 hR4 => ?_⟩
      refine ⟨_, rfl, p, 1001, rfl, hR4, by decide, by decide, fun z4 H5 z40 z41 hB5 hR5 => ⟨0, z4, rfl, rfl, by show 4 ≤ sizeLine; decide, fun l hl => ?_⟩⟩
      have sl := same_new (o := .lst [x1, x2, .int z3, .int (0 - z4)]) hl
      refine ⟨p, l, _, rfl, hR5.same sl, upd_same, fun e => hR5.ne hl e.symm, by show 0 < 4; decide, by show 4 ≤ 1000; decide, fun j x H6 hj hB6 hR6 => ?_⟩
      have bt := hB1.trans (hB2.trans (hB3.trans (hB4.trans (hB5.trans ((But.same sl).trans hB6)))))
      match j, hj with
      | 0, hj =>
        cases hj
        obtain ⟨l1, rfl⟩ := nmV_at hx1
        exact q H6 _ (.nam i1) bt hR6 (.str _) (okEx_nam l1)
      | 1, hj =>
        cases hj
        obtain ⟨l1, rfl⟩ := nmV_at hx2
        exact q H6 _ (.nam i2) bt hR6 (.str _) (okEx_nam l1)
      | 2, hj =>
        cases hj
        exact q H6 _ (.num z3) bt hR6 (.int _) (okEx_num (by omega) (by omega))
      | 3, hj =>
        cases hj
        exact q H6 _ (.num (0 - z4)) bt hR6 (.int _) (okEx_num (by omega) (by omega))
      | j + 4, hj => simp at hj
theorem ok_sumS (k : Nat) (F : Df K mg "_law_sum" st__law_sum ["row", "names", "deep"]) (B : Bu mg) (CT : Cal P w K mg base 1 "_law_taken" (spTaken K)) (CPk : Cal P w K mg base 2 "_law_pick" (spPick K)) (CPt : Cal P w K mg base 2 "_law_pick" (spPickT K)) (C : Cal P w K mg base (k + 3) "_law_sum" (spSum K k)) : Cal P w K mg base (k + 4) "_law_sum" (spSum K (k + 1)) := by
  refine mkCal F sc__law_sum (fun vs H Q E h => ?_) (fun f cdv A outer s H vs Q E hr h => ?_)
  · obtain ⟨p, na, m, rfl, _⟩ := h
    rfl
  · obtain ⟨p, na, m, rfl, k3, hR, hN, m1, m4, q⟩ := h
    refine ⟨_, pss_cons (ps_set (i := 3) sc__law_sum.nd rfl (.inl rfl) (pc CT hr (pa_cons (pv 0) (pa_cons pe_int pa_nil)) (hk := by omega)))
      (pss_cons (ps_if (PW.pt (pw_and (pt_cmpR op_lt (pv 3) pe_int (nomark _)) (pw_and1 (pt_cmpR op_lt (pv 2) pe_int (nomark _))))) (pss_one (ps_ret (pe_tup (pa_cons (pc CPk hr (pa_cons (pv 0) (pa_cons (pe_lst (pa_cons pe_str (pa_cons pe_str pa_nil))) pa_nil)) (hk := by omega)) (pa_cons (pc C hr (pa_cons (pv 0) (pa_cons (pv 1) (pa_cons (pe_op op_add (pv 2) pe_int) pa_nil))) (hk := by omega)) (pa_cons (pc C hr (pa_cons (pv 0) (pa_cons (pv 1) (pa_cons (pe_op op_add (pv 2) pe_int) pa_nil))) (hk := by omega)) pa_nil)))))) pss_nil)
      (pss_one (ps_ret (pc CPk hr (pa_cons (pv 0) (pa_cons (pe_lst (pa_cons (pc CPt hr (pa_cons (pv 0) (pa_cons (pv 1) pa_nil)) (hk := by omega)) (pa_cons (pc CPt hr (pa_cons (pv 0) (pa_cons (pv 1) pa_nil)) (hk := by omega)) (pa_cons (pc CT hr (pa_cons (pv 0) (pa_cons pe_int pa_nil)) (hk := by omega)) (pa_cons (pe_op op_sub pe_int (pc CT hr (pa_cons (pv 0) (pa_cons pe_int pa_nil)) (hk := by omega))) pa_nil))))) pa_nil)) (hk := by omega))))), ?_⟩
    refine ⟨_, rfl, p, 6, rfl, hR, by decide, by decide, fun wy H1 w0 w6 hB1 hR1 => ?_⟩
    refine ⟨_, rfl, wy, 2, rfl, rfl, _, rfl, ite2 (fun e => ⟨_, rfl, _, 4, rfl, rfl, _, rfl, ifT (decide_eq_true (by omega)) ?_⟩) (fun e => ifF rfl ?_)⟩
    · refine ⟨_, rfl, by show 2 ≤ sizeLine; decide, fun l hl => ?_⟩
      have sl := same_new (o := .lst [.str "plus", .str "minus"]) hl
      refine ⟨p, l, _, rfl, hR1.same sl, upd_same, fun e => hR1.ne hl e.symm, by show 0 < 2; decide, by show 2 ≤ 1000; decide, fun j x H2 hj hB2 hR2 => ?_⟩
      have bt2 := hB1.trans ((But.same sl).trans hB2)
      have ek : (4 - ((k + 1 : Nat) : Int)) + 1 = 4 - (k : Int) := by omega
      refine ⟨_, rfl, _, rfl, _, rfl, _, 1, rfl, rfl, p, na, m, by show [V.ref p, V.ref na, V.int (4 - ((k + 1 : Nat) : Int) + 1)] = _; rw [ek], by omega, hR2, (hR.fix bt2).tups _ _ hN, m1, m4, fun H3 v2 e2 hB3 hR3 hD2 ok2 => ?_⟩
      have bt3 := bt2.trans hB3
      refine ⟨_, rfl, _, rfl, _, rfl, _, 1, rfl, rfl, p, na, m, by show [V.ref p, V.ref na, V.int (4 - ((k + 1 : Nat) : Int) + 1)] = _; rw [ek], by omega, hR3, (hR.fix bt3).tups _ _ hN, m1, m4, fun H4 v3 e3 hB4 hR4 hD3 ok3 => ⟨by show 3 ≤ sizeLine; decide, fun t ht => ?_⟩⟩
      have st := same_new (o := .tup [x, v2, v3]) ht
      have hD2' := Dp.on st _ _ (dp_fixN (hR3.fix hB4) hD2 (nl_ex e2))
      have hD3' := Dp.on st _ _ hD3
      have go : ∀ add : Bool, x = .str (if add = true then "plus" else "minus") → Q (.ref t) (upd H4 t (.tup [x, v2, v3])) := fun add ex => by
        subst ex
        exact q _ _ (.sum add e2 e3) (bt3.trans (hB4.trans (But.same st))) (hR4.same st) (.tup (tupAt upd_same) (.cons (.str _) (.cons hD2' (.cons hD3' .nil)))) ⟨ok2, ok3⟩
      match j, hj with
      | 0, hj =>
        cases hj
        exact go true rfl
      | 1, hj =>
        cases hj
        exact go false rfl
      | j + 2, hj => simp at hj
    ·
      refine ⟨_, rfl, ?_⟩
      refine ⟨_, rfl, _, rfl, p, na, _, rfl, hR1, (hR.fix hB1).tups _ _ hN, by rw [nmV_len]; omega, by rw [nmV_len]; omega, fun i1 x1 H2 hx1 hB2 hR2 => ?_⟩
      refine ⟨_, rfl, _, rfl, p, na, _, rfl, hR2, (hR.fix (hB1.trans hB2)).tups _ _ hN, by rw [nmV_len]; omega, by rw [nmV_len]; omega, fun i2 x2 H3 hx2 hB3 hR3 => ?_⟩
      refine ⟨_, rfl, p, 4, rfl, hR3, by decide, by decide, fun z3 H4 z30 z31 hB4 hR4 => ?_⟩
      refine ⟨_, rfl, p, 1001, rfl, hR4, by decide, by decide, fun z4 H5 z40 z41 hB5 hR5 => ⟨0, z4, rfl, rfl, by show 4 ≤ sizeLine; decide, fun l hl => ?_⟩⟩
      have sl := same_new (o := .lst [x1, x2, .int z3, .int (0 - z4)]) hl
      refine ⟨p, l, _, rfl, hR5.same sl, upd_same, fun e => hR5.ne hl e.symm, by show 0 < 4; decide, by show 4 ≤ 1000; decide, fun j x H6 hj hB6 hR6 => ?_⟩
      have bt := hB1.trans (hB2.trans (hB3.trans (hB4.trans (hB5.trans ((But.same sl).trans hB6)))))
      match j, hj with
      | 0, hj =>
        cases hj
        obtain ⟨l1, rfl⟩ := nmV_at hx1
        exact q H6 _ (.nam i1) bt hR6 (.str _) (okEx_nam l1)
      | 1, hj =>
        cases hj
        obtain ⟨l1, rfl⟩ := nmV_at hx2
        exact q H6 _ (.nam i2) bt hR6 (.str _) (okEx_nam l1)
      | 2, hj =>
        cases hj
        exact q H6 _ (.num z3) bt hR6 (.int _) (okEx_num (by omega) (by omega))
      | 3, hj =>
        cases hj
        exact q H6 _ (.num (0 - z4)) bt hR6 (.int _) (okEx_num (by omega) (by omega))
      | j + 4, hj => simp at hj
end
end RH
set_option Elab.async false
set_option linter.all false
set_option maxRecDepth 100000
set_option maxHeartbeats 2000000
namespace RH
open PySem PySem.Spec PyProof.Rows L2
/-! ### how many parts a block has, by the law's hand -/
theorem dpAll_len {K : PySem.W.Frag} {H : Hp} : ∀ {vs : List V} {ds : List PyData}, DpAll K H vs ds → vs.length = ds.length
  | _, _, .nil => rfl
  | _, _, .cons _ t => congrArg (· + 1) (dpAll_len t)
theorem dpAll_at {K : PySem.W.Frag} {H : Hp} : ∀ {vs : List V} {ds : List PyData} {i : Nat} {v : V}, DpAll K H vs ds → vs[i]? = some v → ∃ d, ds[i]? = some d ∧ Dp K H v d
  | _, _, _, _, .nil, e => by simp at e
  | _, _, 0, _, .cons h _, e => by
    cases e
    exact ⟨_, rfl, h⟩
  | _, _, i + 1, _, .cons _ t, e => dpAll_at (i := i) t e
def wdP : Pt → Str
  | .letP .. => "let"
  | .sayP _ => "say"
  | .askP _ => "ask"
  | .stopP => "stop"
  | .doP _ => "do"
  | .ifP .. => "if"
  | .whileP .. => "while"
  | .repP .. => "repeat"
def holdB : Pt → Bool
  | .ifP .. => true
  | .whileP .. => true
  | .repP .. => true
  | _ => false
def inn : Pt → List (List Pt)
  | .ifP _ _ a b => [a, b]
  | .whileP _ _ a => [a]
  | .repP _ a => [a]
  | _ => []
theorem cnt_inn : ∀ p : Pt, cntP p = 1 + ((inn p).map cntB).sum
  | .letP .. => rfl
  | .sayP _ => rfl
  | .askP _ => rfl
  | .stopP => rfl
  | .doP _ => rfl
  | .ifP _ _ a b => by
    rw [cntP]
    show _ = 1 + (cntB a + (cntB b + 0))
    omega
  | .whileP _ _ a => by
    rw [cntP]
    rfl
  | .repP _ a => by
    rw [cntP]
    rfl
theorem in_hold (p : Pt) : inV (V.str (wdP p)) [V.str "if", V.str "while", V.str "repeat"] = holdB p := by
  have key : ∀ z ∈ (["let", "say", "ask", "stop", "do", "if", "while", "repeat"] : List Str), inV (V.str z) [V.str "if", V.str "while", V.str "repeat"] = decide (z ∈ (["if", "while", "repeat"] : List Str)) := by decide +kernel
  have h2 : wdP p ∈ (["let", "say", "ask", "stop", "do", "if", "while", "repeat"] : List Str) ∧ decide (wdP p ∈ (["if", "while", "repeat"] : List Str)) = holdB p := by
    cases p
    · exact ⟨show ("let" : Str) ∈ (["let", "say", "ask", "stop", "do", "if", "while", "repeat"] : List Str) by decide +kernel, show decide ((("let" : Str)) ∈ (["if", "while", "repeat"] : List Str)) = false by decide +kernel⟩
    · exact ⟨show ("say" : Str) ∈ (["let", "say", "ask", "stop", "do", "if", "while", "repeat"] : List Str) by decide +kernel, show decide ((("say" : Str)) ∈ (["if", "while", "repeat"] : List Str)) = false by decide +kernel⟩
    · exact ⟨show ("ask" : Str) ∈ (["let", "say", "ask", "stop", "do", "if", "while", "repeat"] : List Str) by decide +kernel, show decide ((("ask" : Str)) ∈ (["if", "while", "repeat"] : List Str)) = false by decide +kernel⟩
    · exact ⟨show ("stop" : Str) ∈ (["let", "say", "ask", "stop", "do", "if", "while", "repeat"] : List Str) by decide +kernel, show decide ((("stop" : Str)) ∈ (["if", "while", "repeat"] : List Str)) = false by decide +kernel⟩
    · exact ⟨show ("do" : Str) ∈ (["let", "say", "ask", "stop", "do", "if", "while", "repeat"] : List Str) by decide +kernel, show decide ((("do" : Str)) ∈ (["if", "while", "repeat"] : List Str)) = false by decide +kernel⟩
    · exact ⟨show ("if" : Str) ∈ (["let", "say", "ask", "stop", "do", "if", "while", "repeat"] : List Str) by decide +kernel, show decide ((("if" : Str)) ∈ (["if", "while", "repeat"] : List Str)) = true by decide +kernel⟩
    · exact ⟨show ("while" : Str) ∈ (["let", "say", "ask", "stop", "do", "if", "while", "repeat"] : List Str) by decide +kernel, show decide ((("while" : Str)) ∈ (["if", "while", "repeat"] : List Str)) = true by decide +kernel⟩
    · exact ⟨show ("repeat" : Str) ∈ (["let", "say", "ask", "stop", "do", "if", "while", "repeat"] : List Str) by decide +kernel, show decide ((("repeat" : Str)) ∈ (["if", "while", "repeat"] : List Str)) = true by decide +kernel⟩
  rw [key _ h2.1, h2.2]
theorem pt_open {K : PySem.W.Frag} {H : Hp} {v : V} {p : Pt} (h : Dp K H v (ptD p)) : ∃ a xs, v = .ref a ∧ SqT K H a xs ∧ xs[0]? = some (.str (wdP p)) ∧ (holdB p = true → DpAll K H (xs.drop 2) ((inn p).map bkD)) := by
  have key : ∀ {x : PyData} {r : List PyData}, Dp K H v (.tuple (x :: r)) → ∃ a y ys, v = .ref a ∧ SqT K H a (y :: ys) ∧ Dp K H y x ∧ DpAll K H ys r := fun {x r} h => by
    cases h with
    | tup hS hA =>
      cases hA with
      | cons h1 t => exact ⟨_, _, _, rfl, hS, h1, t⟩
  cases p with
  | letP x e =>
    obtain ⟨a, y, ys, rfl, hS, h1, _⟩ := key h
    exact ⟨a, _, rfl, hS, by rw [dp_str h1]; rfl, fun z => nomatch z⟩
  | sayP e =>
    obtain ⟨a, y, ys, rfl, hS, h1, _⟩ := key h
    exact ⟨a, _, rfl, hS, by rw [dp_str h1]; rfl, fun z => nomatch z⟩
  | askP x =>
    obtain ⟨a, y, ys, rfl, hS, h1, _⟩ := key h
    exact ⟨a, _, rfl, hS, by rw [dp_str h1]; rfl, fun z => nomatch z⟩
  | stopP =>
    obtain ⟨a, y, ys, rfl, hS, h1, _⟩ := key h
    exact ⟨a, _, rfl, hS, by rw [dp_str h1]; rfl, fun z => nomatch z⟩
  | doP q =>
    obtain ⟨a, y, ys, rfl, hS, h1, _⟩ := key h
    exact ⟨a, _, rfl, hS, by rw [dp_str h1]; rfl, fun z => nomatch z⟩
  | ifP e g a b =>
    obtain ⟨a, y, ys, rfl, hS, h1, t⟩ := key h
    cases t with
    | cons h2 t => exact ⟨a, _, rfl, hS, by rw [dp_str h1]; rfl, fun _ => t⟩
  | whileP e g a =>
    obtain ⟨a, y, ys, rfl, hS, h1, t⟩ := key h
    cases t with
    | cons h2 t => exact ⟨a, _, rfl, hS, by rw [dp_str h1]; rfl, fun _ => t⟩
  | repP k a =>
    obtain ⟨a, y, ys, rfl, hS, h1, t⟩ := key h
    cases t with
    | cons h2 t => exact ⟨a, _, rfl, hS, by rw [dp_str h1]; rfl, fun _ => t⟩
theorem ok_inn {m q k : Nat} {p : Pt} (h : okPt m q (k + 1) p) : ∀ a ∈ inn p, okBk m q k a := by
  intro a ha
  cases p with
  | ifP e g b c =>
    rcases List.mem_cons.mp ha with rfl | ha
    · exact h.2.1
    · rw [List.mem_singleton.mp ha]
      exact h.2.2
  | whileP e g b =>
    rw [List.mem_singleton.mp ha]
    exact h.2
  | repP k b =>
    rw [List.mem_singleton.mp ha]
    exact h.2
  | _ => cases ha
section
variable {P : Program} {w : World} {K : PySem.W.Frag} {mg : Str → Option Value} {base : Heap}
def spLParts (K : PySem.W.Frag) (k : Nat) : Sp := fun vs H Q _ => ∃ (v : V) (b : List Pt) (m q : Nat), vs = [v] ∧ Dp K H v (bkD b) ∧ okBk m q k b ∧ ∀ H', Same H H' → Q (.int (cntB b : Nat)) H'
theorem ok_lparts0 (F : Df K mg "_law_parts" st__law_parts ["block"]) (B : Bu mg) : Cal P w K mg base 1 "_law_parts" (spLParts K 0) := by
  refine mkCal F sc__law_parts (fun vs H Q E h => ?_) (fun f cdv A outer s H vs Q E hr h => ?_)
  · obtain ⟨v, b, m, qq, rfl, _⟩ := h
    rfl
  · obtain ⟨v, b, m, qq, rfl, hD, ok, q⟩ := h
    refine ⟨_, pss_cons (ps_set (i := 1) sc__law_parts.nd rfl (.inl rfl) pe_int)
      (pss_cons (ps_for PassesOwn.never rfl (pi_tup (pv 0)) (pg_name (i := 2) sc__law_parts.nd rfl (Or.inl rfl)) (pss_cons (ps_set (i := 1) sc__law_parts.nd rfl (.inl rfl) (pe_op op_add (pv 1) pe_int))
      (pss_one (ps_for PassesOwn.never rfl (pi_tup (pe_ifExp (pt_cmpR (opIn K) (pe_ix (ixT K) (pv 2) pe_int (fun _ _ => rfl)) (pe_lst (pa_cons pe_str (pa_cons pe_str (pa_cons pe_str pa_nil)))) rfl) (pe_slice sl_tupA (pv 2) (po_some pe_int) po_none) (pe_tup pa_nil))) (pg_name (i := 3) sc__law_parts.nd rfl (Or.inl rfl)) (pss_one ps_no)))))
      (pss_one (ps_ret (pv 1)))), ?_⟩
    obtain ⟨a, xs, rfl, hS, hA⟩ : ∃ a xs, v = .ref a ∧ SqT K H a xs ∧ DpAll K H xs (ptsD b) := by
      cases hD with
      | tup hS hA => exact ⟨_, _, rfl, hS, hA⟩
    have lA := dpAll_len hA
    rw [ptsD_map, List.length_map] at lA
    refine ⟨_, rfl, a, rfl, ⟨_, hS⟩, ?_⟩
    refine for_tup (xs := xs) (fun i σ H' => Same H H' ∧ ∃ y2 y3, σ = [some (.ref a), some (.int (cntB (b.take i) : Nat)), y2, y3]) ⟨Same.refl H, none, none, rfl⟩ (fun i σ H' _ h' => onT h'.1 hS) (fun i x σ H' hx h' => ?_) (fun σ H' h' => ?_)
    · obtain ⟨sm, y2, y3, rfl⟩ := h'
      obtain ⟨d, hd, hx1⟩ := dpAll_at hA hx
      rw [ptsD_map, List.getElem?_map, Option.map_eq_some_iff] at hd
      obtain ⟨pt, hp, rfl⟩ := hd
      have okp := ok.2 pt (List.mem_of_getElem? hp)
      obtain ⟨c, ys, rfl, hY, h0, hI⟩ := pt_open (Dp.on sm _ _ hx1)
      have more : cntB (b.take (i + 1)) = cntB (b.take i) + cntP pt := by
        rw [List.take_add_one, hp, cntB_app]
        show _ + cntB [pt] = _
        rw [cntB, cntB, Nat.add_zero]
      refine ⟨_, rfl, _, 1, rfl, rfl, _, rfl, c, ys, (0 : Int), .str (wdP pt), rfl, rfl, hY, atI_nat h0, by show 3 ≤ sizeLine; decide, fun l hl => ?_⟩
      have sl := same_new (o := .lst [.str "if", .str "while", .str "repeat"]) hl
      refine ⟨l, _, rfl, .inl (lstAt upd_same), rfl, rfl, _, rfl, ?_⟩
      rw [show (if false = true then !inV (V.str (wdP pt)) [V.str "if", V.str "while", V.str "repeat"] else inV (V.str (wdP pt)) [V.str "if", V.str "while", V.str "repeat"]) = holdB pt from in_hold pt]
      cases hb : holdB pt with
      | true =>
        exfalso
        cases pt <;> first | (cases hb; done) | exact okp
      | false =>
        have cp : cntP pt = 1 := by
          cases pt <;> first | rfl | cases hb
        refine ifF rfl ⟨Nat.zero_le _, fun t ht => ⟨t, rfl, ⟨_, tupAt upd_same⟩, ?_⟩⟩
        have st := same_new (o := .tup []) ht
        refine for_tup (K := K) (g := gName 3) (tb := fun _ _ _ => False) (xs := []) (fun j σ H2 => Same H H2 ∧ H2 t = some (.tup []) ∧ σ = [some (.ref a), some (.int ((cntB (b.take i) : Nat) + 1)), some (.ref c), y3]) ⟨sm.trans (sl.trans st), upd_same, rfl⟩ (fun j σ H2 _ h2 => tupAt h2.2.1) (fun j x σ H2 hx2 h2 => by simp at hx2) (fun σ H2 h2 => ?_)
        obtain ⟨s2, _, rfl⟩ := h2
        refine ⟨s2, some (.ref c), y3, ?_⟩
        rw [more, cp]
        rfl
    · obtain ⟨sm, y2, y3, rfl⟩ := h'
      rw [lA, List.take_length]
      exact ⟨_, rfl, q H' sm⟩
theorem ok_lpartsS (k : Nat) (F : Df K mg "_law_parts" st__law_parts ["block"]) (B : Bu mg) (C : Cal P w K mg base (k + 1) "_law_parts" (spLParts K k)) : Cal P w K mg base (k + 2) "_law_parts" (spLParts K (k + 1)) := by
  refine mkCal F sc__law_parts (fun vs H Q E h => ?_) (fun f cdv A outer s H vs Q E hr h => ?_)
  · obtain ⟨v, b, m, qq, rfl, _⟩ := h
    rfl
  · obtain ⟨v, b, m, qq, rfl, hD, ok, q⟩ := h
    refine ⟨_, pss_cons (ps_set (i := 1) sc__law_parts.nd rfl (.inl rfl) pe_int)
      (pss_cons (ps_for PassesOwn.never rfl (pi_tup (pv 0)) (pg_name (i := 2) sc__law_parts.nd rfl (Or.inl rfl)) (pss_cons (ps_set (i := 1) sc__law_parts.nd rfl (.inl rfl) (pe_op op_add (pv 1) pe_int))
      (pss_one (ps_for PassesOwn.never rfl (pi_tup (pe_ifExp (pt_cmpR (opIn K) (pe_ix (ixT K) (pv 2) pe_int (fun _ _ => rfl)) (pe_lst (pa_cons pe_str (pa_cons pe_str (pa_cons pe_str pa_nil)))) rfl) (pe_slice sl_tupA (pv 2) (po_some pe_int) po_none) (pe_tup pa_nil))) (pg_name (i := 3) sc__law_parts.nd rfl (Or.inl rfl)) (pss_one (ps_set (i := 1) sc__law_parts.nd rfl (.inl rfl) (pe_op op_add (pv 1) (pc C hr (pa_cons (pv 3) pa_nil) (hk := by omega)))))))))
      (pss_one (ps_ret (pv 1)))), ?_⟩
    obtain ⟨a, xs, rfl, hS, hA⟩ : ∃ a xs, v = .ref a ∧ SqT K H a xs ∧ DpAll K H xs (ptsD b) := by
      cases hD with
      | tup hS hA => exact ⟨_, _, rfl, hS, hA⟩
    have lA := dpAll_len hA
    rw [ptsD_map, List.length_map] at lA
    refine ⟨_, rfl, a, rfl, ⟨_, hS⟩, ?_⟩
    refine for_tup (xs := xs) (fun i σ H' => Same H H' ∧ ∃ y2 y3, σ = [some (.ref a), some (.int (cntB (b.take i) : Nat)), y2, y3]) ⟨Same.refl H, none, none, rfl⟩ (fun i σ H' _ h' => onT h'.1 hS) (fun i x σ H' hx h' => ?_) (fun σ H' h' => ?_)
    · obtain ⟨sm, y2, y3, rfl⟩ := h'
      obtain ⟨d, hd, hx1⟩ := dpAll_at hA hx
      rw [ptsD_map, List.getElem?_map, Option.map_eq_some_iff] at hd
      obtain ⟨pt, hp, rfl⟩ := hd
      have okp := ok.2 pt (List.mem_of_getElem? hp)
      obtain ⟨c, ys, rfl, hY, h0, hI⟩ := pt_open (Dp.on sm _ _ hx1)
      have more : cntB (b.take (i + 1)) = cntB (b.take i) + cntP pt := by
        rw [List.take_add_one, hp, cntB_app]
        show _ + cntB [pt] = _
        rw [cntB, cntB, Nat.add_zero]
      refine ⟨_, rfl, _, 1, rfl, rfl, _, rfl, c, ys, (0 : Int), .str (wdP pt), rfl, rfl, hY, atI_nat h0, by show 3 ≤ sizeLine; decide, fun l hl => ?_⟩
      have sl := same_new (o := .lst [.str "if", .str "while", .str "repeat"]) hl
      refine ⟨l, _, rfl, .inl (lstAt upd_same), rfl, rfl, _, rfl, ?_⟩
      rw [show (if false = true then !inV (V.str (wdP pt)) [V.str "if", V.str "while", V.str "repeat"] else inV (V.str (wdP pt)) [V.str "if", V.str "while", V.str "repeat"]) = holdB pt from in_hold pt]
      cases hb : holdB pt with
      | true =>
        refine ifT rfl ⟨_, rfl, 2, rfl, ?_⟩
        unfold tNoPart
        dsimp only
        refine slT_from (K := K) 2 2 rfl (onT sl hY) fun t H2 s2 ht => ⟨t, rfl, ⟨_, ht⟩, ?_⟩
        have hI := hI hb
        have lI := dpAll_len hI
        rw [List.length_map] at lI
        have s3 := sm.trans (sl.trans s2)
        refine for_tup (D := { nx := fun σ H' => Same H H' ∧ ∃ y2 y3, σ = [some (.ref a), some (.int (cntB (b.take (i + 1)) : Nat)), y2, y3], rt := Q }) (σ := [some (.ref a), some (.int ((cntB (b.take i) : Nat) + 1)), some (.ref c), y3]) (xs := ys.drop 2) (fun j σ H3 => Same H2 H3 ∧ ∃ y3, σ = [some (.ref a), some (.int ((cntB (b.take i) : Nat) + 1 + ((((inn pt).take j).map cntB).sum : Nat))), some (.ref c), y3]) ⟨Same.refl H2, y3, by simp⟩ (fun j σ H3 _ h3 => onT h3.1 ht) (fun j x σ H3 hx3 h3 => ?_) (fun σ H3 h3 => ?_)
        · obtain ⟨sm3, y, rfl⟩ := h3
          obtain ⟨d, hd, hx4⟩ := dpAll_at hI hx3
          rw [List.getElem?_map, Option.map_eq_some_iff] at hd
          obtain ⟨bk, hbk, rfl⟩ := hd
          refine ⟨_, rfl, _, rfl, x, bk, m, qq, rfl, Dp.on (sl.trans (s2.trans sm3)) _ _ hx4, ok_inn okp bk (List.mem_of_getElem? hbk), fun H4 s4 => ⟨_, _, rfl, rfl, sm3.trans s4, some x, ?_⟩⟩
          rw [List.take_add_one, hbk, List.map_append, List.sum_append]
          show _ = [_, some (V.int (_ + (((((inn pt).take j).map cntB).sum + (cntB bk + 0) : Nat) : Int))), _, _]
          rw [Nat.add_zero, Int.natCast_add, ← Int.add_assoc]
          rfl
        · obtain ⟨sm3, y, rfl⟩ := h3
          refine ⟨s3.trans sm3, some (.ref c), y, ?_⟩
          rw [lI, List.take_length, more, cnt_inn, Int.natCast_add, Int.natCast_add, ← Int.add_assoc]
          rfl
      | false =>
        have cp : cntP pt = 1 := by
          cases pt <;> first | rfl | cases hb
        refine ifF rfl ⟨Nat.zero_le _, fun t ht => ⟨t, rfl, ⟨_, tupAt upd_same⟩, ?_⟩⟩
        have st := same_new (o := .tup []) ht
        refine for_tup (xs := []) (fun j σ H2 => Same H H2 ∧ H2 t = some (.tup []) ∧ σ = [some (.ref a), some (.int ((cntB (b.take i) : Nat) + 1)), some (.ref c), y3]) ⟨sm.trans (sl.trans st), upd_same, rfl⟩ (fun j σ H2 _ h2 => tupAt h2.2.1) (fun j x σ H2 hx2 h2 => by simp at hx2) (fun σ H2 h2 => ?_)
        obtain ⟨s2, _, rfl⟩ := h2
        refine ⟨s2, some (.ref c), y3, ?_⟩
        rw [more, cp]
        rfl
    · obtain ⟨sm, y2, y3, rfl⟩ := h'
      rw [lA, List.take_length]
      exact ⟨_, rfl, q H' sm⟩
end
end RH
set_option Elab.async false
set_option linter.all false
set_option maxRecDepth 100000
set_option maxHeartbeats 2000000
namespace RH
open PySem PySem.Spec PyProof.Rows L2
/-! ### blocks that the law draws -/
theorem ps_cutM {X : Cx} {st : Stmt} {t : TS} (h : PS X st t) : PS X st (fun D σ H => ∃ G : L2.St → Hp → Prop, (∀ σ' H', G σ' H' → D.nx σ' H') ∧ t { D with nx := G } σ H) :=
  ⟨fun pins s σ H D I ⟨G, hG, hq⟩ => wpAny_mono (h.run pins s σ H _ I hq) (fun f s' z => by
    cases f with
    | next => exact let ⟨σ', H', J, g⟩ := z; ⟨σ', H', J, hG _ _ g⟩
    | _ => exact z) fun _ _ z => z⟩
theorem DpAll.fixN {K : PySem.W.Frag} {H H' : Hp} (f : Fix H H') : ∀ {vs : List V} {ds : List PyData}, DpAll K H vs ds → (∀ d ∈ ds, NL d) → DpAll K H' vs ds
  | _, _, .nil, _ => .nil
  | _, _, .cons h t, n => .cons (dp_fixN f h (n _ (List.mem_cons_self ..))) (DpAll.fixN f t fun d hd => n d (List.mem_cons_of_mem _ hd))
theorem DpAll.snoc {K : PySem.W.Frag} {H : Hp} {v : V} {d : PyData} (h : Dp K H v d) : ∀ {vs : List V} {ds : List PyData}, DpAll K H vs ds → DpAll K H (vs ++ [v]) (ds ++ [d])
  | _, _, .nil => .cons h .nil
  | _, _, .cons g t => .cons g (DpAll.snoc h t)
theorem ptsD_app (a b : List Pt) : ptsD (a ++ b) = ptsD a ++ ptsD b := by rw [ptsD_map, ptsD_map, ptsD_map, List.map_append]
def pcV (q : Nat) : List V := (List.range q).map fun x => V.str (pcS60 x)
theorem pcV_len (q : Nat) : (pcV q).length = q := by
  unfold pcV
  rw [List.length_map, List.length_range]
theorem pcV_at {m i : Nat} {x : V} (h : (pcV m)[i]? = some x) : i < m ∧ x = .str (pcS60 i) := by
  have l := (List.getElem?_eq_some_iff.mp h).1
  rw [pcV_len] at l
  refine ⟨l, ?_⟩
  unfold pcV at h
  rw [List.getElem?_map, List.getElem?_range l] at h
  exact (Option.some.inj h).symm
theorem okP_let {m q d x : Nat} {e : Ex} (h : x < m) (g : okEx m 3 e) : okPt m q d (.letP x e) := by cases d <;> exact ⟨h, g⟩
theorem okP_say {m q d : Nat} {e : Ex} (g : okEx m 3 e) : okPt m q d (.sayP e) := by cases d <;> exact g
theorem okP_ask {m q d x : Nat} (h : x < m) : okPt m q d (.askP x) := by cases d <;> exact h
theorem okP_do {m q d x : Nat} (h : x < q) : okPt m q d (.doP x) := by cases d <;> exact h
theorem okP_stop {m q d : Nat} : okPt m q d .stopP := by cases d <;> exact True.intro
/-- the parts found so far -/
def BkS (K : PySem.W.Frag) (p D : Addr) (m q d : Nat) (H : Hp) (i : Nat) (H' : Hp) : Prop := ∃ (us : List V) (b : List Pt), But p H H' ∧ Row K H' p ∧ H' D = some (.lst us) ∧ DpAll K H' us (ptsD b) ∧ (∀ x ∈ b, okPt m q d x) ∧ b.length ≤ i
theorem BkS.skip {K : PySem.W.Frag} {p D : Addr} {m q d i : Nat} {H H' H5 : Hp} (g : BkS K p D m q d H i H') (hpD : p ≠ D) (b : But p H' H5) (r : Row K H5 p) : BkS K p D m q d H (i + 1) H5 := by
  obtain ⟨us, bk, hB, hR, e, hU, ok, le⟩ := g
  exact ⟨us, bk, hB.trans b, r, b _ _ e (Ne.symm hpD), DpAll.fixN (hR.fix b) hU (nl_pts bk), ok, by omega⟩
theorem BkS.step {K : PySem.W.Frag} {p D : Addr} {m q d i : Nat} {H H' H5 : Hp} (g : BkS K p D m q d H i H') (hD : H D = none) (hpD : p ≠ D) (b : But p H' H5) (r : Row K H5 p) : ∃ us, H5 D = some (.lst us) ∧ us.length ≤ i ∧ ∀ v pt, Dp K H5 v (ptD pt) → okPt m q d pt → BkS K p D m q d H (i + 1) (upd H5 D (.lst (us ++ [v]))) := by
  obtain ⟨us, bk, hB, hR, e, hU, ok, le⟩ := g
  have e5 := b _ _ e (Ne.symm hpD)
  have lu := dpAll_len hU
  rw [ptsD_map, List.length_map] at lu
  refine ⟨us, e5, by omega, fun v pt hv hp => ⟨us ++ [v], bk ++ [pt], (hB.trans b).fresh hD, r.lst_upd e5 hpD, upd_same, ?_, fun x hx => ?_, by rw [List.length_append]; show _ + 1 ≤ _; omega⟩⟩
  · rw [ptsD_app]
    exact DpAll.snoc (dp_fixN (Fix.lst e5) hv (nl_pt pt)) (DpAll.fixN ((hR.fix b).trans (Fix.lst e5)) hU (nl_pts bk))
  · rcases List.mem_append.mp hx with hx | hx
    · exact ok x hx
    · rw [List.mem_singleton.mp hx]
      exact hp
theorem dp_pcs {K : PySem.W.Frag} {H : Hp} {a : Addr} {q : Nat} (h : SqT K H a (pcV q)) : Dp K H (.ref a) (.tuple ((List.range q).map fun x => PyData.str (pcS60 x))) := by
  refine .tup h ?_
  unfold pcV
  generalize List.range q = l
  induction l with
  | nil => exact .nil
  | cons x l ih => exact .cons (.str _) ih
theorem pcs_ne (q : Nat) (h : q ≤ 2) : SeqAt.shaped (.tuple ((List.range q).map fun x => PyData.str (pcS60 x))) = true ∧ PyData.eqv (.tuple ((List.range q).map fun x => PyData.str (pcS60 x))) (.tuple ([].map PyData.int)) = decide (q = 0) := by
  have : q = 0 ∨ q = 1 ∨ q = 2 := by omega
  rcases this with rfl | rfl | rfl <;> decide +kernel
section
variable {P : Program} {w : World} {K : PySem.W.Frag} {mg : Str → Option Value} {base : Heap}
def spBlock (K : PySem.W.Frag) (d : Nat) : Sp := fun vs H Q _ => ∃ (p na da : Addr) (m q : Nat), vs = [.ref p, .ref na, .ref da, .int (3 - (d : Int))] ∧ d ≤ 2 ∧ Row K H p ∧ SqT K H na (nmV m) ∧ 1 ≤ m ∧ m ≤ 4 ∧ SqT K H da (pcV q) ∧ q ≤ 2 ∧ ∀ H' v b, But p H H' → Row K H' p → Dp K H' v (bkD b) → okBk m q d b → Q v H'
theorem ok_block0 (F : Df K mg "_law_block" st__law_block ["row", "names", "done", "deep"]) (B : Bu mg) (CT : Cal P w K mg base 1 "_law_taken" (spTaken K)) (CPk : Cal P w K mg base 2 "_law_pick" (spPick K)) (CPt : Cal P w K mg base 2 "_law_pick" (spPickT K)) (CS3 : Cal P w K mg base 6 "_law_sum" (spSum K 3)) (CS2 : Cal P w K mg base 5 "_law_sum" (spSum K 2)) : Cal P w K mg base 7 "_law_block" (spBlock K 0) := by
  refine mkCal F sc__law_block (fun vs H Q E h => ?_) (fun f cdv A outer s H vs Q E hr h => ?_)
  · obtain ⟨p, na, da, m, qq, rfl, _⟩ := h
    rfl
  · obtain ⟨p, na, da, m, qq, rfl, d2, hR, hN, m1, m4, hDa, q2, q⟩ := h
    refine ⟨_, pss_cons (ps_set (i := 4) sc__law_block.nd rfl (.inl rfl) (pe_lst pa_nil))
      (pss_cons (ps_for PassesOwn.never rfl (pi_range1 (by rfl) B.range (pa_cons (pe_op op_add pe_int (pc CT hr (pa_cons (pv 0) (pa_cons pe_int pa_nil)) (hk := by omega))) pa_nil)) (pg_name (i := 5) sc__law_block.nd rfl (Or.inl rfl)) (pss_cons (ps_set (i := 6) sc__law_block.nd rfl (.inl rfl) (pc CT hr (pa_cons (pv 0) (pa_cons pe_int pa_nil)) (hk := by omega)))
      (pss_one (ps_if (pt_cmpR op_lt (pv 6) pe_int (nomark _)) (pss_one (ps_expr (pe_bm PySem.F.plainAttrs_list PySem.F.slot_list_append PySem.F.type_list_append mt_append (pv 4) (pa_cons (pe_tup (pa_cons pe_str (pa_cons (pc CPt hr (pa_cons (pv 0) (pa_cons (pv 1) pa_nil)) (hk := by omega)) (pa_cons (pc CS3 hr (pa_cons (pv 0) (pa_cons (pv 1) (pa_cons pe_int pa_nil))) (hk := by omega)) pa_nil)))) pa_nil)))) (pss_one (ps_if (pt_cmpR op_eq (pv 6) pe_int (nomark _)) (pss_one (ps_expr (pe_bm PySem.F.plainAttrs_list PySem.F.slot_list_append PySem.F.type_list_append mt_append (pv 4) (pa_cons (pe_tup (pa_cons pe_str (pa_cons (pc CS3 hr (pa_cons (pv 0) (pa_cons (pv 1) (pa_cons pe_int pa_nil))) (hk := by omega)) pa_nil))) pa_nil)))) (pss_one (ps_if (pt_cmpR op_eq (pv 6) pe_int (nomark _)) (pss_one (ps_expr (pe_bm PySem.F.plainAttrs_list PySem.F.slot_list_append PySem.F.type_list_append mt_append (pv 4) (pa_cons (pe_tup (pa_cons pe_str (pa_cons (pc CPt hr (pa_cons (pv 0) (pa_cons (pv 1) pa_nil)) (hk := by omega)) pa_nil))) pa_nil)))) (pss_one (ps_if (PW.pt (pw_and (pt_cmpR op_eq (pv 6) pe_int (nomark _)) (pw_and1 (pt_cmpR (op_neD hr.units) (pv 2) (pe_tup pa_nil) (nomark _))))) (pss_one (ps_expr (pe_bm PySem.F.plainAttrs_list PySem.F.slot_list_append PySem.F.type_list_append mt_append (pv 4) (pa_cons (pe_tup (pa_cons pe_str (pa_cons (pc CPt hr (pa_cons (pv 0) (pa_cons (pv 2) pa_nil)) (hk := by omega)) pa_nil))) pa_nil)))) (pss_one (ps_if (PW.pt (pw_and (pt_cmpR op_gt (pv 6) pe_int (nomark _)) (pw_and1 (pt_cmpR op_lt (pv 3) pe_int (nomark _))))) (pss_cons ps_no
      (pss_cons ps_no
      (pss_cons (ps_cutM ps_no)
      (pss_one ps_no)))) (pss_one (ps_if (pt_cmpR op_eq (pv 6) pe_int (nomark _)) (pss_one (ps_expr (pe_bm PySem.F.plainAttrs_list PySem.F.slot_list_append PySem.F.type_list_append mt_append (pv 4) (pa_cons (pe_tup (pa_cons pe_str pa_nil)) pa_nil)))) pss_nil))))))))))))))
      (pss_one (ps_ret (pe_tupleOf (by rfl) B.tuple (pv 4))))), ?_⟩
    refine ⟨Nat.zero_le _, fun D hD => ?_⟩
    have hpD : p ≠ D := hR.ne hD
    refine ⟨_, rfl, p, 3, rfl, hR.new hD, by decide, by decide, fun kk H1 k0 k3 hB1 hR1 => ⟨1, kk, rfl, rfl, (1 + kk : Int), rfl, by omega, by omega, ?_⟩⟩
    have g0 : BkS K p D m qq 0 H 0 H1 := ⟨[], [], (But.same (same_new hD)).trans hB1, hR1, hB1 _ _ upd_same (Ne.symm hpD), .nil, (fun _ z => nomatch z), Nat.le_refl _⟩
    refine for_range (lo := 0) (n := (1 + kk : Int).toNat) (fun i σ H' => ∃ y5 y6 y7 y8 y9, σ = [some (.ref p), some (.ref na), some (.ref da), some (.int (3 - ((0 : Nat) : Int))), some (.ref D), y5, y6, y7, y8, y9] ∧ BkS K p D m qq 0 H i H') ⟨none, none, none, none, none, rfl, g0⟩ (fun i σ H' hi h' => ?_) (fun σ H' h' => ?_)
    · obtain ⟨y5, y6, y7, y8, y9, rfl, g⟩ := h'
      obtain ⟨us0, b0, hB', hR', eD0, _, _, _⟩ := id g
      have i3 : i ≤ 3 := by omega
      have ff := hR.fix hB'
      refine ⟨_, rfl, p, 10, rfl, hR', by decide, by decide, fun wy H2 w0 w10 hB2 hR2 => ?_⟩
      have f2 := ff.trans (hR'.fix hB2)
      have eD2 := hB2 _ _ eD0 (Ne.symm hpD)
      have stp : ∀ (H5 : Hp) (t : Addr) (vs : List V) (pt : Pt), But p H2 H5 → Row K H5 p → H5 t = none → Dp K (upd H5 t (.tup vs)) (.ref t) (ptD pt) → okPt m qq 0 pt → ∃ us, (upd H5 t (.tup vs)) D = some (.lst us) ∧ us.length < sizeLine ∧ BkS K p D m qq 0 H (i + 1) (upd (upd H5 t (.tup vs)) D (.lst (us ++ [.ref t]))) := fun H5 t vs pt b5 r5 ht hd hp => by
        have st := same_new (o := .tup vs) ht
        obtain ⟨us, e, l, more⟩ := g.step hD hpD (hB2.trans (b5.trans (But.same st))) (r5.same st)
        exact ⟨us, e, small1000 (by omega), more _ pt hd hp⟩
      have skp : BkS K p D m qq 0 H (i + 1) H2 := g.skip hpD hB2 hR2
      refine ⟨_, rfl, wy, 3, rfl, rfl, _, rfl, ite2 (fun e => ?_) (fun e3 => ?_)⟩
      · -- let
        refine ⟨_, rfl, .inl ⟨rfl, _, lstAt eD2⟩, _, rfl, _, rfl, p, na, _, rfl, hR2, f2.tups _ _ hN, by rw [nmV_len]; omega, by rw [nmV_len]; omega, fun i1 x1 H3 hx1 hB3 hR3 => ?_⟩
        refine ⟨_, rfl, _, rfl, p, na, m, rfl, by decide, hR3, (f2.trans (hR2.fix hB3)).tups _ _ hN, m1, m4, fun H4 v e hB4 hR4 hDv okv => ⟨by show 3 ≤ sizeLine; decide, fun t ht => ?_⟩⟩
        obtain ⟨l1, rfl⟩ := nmV_at hx1
        obtain ⟨us, eu, lu, nx⟩ := stp H4 t [.str "let", .str (nmS i1), v] (.letP i1 e) (hB3.trans hB4) hR4 ht (.tup (tupAt upd_same) (.cons (.str _) (.cons (.str _) (.cons (Dp.on (same_new ht) _ _ hDv) .nil)))) (okP_let l1 okv)
        exact ⟨D, us, _, rfl, rfl, eu, lu, _, _, _, _, _, rfl, nx⟩
      refine ⟨_, rfl, rfl, _, rfl, ite2 (fun e => ?_) (fun e => ?_)⟩
      · -- say
        refine ⟨_, rfl, .inl ⟨rfl, _, lstAt eD2⟩, _, rfl, _, rfl, p, na, m, rfl, by decide, hR2, f2.tups _ _ hN, m1, m4, fun H4 v e hB4 hR4 hDv okv => ⟨by show 2 ≤ sizeLine; decide, fun t ht => ?_⟩⟩
        obtain ⟨us, eu, lu, nx⟩ := stp H4 t [.str "say", v] (.sayP e) hB4 hR4 ht (.tup (tupAt upd_same) (.cons (.str _) (.cons (Dp.on (same_new ht) _ _ hDv) .nil))) (okP_say okv)
        exact ⟨D, us, _, rfl, rfl, eu, lu, _, _, _, _, _, rfl, nx⟩
      refine ⟨_, rfl, rfl, _, rfl, ite2 (fun e => ?_) (fun e => ?_)⟩
      · -- ask
        refine ⟨_, rfl, .inl ⟨rfl, _, lstAt eD2⟩, _, rfl, _, rfl, p, na, _, rfl, hR2, f2.tups _ _ hN, by rw [nmV_len]; omega, by rw [nmV_len]; omega, fun i1 x1 H3 hx1 hB3 hR3 => ⟨by show 2 ≤ sizeLine; decide, fun t ht => ?_⟩⟩
        obtain ⟨l1, rfl⟩ := nmV_at hx1
        obtain ⟨us, eu, lu, nx⟩ := stp H3 t [.str "ask", .str (nmS i1)] (.askP i1) hB3 hR3 ht (.tup (tupAt upd_same) (.cons (.str _) (.cons (.str _) .nil))) (okP_ask l1)
        exact ⟨D, us, _, rfl, rfl, eu, lu, _, _, _, _, _, rfl, nx⟩
      by_cases w5 : wy = 5
      · subst w5
        refine ⟨_, rfl, rfl, _, rfl, ite2 (fun _ => ?_) (fun e => absurd (by decide +kernel) e)⟩
        refine ⟨_, rfl, Nat.zero_le _, fun t0 h0 => ?_⟩
        have s0 := same_new (o := .tup []) h0
        obtain ⟨sh, ev⟩ := pcs_ne qq q2
        refine ⟨_, _, dp_pcs (onT s0 (f2.tups _ _ hDa)), dp_tup (ns := []) (tupAt upd_same), sh, (by decide +kernel), _, rfl, ?_⟩
        show (if (!PyData.eqv _ (.tuple ([].map PyData.int))) = true then _ else _)
        rw [ev]
        have skp0 : BkS K p D m qq 0 H (i + 1) (upd H2 t0 (.tup [])) := g.skip hpD (hB2.trans (But.same s0)) (hR2.same s0)
        by_cases q0 : qq = 0
        · rw [decide_eq_true q0]
          exact ifF rfl ⟨_, rfl, 5, 5, rfl, rfl, _, rfl, ifF (by decide) (ifF rfl ⟨_, rfl, rfl, _, rfl, ifF (by decide +kernel) ⟨_, _, _, _, _, rfl, skp0⟩⟩)⟩
        · rw [decide_eq_false q0]
          refine ifT rfl ?_
          refine ⟨_, rfl, .inl ⟨rfl, _, lstAt (s0 _ _ eD2)⟩, _, rfl, _, rfl, p, da, _, rfl, hR2.same s0, (f2.trans (Fix.same s0)).tups _ _ hDa, by rw [pcV_len]; omega, by rw [pcV_len]; omega, fun i1 x1 H3 hx1 hB3 hR3 => ⟨by show 2 ≤ sizeLine; decide, fun t ht => ?_⟩⟩
          obtain ⟨l1, rfl⟩ := pcV_at hx1
          obtain ⟨us, eu, lu, nx⟩ := stp H3 t [.str "do", .str (pcS60 i1)] (.doP i1) ((But.same s0).trans hB3) hR3 ht (.tup (tupAt upd_same) (.cons (.str _) (.cons (.str _) .nil))) (okP_do l1)
          exact ⟨D, us, _, rfl, rfl, eu, lu, _, _, _, _, _, rfl, nx⟩
      refine ⟨_, rfl, rfl, _, rfl, ite2 (fun e => absurd (V.int.inj (of_decide_eq_true e)) w5) (fun _ => ifF rfl ?_)⟩
      refine ⟨_, rfl, wy, 5, rfl, rfl, _, rfl, ite2 (fun e => ⟨_, rfl, (3 - ((0 : Nat) : Int)), 3, rfl, rfl, _, rfl, ifF rfl ?_⟩) (fun e => ifF rfl ?_)⟩
      all_goals
        refine ⟨_, rfl, rfl, _, rfl, ite2 (fun e => ?_) (fun e => ⟨_, _, _, _, _, rfl, skp⟩)⟩
        refine ⟨_, rfl, .inl ⟨rfl, _, lstAt eD2⟩, by show 1 ≤ sizeLine; decide, fun t ht => ?_⟩
        obtain ⟨us, eu, lu, nx⟩ := stp H2 t [.str "stop"] .stopP (But.refl p H2) hR2 ht (.tup (tupAt upd_same) (.cons (.str _) .nil)) okP_stop
        exact ⟨D, us, _, rfl, rfl, eu, lu, _, _, _, _, _, rfl, nx⟩
    · obtain ⟨y5, y6, y7, y8, y9, rfl, us, b, hB', hR', e, hU, ok, le⟩ := h'
      refine ⟨_, rfl, .inl ⟨D, us, rfl, lstAt e, fun t ht => ?_⟩⟩
      have st := same_new (o := .tup us) ht
      exact q _ (.ref t) b (hB'.trans (But.same st)) (hR'.same st) (.tup (tupAt upd_same) (DpAll.fixN (Fix.same st) hU (nl_pts b))) ⟨by omega, ok⟩
theorem ok_blockS (k : Nat) (F : Df K mg "_law_block" st__law_block ["row", "names", "done", "deep"]) (B : Bu mg) (CT : Cal P w K mg base 1 "_law_taken" (spTaken K)) (CPk : Cal P w K mg base 2 "_law_pick" (spPick K)) (CPt : Cal P w K mg base 2 "_law_pick" (spPickT K)) (CS3 : Cal P w K mg base 6 "_law_sum" (spSum K 3)) (CS2 : Cal P w K mg base 5 "_law_sum" (spSum K 2)) (C : Cal P w K mg base (k + 7) "_law_block" (spBlock K k)) : Cal P w K mg base (k + 8) "_law_block" (spBlock K (k + 1)) := by
  refine mkCal F sc__law_block (fun vs H Q E h => ?_) (fun f cdv A outer s H vs Q E hr h => ?_)
  · obtain ⟨p, na, da, m, qq, rfl, _⟩ := h
    rfl
  · obtain ⟨p, na, da, m, qq, rfl, d2, hR, hN, m1, m4, hDa, q2, q⟩ := h
    refine ⟨_, pss_cons (ps_set (i := 4) sc__law_block.nd rfl (.inl rfl) (pe_lst pa_nil))
      (pss_cons (ps_for PassesOwn.never rfl (pi_range1 (by rfl) B.range (pa_cons (pe_op op_add pe_int (pc CT hr (pa_cons (pv 0) (pa_cons pe_int pa_nil)) (hk := by omega))) pa_nil)) (pg_name (i := 5) sc__law_block.nd rfl (Or.inl rfl)) (pss_cons (ps_set (i := 6) sc__law_block.nd rfl (.inl rfl) (pc CT hr (pa_cons (pv 0) (pa_cons pe_int pa_nil)) (hk := by omega)))
      (pss_one (ps_if (pt_cmpR op_lt (pv 6) pe_int (nomark _)) (pss_one (ps_expr (pe_bm PySem.F.plainAttrs_list PySem.F.slot_list_append PySem.F.type_list_append mt_append (pv 4) (pa_cons (pe_tup (pa_cons pe_str (pa_cons (pc CPt hr (pa_cons (pv 0) (pa_cons (pv 1) pa_nil)) (hk := by omega)) (pa_cons (pc CS3 hr (pa_cons (pv 0) (pa_cons (pv 1) (pa_cons pe_int pa_nil))) (hk := by omega)) pa_nil)))) pa_nil)))) (pss_one (ps_if (pt_cmpR op_eq (pv 6) pe_int (nomark _)) (pss_one (ps_expr (pe_bm PySem.F.plainAttrs_list PySem.F.slot_list_append PySem.F.type_list_append mt_append (pv 4) (pa_cons (pe_tup (pa_cons pe_str (pa_cons (pc CS3 hr (pa_cons (pv 0) (pa_cons (pv 1) (pa_cons pe_int pa_nil))) (hk := by omega)) pa_nil))) pa_nil)))) (pss_one (ps_if (pt_cmpR op_eq (pv 6) pe_int (nomark _)) (pss_one (ps_expr (pe_bm PySem.F.plainAttrs_list PySem.F.slot_list_append PySem.F.type_list_append mt_append (pv 4) (pa_cons (pe_tup (pa_cons pe_str (pa_cons (pc CPt hr (pa_cons (pv 0) (pa_cons (pv 1) pa_nil)) (hk := by omega)) pa_nil))) pa_nil)))) (pss_one (ps_if (PW.pt (pw_and (pt_cmpR op_eq (pv 6) pe_int (nomark _)) (pw_and1 (pt_cmpR (op_neD hr.units) (pv 2) (pe_tup pa_nil) (nomark _))))) (pss_one (ps_expr (pe_bm PySem.F.plainAttrs_list PySem.F.slot_list_append PySem.F.type_list_append mt_append (pv 4) (pa_cons (pe_tup (pa_cons pe_str (pa_cons (pc CPt hr (pa_cons (pv 0) (pa_cons (pv 2) pa_nil)) (hk := by omega)) pa_nil))) pa_nil)))) (pss_one (ps_if (PW.pt (pw_and (pt_cmpR op_gt (pv 6) pe_int (nomark _)) (pw_and1 (pt_cmpR op_lt (pv 3) pe_int (nomark _))))) (pss_cons (ps_set (i := 7) sc__law_block.nd rfl (.inl rfl) (pc C hr (pa_cons (pv 0) (pa_cons (pv 1) (pa_cons (pv 2) (pa_cons (pe_op op_add (pv 3) pe_int) pa_nil)))) (hk := by omega)))
      (pss_cons (ps_set (i := 8) sc__law_block.nd rfl (.inl rfl) (pe_tup (pa_cons (pc CPk hr (pa_cons (pv 0) (pa_cons (pe_lst (pa_cons (pc CPt hr (pa_cons (pv 0) (pa_cons (pv 1) pa_nil)) (hk := by omega)) (pa_cons (pc CS2 hr (pa_cons (pv 0) (pa_cons (pv 1) (pa_cons pe_int pa_nil))) (hk := by omega)) pa_nil))) pa_nil)) (hk := by omega)) (pa_cons (pe_cmpR op_eq (pc CT hr (pa_cons (pv 0) (pa_cons pe_int pa_nil)) (hk := by omega)) pe_int (nomark _)) pa_nil))))
      (pss_cons (ps_cutM (ps_set (i := 9) sc__law_block.nd rfl (.inl rfl) (pe_ifExp (pt_cmpR op_eq (pc CT hr (pa_cons (pv 0) (pa_cons pe_int pa_nil)) (hk := by omega)) pe_int (nomark _)) (pc C hr (pa_cons (pv 0) (pa_cons (pv 1) (pa_cons (pv 2) (pa_cons (pe_op op_add (pv 3) pe_int) pa_nil)))) (hk := by omega)) (pe_tup pa_nil))))
      (pss_one (ps_expr (pe_bm PySem.F.plainAttrs_list PySem.F.slot_list_append PySem.F.type_list_append mt_append (pv 4) (pa_cons (pc CPk hr (pa_cons (pv 0) (pa_cons (pe_lst (pa_cons (pe_tup (pa_cons pe_str (pa_cons (pv 8) (pa_cons (pv 7) (pa_cons (pv 9) pa_nil))))) (pa_cons (pe_tup (pa_cons pe_str (pa_cons (pv 8) (pa_cons (pv 7) pa_nil)))) (pa_cons (pe_tup (pa_cons pe_str (pa_cons (pc CT hr (pa_cons (pv 0) (pa_cons pe_int pa_nil)) (hk := by omega)) (pa_cons (pv 7) pa_nil)))) pa_nil)))) pa_nil)) (hk := by omega)) pa_nil))))))) (pss_one (ps_if (pt_cmpR op_eq (pv 6) pe_int (nomark _)) (pss_one (ps_expr (pe_bm PySem.F.plainAttrs_list PySem.F.slot_list_append PySem.F.type_list_append mt_append (pv 4) (pa_cons (pe_tup (pa_cons pe_str pa_nil)) pa_nil)))) pss_nil))))))))))))))
      (pss_one (ps_ret (pe_tupleOf (by rfl) B.tuple (pv 4))))), ?_⟩
    refine ⟨Nat.zero_le _, fun D hD => ?_⟩
    have hpD : p ≠ D := hR.ne hD
    refine ⟨_, rfl, p, 3, rfl, hR.new hD, by decide, by decide, fun kk H1 k0 k3 hB1 hR1 => ⟨1, kk, rfl, rfl, (1 + kk : Int), rfl, by omega, by omega, ?_⟩⟩
    have g0 : BkS K p D m qq (k + 1) H 0 H1 := ⟨[], [], (But.same (same_new hD)).trans hB1, hR1, hB1 _ _ upd_same (Ne.symm hpD), .nil, (fun _ z => nomatch z), Nat.le_refl _⟩
    refine for_range (lo := 0) (n := (1 + kk : Int).toNat) (fun i σ H' => ∃ y5 y6 y7 y8 y9, σ = [some (.ref p), some (.ref na), some (.ref da), some (.int (3 - ((k + 1 : Nat) : Int))), some (.ref D), y5, y6, y7, y8, y9] ∧ BkS K p D m qq (k + 1) H i H') ⟨none, none, none, none, none, rfl, g0⟩ (fun i σ H' hi h' => ?_) (fun σ H' h' => ?_)
    · obtain ⟨y5, y6, y7, y8, y9, rfl, g⟩ := h'
      obtain ⟨us0, b0, hB', hR', eD0, _, _, _⟩ := id g
      have i3 : i ≤ 3 := by omega
      have ff := hR.fix hB'
      refine ⟨_, rfl, p, 10, rfl, hR', by decide, by decide, fun wy H2 w0 w10 hB2 hR2 => ?_⟩
      have f2 := ff.trans (hR'.fix hB2)
      have eD2 := hB2 _ _ eD0 (Ne.symm hpD)
      have stp : ∀ (H5 : Hp) (t : Addr) (vs : List V) (pt : Pt), But p H2 H5 → Row K H5 p → H5 t = none → Dp K (upd H5 t (.tup vs)) (.ref t) (ptD pt) → okPt m qq (k + 1) pt → ∃ us, (upd H5 t (.tup vs)) D = some (.lst us) ∧ us.length < sizeLine ∧ BkS K p D m qq (k + 1) H (i + 1) (upd (upd H5 t (.tup vs)) D (.lst (us ++ [.ref t]))) := fun H5 t vs pt b5 r5 ht hd hp => by
        have st := same_new (o := .tup vs) ht
        obtain ⟨us, e, l, more⟩ := g.step hD hpD (hB2.trans (b5.trans (But.same st))) (r5.same st)
        exact ⟨us, e, small1000 (by omega), more _ pt hd hp⟩
      have skp : BkS K p D m qq (k + 1) H (i + 1) H2 := g.skip hpD hB2 hR2
      refine ⟨_, rfl, wy, 3, rfl, rfl, _, rfl, ite2 (fun e => ?_) (fun e3 => ?_)⟩
      · -- let
        refine ⟨_, rfl, .inl ⟨rfl, _, lstAt eD2⟩, _, rfl, _, rfl, p, na, _, rfl, hR2, f2.tups _ _ hN, by rw [nmV_len]; omega, by rw [nmV_len]; omega, fun i1 x1 H3 hx1 hB3 hR3 => ?_⟩
        refine ⟨_, rfl, _, rfl, p, na, m, rfl, by decide, hR3, (f2.trans (hR2.fix hB3)).tups _ _ hN, m1, m4, fun H4 v e hB4 hR4 hDv okv => ⟨by show 3 ≤ sizeLine; decide, fun t ht => ?_⟩⟩
        obtain ⟨l1, rfl⟩ := nmV_at hx1
        obtain ⟨us, eu, lu, nx⟩ := stp H4 t [.str "let", .str (nmS i1), v] (.letP i1 e) (hB3.trans hB4) hR4 ht (.tup (tupAt upd_same) (.cons (.str _) (.cons (.str _) (.cons (Dp.on (same_new ht) _ _ hDv) .nil)))) (okP_let l1 okv)
        exact ⟨D, us, _, rfl, rfl, eu, lu, _, _, _, _, _, rfl, nx⟩
      refine ⟨_, rfl, rfl, _, rfl, ite2 (fun e => ?_) (fun e => ?_)⟩
      · -- say
        refine ⟨_, rfl, .inl ⟨rfl, _, lstAt eD2⟩, _, rfl, _, rfl, p, na, m, rfl, by decide, hR2, f2.tups _ _ hN, m1, m4, fun H4 v e hB4 hR4 hDv okv => ⟨by show 2 ≤ sizeLine; decide, fun t ht => ?_⟩⟩
        obtain ⟨us, eu, lu, nx⟩ := stp H4 t [.str "say", v] (.sayP e) hB4 hR4 ht (.tup (tupAt upd_same) (.cons (.str _) (.cons (Dp.on (same_new ht) _ _ hDv) .nil))) (okP_say okv)
        exact ⟨D, us, _, rfl, rfl, eu, lu, _, _, _, _, _, rfl, nx⟩
      refine ⟨_, rfl, rfl, _, rfl, ite2 (fun e => ?_) (fun e => ?_)⟩
      · -- ask
        refine ⟨_, rfl, .inl ⟨rfl, _, lstAt eD2⟩, _, rfl, _, rfl, p, na, _, rfl, hR2, f2.tups _ _ hN, by rw [nmV_len]; omega, by rw [nmV_len]; omega, fun i1 x1 H3 hx1 hB3 hR3 => ⟨by show 2 ≤ sizeLine; decide, fun t ht => ?_⟩⟩
        obtain ⟨l1, rfl⟩ := nmV_at hx1
        obtain ⟨us, eu, lu, nx⟩ := stp H3 t [.str "ask", .str (nmS i1)] (.askP i1) hB3 hR3 ht (.tup (tupAt upd_same) (.cons (.str _) (.cons (.str _) .nil))) (okP_ask l1)
        exact ⟨D, us, _, rfl, rfl, eu, lu, _, _, _, _, _, rfl, nx⟩
      by_cases w5 : wy = 5
      · subst w5
        refine ⟨_, rfl, rfl, _, rfl, ite2 (fun _ => ?_) (fun e => absurd (by decide +kernel) e)⟩
        refine ⟨_, rfl, Nat.zero_le _, fun t0 h0 => ?_⟩
        have s0 := same_new (o := .tup []) h0
        obtain ⟨sh, ev⟩ := pcs_ne qq q2
        refine ⟨_, _, dp_pcs (onT s0 (f2.tups _ _ hDa)), dp_tup (ns := []) (tupAt upd_same), sh, (by decide +kernel), _, rfl, ?_⟩
        show (if (!PyData.eqv _ (.tuple ([].map PyData.int))) = true then _ else _)
        rw [ev]
        have skp0 : BkS K p D m qq (k + 1) H (i + 1) (upd H2 t0 (.tup [])) := g.skip hpD (hB2.trans (But.same s0)) (hR2.same s0)
        by_cases q0 : qq = 0
        · rw [decide_eq_true q0]
          exact ifF rfl ⟨_, rfl, 5, 5, rfl, rfl, _, rfl, ifF (by decide) (ifF rfl ⟨_, rfl, rfl, _, rfl, ifF (by decide +kernel) ⟨_, _, _, _, _, rfl, skp0⟩⟩)⟩
        · rw [decide_eq_false q0]
          refine ifT rfl ?_
          refine ⟨_, rfl, .inl ⟨rfl, _, lstAt (s0 _ _ eD2)⟩, _, rfl, _, rfl, p, da, _, rfl, hR2.same s0, (f2.trans (Fix.same s0)).tups _ _ hDa, by rw [pcV_len]; omega, by rw [pcV_len]; omega, fun i1 x1 H3 hx1 hB3 hR3 => ⟨by show 2 ≤ sizeLine; decide, fun t ht => ?_⟩⟩
          obtain ⟨l1, rfl⟩ := pcV_at hx1
          obtain ⟨us, eu, lu, nx⟩ := stp H3 t [.str "do", .str (pcS60 i1)] (.doP i1) ((But.same s0).trans hB3) hR3 ht (.tup (tupAt upd_same) (.cons (.str _) (.cons (.str _) .nil))) (okP_do l1)
          exact ⟨D, us, _, rfl, rfl, eu, lu, _, _, _, _, _, rfl, nx⟩
      refine ⟨_, rfl, rfl, _, rfl, ite2 (fun e => absurd (V.int.inj (of_decide_eq_true e)) w5) (fun _ => ifF rfl ?_)⟩
      refine ⟨_, rfl, wy, 5, rfl, rfl, _, rfl, ite2 (fun e => ⟨_, rfl, (3 - ((k + 1 : Nat) : Int)), 3, rfl, rfl, _, rfl, ifT (decide_eq_true (by omega)) ?_⟩) (fun e => ifF rfl ?_)⟩
      · have ek : (3 - ((k + 1 : Nat) : Int)) + 1 = 3 - (k : Int) := by omega
        refine ⟨_, rfl, _, rfl, _, rfl, _, rfl, _, 1, rfl, rfl, p, na, da, m, qq, by show [V.ref p, V.ref na, V.ref da, V.int (3 - ((k + 1 : Nat) : Int) + 1)] = _; rw [ek], by omega, hR2, f2.tups _ _ hN, m1, m4, f2.tups _ _ hDa, q2, fun H3 vi bi hB3 hR3 hDi oki => ?_⟩
        have f3 := f2.trans (hR2.fix hB3)
        refine ⟨_, rfl, _, rfl, _, rfl, p, na, _, rfl, hR3, f3.tups _ _ hN, by rw [nmV_len]; omega, by rw [nmV_len]; omega, fun i1 x1 H4 hx1 hB4 hR4 => ?_⟩
        have f4 := f3.trans (hR3.fix hB4)
        refine ⟨_, rfl, _, rfl, p, na, m, rfl, by decide, hR4, f4.tups _ _ hN, m1, m4, fun H5 v2 e2 hB5 hR5 hD2 ok2 => ⟨by show 2 ≤ sizeLine; decide, fun l hl => ?_⟩⟩
        have sl := same_new (o := .lst [x1, v2]) hl
        refine ⟨p, l, _, rfl, hR5.same sl, upd_same, fun e => hR5.ne hl e.symm, by show 0 < 2; decide, by show 2 ≤ 1000; decide, fun j x H6 hj hB6 hR6 => ?_⟩
        obtain ⟨l1, rfl⟩ := nmV_at hx1
        have het : ∃ et, Dp K H6 x (exD et) ∧ okEx m 2 et := by
          match j, hj with
          | 0, hj =>
            cases hj
            exact ⟨.nam i1, .str _, l1⟩
          | 1, hj =>
            cases hj
            exact ⟨e2, dp_fixN ((Fix.same sl).trans ((hR5.same sl).fix hB6)) hD2 (nl_ex e2), ok2⟩
          | j + 2, hj => simp at hj
        obtain ⟨et, hDt, okt⟩ := het
        have b36 := hB4.trans (hB5.trans ((But.same sl).trans hB6))
        refine ⟨_, rfl, p, 2, rfl, hR6, by decide, by decide, fun z H7 z0 z2 hB7 hR7 => ⟨rfl, by show 2 ≤ sizeLine; decide, fun t1 ht1 => ?_⟩⟩
        have st1 := same_new (o := .tup [x, .bl (decide (V.int z = V.int 0))]) ht1
        have b37 := b36.trans (hB7.trans (But.same st1))
        have r7 := hR7.same st1
        have hDt1 : Dp K (upd H7 t1 (.tup [x, .bl (decide (V.int z = V.int 0))])) (.ref t1) (.tuple [exD et, .bool (decide (V.int z = V.int 0))]) := .tup (tupAt upd_same) (.cons (dp_fixN ((hR6.fix hB7).trans (Fix.same st1)) hDt (nl_ex et)) (.cons (.bl _) .nil))
        have hDi7 := dp_fixN (hR3.fix b37) hDi (.tup (nl_pts bi))
        have b27 := hB3.trans b37
        generalize decide (V.int z = V.int 0) = g1 at hDt1 b37 r7 hDi7 b27 st1 ⊢
        generalize upd H7 t1 (.tup [x, .bl g1]) = H8 at hDt1 b37 r7 hDi7 b27 st1 ⊢
        refine ⟨fun σ' H' => ∃ vo bo, σ' = [some (.ref p), some (.ref na), some (.ref da), some (.int (3 - ((k + 1 : Nat) : Int))), some (.ref D), some (.int (0 + (i : Int))), some (.int wy), some vi, some (.ref t1), some vo] ∧ But p H2 H' ∧ Row K H' p ∧ Dp K H' vi (bkD bi) ∧ Dp K H' (.ref t1) (.tuple [exD et, .bool g1]) ∧ Dp K H' vo (bkD bo) ∧ okBk m qq k bo, fun σ9 H9 g9 => ?_, ?_⟩
        case refine_2 =>
          have f8 := f2.trans (hR2.fix b27)
          refine ⟨_, rfl, p, 2, rfl, r7, by decide, by decide, fun z' H9 z0' z2' hB9 hR9 => ⟨rfl, _, rfl, ite2 (fun e => ?_) (fun e => ⟨Nat.zero_le _, fun t2 ht2 => ?_⟩)⟩⟩
          · have f9 := f8.trans (r7.fix hB9)
            refine ⟨_, rfl, _, rfl, _, rfl, _, rfl, _, 1, rfl, rfl, p, na, da, m, qq, by show [V.ref p, V.ref na, V.ref da, V.int (3 - ((k + 1 : Nat) : Int) + 1)] = _; rw [ek], by omega, hR9, f9.tups _ _ hN, m1, m4, f9.tups _ _ hDa, q2, fun H10 vo bo hB10 hR10 hDo oko => ?_⟩
            have f10 := (r7.fix hB9).trans (hR9.fix hB10)
            exact ⟨vo, bo, rfl, b27.trans (hB9.trans hB10), hR10, dp_fixN f10 hDi7 (.tup (nl_pts bi)), dp_fixN f10 hDt1 (nl_test et g1), hDo, oko⟩
          · have st2 := same_new (o := .tup []) ht2
            have f10 := (r7.fix hB9).trans (Fix.same st2)
            exact ⟨.ref t2, [], rfl, b27.trans (hB9.trans (But.same st2)), hR9.same st2, dp_fixN f10 hDi7 (.tup (nl_pts bi)), dp_fixN f10 hDt1 (nl_test et g1), .tup (tupAt upd_same) .nil, by decide, fun _ z => nomatch z⟩
        obtain ⟨vo, bo, rfl, b9, r9, hDi9, hDt9, hDo9, oko⟩ := g9
        refine ⟨_, rfl, .inl ⟨rfl, _, lstAt (b9 _ _ eD2 (Ne.symm hpD))⟩, _, rfl, _, rfl, _, rfl, _, rfl, by show 4 ≤ sizeLine; decide, fun ta hta => ⟨_, rfl, _, rfl, by show 3 ≤ sizeLine; decide, fun tb htb => ?_⟩⟩
        have sa := same_new (o := .tup [.str "if", .ref t1, vi, vo]) hta
        have sb := same_new (o := .tup [.str "while", .ref t1, vi]) htb
        have sab := sa.trans sb
        refine ⟨_, rfl, p, 3, rfl, r9.same sab, by decide, by decide, fun zr H10 zr0 zr3 hB10 hR10 => ⟨_, rfl, by show 3 ≤ sizeLine; decide, fun tc htc => ⟨by show 3 ≤ sizeLine; decide, fun l2 hl2 => ?_⟩⟩⟩
        have sc' := same_new (o := .tup [.str "repeat", .int zr, vi]) htc
        have sl2 := same_new (o := .lst [.ref ta, .ref tb, .ref tc]) hl2
        have r11 := (hR10.same sc').same sl2
        refine ⟨p, l2, _, rfl, r11, upd_same, fun e => (hR10.same sc').ne hl2 e.symm, by show 0 < 3; decide, by show 3 ≤ 1000; decide, fun j2 x2 H12 hj2 hB12 hR12 => ?_⟩
        have fB : Fix (upd (upd H9 ta (.tup [.str "if", .ref t1, vi, vo])) tb (.tup [.str "while", .ref t1, vi])) H12 := ((r9.same sab).fix hB10).trans ((Fix.same (sc'.trans sl2)).trans (r11.fix hB12))
        have fA := (Fix.same sab).trans fB
        have bA := b9.trans ((But.same sab).trans (hB10.trans ((But.same (sc'.trans sl2)).trans hB12)))
        obtain ⟨us, eu, lu, more⟩ := g.step hD hpD (hB2.trans bA) hR12
        have dI := dp_fixN fA hDi9 (.tup (nl_pts bi))
        have dT := dp_fixN fA hDt9 (nl_test et g1)
        have dO := dp_fixN fA hDo9 (.tup (nl_pts bo))
        have hpt : ∃ pt, Dp K H12 x2 (ptD pt) ∧ okPt m qq (k + 1) pt := by
          match j2, hj2 with
          | 0, hj2 =>
            cases hj2
            exact ⟨.ifP et g1 bi bo, .tup (fB.tups _ _ (onT sb (tupAt upd_same))) (.cons (.str _) (.cons dT (.cons dI (.cons dO .nil)))), okt, oki, oko⟩
          | 1, hj2 =>
            cases hj2
            exact ⟨.whileP et g1 bi, .tup (fB.tups _ _ (tupAt upd_same)) (.cons (.str _) (.cons dT (.cons dI .nil))), okt, oki⟩
          | 2, hj2 =>
            cases hj2
            refine ⟨.repP zr.toNat bi, .tup ((r11.fix hB12).tups _ _ (onT sl2 (tupAt upd_same))) (.cons (.str _) (.cons ?_ (.cons dI .nil))), by omega, oki⟩
            rw [show ((zr.toNat : Nat) : Int) = zr by omega]
            exact .int _
          | j2 + 3, hj2 => simp at hj2
        obtain ⟨pt, hpd, hpo⟩ := hpt
        exact ⟨D, us, _, rfl, rfl, eu, small1000 (by omega), _, _, _, _, _, rfl, more _ pt hpd hpo⟩
      all_goals
        refine ⟨_, rfl, rfl, _, rfl, ite2 (fun e => ?_) (fun e => ⟨_, _, _, _, _, rfl, skp⟩)⟩
        refine ⟨_, rfl, .inl ⟨rfl, _, lstAt eD2⟩, by show 1 ≤ sizeLine; decide, fun t ht => ?_⟩
        obtain ⟨us, eu, lu, nx⟩ := stp H2 t [.str "stop"] .stopP (But.refl p H2) hR2 ht (.tup (tupAt upd_same) (.cons (.str _) .nil)) okP_stop
        exact ⟨D, us, _, rfl, rfl, eu, lu, _, _, _, _, _, rfl, nx⟩
    · obtain ⟨y5, y6, y7, y8, y9, rfl, us, b, hB', hR', e, hU, ok, le⟩ := h'
      refine ⟨_, rfl, .inl ⟨D, us, rfl, lstAt e, fun t ht => ?_⟩⟩
      have st := same_new (o := .tup us) ht
      exact q _ (.ref t) b (hB'.trans (But.same st)) (hR'.same st) (.tup (tupAt upd_same) (DpAll.fixN (Fix.same st) hU (nl_pts b))) ⟨by omega, ok⟩
end
end RH
set_option Elab.async false
set_option linter.all false
set_option maxRecDepth 100000
set_option maxHeartbeats 2000000
namespace RH
open PySem PySem.Spec PyProof.Rows L2
/-! ### the program that the law draws -/
theorem slT_to {K : PySem.W.Frag} {H : Hp} {a : Addr} {xs : List V} {Q : VK} (z : Int) (k : Nat) (hz : z = (k : Int)) (h : SqT K H a xs) (q : ∀ b H2, Same H H2 → SqT K H2 b (xs.take k) → Q (.ref b) H2) : rSlA K (.ref a) none (some z) H Q := by
  subst hz
  refine ⟨a, xs, rfl, h, fun hf => q a H (Same.refl H) ?_, fun _ p hp => q p _ (same_new hp) (tupAt (by rw [upd_same, cut_to]))⟩
  have e := hf.2
  rw [HT.sIx_nat] at e
  rw [List.take_of_length_le (by omega)]
  exact h
theorem catT_ok {K : PySem.W.Frag} {H : Hp} {a b : Addr} {xs ys : List V} {Q : VK} (ha : SqT K H a xs) (hb : SqT K H b ys) (hl : xs.length + ys.length ≤ 1000) (q : ∀ r H', Same H H' → SqT K H' r (xs ++ ys) → Q (.ref r) H') : rCatA K (.ref a) (.ref b) H Q := by
  refine ⟨a, b, xs, ys, rfl, rfl, ha, hb, Nat.le_of_lt (small1000 hl), fun e => ?_, fun _ e => ?_, fun _ _ p hp => q p _ (same_new hp) (tupAt upd_same)⟩
  · subst e
    exact q b H (Same.refl H) hb
  · subst e
    exact q a H (Same.refl H) (by rw [List.append_nil]; exact ha)
/-- the procedures, as data -/
def prcD (i : Nat) (b : List Pt) : PyData := .tuple [.str (pcS60 i), bkD b]
theorem nl_prc (i : Nat) (b : List Pt) : NL (prcD i b) := .tup fun d hd => by
  rcases List.mem_cons.mp hd with rfl | hd
  · exact .str _
  · rw [List.mem_singleton.mp hd]
    exact .tup (nl_pts b)
theorem pcV_snoc (q : Nat) : pcV (q + 1) = pcV q ++ [.str (pcS60 q)] := by
  unfold pcV
  rw [List.range_succ, List.map_append]
  rfl
/-- a tuple told by its very object -/
def FrT (H : Hp) (a : Addr) (xs : List V) : Prop := ∃ ob, H a = some (.frz ob (.tup xs)) ∧ ob.dict = none
theorem FrT.sq {K : PySem.W.Frag} {H : Hp} {a : Addr} {xs : List V} (h : FrT H a xs) : SqT K H a xs := let ⟨_, e, _⟩ := h; .inl (.inr ⟨_, e⟩)
theorem FrT.same {H H' : Hp} {a : Addr} {xs : List V} (s : Same H H') (h : FrT H a xs) : FrT H' a xs := let ⟨o, e, d⟩ := h; ⟨o, s _ _ e, d⟩
theorem FrT.fix {H H' : Hp} {a : Addr} {xs : List V} (s : Fix H H') (h : FrT H a xs) : FrT H' a xs := let ⟨o, e, d⟩ := h; ⟨o, s _ _ e (fun _ z => nomatch z), d⟩
theorem catO_ok {K : PySem.W.Frag} {H : Hp} {a b : Addr} {xs ys : List V} {Q : VK} (ha : FrT H a xs) (hb : FrT H b ys) (hl : xs.length + ys.length ≤ 1000) (q : ∀ r H', Same H H' → FrT H' r (xs ++ ys) → Q (.ref r) H') : rCatO K (.ref a) (.ref b) H Q := by
  refine ⟨a, b, xs, ys, rfl, rfl, ha.sq, hb.sq, Nat.le_of_lt (small1000 hl), fun e => ?_, fun _ e => ?_, fun _ _ p ob hp d => q p _ (same_new hp) ⟨ob, upd_same, d⟩⟩
  · subst e
    exact q b H (Same.refl H) hb
  · subst e
    exact q a H (Same.refl H) (by rw [List.append_nil]; exact ha)
/-- a program as it stands -/
structure PgAt (K : PySem.W.Frag) (H : Hp) (v : V) (m : Nat) (bs : List (List Pt)) (main : List Pt) : Prop where
  ex : ∃ (a na pa : Addr) (mv : V) (xp : List V), v = .ref a ∧ SqT K H a [.ref na, .ref pa, mv] ∧ SqT K H na (nmV m) ∧ FrT H pa xp ∧ DpAll K H xp (bs.mapIdx prcD) ∧ Dp K H mv (bkD main)
theorem nl_prcs (bs : List (List Pt)) : ∀ d ∈ bs.mapIdx prcD, NL d := fun d hd => by
  obtain ⟨j, hj, e⟩ := List.mem_iff_getElem.mp hd
  rw [List.getElem_mapIdx] at e
  rw [← e]
  exact nl_prc _ _
theorem PgAt.fix {K : PySem.W.Frag} {H H' : Hp} {v : V} {m : Nat} {bs : List (List Pt)} {main : List Pt} (f : Fix H H') (h : PgAt K H v m bs main) : PgAt K H' v m bs main := by
  obtain ⟨a, na, pa, mv, xp, rfl, h1, h2, h3, h4, h5⟩ := h.ex
  exact ⟨a, na, pa, mv, xp, rfl, f.tups _ _ h1, f.tups _ _ h2, h3.fix f, DpAll.fixN f h4 (nl_prcs bs), dp_fixN f h5 (.tup (nl_pts main))⟩
/-- a program within bounds -/
structure PgOk (m : Nat) (bs : List (List Pt)) (main : List Pt) : Prop where
  m1 : 1 ≤ m
  m4 : m ≤ 4
  b2 : bs.length ≤ 2
  ok : ∀ (i : Nat) (b : List Pt), bs[i]? = some b → okBk m i 1 b
  mn : okBk m bs.length 2 main
  few : cntB main ≤ 18
theorem pq_at {i : Nat} (h : i < 2) : ∃ c, atI ("pq" : Str).cps.toList (0 + (i : Int)) = some c ∧ (⟨#[c]⟩ : Str) = pcS60 i := by
  have : i = 0 ∨ i = 1 := by omega
  rcases this with rfl | rfl
  · exact ⟨112, by decide +kernel, by decide +kernel⟩
  · exact ⟨113, by decide +kernel, by decide +kernel⟩
section
variable {P : Program} {w : World} {K : PySem.W.Frag} {mg : Str → Option Value} {base : Heap}
def spProg (K : PySem.W.Frag) : Sp := fun vs H Q _ => ∃ (p : Addr), vs = [.ref p] ∧ Row K H p ∧ ∀ H' v m bs main, But p H H' → Row K H' p → PgAt K H' v m bs main → PgOk m bs main → Q v H'
theorem ok_program (F : Df K mg "_law_program" st__law_program ["row"]) (B : Bu mg) (CT : Cal P w K mg base 1 "_law_taken" (spTaken K)) (CB1 : Cal P w K mg base 8 "_law_block" (spBlock K 1)) (CB2 : Cal P w K mg base 9 "_law_block" (spBlock K 2)) (CLP : Cal P w K mg base 3 "_law_parts" (spLParts K 2)) : Cal P w K mg base 10 "_law_program" (spProg K) := by
  refine mkCal F sc__law_program (fun vs H Q E h => ?_) (fun f cdv A outer s H vs Q E hr h => ?_)
  · obtain ⟨p, rfl, _⟩ := h
    rfl
  · obtain ⟨p, rfl, hR, q⟩ := h
    refine ⟨_, pss_cons (ps_set (i := 1) sc__law_program.nd rfl (.inl rfl) (pe_slice sl_tupA (pe_tup (pa_cons pe_str (pa_cons pe_str (pa_cons pe_str (pa_cons pe_str pa_nil))))) po_none (po_some (pe_op op_add pe_int (pc CT hr (pa_cons (pv 0) (pa_cons pe_int pa_nil)) (hk := by omega))))))
      (pss_cons (ps_asg (pe_tup (pa_cons (pe_tupF pa_nil) (pa_cons (pe_tup pa_nil) pa_nil))) (pg_tup rfl (pgs_cons (pg_name (i := 2) sc__law_program.nd rfl (Or.inl rfl)) (pgs_cons (pg_name (i := 3) sc__law_program.nd rfl (Or.inl rfl)) pgs_nil))))
      (pss_cons (ps_cutM (ps_for PassesOwn.never rfl (pi_range1 (by rfl) B.range (pa_cons (pc CT hr (pa_cons (pv 0) (pa_cons pe_int pa_nil)) (hk := by omega)) pa_nil)) (pg_name (i := 4) sc__law_program.nd rfl (Or.inl rfl)) (pss_cons (ps_set (i := 5) sc__law_program.nd rfl (.inl rfl) (pc CB1 hr (pa_cons (pv 0) (pa_cons (pv 1) (pa_cons (pv 3) (pa_cons pe_int pa_nil)))) (hk := by decide)))
      (pss_one (ps_par (i := 2) (j := 3) rfl sc__law_program.nd rfl rfl (by decide) rfl rfl (pa_cons (pe_op op_catO (pv 2) (pe_tupF (pa_cons (pe_tup (pa_cons (pe_ix ix_str pe_str (pv 4) (fun _ _ => rfl)) (pa_cons (pv 5) pa_nil))) pa_nil))) (pa_cons (pe_op op_catA (pv 3) (pe_tup (pa_cons (pe_ix ix_str pe_str (pv 4) (fun _ _ => rfl)) pa_nil))) pa_nil)) rfl)))))
      (pss_cons (ps_set (i := 5) sc__law_program.nd rfl (.inl rfl) (pc CB2 hr (pa_cons (pv 0) (pa_cons (pv 1) (pa_cons (pv 3) (pa_cons pe_int pa_nil)))) (hk := by decide)))
      (pss_cons (ps_while PassesOwn.never (pt_cmpR op_gt (pc CLP hr (pa_cons (pv 5) pa_nil) (hk := by omega)) pe_int (nomark _)) (pss_one (ps_set (i := 5) sc__law_program.nd rfl (.inl rfl) (pe_slice sl_tupA (pv 5) (po_some pe_int) po_none))))
      (pss_one (ps_ret (pe_tup (pa_cons (pv 1) (pa_cons (pv 2) (pa_cons (pv 5) pa_nil)))))))))), ?_⟩
    refine ⟨by show 4 ≤ sizeLine; decide, fun t0 h0 => ⟨_, rfl, p, 4, rfl, hR.new h0, by decide, by decide, fun k H1 k0 k4 hB1 hR1 => ⟨1, k, rfl, rfl, (1 + k : Int), rfl, ?_⟩⟩⟩
    have s0 := same_new (o := .tup [.str "a", .str "b", .str "cat", .str "dd"]) h0
    have hB01 := (But.same s0).trans hB1
    have hT0 : SqT K H1 t0 (nmV 4) := ((hR.new h0).fix hB1).tups _ _ (tupAt upd_same)
    obtain ⟨m, em, m1, m4⟩ : ∃ m : Nat, (1 + k : Int) = (m : Int) ∧ 1 ≤ m ∧ m ≤ 4 := ⟨(1 + k).toNat, by omega, by omega, by omega⟩
    have tk : (nmV 4).take m = nmV m := by
      have : m = 1 ∨ m = 2 ∨ m = 3 ∨ m = 4 := by omega
      rcases this with rfl | rfl | rfl | rfl <;> rfl
    refine slT_to (K := K) (1 + k) m em hT0 fun nb H2 s2 hnb => ?_
    rw [tk] at hnb
    have hR2 := hR1.same s2
    have hB2 := hB01.trans (But.same s2)
    refine ⟨Nat.zero_le _, fun ta oa hta doa => ⟨Nat.zero_le _, fun tb htb => ⟨by show 2 ≤ sizeLine; decide, fun tc htc => ⟨tc, _, rfl, tupAt upd_same, rfl, _, _, rfl, _, _, rfl, rfl, ?_⟩⟩⟩⟩
    have sa := same_new (o := .frz oa (.tup [])) hta
    have sb := same_new (o := .tup []) htb
    have sc' := same_new (o := .tup [.ref ta, .ref tb]) htc
    have sabc := sa.trans (sb.trans sc')
    have hR3 := hR2.same sabc
    have hB3 := hB2.trans (But.same sabc)
    have hN3 := onT sabc hnb
    have hP3 : FrT (upd (upd (upd H2 ta (.frz oa (.tup []))) tb (.tup [])) tc (.tup [.ref ta, .ref tb])) ta [] := FrT.same (sb.trans sc') ⟨oa, upd_same, doa⟩
    have hD3 : SqT K (upd (upd (upd H2 ta (.frz oa (.tup []))) tb (.tup [])) tc (.tup [.ref ta, .ref tb])) tb (pcV 0) := onT sc' (tupAt upd_same)
    generalize upd (upd (upd H2 ta (.frz oa (.tup []))) tb (.tup [])) tc (.tup [.ref ta, .ref tb]) = H4 at hR3 hB3 hN3 hP3 hD3 ⊢
    refine ⟨fun σ' H' => ∃ (y4 y5 : Option V) (pa da : Addr) (bs : List (List Pt)), σ' = [some (.ref p), some (.ref nb), some (.ref pa), some (.ref da), y4, y5] ∧ But p H H' ∧ Row K H' p ∧ SqT K H' nb (nmV m) ∧ (∃ xp, FrT H' pa xp ∧ DpAll K H' xp (bs.mapIdx prcD)) ∧ SqT K H' da (pcV bs.length) ∧ bs.length ≤ 2 ∧ (∀ (i : Nat) (b : List Pt), bs[i]? = some b → okBk m i 1 b), fun σ5 H5 g5 => ?_, ?_⟩
    case refine_2 =>
      refine ⟨_, rfl, p, 3, rfl, hR3, by decide, by decide, fun kk H5 k50 k53 hB5 hR5 => ⟨kk, rfl, by omega, by omega, ?_⟩⟩
      have f5 := hR3.fix hB5
      refine for_range (lo := 0) (n := kk.toNat) (fun i σ H' => ∃ (y4 y5 : Option V) (pa da : Addr) (bs : List (List Pt)), σ = [some (.ref p), some (.ref nb), some (.ref pa), some (.ref da), y4, y5] ∧ But p H H' ∧ Row K H' p ∧ SqT K H' nb (nmV m) ∧ (∃ xp, FrT H' pa xp ∧ DpAll K H' xp (bs.mapIdx prcD)) ∧ SqT K H' da (pcV bs.length) ∧ bs.length = i ∧ (∀ (i : Nat) (b : List Pt), bs[i]? = some b → okBk m i 1 b))
        ⟨none, none, ta, tb, [], rfl, hB3.trans hB5, hR5, f5.tups _ _ hN3, ⟨[], hP3.fix f5, .nil⟩, f5.tups _ _ hD3, rfl, (fun _ _ z => by simp at z)⟩ (fun i σ H' hi h' => ?_) (fun σ H' h' => ?_)
      · obtain ⟨y4, y5, pa, da, bs, rfl, h1, h2, h3, h4, h5, h6, h7⟩ := h'
        refine ⟨_, rfl, _, rfl, _, rfl, p, nb, da, m, bs.length, rfl, by decide, h2, h3, m1, m4, h5, by omega, fun H6 v b hB6 hR6 hDb ok6 => ?_⟩
        have f6 := h2.fix hB6
        obtain ⟨xp, hS5, hA5⟩ := h4
        have hSp := hS5.fix f6
        have hAp := DpAll.fixN f6 hA5 (nl_prcs bs)
        have lp := dpAll_len hAp
        rw [List.length_mapIdx] at lp
        obtain ⟨c, ec, ep⟩ := pq_at (i := i) (by omega)
        refine ⟨_, rfl, _, rfl, "pq", (0 + (i : Int)), c, rfl, rfl, by show 2 ≤ sizeLine; decide, ec, _, rfl, by show 2 ≤ sizeLine; decide, fun t1 h1' => ⟨by show 1 ≤ sizeLine; decide, fun t2 o2 h2' d2' => ?_⟩⟩
        have s1 := same_new (o := .tup [.str ⟨#[c]⟩, v]) h1'
        have s2' := same_new (o := .frz o2 (.tup [.ref t1])) h2'
        have s12 := s1.trans s2'
        refine catO_ok (hSp.same s12) ⟨o2, upd_same, d2'⟩ (by rw [lp]; show _ + 1 ≤ 1000; omega) fun r H7 s7 hr => ?_
        refine ⟨_, rfl, _, rfl, "pq", (0 + (i : Int)), c, rfl, rfl, by show 2 ≤ sizeLine; decide, ec, by show 1 ≤ sizeLine; decide, fun t3 h3' => ?_⟩
        have s3 := same_new (o := .tup [.str ⟨#[c]⟩]) h3'
        subst h6
        refine catT_ok (onT (s12.trans (s7.trans s3)) (f6.tups _ _ h5)) (tupAt upd_same) (by rw [pcV_len]; show _ + 1 ≤ 1000; omega) fun r2 H8 s8 hr2 => ?_
        have sAll := s7.trans (s3.trans s8)
        have sX := s12.trans sAll
        refine ⟨_, _, rfl, some (.int (0 + (bs.length : Int))), some v, r, r2, bs ++ [b], rfl, h1.trans (hB6.trans (But.same sX)), hR6.same sX, onT sX (f6.tups _ _ h3), ?_, ?_, by rw [List.length_append]; rfl, fun j b' e => ?_⟩
        · rw [List.mapIdx_concat]
          refine ⟨_, hr.same (s3.trans s8), DpAll.snoc (Dp.on (s2'.trans sAll) _ _ (.tup (tupAt upd_same) (.cons (by rw [ep]; exact .str _) (.cons (Dp.on s1 _ _ hDb) .nil)))) (DpAll.fixN (Fix.same sX) hAp (nl_prcs bs))⟩
        · rw [List.length_append]
          show SqT K H8 r2 (pcV (bs.length + 1))
          rw [pcV_snoc, ← ep]
          exact hr2
        · rcases Nat.lt_or_ge j bs.length with hj | hj
          · rw [List.getElem?_append_left hj] at e
            exact h7 j b' e
          · rw [List.getElem?_append_right hj] at e
            have : j - bs.length = 0 := by
              have := (List.getElem?_eq_some_iff.mp e).1
              simp at this
              omega
            rw [this] at e
            have : j = bs.length := by omega
            subst this
            cases e
            exact ok6
      · obtain ⟨y4, y5, pa, da, bs, rfl, h1, h2, h3, h4, h5, h6, h7⟩ := h'
        exact ⟨y4, y5, pa, da, bs, rfl, h1, h2, h3, h4, h5, by omega, h7⟩
    obtain ⟨y4, y5, pa, da, bs, rfl, hB5, hR5, hN5, hP5, hD5, b2, okb⟩ := g5
    refine ⟨_, rfl, _, rfl, _, rfl, p, nb, da, m, bs.length, rfl, by decide, hR5, hN5, m1, m4, hD5, b2, fun H6 v b hB6 hR6 hDb ok6 => ?_⟩
    have f6 := hR5.fix hB6
    refine ⟨fun mm σ H' => ∃ (v : V) (b' : List Pt), mm = b'.length ∧ σ = [some (.ref p), some (.ref nb), some (.ref pa), some (.ref da), y4, some v] ∧ Same H6 H' ∧ Dp K H' v (bkD b') ∧ okBk m bs.length 2 b', ⟨b.length, v, b, rfl, rfl, Same.refl H6, hDb, ok6⟩, ?_⟩
    rintro mm σ H7 ⟨v, b', rfl, rfl, s7, hD', ok'⟩
    refine ⟨_, rfl, v, b', m, bs.length, rfl, hD', ok', fun H8 s8 => ⟨_, 18, rfl, rfl, _, rfl, ite2 (fun e => ?_) (fun e => ?_)⟩⟩
    · have e := of_decide_eq_true e
      obtain ⟨a, xs, rfl, hS, hA⟩ : ∃ a xs, v = .ref a ∧ SqT K H8 a xs ∧ DpAll K H8 xs (ptsD b') := by
        cases Dp.on s8 _ _ hD' with
        | tup hS hA => exact ⟨_, _, rfl, hS, hA⟩
      refine ⟨fun σ' H' => ∃ m', m' < b'.length ∧ ∃ (v : V) (b' : List Pt), m' = b'.length ∧ σ' = [some (.ref p), some (.ref nb), some (.ref pa), some (.ref da), y4, some v] ∧ Same H6 H' ∧ Dp K H' v (bkD b') ∧ okBk m bs.length 2 b', fun _ _ h => h, ?_⟩
      refine ⟨_, rfl, 1, rfl, ?_⟩
      unfold tNoPart
      dsimp only
      refine slT_from (K := K) 1 1 rfl hS fun bb H9 s9 hb9 => ?_
      cases b' with
      | nil =>
        exfalso
        have : ((18 : Int) < ((0 : Nat) : Int)) := e
        omega
      | cons x r =>
        cases hA with
        | cons h1 t => exact ⟨r.length, Nat.lt_succ_self _, .ref bb, r, rfl, rfl, s7.trans (s8.trans s9), .tup hb9 (DpAll.fixN (Fix.same s9) t (nl_pts r)), by have := ok'.1; simp at this; omega, fun y hy => ok'.2 y (List.mem_cons_of_mem _ hy)⟩
    · have e := of_decide_eq_false (by simpa using e : decide ((18 : Int) < ((cntB b' : Nat) : Int)) = false)
      have sA := s7.trans s8
      refine ⟨_, rfl, _, rfl, _, rfl, by show 3 ≤ sizeLine; decide, fun t ht => ?_⟩
      have st := same_new (o := .tup [.ref nb, .ref pa, v]) ht
      have fA := f6.trans (Fix.same (sA.trans st))
      refine q _ (.ref t) m bs b' (hB5.trans (hB6.trans (But.same (sA.trans st)))) (hR6.same (sA.trans st)) ?_ ⟨m1, m4, b2, okb, ok', by omega⟩
      obtain ⟨xp, hS5, hA5⟩ := hP5
      exact ⟨t, nb, pa, v, xp, rfl, tupAt upd_same, fA.tups _ _ hN5, hS5.fix fA, DpAll.fixN fA hA5 (nl_prcs bs), Dp.on (s8.trans st) _ _ hD'⟩
end
end RH
set_option Elab.async false
set_option linter.all false
set_option maxRecDepth 100000
set_option maxHeartbeats 2000000
namespace RH
open PySem PySem.Spec PyProof.Rows L2
/-! ### the law's own play -/
theorem okEx_up {m : Nat} : ∀ (k : Nat) (e : Ex), okEx m k e → okEx m (k + 1) e
  | 0, .num i, h => h
  | 0, .nam x, h => h
  | 0, .sum _ a b, h => h.elim
  | k + 1, .num i, h => h
  | k + 1, .nam x, h => h
  | k + 1, .sum _ a b, h => ⟨okEx_up k a h.1, okEx_up k b h.2⟩
theorem okPt_q {m q q' : Nat} (le : q ≤ q') : ∀ (d : Nat) (p : Pt), okPt m q d p → okPt m q' d p
  | 0, .letP .., h => h
  | 0, .sayP _, h => h
  | 0, .askP _, h => h
  | 0, .stopP, h => h
  | 0, .doP _, h => Nat.lt_of_lt_of_le h le
  | 0, .ifP .., h => h.elim
  | 0, .whileP .., h => h.elim
  | 0, .repP .., h => h.elim
  | d + 1, .letP .., h => h
  | d + 1, .sayP _, h => h
  | d + 1, .askP _, h => h
  | d + 1, .stopP, h => h
  | d + 1, .doP _, h => Nat.lt_of_lt_of_le h le
  | d + 1, .ifP .., h => ⟨h.1, ⟨h.2.1.1, fun x hx => okPt_q le d x (h.2.1.2 x hx)⟩, ⟨h.2.2.1, fun x hx => okPt_q le d x (h.2.2.2 x hx)⟩⟩
  | d + 1, .whileP .., h => ⟨h.1, h.2.1, fun x hx => okPt_q le d x (h.2.2 x hx)⟩
  | d + 1, .repP .., h => ⟨h.1, h.2.1, fun x hx => okPt_q le d x (h.2.2 x hx)⟩
theorem okPt_up {m q : Nat} : ∀ (d : Nat) (p : Pt), okPt m q d p → okPt m q (d + 1) p
  | 0, .letP .., h => h
  | 0, .sayP _, h => h
  | 0, .askP _, h => h
  | 0, .stopP, h => h
  | 0, .doP _, h => h
  | 0, .ifP .., h => h.elim
  | 0, .whileP .., h => h.elim
  | 0, .repP .., h => h.elim
  | d + 1, .letP .., h => h
  | d + 1, .sayP _, h => h
  | d + 1, .askP _, h => h
  | d + 1, .stopP, h => h
  | d + 1, .doP _, h => h
  | d + 1, .ifP .., h => ⟨h.1, ⟨h.2.1.1, fun x hx => okPt_up d x (h.2.1.2 x hx)⟩, ⟨h.2.2.1, fun x hx => okPt_up d x (h.2.2.2 x hx)⟩⟩
  | d + 1, .whileP .., h => ⟨h.1, h.2.1, fun x hx => okPt_up d x (h.2.2 x hx)⟩
  | d + 1, .repP .., h => ⟨h.1, h.2.1, fun x hx => okPt_up d x (h.2.2 x hx)⟩
/-! what is drawn is no deeper than it may be -/
theorem nm_lay (x : Nat) : (PyData.str (nmS x)).canLay0 = true := by
  have : nmS x = "a" ∨ nmS x = "b" ∨ nmS x = "cat" ∨ nmS x = "dd" := by
    match x with
    | 0 => exact .inl rfl
    | 1 => exact .inr (.inl rfl)
    | 2 => exact .inr (.inr (.inl rfl))
    | 3 => exact .inr (.inr (.inr rfl))
    | x + 4 => exact .inl rfl
  rcases this with e | e | e | e <;> rw [e] <;> decide +kernel
theorem pc_lay (x : Nat) : (PyData.str (pcS60 x)).canLay0 = true := by
  have : pcS60 x = "p" ∨ pcS60 x = "q" := by
    match x with
    | 0 => exact .inl rfl
    | 1 => exact .inr rfl
    | x + 2 => exact .inl rfl
  rcases this with e | e <;> rw [e] <;> decide +kernel
theorem lay_ex : ∀ e : Ex, (exD e).canLay0 = true
  | .num i => rfl
  | .nam x => nm_lay x
  | .sum add a b => by
    have h : (PyData.str (if add = true then "plus" else "minus")).canLay0 = true := by cases add <;> decide +kernel
    simp only [exD, PyData.canLay0, PyData.canLayAll0, Bool.and_eq_true]
    exact ⟨by simpa only [PyData.canLay0] using h, lay_ex a, lay_ex b, trivial⟩
theorem dep_ex {m : Nat} : ∀ (k : Nat) (e : Ex), okEx m k e → (exD e).depth ≤ k
  | 0, .num i, h => Nat.le_refl _
  | 0, .nam x, h => Nat.le_refl _
  | 0, .sum _ a b, h => h.elim
  | k + 1, .num i, h => Nat.zero_le _
  | k + 1, .nam x, h => Nat.zero_le _
  | k + 1, .sum add a b, h => by
    have h1 := dep_ex k a h.1
    have h2 := dep_ex k b h.2
    simp only [exD, PyData.depth, PyData.depthAll]
    omega
theorem lay_word {z : Str} {ds : List PyData} (h : z ∈ (["let", "say", "ask", "stop", "do", "if", "while", "repeat"] : List Str)) (g : PyData.canLayAll0 ds = true) : (PyData.tuple (.str z :: ds)).canLay0 = true := by
  have key : ∀ z ∈ (["let", "say", "ask", "stop", "do", "if", "while", "repeat"] : List Str), (PyData.str z).canLay0 = true := by decide +kernel
  simp only [PyData.canLay0, PyData.canLayAll0, Bool.and_eq_true]
  exact ⟨by simpa only [PyData.canLay0] using key z h, g⟩
theorem lay_all {ds : List PyData} (h : ∀ d ∈ ds, d.canLay0 = true) : PyData.canLayAll0 ds = true := by
  induction ds with
  | nil => rfl
  | cons d ds ih =>
    simp only [PyData.canLayAll0, Bool.and_eq_true]
    exact ⟨h d (List.mem_cons_self ..), ih fun e he => h e (List.mem_cons_of_mem _ he)⟩
theorem lay_two {x y : PyData} (h : x.canLay0 = true) (g : y.canLay0 = true) : PyData.canLayAll0 [x, y] = true := lay_all fun d hd => by
  rcases List.mem_cons.mp hd with rfl | hd
  · exact h
  · rw [List.mem_singleton.mp hd]
    exact g
theorem lay_test (e : Ex) (g : Bool) : (PyData.tuple [exD e, .bool g]).canLay0 = true := by
  simp only [PyData.canLay0, PyData.canLayAll0, Bool.and_eq_true]
  exact ⟨lay_ex e, trivial, trivial⟩
mutual
theorem lay_pt : ∀ p : Pt, (ptD p).canLay0 = true
  | .letP x e => lay_word (by decide +kernel) (lay_two (nm_lay x) (lay_ex e))
  | .sayP e => lay_word (by decide +kernel) (lay_all fun d hd => by rw [List.mem_singleton.mp hd]; exact lay_ex e)
  | .askP x => lay_word (by decide +kernel) (lay_all fun d hd => by rw [List.mem_singleton.mp hd]; exact nm_lay x)
  | .stopP => lay_word (by decide +kernel) rfl
  | .doP q => lay_word (by decide +kernel) (lay_all fun d hd => by rw [List.mem_singleton.mp hd]; exact pc_lay q)
  | .ifP e g a b => lay_word (by decide +kernel) (lay_all fun d hd => by
    rcases List.mem_cons.mp hd with rfl | hd
    · exact lay_test e g
    · rcases List.mem_cons.mp hd with rfl | hd
      · simp only [PyData.canLay0]
        exact lay_pts a
      · rw [List.mem_singleton.mp hd]
        simp only [PyData.canLay0]
        exact lay_pts b)
  | .whileP e g a => lay_word (by decide +kernel) (lay_all fun d hd => by
    rcases List.mem_cons.mp hd with rfl | hd
    · exact lay_test e g
    · rw [List.mem_singleton.mp hd]
      simp only [PyData.canLay0]
      exact lay_pts a)
  | .repP k a => lay_word (by decide +kernel) (lay_all fun d hd => by
    rcases List.mem_cons.mp hd with rfl | hd
    · rfl
    · rw [List.mem_singleton.mp hd]
      simp only [PyData.canLay0]
      exact lay_pts a)
theorem lay_pts : ∀ b : List Pt, PyData.canLayAll0 (ptsD b) = true
  | [] => by rw [ptsD]; rfl
  | p :: r => by
    rw [ptsD]
    simp only [PyData.canLayAll0, Bool.and_eq_true]
    exact ⟨lay_pt p, lay_pts r⟩
end
theorem dep_all {ds : List PyData} {k : Nat} (h : ∀ d ∈ ds, d.depth ≤ k) : PyData.depthAll ds ≤ k := by
  induction ds with
  | nil => exact Nat.zero_le _
  | cons d ds ih =>
    have h1 := h d (List.mem_cons_self ..)
    have h2 := ih fun e he => h e (List.mem_cons_of_mem _ he)
    simp only [PyData.depthAll]
    omega
theorem dep_tup {ds : List PyData} {k : Nat} (h : ∀ d ∈ ds, d.depth ≤ k) : (PyData.tuple ds).depth ≤ k + 1 := by
  have := dep_all h
  simp only [PyData.depth]
  omega
theorem dep_test {m : Nat} {e : Ex} (g : Bool) (h : okEx m 2 e) : (PyData.tuple [exD e, .bool g]).depth ≤ 3 := dep_tup fun d hd => by
  rcases List.mem_cons.mp hd with rfl | hd
  · exact dep_ex 2 e h
  · rw [List.mem_singleton.mp hd]
    exact Nat.zero_le _
theorem dep_let {m x : Nat} {e : Ex} (h : okEx m 3 e) : (ptD (.letP x e)).depth ≤ 4 := dep_tup fun d hd => by
  rcases List.mem_cons.mp hd with rfl | hd
  · exact Nat.zero_le _
  · rcases List.mem_cons.mp hd with rfl | hd
    · exact Nat.zero_le _
    · rw [List.mem_singleton.mp hd]
      exact dep_ex 3 e h
theorem dep_say {m : Nat} {e : Ex} (h : okEx m 3 e) : (ptD (.sayP e)).depth ≤ 4 := dep_tup fun d hd => by
  rcases List.mem_cons.mp hd with rfl | hd
  · exact Nat.zero_le _
  · rw [List.mem_singleton.mp hd]
    exact dep_ex 3 e h
theorem dep_pt {m q : Nat} : ∀ (d : Nat) (p : Pt), okPt m q d p → (ptD p).depth ≤ 4 + 2 * d
  | 0, .letP .., h => dep_let h.2
  | 0, .sayP _, h => dep_say h
  | 0, .askP _, h => by simp [ptD, PyData.depth, PyData.depthAll]
  | 0, .stopP, h => by simp [ptD, PyData.depth, PyData.depthAll]
  | 0, .doP _, h => by simp [ptD, PyData.depth, PyData.depthAll]
  | 0, .ifP .., h => h.elim
  | 0, .whileP .., h => h.elim
  | 0, .repP .., h => h.elim
  | d + 1, .letP .., h => Nat.le_trans (dep_let h.2) (by omega)
  | d + 1, .sayP _, h => Nat.le_trans (dep_say h) (by omega)
  | d + 1, .askP _, h => by simp [ptD, PyData.depth, PyData.depthAll]; omega
  | d + 1, .stopP, h => by simp [ptD, PyData.depth, PyData.depthAll]; omega
  | d + 1, .doP _, h => by simp [ptD, PyData.depth, PyData.depthAll]; omega
  | d + 1, .ifP e g a b, h => by
    have ha : ∀ x ∈ ptsD a, x.depth ≤ 4 + 2 * d := fun x hx => by
      rw [ptsD_map] at hx
      obtain ⟨y, hy, rfl⟩ := List.mem_map.mp hx
      exact dep_pt d y (h.2.1.2 y hy)
    have hb : ∀ x ∈ ptsD b, x.depth ≤ 4 + 2 * d := fun x hx => by
      rw [ptsD_map] at hx
      obtain ⟨y, hy, rfl⟩ := List.mem_map.mp hx
      exact dep_pt d y (h.2.2.2 y hy)
    refine Nat.le_trans (dep_tup (k := 5 + 2 * d) fun x hx => ?_) (by omega)
    rcases List.mem_cons.mp hx with rfl | hx
    · exact Nat.zero_le _
    · rcases List.mem_cons.mp hx with rfl | hx
      · exact Nat.le_trans (dep_test g h.1) (by omega)
      · rcases List.mem_cons.mp hx with rfl | hx
        · exact Nat.le_trans (dep_tup ha) (by omega)
        · rw [List.mem_singleton.mp hx]
          exact Nat.le_trans (dep_tup hb) (by omega)
  | d + 1, .whileP e g a, h => by
    have ha : ∀ x ∈ ptsD a, x.depth ≤ 4 + 2 * d := fun x hx => by
      rw [ptsD_map] at hx
      obtain ⟨y, hy, rfl⟩ := List.mem_map.mp hx
      exact dep_pt d y (h.2.2 y hy)
    refine Nat.le_trans (dep_tup (k := 5 + 2 * d) fun x hx => ?_) (by omega)
    rcases List.mem_cons.mp hx with rfl | hx
    · exact Nat.zero_le _
    · rcases List.mem_cons.mp hx with rfl | hx
      · exact Nat.le_trans (dep_test g h.1) (by omega)
      · rw [List.mem_singleton.mp hx]
        exact Nat.le_trans (dep_tup ha) (by omega)
  | d + 1, .repP k a, h => by
    have ha : ∀ x ∈ ptsD a, x.depth ≤ 4 + 2 * d := fun x hx => by
      rw [ptsD_map] at hx
      obtain ⟨y, hy, rfl⟩ := List.mem_map.mp hx
      exact dep_pt d y (h.2.2 y hy)
    refine Nat.le_trans (dep_tup (k := 5 + 2 * d) fun x hx => ?_) (by omega)
    rcases List.mem_cons.mp hx with rfl | hx
    · exact Nat.zero_le _
    · rcases List.mem_cons.mp hx with rfl | hx
      · exact Nat.zero_le _
      · rw [List.mem_singleton.mp hx]
        exact Nat.le_trans (dep_tup ha) (by omega)
theorem shaped_list {ds : List PyData} (h1 : PyData.canLayAll0 ds = true) (h2 : PyData.depthAll ds ≤ 60) : SeqAt.shaped (.list ds) = true := by
  unfold SeqAt.shaped
  rw [Bool.and_eq_true]
  refine ⟨by simp only [PyData.canLay0]; exact h1, decide_eq_true ?_⟩
  simp only [PyData.depth]
  omega
theorem shaped_tup {ds : List PyData} (h1 : PyData.canLayAll0 ds = true) (h2 : PyData.depthAll ds ≤ 60) : SeqAt.shaped (.tuple ds) = true := by
  unfold SeqAt.shaped
  rw [Bool.and_eq_true]
  refine ⟨by simp only [PyData.canLay0]; exact h1, decide_eq_true ?_⟩
  simp only [PyData.depth]
  omega
theorem dep_pts {m q d : Nat} {b : List Pt} (h : ∀ p ∈ b, okPt m q d p) : PyData.depthAll (ptsD b) ≤ 4 + 2 * d := dep_all fun x hx => by
  rw [ptsD_map] at hx
  obtain ⟨y, hy, rfl⟩ := List.mem_map.mp hx
  exact dep_pt d y (h y hy)
theorem pts_ne (b : List Pt) : (!PyData.eqv (.list (ptsD b)) (.list [])) = !b.isEmpty := by
  cases b with
  | nil =>
    rw [ptsD]
    decide +kernel
  | cons p r =>
    rw [ptsD]
    rfl
/-! ### the dict of what is held, and that of the bodies -/
theorem putK_keep {kvs : List (Key × V)} {k : Key} {v u : V} (h : valV kvs k = some u) : (putK kvs k v).length = kvs.length := by
  unfold putK
  rw [valV_any, h]
  rw [if_pos (show (some u).isSome = true from rfl), List.length_map]
def HeldL (H : Hp) (a : Addr) (m : Nat) (held : Nat → Int) : Prop := ∃ kvs, H a = some (.dK kvs) ∧ kvs.length ≤ 100 ∧ ∀ x, x < m → valV kvs (.inr (nmS x)) = some (.int (held x))
theorem HeldL.d {H : Hp} {a : Addr} {m : Nat} {held : Nat → Int} (h : HeldL H a m held) : HeldD H a m held := let ⟨k, e, _, q⟩ := h; ⟨k, e, q⟩
theorem HeldL.on {H H' : Hp} {a : Addr} {m : Nat} {held : Nat → Int} (h : HeldL H a m held) (s : ∀ o, H a = some o → H' a = some o) : HeldL H' a m held := let ⟨k, e, l, q⟩ := h; ⟨k, s _ e, l, q⟩
/-- a name's worth is put -/
theorem HeldL.put {H : Hp} {a : Addr} {m x : Nat} {held : Nat → Int} {z : Int} (h : HeldL H a m held) (m4 : m ≤ 4) (hx : x < m) : ∃ kvs, H a = some (.dK kvs) ∧ kvs.length < sizeLine ∧ HeldL (upd H a (.dK (putK kvs (.inr (nmS x)) (.int z)))) a m (fun y => if y = x then z else held y) := by
  obtain ⟨kvs, e, l, q⟩ := h
  refine ⟨kvs, e, small1000 (by omega), _, upd_same, by rw [putK_keep (q x hx)]; exact l, fun y hy => ?_⟩
  rw [valV_put]
  by_cases c : y = x
  · subst c
    rw [if_pos rfl]
    exact congrArg some (congrArg V.int (if_pos rfl).symm)
  · rw [if_neg (fun e => c (nmS_inj (by omega) (by omega) (Sum.inr.inj e))), q y hy]
    exact congrArg some (congrArg V.int (if_neg c).symm)
/-- the bodies of the procedures -/
def Bod (K : PySem.W.Frag) (H0 H : Hp) (a : Addr) (bs : List (List Pt)) : Prop := ∃ kvs, H a = some (.dK kvs) ∧ ∀ (i : Nat) (b : List Pt), bs[i]? = some b → ∃ v, valV kvs (.inr (pcS60 i)) = some v ∧ Dp K H0 v (bkD b)
theorem dp_two {K : PySem.W.Frag} {H : Hp} {v : V} {x y : PyData} (h : Dp K H v (.tuple [x, y])) : ∃ a v1 v2, v = .ref a ∧ SqT K H a [v1, v2] ∧ Dp K H v1 x ∧ Dp K H v2 y := by
  cases h with
  | tup hS hA =>
    cases hA with
    | cons h1 t =>
      cases t with
      | cons h2 t =>
        cases t
        exact ⟨_, _, _, rfl, hS, h1, h2⟩
theorem bod_made {K : PySem.W.Frag} {H : Hp} {xp : List V} {bs : List (List Pt)} (b2 : bs.length ≤ 2) (h : DpAll K H xp (bs.mapIdx prcD)) : ∃ (ps : List Addr) (kvs : List (Key × V)), xp = ps.map V.ref ∧ Paired (fun p kv => SqT K H p [kV kv.1, kv.2]) ps kvs ∧
    ∀ (i : Nat) (b : List Pt), bs[i]? = some b → ∃ v, valV (mergeK [] kvs) (.inr (pcS60 i)) = some v ∧ Dp K H v (bkD b) := by
  match bs, b2 with
  | [], _ =>
    cases h
    exact ⟨[], [], rfl, .nil, fun i b e => by simp at e⟩
  | [b0], _ =>
    cases h with
    | cons h0 t =>
      cases t
      obtain ⟨a, v1, v2, rfl, hS, d1, d2⟩ := dp_two h0
      obtain rfl := dp_str d1
      refine ⟨[a], [(.inr (pcS60 0), v2)], rfl, .cons hS .nil, fun i b e => ?_⟩
      match i, e with
      | 0, e =>
        cases e
        exact ⟨v2, by simp [mergeK, putK, valV], d2⟩
      | i + 1, e => simp at e
  | [b0, b1], _ =>
    cases h with
    | cons h0 t =>
      cases t with
      | cons h1 t =>
        cases t
        obtain ⟨a, v1, v2, rfl, hS, d1, d2⟩ := dp_two h0
        obtain rfl := dp_str d1
        obtain ⟨a', w1, w2, rfl, hS', e1, e2⟩ := dp_two h1
        obtain rfl := dp_str e1
        have ne : ¬ (pcS60 1 = pcS60 0) := by decide +kernel
        refine ⟨[a, a'], [(.inr (pcS60 0), v2), (.inr (pcS60 1), w2)], rfl, .cons hS (.cons hS' .nil), fun i b e => ?_⟩
        match i, e with
        | 0, e =>
          cases e
          refine ⟨v2, ?_, d2⟩
          rw [show mergeK [] [(.inr (pcS60 0), v2), (.inr (pcS60 1), w2)] = putK (putK ([] : List (Key × V)) (.inr (pcS60 0)) v2) (.inr (pcS60 1)) w2 from rfl]
          rw [valV_put, if_neg (fun z => ne (Sum.inr.inj z).symm), valV_put, if_pos rfl]
        | 1, e =>
          cases e
          refine ⟨w2, ?_, e2⟩
          rw [show mergeK [] [(.inr (pcS60 0), v2), (.inr (pcS60 1), w2)] = putK (putK ([] : List (Key × V)) (.inr (pcS60 0)) v2) (.inr (pcS60 1)) w2 from rfl]
          rw [valV_put, if_pos rfl]
        | i + 2, e => simp at e
/-! ### the law's machine, as it is told -/
def mc0 (inp : List Int) : Mc := ⟨fun _ => 0, inp, []⟩
def bdO (bs : List (List Pt)) : Nat → List Pt := fun q => bs.getD q []
def endB (td : List Pt) : Str := if td.isEmpty = true then "stopped" else "running"
theorem bdO_at {bs : List (List Pt)} {q : Nat} (h : q < bs.length) : bs[q]? = some (bdO bs q) := by
  unfold bdO
  rw [List.getD_eq_getElem?_getD, List.getElem?_eq_getElem h]
  rfl
theorem runT_snoc {bd : Nat → List Pt} : ∀ (i : Nat) (s : List Pt × Mc), runT bd (i + 1) s = stepT bd (runT bd i s) := fun i s => by rw [runT_add]; rfl
end RH
set_option Elab.async false
set_option linter.all false
set_option maxRecDepth 100000
set_option maxHeartbeats 2000000
namespace RH
open PySem PySem.Spec PyProof.Rows L2
theorem cl_listOf {X : Cx} (K : PySem.W.Frag) (h : X.K = K := by rfl) : CallR X (.type "list") (fun xs H Q => ∃ p ys, xs = [.ref p] ∧ (SqL K H p ys ∨ SqT K H p ys) ∧ ∀ l, H l = none → Q (.ref l) (upd H l (.lst ys))) := by
  subst h
  exact call_list_of
theorem paired_imp {α β : Type} {R S : α → β → Prop} (f : ∀ a b, R a b → S a b) : ∀ {xs : List α} {ys : List β}, Paired R xs ys → Paired S xs ys
  | _, _, .nil => .nil
  | _, _, .cons h t => .cons (f _ _ h) (paired_imp f t)
theorem paired_snoc {α β : Type} {R : α → β → Prop} {a : α} {b : β} (h : R a b) : ∀ {xs : List α} {ys : List β}, Paired R xs ys → Paired R (xs ++ [a]) (ys ++ [b])
  | _, _, .nil => .cons h .nil
  | _, _, .cons g t => .cons g (paired_snoc h t)
theorem paired_len {α β : Type} {R : α → β → Prop} : ∀ {xs : List α} {ys : List β}, Paired R xs ys → xs.length = ys.length
  | _, _, .nil => rfl
  | _, _, .cons _ t => congrArg (· + 1) (paired_len t)
/-- the names at naught -/
def zeroK (m : Nat) : List (Key × V) := (List.range m).map fun x => (.inr (nmS x), .int 0)
theorem zeroK_snoc (m : Nat) : zeroK (m + 1) = zeroK m ++ [(.inr (nmS m), .int 0)] := by
  unfold zeroK
  rw [List.range_succ, List.map_append]
  rfl
theorem zeroK_at {m x : Nat} (m4 : m ≤ 4) (h : x < m) : valV (mergeK [] (zeroK m)) (.inr (nmS x)) = some (.int 0) := by
  have key : ∀ m, m < 5 → ∀ x, x < m → valV (mergeK [] (zeroK m)) (.inr (nmS x)) = some (.int 0) := by decide +kernel
  exact key m (by omega) x h
theorem zeroK_len {m : Nat} (m4 : m ≤ 4) : (mergeK [] (zeroK m)).length ≤ 100 := by
  have key : ∀ m, m < 5 → (mergeK [] (zeroK m)).length ≤ 100 := by decide +kernel
  exact key m (by omega)
/-- where the law's play stands -/
structure LSt (K : PySem.W.Frag) (H0 : Hp) (m : Nat) (bs : List (List Pt)) (i : Nat) (hd sl pd : Addr) (H : Hp) (td : List Pt) (M : Mc) (tl ll : Addr) : Prop where
  sm : Same H0 H
  n1 : H0 hd = none
  n2 : H0 sl = none
  hp : hd ≠ pd
  hold : HeldL H hd m M.held
  tds : ∃ xs, H tl = some (.lst xs) ∧ DpAll K H0 xs (ptsD td)
  tln : td.length ≤ 3 + 6 * i
  ok : ∀ p ∈ td, okPt m bs.length 2 p
  sd : H sl = some (.lst (M.said.map V.int))
  sln : M.said.length ≤ i
  lf : H ll = some (.lst (M.left.map V.int))
  lln : M.left.length ≤ 1000
  pr : Bod K H0 H pd bs
  ts : tl ≠ sl
  ls : ll ≠ sl
theorem Bod.on {K : PySem.W.Frag} {H0 H H' : Hp} {a : Addr} {bs : List (List Pt)} (h : Bod K H0 H a bs) (s : ∀ o, H a = some o → H' a = some o) : Bod K H0 H' a bs := let ⟨k, e, q⟩ := h; ⟨k, s _ e, q⟩
theorem dp_one {K : PySem.W.Frag} {H : Hp} {v : V} {x : PyData} (h : Dp K H v (.tuple [x])) : ∃ a v1, v = .ref a ∧ SqT K H a [v1] ∧ Dp K H v1 x := by
  cases h with
  | tup hS hA =>
    cases hA with
    | cons h1 t =>
      cases t
      exact ⟨_, _, rfl, hS, h1⟩
theorem dp_four {K : PySem.W.Frag} {H : Hp} {v : V} {x y z u : PyData} (h : Dp K H v (.tuple [x, y, z, u])) : ∃ a v1 v2 v3 v4, v = .ref a ∧ SqT K H a [v1, v2, v3, v4] ∧ Dp K H v1 x ∧ Dp K H v2 y ∧ Dp K H v3 z ∧ Dp K H v4 u := by
  cases h with
  | tup hS hA =>
    cases hA with
    | cons h1 t =>
      cases t with
      | cons h2 t =>
        cases t with
        | cons h3 t =>
          cases t with
          | cons h4 t =>
            cases t
            exact ⟨_, _, _, _, _, rfl, hS, h1, h2, h3, h4⟩
theorem dp_bl {K : PySem.W.Frag} {H : Hp} {v : V} {b : Bool} (h : Dp K H v (.bool b)) : v = .bl b := by
  cases h
  rfl
theorem dpAll_app {K : PySem.W.Frag} {H : Hp} : ∀ {xs ys : List V} {ds es : List PyData}, DpAll K H xs ds → DpAll K H ys es → DpAll K H (xs ++ ys) (ds ++ es)
  | _, _, _, _, .nil, h => h
  | _, _, _, _, .cons h t, g => .cons h (dpAll_app t g)
theorem dpAll_rep {K : PySem.W.Frag} {H : Hp} {xs : List V} {b : List Pt} (h : DpAll K H xs (ptsD b)) : ∀ j : Nat, DpAll K H (List.replicate j xs).flatten (ptsD (List.replicate j b).flatten)
  | 0 => by
    rw [List.replicate_zero, List.replicate_zero, List.flatten_nil, List.flatten_nil, ptsD]
    exact .nil
  | j + 1 => by
    rw [List.replicate_succ, List.replicate_succ, List.flatten_cons, List.flatten_cons, ptsD_app]
    exact dpAll_app h (dpAll_rep h j)
theorem mem_rep {b : List Pt} {j : Nat} {p : Pt} (h : p ∈ (List.replicate j b).flatten) : p ∈ b := by
  obtain ⟨l, hl, hp⟩ := List.mem_flatten.mp h
  rw [(List.mem_replicate.mp hl).2] at hp
  exact hp
theorem small_a {n : Nat} (h : n ≤ 5000) : n ≤ sizeLine := by
  rw [sizeLine_eq]
  omega
theorem good_eq (M : Mc) (e : Ex) (g : Bool) : PyData.eqv (.bool (decide (V.int (wth M.held e) = V.int 0))) (.bool g) = okT M e g := by
  have h1 : PyData.eqv (.bool (decide (V.int (wth M.held e) = V.int 0))) (.bool g) = decide (decide (V.int (wth M.held e) = V.int 0) = g) := by
    cases decide (V.int (wth M.held e) = V.int 0) <;> cases g <;> rfl
  rw [h1, V_int]
  rfl
theorem none_of60 {H H' : Hp} (s : Same H H') {b : Addr} (e : H' b = none) : H b = none := by
  cases q : H b with
  | none => rfl
  | some o =>
    have := s _ _ q
    rw [e] at this
    cases this
section
variable {K : PySem.W.Frag} {H0 : Hp} {m : Nat} {bs : List (List Pt)} {i : Nat} {hd sl pd : Addr} {H H' : Hp} {td : List Pt} {M : Mc} {tl ll : Addr}
theorem LSt.dp (S : LSt K H0 m bs i hd sl pd H td M tl ll) : Dp K H (.ref tl) (.list (ptsD td)) ∧ SeqAt.shaped (.list (ptsD td)) = true := by
  obtain ⟨xs, e, d⟩ := S.tds
  exact ⟨.lst (lstAt e) (DpAll.fixN (Fix.same S.sm) d (nl_pts td)), shaped_list (lay_pts td) (Nat.le_trans (dep_pts S.ok) (by decide))⟩
theorem LSt.same (S : LSt K H0 m bs i hd sl pd H td M tl ll) (s : Same H H') : LSt K H0 m bs i hd sl pd H' td M tl ll :=
  { S with sm := S.sm.trans s, hold := S.hold.on (s _), tds := let ⟨xs, e, d⟩ := S.tds; ⟨xs, s _ _ e, d⟩, sd := s _ _ S.sd, lf := s _ _ S.lf, pr := S.pr.on (s _) }
/-- the next round's bounds -/
theorem LSt.up (S : LSt K H0 m bs i hd sl pd H td M tl ll) : LSt K H0 m bs (i + 1) hd sl pd H td M tl ll := { S with tln := Nat.le_trans S.tln (by omega), sln := Nat.le_succ_of_le S.sln }
/-- another list of what is to be done -/
theorem LSt.todo (S : LSt K H0 m bs i hd sl pd H td M tl ll) {td' : List Pt} {t : Addr} {xs : List V} (ht : H t = none) (d : DpAll K H0 xs (ptsD td')) (hl : td'.length ≤ 3 + 6 * i) (ok : ∀ p ∈ td', okPt m bs.length 2 p) : LSt K H0 m bs i hd sl pd (upd H t (.lst xs)) td' M t ll :=
  let s := same_new (o := .lst xs) ht
  { S.same s with tds := ⟨xs, upd_same, d⟩, tln := hl, ok := ok, ts := (ne_of_none S.sd ht).symm }
/-- what is left of the inputs -/
theorem LSt.lefts (S : LSt K H0 m bs i hd sl pd H td M tl ll) {l : Addr} {ls : List Int} (ht : H l = none) (le : ls.length ≤ 1000) : LSt K H0 m bs i hd sl pd (upd H l (.lst (ls.map V.int))) td { M with left := ls } tl l :=
  let s := same_new (o := .lst (ls.map V.int)) ht
  { S.same s with lf := upd_same, lln := le, ls := (ne_of_none S.sd ht).symm }
theorem LSt.tlh (S : LSt K H0 m bs i hd sl pd H td M tl ll) : tl ≠ hd ∧ sl ≠ hd ∧ ll ≠ hd := by
  obtain ⟨k, e, _⟩ := S.hold
  obtain ⟨xs, e2, _⟩ := S.tds
  exact ⟨ne_of e2 e (fun z => nomatch z), ne_of S.sd e (fun z => nomatch z), ne_of S.lf e (fun z => nomatch z)⟩
/-- a worth is held -/
theorem LSt.put (S : LSt K H0 m bs i hd sl pd H td M tl ll) (m4 : m ≤ 4) {x : Nat} (hx : x < m) (z : Int) : ∃ kvs, H hd = some (.dK kvs) ∧ kvs.length < sizeLine ∧ LSt K H0 m bs i hd sl pd (upd H hd (.dK (putK kvs (.inr (nmS x)) (.int z)))) td (M.put x z) tl ll := by
  obtain ⟨kvs, e, l, h⟩ := S.hold.put (z := z) m4 hx
  obtain ⟨a1, a2, a3⟩ := S.tlh
  obtain ⟨xs, eX, dX⟩ := S.tds
  refine ⟨kvs, e, l, fun b o eb => ?_, S.n1, S.n2, S.hp, h, ⟨xs, by rw [upd_ne a1]; exact eX, dX⟩, S.tln, S.ok, by rw [upd_ne a2]; exact S.sd, S.sln, by rw [upd_ne a3]; exact S.lf, S.lln, S.pr.on fun o eo => by rw [upd_ne (Ne.symm S.hp)]; exact eo, S.ts, S.ls⟩
  rw [upd_ne (ne_of_none eb S.n1)]
  exact S.sm _ _ eb
/-- a worth is said -/
theorem LSt.say (S : LSt K H0 m bs i hd sl pd H td M tl ll) (z : Int) (hz : M.said.length + 1 ≤ i) : LSt K H0 m bs i hd sl pd (upd H sl (.lst (M.said.map V.int ++ [.int z]))) td { M with said := M.said ++ [z] } tl ll := by
  obtain ⟨a1, a2, a3⟩ := S.tlh
  obtain ⟨xs, eX, dX⟩ := S.tds
  obtain ⟨kv, eP, hP⟩ := S.pr
  refine ⟨fun b o eb => ?_, S.n1, S.n2, S.hp, S.hold.on fun o eo => by rw [upd_ne (Ne.symm a2)]; exact eo, ⟨xs, by rw [upd_ne S.ts]; exact eX, dX⟩, S.tln, S.ok, by rw [upd_same, List.map_append]; rfl, by show (M.said ++ [z]).length ≤ i; rw [List.length_append]; exact hz, by rw [upd_ne S.ls]; exact S.lf, S.lln, ⟨kv, by rw [upd_ne (ne_of eP S.sd (fun z => nomatch z))]; exact eP, hP⟩, S.ts, S.ls⟩
  rw [upd_ne (ne_of_none eb S.n2)]
  exact S.sm _ _ eb
end
section
variable {P : Program} {w : World} {K : PySem.W.Frag} {mg : Str → Option Value} {base : Heap}
def spLPlay (K : PySem.W.Frag) : Sp := fun vs H Q _ => ∃ (v iv : V) (m : Nat) (bs : List (List Pt)) (main : List Pt) (inp : List Int) (k : Nat), vs = [v, iv, .int (k : Int)] ∧ PgAt K H v m bs main ∧ PgOk m bs main ∧ TI K H iv inp ∧ inp.length ≤ 1000 ∧ k ≤ 400 ∧
  ∀ H' t sa, Same H H' → H' t = some (.tup [.ref sa, .str (endB (runT (bdO bs) k (main, mc0 inp)).1)]) → H' sa = some (.tup ((runT (bdO bs) k (main, mc0 inp)).2.said.map V.int)) → Q (.ref t) H'
theorem ok_lplay (F : Df K mg "_law_play" st__law_play ["program", "inputs", "most"]) (B : Bu mg) (n_dict : mg "dict" = none) (CW : Cal P w K mg base 4 "_law_worth" (spWorth K 3)) : Cal P w K mg base 5 "_law_play" (spLPlay K) := by
  refine mkCal F sc__law_play (fun vs H Q E h => ?_) (fun f cdv A outer s H vs Q E hr h => ?_)
  · obtain ⟨v, iv, m, bs, main, inp, k, rfl, _⟩ := h
    rfl
  · obtain ⟨v, iv, m, bs, main, inp, k, rfl, hP, hO, hI, il, k4, q⟩ := h
    refine ⟨_, pss_cons (ps_cutM (ps_asg (pe_tup (pa_cons (pe_callTy (call_dictP rfl) (by rfl) n_dict (by decide +kernel) (pa_cons (pe_lc (own := [("name", 11)]) (g := (gName 11)) (tt := tYes)  rfl sc__law_play.nd (pi_tup (pe_ix (ixT K) (pv 0) pe_int (fun _ _ => rfl))) (blkOk_by (N := ["program", "inputs", "most", "held", "todo", "said", "left", "procedures", "turn", "part", "good", "name"]) (sc := (defScope st__law_play)) (by decide +kernel)) (fun _ _ _ _ _ => (pg_name (i := 11) sc__law_play.nd rfl (Or.inl rfl))) (fun _ _ _ _ _ => pts_nil) (fun _ _ _ _ _ => (pe_tup (pa_cons (pv 11) (pa_cons pe_int pa_nil))))) pa_nil)) (pa_cons (pe_callTy (cl_listOf K) (by rfl) B.list (by decide +kernel) (pa_cons (pe_ix (ixT K) (pv 0) pe_int (fun _ _ => rfl)) pa_nil)) (pa_cons (pe_lst pa_nil) (pa_cons (pe_callTy (cl_listOf K) (by rfl) B.list (by decide +kernel) (pa_cons (pv 1) pa_nil)) (pa_cons (pe_callTy (call_dictT rfl) (by rfl) n_dict (by decide +kernel) (pa_cons (pe_ix (ixT K) (pv 0) pe_int (fun _ _ => rfl)) pa_nil)) pa_nil)))))) (pg_tup rfl (pgs_cons (pg_name (i := 3) sc__law_play.nd rfl (Or.inl rfl)) (pgs_cons (pg_name (i := 4) sc__law_play.nd rfl (Or.inl rfl)) (pgs_cons (pg_name (i := 5) sc__law_play.nd rfl (Or.inl rfl)) (pgs_cons (pg_name (i := 6) sc__law_play.nd rfl (Or.inl rfl)) (pgs_cons (pg_name (i := 7) sc__law_play.nd rfl (Or.inl rfl)) pgs_nil))))))))
      (pss_cons (ps_cutM (ps_for PassesOwn.never rfl (pi_range1 (by rfl) B.range (pa_cons (pv 2) pa_nil)) (pg_name (i := 8) sc__law_play.nd rfl (Or.inl rfl)) (pss_one (ps_if (pt_cmpR (op_neD hr.units) (pv 4) (pe_lst pa_nil) (nomark _)) (pss_cons (ps_par (i := 9) (j := 4) rfl sc__law_play.nd rfl rfl (by decide) rfl rfl (pa_cons (pe_ix (ixL K) (pv 4) pe_int (fun _ _ => rfl)) (pa_cons (pe_slice sl_list (pv 4) (po_some pe_int) po_none) pa_nil)) rfl)
      (pss_cons (ps_if (pt_cmpR op_eq (pe_ix (ixT K) (pv 9) pe_int (fun _ _ => rfl)) pe_str (nomark _)) (pss_one (ps_dput (hu_of hr) (pv 3) (pe_ix (ixT K) (pv 9) pe_int (fun _ _ => rfl)) (pc CW hr (pa_cons (pv 3) (pa_cons (pe_ix (ixT K) (pv 9) pe_int (fun _ _ => rfl)) pa_nil)) (hk := by omega)) rfl)) pss_nil)
      (pss_cons (ps_if (pt_cmpR op_eq (pe_ix (ixT K) (pv 9) pe_int (fun _ _ => rfl)) pe_str (nomark _)) (pss_one (ps_expr (pe_bm PySem.F.plainAttrs_list PySem.F.slot_list_append PySem.F.type_list_append mt_append (pv 5) (pa_cons (pc CW hr (pa_cons (pv 3) (pa_cons (pe_ix (ixT K) (pv 9) pe_int (fun _ _ => rfl)) pa_nil)) (hk := by omega)) pa_nil)))) pss_nil)
      (pss_cons (ps_if (pt_cmpR op_eq (pe_ix (ixT K) (pv 9) pe_int (fun _ _ => rfl)) pe_str (nomark _)) (pss_cons (ps_dput (hu_of hr) (pv 3) (pe_ix (ixT K) (pv 9) pe_int (fun _ _ => rfl)) (pe_ifExp (pt_cmpR (op_neD hr.units) (pv 6) (pe_lst pa_nil) (nomark _)) (pe_ix (ixL K) (pv 6) pe_int (fun _ _ => rfl)) pe_int) rfl)
      (pss_one (ps_set (i := 6) sc__law_play.nd rfl (.inl rfl) (pe_slice sl_list (pv 6) (po_some pe_int) po_none)))) pss_nil)
      (pss_cons (ps_if (pt_cmpR (opIn K) (pe_ix (ixT K) (pv 9) pe_int (fun _ _ => rfl)) (pe_lst (pa_cons pe_str (pa_cons pe_str pa_nil))) rfl) (pss_cons (ps_set (i := 10) sc__law_play.nd rfl (.inl rfl) (pe_cmpR (op_eqD hr.units) (pe_cmpR op_eq (pc CW hr (pa_cons (pv 3) (pa_cons (pe_ix (ixT K) (pe_ix (ixT K) (pv 9) pe_int (fun _ _ => rfl)) pe_int (fun _ _ => rfl)) pa_nil)) (hk := by omega)) pe_int (nomark _)) (pe_ix (ixT K) (pe_ix (ixT K) (pv 9) pe_int (fun _ _ => rfl)) pe_int (fun _ _ => rfl)) (nomark _)))
      (pss_one (ps_if (pt_cmpR op_eq (pe_ix (ixT K) (pv 9) pe_int (fun _ _ => rfl)) pe_str (nomark _)) (pss_one (ps_set (i := 4) sc__law_play.nd rfl (.inl rfl) (pe_op op_cat (pe_callTy (cl_listOf K) (by rfl) B.list (by decide +kernel) (pa_cons (pe_ifExp (pt_val (pv 10)) (pe_ix (ixT K) (pv 9) pe_int (fun _ _ => rfl)) (pe_ix (ixT K) (pv 9) pe_int (fun _ _ => rfl))) pa_nil)) (pv 4)))) (pss_one (ps_set (i := 4) sc__law_play.nd rfl (.inl rfl) (pe_ifExp (pt_val (pv 10)) (pe_op op_cat (pe_op op_cat (pe_callTy (cl_listOf K) (by rfl) B.list (by decide +kernel) (pa_cons (pe_ix (ixT K) (pv 9) pe_int (fun _ _ => rfl)) pa_nil)) (pe_lst (pa_cons (pv 9) pa_nil))) (pv 4)) (pv 4))))))) pss_nil)
      (pss_cons (ps_if (pt_cmpR op_eq (pe_ix (ixT K) (pv 9) pe_int (fun _ _ => rfl)) pe_str (nomark _)) (pss_one (ps_set (i := 4) sc__law_play.nd rfl (.inl rfl) (pe_op op_cat (pe_op op_rep (pe_callTy (cl_listOf K) (by rfl) B.list (by decide +kernel) (pa_cons (pe_ix (ixT K) (pv 9) pe_int (fun _ _ => rfl)) pa_nil)) (pe_ix (ixT K) (pv 9) pe_int (fun _ _ => rfl))) (pv 4)))) pss_nil)
      (pss_cons (ps_if (pt_cmpR op_eq (pe_ix (ixT K) (pv 9) pe_int (fun _ _ => rfl)) pe_str (nomark _)) (pss_one (ps_set (i := 4) sc__law_play.nd rfl (.inl rfl) (pe_op op_cat (pe_callTy (cl_listOf K) (by rfl) B.list (by decide +kernel) (pa_cons (pe_dget (hu_of hr) (pv 7) (pe_ix (ixT K) (pv 9) pe_int (fun _ _ => rfl)) (fun _ _ => rfl)) pa_nil)) (pv 4)))) pss_nil)
      (pss_one (ps_if (pt_cmpR op_eq (pe_ix (ixT K) (pv 9) pe_int (fun _ _ => rfl)) pe_str (nomark _)) (pss_one (ps_set (i := 4) sc__law_play.nd rfl (.inl rfl) (pe_lst pa_nil))) pss_nil))))))))) pss_nil))))
      (pss_one (ps_ret (pe_tup (pa_cons (pe_tupleOf (by rfl) B.tuple (pv 5)) (pa_cons (pe_ifExp (pt_cmpR (op_neD hr.units) (pv 4) (pe_lst pa_nil) (nomark _)) pe_str pe_str) pa_nil)))))), ?_⟩
    obtain ⟨a, na, pa, mv, xp, rfl, hS, hN, hF, hX, hM⟩ := hP.ex
    refine ⟨fun σ' H' => ∃ hd tl sl ll pd, σ' = [some (.ref a), some iv, some (.int (k : Int)), some (.ref hd), some (.ref tl), some (.ref sl), some (.ref ll), some (.ref pd), none, none, none, none] ∧ LSt K H m bs 0 hd sl pd H' main (mc0 inp) tl ll, fun σ1 H1 g1 => ?_, ?_⟩
    case refine_2 =>
      refine ⟨_, rfl, a, _, (0 : Int), .ref na, rfl, rfl, hS, rfl, na, rfl, ⟨_, hN⟩, fun D hD => ?_⟩
      refine lc_tup (xs := nmV m) (fun i H' => Same H H' ∧ ∃ ps : List Addr, H' D = some (.lst (ps.map V.ref)) ∧ Paired (fun p kv => SqT K H' p [kV kv.1, kv.2]) ps (zeroK i)) ⟨same_new hD, [], upd_same, .nil⟩ (fun i H' _ h' => onT h'.1 hN) (fun i x H' hx h' => ?_) (fun H' h' => ?_)
      · obtain ⟨sm, ps, eD, hp⟩ := h'
        obtain ⟨lx, rfl⟩ := nmV_at hx
        refine ⟨rfl, _, rfl, by show 2 ≤ sizeLine; decide, fun t ht => ?_⟩
        have st := same_new (o := .tup [.str (nmS i), .int 0]) ht
        refine ⟨ps.map V.ref, st _ _ eD, ?_, ?_⟩
        · rw [List.length_map, paired_len hp]
          unfold zeroK
          rw [List.length_map, List.length_range]
          exact small1000 (by have := hO.m4; omega)
        · have tD : t ≠ D := fun e => by rw [e] at ht; rw [eD] at ht; cases ht
          have up : ∀ {b : Addr} {xs : List V}, SqT K (upd H' t (.tup [.str (nmS i), .int 0])) b xs → SqT K (upd (upd H' t (.tup [.str (nmS i), .int 0])) D (.lst (ps.map V.ref ++ [.ref t]))) b xs := fun {b xs} h => (Fix.lst (st _ _ eD)).tups _ _ h
          refine ⟨fun b o e => ?_, ps ++ [t], ?_, ?_⟩
          · rw [upd_ne (ne_of_none e hD)]
            exact st _ _ (sm _ _ e)
          · rw [upd_same, List.map_append]
            rfl
          · rw [zeroK_snoc]
            exact paired_snoc (R := fun p (kv : Key × V) => SqT K _ p [kV kv.1, kv.2]) (up (tupAt upd_same)) (paired_imp (S := fun p (kv : Key × V) => SqT K _ p [kV kv.1, kv.2]) (fun p kv h => up (onT st h)) hp)
      · obtain ⟨sm, ps, eD, hp⟩ := h'
        rw [nmV_len] at hp
        refine ⟨D, ps, zeroK m, rfl, lstAt eD, hp, fun hd hhd => ?_⟩
        have s1 := sm.trans (same_new (o := .dK (mergeK [] (zeroK m))) hhd)
        obtain ⟨mb, ys, rfl, hB, hA⟩ : ∃ mb ys, mv = .ref mb ∧ SqT K H mb ys ∧ DpAll K H ys (ptsD main) := by
          cases hM with
          | tup hT hA => exact ⟨_, _, rfl, hT, hA⟩
        refine ⟨_, rfl, a, _, (2 : Int), .ref mb, rfl, rfl, onT s1 hS, rfl, mb, ys, rfl, .inr (onT s1 hB), fun tl htl => ?_⟩
        have s2 := s1.trans (same_new (o := .lst ys) htl)
        refine ⟨Nat.zero_le _, fun sl hsl => ?_⟩
        have s3 := s2.trans (same_new (o := .lst []) hsl)
        obtain ⟨ai, rfl, hI⟩ := hI
        refine ⟨_, rfl, ai, _, rfl, .inr (onT s3 hI), fun ll hll => ?_⟩
        have s4 := s3.trans (same_new (o := .lst (inp.map V.int)) hll)
        obtain ⟨qs, kvs, rfl, hQ, hV⟩ := bod_made hO.b2 hX
        obtain ⟨ob, eP, dP⟩ := hF
        refine ⟨_, rfl, a, _, (1 : Int), .ref pa, rfl, rfl, onT s4 hS, rfl, pa, ob, qs, kvs, rfl, s4 _ _ eP, dP, paired_imp (S := fun p (kv : Key × V) => SqT K _ p [kV kv.1, kv.2]) (fun p kv h => onT s4 h) hQ, fun pd hpd => ?_⟩
        have s5 := s4.trans (same_new (o := .dK (mergeK [] kvs)) hpd)
        refine ⟨by show 5 ≤ sizeLine; decide, fun t ht => ⟨t, _, rfl, tupAt upd_same, rfl, ?_⟩⟩
        have k2 := same_new (o := .lst ys) htl
        have k3 := same_new (o := .lst []) hsl
        have k4' := same_new (o := .lst (inp.map V.int)) hll
        have k5 := same_new (o := .dK (mergeK [] kvs)) hpd
        have k6 := same_new (o := .tup [.ref hd, .ref tl, .ref sl, .ref ll, .ref pd]) ht
        have c5 := k5.trans k6
        have c4 := k4'.trans c5
        have c3 := k3.trans c4
        have c2 := k2.trans c3
        refine ⟨_, _, rfl, _, _, rfl, _, _, rfl, _, _, rfl, _, _, rfl, rfl, hd, tl, sl, ll, pd, rfl, ?_⟩
        refine ⟨s5.trans k6, none_of60 sm hhd, none_of60 s2 hsl, ?_, ⟨_, c2 _ _ upd_same, zeroK_len hO.m4, fun x hx => zeroK_at hO.m4 hx⟩, ⟨ys, c3 _ _ upd_same, hA⟩, by have := hO.mn.1; omega, hO.mn.2, c4 _ _ upd_same, Nat.le_refl _, c5 _ _ upd_same, il, ⟨_, k6 _ _ upd_same, hV⟩, ne_of_none upd_same hsl, (ne_of_none upd_same hll).symm⟩
        exact ne_of_none (k4' _ _ (k3 _ _ (k2 _ _ upd_same))) hpd
    obtain ⟨hd, tl0, sl, ll0, pd, rfl, S0⟩ := g1
    refine ⟨fun σ' H' => ∃ (tl ll : Addr) (y8 y9 y10 y11 : Option V), σ' = [some (.ref a), some iv, some (.int (k : Int)), some (.ref hd), some (.ref tl), some (.ref sl), some (.ref ll), some (.ref pd), y8, y9, y10, y11] ∧ LSt K H m bs k hd sl pd H' (runT (bdO bs) k (main, mc0 inp)).1 (runT (bdO bs) k (main, mc0 inp)).2 tl ll, fun σ2 H2 g2 => ?_, ?_⟩
    case refine_2 =>
      refine ⟨_, rfl, (k : Int), rfl, by omega, by omega, ?_⟩
      rw [Int.toNat_natCast]
      refine for_range (lo := 0) (n := k) (fun i σ' H' => ∃ (tl ll : Addr) (y8 y9 y10 y11 : Option V), σ' = [some (.ref a), some iv, some (.int (k : Int)), some (.ref hd), some (.ref tl), some (.ref sl), some (.ref ll), some (.ref pd), y8, y9, y10, y11] ∧ LSt K H m bs i hd sl pd H' (runT (bdO bs) i (main, mc0 inp)).1 (runT (bdO bs) i (main, mc0 inp)).2 tl ll) ⟨tl0, ll0, none, none, none, none, rfl, S0⟩ (fun i σ' H' hi h' => ?_) (fun σ' H' h' => ?_)
      · obtain ⟨tl, ll, y8, y9, y10, y11, rfl, S⟩ := h'
        rw [runT_snoc]
        generalize runT (bdO bs) i (main, mc0 inp) = R at S
        obtain ⟨td, M⟩ := R
        refine ⟨_, rfl, Nat.zero_le _, fun z hz => ?_⟩
        replace S := S.same (same_new (o := .lst []) hz)
        obtain ⟨dT, sT⟩ := S.dp
        refine ⟨_, _, dT, dp_lst (ns := []) (lstAt upd_same), sT, (by decide +kernel), _, rfl, ?_⟩
        show (if (!PyData.eqv (.list (ptsD td)) (.list [])) = true then _ else _)
        rw [pts_ne]
        generalize upd H' z (.lst []) = H1 at S
        cases td with
        | nil => exact ifF rfl ⟨tl, ll, _, _, _, _, rfl, { S with tln := Nat.zero_le _, sln := Nat.le_succ_of_le S.sln }⟩
        | cons pt r =>
          refine ifT rfl ?_
          obtain ⟨xs, eX, dX⟩ := S.tds
          obtain ⟨x0, xr, rfl, hx0, hxr⟩ : ∃ x0 xr, xs = x0 :: xr ∧ Dp K H x0 (ptD pt) ∧ DpAll K H xr (ptsD r) := by
            rw [ptsD] at dX
            cases dX with
            | cons h t => exact ⟨_, _, rfl, h, t⟩
          refine ⟨_, rfl, tl, _, (0 : Int), x0, rfl, rfl, lstAt eX, atI_nat (j := 0) rfl, _, rfl, 1, rfl, tl, _, rfl, lstAt eX, fun tl1 h1 => ⟨_, _, rfl, ?_⟩⟩
          have hl : r.length ≤ 2 + 6 * i := by have := S.tln; simp at this; omega
          have hs := S.sln
          have okp := S.ok pt (List.mem_cons_self ..)
          have okr : ∀ p ∈ r, okPt m bs.length 2 p := fun p hp => S.ok p (List.mem_cons_of_mem _ hp)
          rw [show cutV (x0 :: xr) (some 1) none = xr from cut_from (x0 :: xr) 1]
          replace S := S.up.todo h1 hxr (by omega) okr
          generalize upd H1 tl1 (.lst xr) = Ht at S ⊢
          clear dX eX dT sT
          cases pt with
          | letP x e =>
            have okp : x < m ∧ okEx m 3 e := okp
            obtain ⟨c, v1, v2, v3, rfl, hY, w1, w2, w3⟩ := dp_tup3 hx0
            obtain rfl := dp_str w1
            obtain rfl := dp_str w2
            refine ⟨_, rfl, c, _, (0 : Int), _, rfl, rfl, onT S.sm hY, rfl, rfl, _, rfl, ifT (by decide +kernel) ?_⟩
            refine ⟨_, rfl, _, rfl, c, _, (2 : Int), v3, rfl, rfl, onT S.sm hY, rfl, hd, v3, m, M.held, e, rfl, S.hold.d, Dp.on S.sm _ _ w3, okp.2, ?_⟩
            obtain ⟨kvs, ek, lk, S'⟩ := S.put hO.m4 okp.1 (wth M.held e)
            refine ⟨_, rfl, _, rfl, c, _, (1 : Int), _, rfl, rfl, onT S.sm hY, rfl, hd, _, rfl, .inl ⟨kvs, .inr (nmS x), ek, rfl, lk, rfl⟩, ?_⟩
            replace S := S'
            generalize upd _ hd _ = Hp1 at S ⊢
            refine ⟨_, rfl, c, _, (0 : Int), _, rfl, rfl, onT S.sm hY, rfl, rfl, _, rfl, ifF (by decide +kernel) ?_⟩
            refine ⟨_, rfl, c, _, (0 : Int), _, rfl, rfl, onT S.sm hY, rfl, rfl, _, rfl, ifF (by decide +kernel) ?_⟩
            refine ⟨_, rfl, c, _, (0 : Int), _, rfl, rfl, onT S.sm hY, rfl, by show 2 ≤ sizeLine; decide, fun z1 hz1 => ?_⟩
            replace S := S.same (same_new (o := .lst [.str "if", .str "while"]) hz1)
            refine ⟨z1, _, rfl, .inl (lstAt upd_same), rfl, rfl, _, rfl, ifF (by decide +kernel) ?_⟩
            generalize upd _ z1 _ = Hn at S ⊢
            refine ⟨_, rfl, c, _, (0 : Int), _, rfl, rfl, onT S.sm hY, rfl, rfl, _, rfl, ifF (by decide +kernel) ?_⟩
            refine ⟨_, rfl, c, _, (0 : Int), _, rfl, rfl, onT S.sm hY, rfl, rfl, _, rfl, ifF (by decide +kernel) ?_⟩
            refine ⟨_, rfl, c, _, (0 : Int), _, rfl, rfl, onT S.sm hY, rfl, rfl, _, rfl, ifF (by decide +kernel) ?_⟩
            exact ⟨_, _, _, _, _, _, rfl, S⟩
          | sayP e =>
            have okp : okEx m 3 e := okp
            obtain ⟨c, v1, v2, rfl, hY, w1, w2⟩ := dp_two hx0
            obtain rfl := dp_str w1
            refine ⟨_, rfl, c, _, (0 : Int), _, rfl, rfl, onT S.sm hY, rfl, rfl, _, rfl, ifF (by decide +kernel) ?_⟩
            refine ⟨_, rfl, c, _, (0 : Int), _, rfl, rfl, onT S.sm hY, rfl, rfl, _, rfl, ifT (by decide +kernel) ?_⟩
            refine ⟨_, rfl, .inl ⟨rfl, _, lstAt S.sd⟩, _, rfl, _, rfl, c, _, (1 : Int), v2, rfl, rfl, onT S.sm hY, rfl, hd, v2, m, M.held, e, rfl, S.hold.d, Dp.on S.sm _ _ w2, okp, ?_⟩
            refine ⟨sl, _, _, rfl, rfl, S.sd, by rw [List.length_map]; exact small1000 (by omega), ?_⟩
            replace S := S.say (wth M.held e) (Nat.succ_le_succ hs)
            generalize upd _ sl _ = Hp1 at S ⊢
            refine ⟨_, rfl, c, _, (0 : Int), _, rfl, rfl, onT S.sm hY, rfl, rfl, _, rfl, ifF (by decide +kernel) ?_⟩
            refine ⟨_, rfl, c, _, (0 : Int), _, rfl, rfl, onT S.sm hY, rfl, by show 2 ≤ sizeLine; decide, fun z1 hz1 => ?_⟩
            replace S := S.same (same_new (o := .lst [.str "if", .str "while"]) hz1)
            refine ⟨z1, _, rfl, .inl (lstAt upd_same), rfl, rfl, _, rfl, ifF (by decide +kernel) ?_⟩
            generalize upd _ z1 _ = Hn at S ⊢
            refine ⟨_, rfl, c, _, (0 : Int), _, rfl, rfl, onT S.sm hY, rfl, rfl, _, rfl, ifF (by decide +kernel) ?_⟩
            refine ⟨_, rfl, c, _, (0 : Int), _, rfl, rfl, onT S.sm hY, rfl, rfl, _, rfl, ifF (by decide +kernel) ?_⟩
            refine ⟨_, rfl, c, _, (0 : Int), _, rfl, rfl, onT S.sm hY, rfl, rfl, _, rfl, ifF (by decide +kernel) ?_⟩
            exact ⟨_, _, _, _, _, _, rfl, S⟩
          | askP x =>
            have okp : x < m := okp
            obtain ⟨c, v1, v2, rfl, hY, w1, w2⟩ := dp_two hx0
            obtain rfl := dp_str w1
            obtain rfl := dp_str w2
            refine ⟨_, rfl, c, _, (0 : Int), _, rfl, rfl, onT S.sm hY, rfl, rfl, _, rfl, ifF (by decide +kernel) ?_⟩
            refine ⟨_, rfl, c, _, (0 : Int), _, rfl, rfl, onT S.sm hY, rfl, rfl, _, rfl, ifF (by decide +kernel) ?_⟩
            refine ⟨_, rfl, c, _, (0 : Int), _, rfl, rfl, onT S.sm hY, rfl, rfl, _, rfl, ifT (by decide +kernel) ?_⟩
            refine ⟨_, rfl, Nat.zero_le _, fun z2 hz2 => ?_⟩
            replace S := S.same (same_new (o := .lst []) hz2)
            refine ⟨_, _, dp_lst (ns := M.left) (lstAt S.lf), dp_lst (ns := []) (lstAt upd_same), PySem.W.ke_shaped_ints _, PySem.W.ke_shaped_ints _, _, rfl, ?_⟩
            generalize upd _ z2 _ = Hz2 at S ⊢
            have val : ∀ (σ : L2.St) (Q : VK), σ[6]? = some (some (.ref ll)) → Q (.int (M.left.headD 0)) Hz2 → if (!PyData.eqv (.list (M.left.map PyData.int)) (.list ([].map PyData.int))) = true then tOp (rIxL K) (tVar 6) (tC (.int 0)) σ Hz2 Q else tC (.int 0) σ Hz2 Q := fun σ Q eσ q => by
              have eL := S.lf
              cases hl : M.left with
              | nil =>
                rw [hl] at q
                exact ifF (by decide +kernel) q
              | cons x0 xs0 =>
                rw [hl] at q eL
                refine ifT rfl ⟨_, eσ, ll, _, (0 : Int), .int x0, rfl, rfl, lstAt eL, atI_nat (j := 0) rfl, q⟩
            refine val _ _ rfl ?_
            obtain ⟨kvs, ek, lk, S'⟩ := S.put hO.m4 okp (M.left.headD 0)
            refine ⟨_, rfl, _, rfl, c, _, (1 : Int), _, rfl, rfl, onT S.sm hY, rfl, hd, _, rfl, .inl ⟨kvs, .inr (nmS x), ek, rfl, lk, rfl⟩, ?_⟩
            clear val
            replace S := S'
            generalize upd _ hd _ = Hp1 at S ⊢
            refine ⟨_, rfl, 1, rfl, ll, _, rfl, lstAt S.lf, fun ll1 hll1 => ?_⟩
            rw [show cutV ((M.put x (M.left.headD 0)).left.map V.int) (some 1) none = (M.left.drop 1).map V.int from (cut_from (M.left.map V.int) 1).trans (List.map_drop ..).symm]
            replace S := S.lefts (ls := M.left.drop 1) hll1 (by have := S.lln; have h2 : M.left.length ≤ 1000 := S.lln; rw [List.length_drop]; omega)
            generalize upd Hp1 ll1 _ = Hp2 at S ⊢
            refine ⟨_, rfl, c, _, (0 : Int), _, rfl, rfl, onT S.sm hY, rfl, by show 2 ≤ sizeLine; decide, fun z1 hz1 => ?_⟩
            replace S := S.same (same_new (o := .lst [.str "if", .str "while"]) hz1)
            refine ⟨z1, _, rfl, .inl (lstAt upd_same), rfl, rfl, _, rfl, ifF (by decide +kernel) ?_⟩
            generalize upd _ z1 _ = Hn at S ⊢
            refine ⟨_, rfl, c, _, (0 : Int), _, rfl, rfl, onT S.sm hY, rfl, rfl, _, rfl, ifF (by decide +kernel) ?_⟩
            refine ⟨_, rfl, c, _, (0 : Int), _, rfl, rfl, onT S.sm hY, rfl, rfl, _, rfl, ifF (by decide +kernel) ?_⟩
            refine ⟨_, rfl, c, _, (0 : Int), _, rfl, rfl, onT S.sm hY, rfl, rfl, _, rfl, ifF (by decide +kernel) ?_⟩
            exact ⟨_, _, _, _, _, _, rfl, S⟩
          | stopP =>
            obtain ⟨c, v1, rfl, hY, w1⟩ := dp_one hx0
            obtain rfl := dp_str w1
            refine ⟨_, rfl, c, _, (0 : Int), _, rfl, rfl, onT S.sm hY, rfl, rfl, _, rfl, ifF (by decide +kernel) ?_⟩
            refine ⟨_, rfl, c, _, (0 : Int), _, rfl, rfl, onT S.sm hY, rfl, rfl, _, rfl, ifF (by decide +kernel) ?_⟩
            refine ⟨_, rfl, c, _, (0 : Int), _, rfl, rfl, onT S.sm hY, rfl, rfl, _, rfl, ifF (by decide +kernel) ?_⟩
            refine ⟨_, rfl, c, _, (0 : Int), _, rfl, rfl, onT S.sm hY, rfl, by show 2 ≤ sizeLine; decide, fun z1 hz1 => ?_⟩
            replace S := S.same (same_new (o := .lst [.str "if", .str "while"]) hz1)
            refine ⟨z1, _, rfl, .inl (lstAt upd_same), rfl, rfl, _, rfl, ifF (by decide +kernel) ?_⟩
            generalize upd _ z1 _ = Hn at S ⊢
            refine ⟨_, rfl, c, _, (0 : Int), _, rfl, rfl, onT S.sm hY, rfl, rfl, _, rfl, ifF (by decide +kernel) ?_⟩
            refine ⟨_, rfl, c, _, (0 : Int), _, rfl, rfl, onT S.sm hY, rfl, rfl, _, rfl, ifF (by decide +kernel) ?_⟩
            refine ⟨_, rfl, c, _, (0 : Int), _, rfl, rfl, onT S.sm hY, rfl, rfl, _, rfl, ifT (by decide +kernel) ?_⟩
            refine ⟨Nat.zero_le _, fun tl2 htl2 => ?_⟩
            replace S := S.todo (td' := []) (xs := []) htl2 .nil (Nat.zero_le _) (fun _ z => nomatch z)
            exact ⟨_, _, _, _, _, _, rfl, S⟩
          | doP q0 =>
            have okp : q0 < bs.length := okp
            obtain ⟨c, v1, v2, rfl, hY, w1, w2⟩ := dp_two hx0
            obtain rfl := dp_str w1
            obtain rfl := dp_str w2
            refine ⟨_, rfl, c, _, (0 : Int), _, rfl, rfl, onT S.sm hY, rfl, rfl, _, rfl, ifF (by decide +kernel) ?_⟩
            refine ⟨_, rfl, c, _, (0 : Int), _, rfl, rfl, onT S.sm hY, rfl, rfl, _, rfl, ifF (by decide +kernel) ?_⟩
            refine ⟨_, rfl, c, _, (0 : Int), _, rfl, rfl, onT S.sm hY, rfl, rfl, _, rfl, ifF (by decide +kernel) ?_⟩
            refine ⟨_, rfl, c, _, (0 : Int), _, rfl, rfl, onT S.sm hY, rfl, by show 2 ≤ sizeLine; decide, fun z1 hz1 => ?_⟩
            replace S := S.same (same_new (o := .lst [.str "if", .str "while"]) hz1)
            refine ⟨z1, _, rfl, .inl (lstAt upd_same), rfl, rfl, _, rfl, ifF (by decide +kernel) ?_⟩
            generalize upd _ z1 _ = Hn at S ⊢
            refine ⟨_, rfl, c, _, (0 : Int), _, rfl, rfl, onT S.sm hY, rfl, rfl, _, rfl, ifF (by decide +kernel) ?_⟩
            refine ⟨_, rfl, c, _, (0 : Int), _, rfl, rfl, onT S.sm hY, rfl, rfl, _, rfl, ifT (by decide +kernel) ?_⟩
            obtain ⟨kvs, eP, hP2⟩ := S.pr
            obtain ⟨bv, hbv, dB⟩ := hP2 q0 (bdO bs q0) (bdO_at okp)
            obtain ⟨mb, ys, rfl, hB, hA⟩ : ∃ mb ys, bv = .ref mb ∧ SqT K H mb ys ∧ DpAll K H ys (ptsD (bdO bs q0)) := by
              cases dB with
              | tup hT hA => exact ⟨_, _, rfl, hT, hA⟩
            have okb : ∀ p ∈ bdO bs q0, okPt m bs.length 2 p := fun p hp => okPt_up _ _ (okPt_q (Nat.le_of_lt okp) _ _ ((hO.ok q0 _ (bdO_at okp)).2 p hp))
            have lb := (hO.ok q0 _ (bdO_at okp)).1
            refine ⟨_, rfl, _, rfl, c, _, (1 : Int), _, rfl, rfl, onT S.sm hY, rfl, pd, _, rfl, .inl ⟨kvs, .inr (pcS60 q0), .inl eP, rfl, hbv.symm⟩, ?_⟩
            refine ⟨mb, ys, rfl, .inr (onT S.sm hB), fun l hl1 => ?_⟩
            have sl1 := same_new (o := .lst ys) hl1
            replace S := S.same sl1
            obtain ⟨xt, eT, hxt⟩ := S.tds
            refine ⟨_, rfl, l, tl1, ys, xt, rfl, rfl, upd_same, eT, ?_, fun tl2 htl2 => ?_⟩
            · rw [dpAll_len hA, dpAll_len hxt, ptsD_map, ptsD_map, List.length_map, List.length_map]
              exact small_a (by omega)
            replace S := S.todo (td' := bdO bs q0 ++ r) htl2 (by rw [ptsD_app]; exact dpAll_app hA hxt) (by rw [List.length_append]; omega) (fun p hp => (List.mem_append.mp hp).elim (okb p) (okr p))
            generalize upd _ tl2 _ = Hp2 at S ⊢
            refine ⟨_, rfl, c, _, (0 : Int), _, rfl, rfl, onT S.sm hY, rfl, rfl, _, rfl, ifF (by decide +kernel) ?_⟩
            exact ⟨_, _, _, _, _, _, rfl, S⟩
          | ifP e g ba bb =>
            have okp : okEx m 2 e ∧ (ba.length ≤ 3 ∧ ∀ x ∈ ba, okPt m bs.length 1 x) ∧ (bb.length ≤ 3 ∧ ∀ x ∈ bb, okPt m bs.length 1 x) := okp
            obtain ⟨c, v1, v2, v3, v4, rfl, hY, w1, w2, w3, w4⟩ := dp_four hx0
            obtain rfl := dp_str w1
            obtain ⟨tt, ve, vg, rfl, hT, we, wg⟩ := dp_two w2
            obtain rfl := dp_bl wg
            refine ⟨_, rfl, c, _, (0 : Int), _, rfl, rfl, onT S.sm hY, rfl, rfl, _, rfl, ifF (by decide +kernel) ?_⟩
            refine ⟨_, rfl, c, _, (0 : Int), _, rfl, rfl, onT S.sm hY, rfl, rfl, _, rfl, ifF (by decide +kernel) ?_⟩
            refine ⟨_, rfl, c, _, (0 : Int), _, rfl, rfl, onT S.sm hY, rfl, rfl, _, rfl, ifF (by decide +kernel) ?_⟩
            refine ⟨_, rfl, c, _, (0 : Int), _, rfl, rfl, onT S.sm hY, rfl, by show 2 ≤ sizeLine; decide, fun z1 hz1 => ?_⟩
            replace S := S.same (same_new (o := .lst [.str "if", .str "while"]) hz1)
            refine ⟨z1, _, rfl, .inl (lstAt upd_same), rfl, rfl, _, rfl, ifT (by decide +kernel) ?_⟩
            generalize upd _ z1 _ = Hn at S ⊢
            refine ⟨_, rfl, _, rfl, c, _, (1 : Int), .ref tt, rfl, rfl, onT S.sm hY, rfl, tt, _, (0 : Int), ve, rfl, rfl, onT S.sm hT, rfl, hd, ve, m, M.held, e, rfl, S.hold.d, Dp.on S.sm _ _ we, okEx_up _ _ okp.1, ?_⟩
            refine ⟨rfl, _, rfl, c, _, (1 : Int), .ref tt, rfl, rfl, onT S.sm hY, rfl, tt, _, (1 : Int), .bl g, rfl, rfl, onT S.sm hT, rfl, .bool _, .bool g, .bl _, .bl g, rfl, rfl, ?_⟩
            rw [good_eq M e g]
            refine ⟨_, rfl, c, _, (0 : Int), _, rfl, rfl, onT S.sm hY, rfl, rfl, _, rfl, ifT (by decide +kernel) ?_⟩
            have go : ∀ (v5 : V) (b5 : List Pt), Dp K H v5 (bkD b5) → b5.length ≤ 3 → (∀ x ∈ b5, okPt m bs.length 1 x) → ∃ mb ys, v5 = .ref mb ∧ SqT K H mb ys ∧ DpAll K H ys (ptsD b5) := fun v5 b5 d _ _ => by
              cases d with
              | tup hT hA => exact ⟨_, _, rfl, hT, hA⟩
            obtain ⟨b5, v5, e5, d5, l5, o5, rd⟩ : ∃ (b5 : List Pt) (v5 : V), (if okT M e g = true then ba else bb) = b5 ∧ Dp K H v5 (bkD b5) ∧ b5.length ≤ 3 ∧ (∀ x ∈ b5, okPt m bs.length 1 x) ∧ ∀ (σ : L2.St) (Hx : Hp) (Q : VK), Same H Hx → σ[10]? = some (some (.bl (okT M e g))) → σ[9]? = some (some (.ref c)) → Q v5 Hx → tIf (tB (tVar 10)) (tOp (rIxT K) (tVar 9) (tC (.int 2))) (tOp (rIxT K) (tVar 9) (tC (.int 3))) σ Hx Q := by
              cases ok : okT M e g with
              | true => exact ⟨ba, v3, rfl, w3, okp.2.1.1, okp.2.1.2, fun σ Hx Q sx s10 s9 qq => ⟨_, s10, _, rfl, ifT rfl ⟨_, s9, c, _, (2 : Int), _, rfl, rfl, onT sx hY, rfl, qq⟩⟩⟩
              | false => exact ⟨bb, v4, rfl, w4, okp.2.2.1, okp.2.2.2, fun σ Hx Q sx s10 s9 qq => ⟨_, s10, _, rfl, ifF rfl ⟨_, s9, c, _, (3 : Int), _, rfl, rfl, onT sx hY, rfl, qq⟩⟩⟩
            refine rd _ _ _ S.sm rfl rfl ?_
            obtain ⟨mb, ys, rfl, hB, hA⟩ := go v5 b5 d5 l5 o5
            refine ⟨mb, ys, rfl, .inr (onT S.sm hB), fun l hl1 => ?_⟩
            have sl1 := same_new (o := .lst ys) hl1
            replace S := S.same sl1
            obtain ⟨xt, eT, hxt⟩ := S.tds
            refine ⟨_, rfl, l, tl1, ys, xt, rfl, rfl, upd_same, eT, ?_, fun tl2 htl2 => ?_⟩
            · rw [dpAll_len hA, dpAll_len hxt, ptsD_map, ptsD_map, List.length_map, List.length_map]
              exact small_a (by omega)
            replace S := S.todo (td' := b5 ++ r) htl2 (by rw [ptsD_app]; exact dpAll_app hA hxt) (by rw [List.length_append]; omega) (fun p hp => (List.mem_append.mp hp).elim (fun z => okPt_up _ _ (o5 p z)) (okr p))
            subst e5
            generalize upd _ tl2 _ = Hp2 at S ⊢
            refine ⟨_, rfl, c, _, (0 : Int), _, rfl, rfl, onT S.sm hY, rfl, rfl, _, rfl, ifF (by decide +kernel) ?_⟩
            refine ⟨_, rfl, c, _, (0 : Int), _, rfl, rfl, onT S.sm hY, rfl, rfl, _, rfl, ifF (by decide +kernel) ?_⟩
            refine ⟨_, rfl, c, _, (0 : Int), _, rfl, rfl, onT S.sm hY, rfl, rfl, _, rfl, ifF (by decide +kernel) ?_⟩
            exact ⟨_, _, _, _, _, _, rfl, S⟩
          | whileP e g ba =>
            have okw := okp
            have okp : okEx m 2 e ∧ (ba.length ≤ 3 ∧ ∀ x ∈ ba, okPt m bs.length 1 x) := okp
            obtain ⟨c, v1, v2, v3, rfl, hY, w1, w2, w3⟩ := dp_tup3 hx0
            obtain rfl := dp_str w1
            obtain ⟨tt, ve, vg, rfl, hT, we, wg⟩ := dp_two w2
            obtain rfl := dp_bl wg
            refine ⟨_, rfl, c, _, (0 : Int), _, rfl, rfl, onT S.sm hY, rfl, rfl, _, rfl, ifF (by decide +kernel) ?_⟩
            refine ⟨_, rfl, c, _, (0 : Int), _, rfl, rfl, onT S.sm hY, rfl, rfl, _, rfl, ifF (by decide +kernel) ?_⟩
            refine ⟨_, rfl, c, _, (0 : Int), _, rfl, rfl, onT S.sm hY, rfl, rfl, _, rfl, ifF (by decide +kernel) ?_⟩
            refine ⟨_, rfl, c, _, (0 : Int), _, rfl, rfl, onT S.sm hY, rfl, by show 2 ≤ sizeLine; decide, fun z1 hz1 => ?_⟩
            replace S := S.same (same_new (o := .lst [.str "if", .str "while"]) hz1)
            refine ⟨z1, _, rfl, .inl (lstAt upd_same), rfl, rfl, _, rfl, ifT (by decide +kernel) ?_⟩
            generalize upd _ z1 _ = Hn at S ⊢
            refine ⟨_, rfl, _, rfl, c, _, (1 : Int), .ref tt, rfl, rfl, onT S.sm hY, rfl, tt, _, (0 : Int), ve, rfl, rfl, onT S.sm hT, rfl, hd, ve, m, M.held, e, rfl, S.hold.d, Dp.on S.sm _ _ we, okEx_up _ _ okp.1, ?_⟩
            refine ⟨rfl, _, rfl, c, _, (1 : Int), .ref tt, rfl, rfl, onT S.sm hY, rfl, tt, _, (1 : Int), .bl g, rfl, rfl, onT S.sm hT, rfl, .bool _, .bool g, .bl _, .bl g, rfl, rfl, ?_⟩
            rw [good_eq M e g]
            refine ⟨_, rfl, c, _, (0 : Int), _, rfl, rfl, onT S.sm hY, rfl, rfl, _, rfl, ifF (by decide +kernel) ?_⟩
            have stp : stepT (bdO bs) (.whileP e g ba :: r, M) = if okT M e g = true then (ba ++ .whileP e g ba :: r, M) else (r, M) := rfl
            rw [stp]
            obtain ⟨mb, ys, rfl, hB, hA⟩ : ∃ mb ys, v3 = .ref mb ∧ SqT K H mb ys ∧ DpAll K H ys (ptsD ba) := by
              cases w3 with
              | tup hT hA => exact ⟨_, _, rfl, hT, hA⟩
            cases ok : okT M e g with
            | false =>
              refine ⟨_, rfl, _, rfl, ifF rfl ⟨_, rfl, ?_⟩⟩
              refine ⟨_, rfl, c, _, (0 : Int), _, rfl, rfl, onT S.sm hY, rfl, rfl, _, rfl, ifF (by decide +kernel) ?_⟩
              refine ⟨_, rfl, c, _, (0 : Int), _, rfl, rfl, onT S.sm hY, rfl, rfl, _, rfl, ifF (by decide +kernel) ?_⟩
              refine ⟨_, rfl, c, _, (0 : Int), _, rfl, rfl, onT S.sm hY, rfl, rfl, _, rfl, ifF (by decide +kernel) ?_⟩
              exact ⟨_, _, _, _, _, _, rfl, S⟩
            | true =>
              refine ⟨_, rfl, _, rfl, ifT rfl ⟨_, rfl, c, _, (2 : Int), .ref mb, rfl, rfl, onT S.sm hY, rfl, mb, ys, rfl, .inr (onT S.sm hB), fun l hl1 => ?_⟩⟩
              have sl1 := same_new (o := .lst ys) hl1
              replace S := S.same sl1
              refine ⟨_, rfl, by show 1 ≤ sizeLine; decide, fun l2 hl2 => ?_⟩
              have sl2 := same_new (o := .lst [.ref c]) hl2
              replace S := S.same sl2
              have ly : ys.length = ba.length := by rw [dpAll_len hA, ptsD_map, List.length_map]
              refine ⟨l, l2, ys, [.ref c], rfl, rfl, sl2 _ _ upd_same, upd_same, small_a (by show ys.length + 1 ≤ 5000; omega), fun l3 hl3 => ?_⟩
              have sl3 := same_new (o := .lst (ys ++ [.ref c])) hl3
              replace S := S.same sl3
              obtain ⟨xt, eT, hxt⟩ := S.tds
              have lx : xt.length = r.length := by rw [dpAll_len hxt, ptsD_map, List.length_map]
              refine ⟨_, rfl, l3, tl1, ys ++ [.ref c], xt, rfl, rfl, upd_same, eT, small_a (by rw [List.length_append]; show ys.length + 1 + xt.length ≤ 5000; omega), fun tl2 htl2 => ?_⟩
              replace S := S.todo (td' := ba ++ .whileP e g ba :: r) htl2 (by rw [show ba ++ .whileP e g ba :: r = (ba ++ [.whileP e g ba]) ++ r by simp, ptsD_app, ptsD_app]; exact dpAll_app (dpAll_app hA (by rw [ptsD, ptsD]; exact .cons hx0 .nil)) hxt) (by rw [List.length_append, List.length_cons]; omega) (fun p hp => (List.mem_append.mp hp).elim (fun z => okPt_up _ _ (okp.2.2 p z)) (fun z => (List.mem_cons.mp z).elim (fun e => by rw [e]; exact okw) (okr p)))
              generalize upd _ tl2 _ = Hp2 at S ⊢
              refine ⟨_, rfl, c, _, (0 : Int), _, rfl, rfl, onT S.sm hY, rfl, rfl, _, rfl, ifF (by decide +kernel) ?_⟩
              refine ⟨_, rfl, c, _, (0 : Int), _, rfl, rfl, onT S.sm hY, rfl, rfl, _, rfl, ifF (by decide +kernel) ?_⟩
              refine ⟨_, rfl, c, _, (0 : Int), _, rfl, rfl, onT S.sm hY, rfl, rfl, _, rfl, ifF (by decide +kernel) ?_⟩
              exact ⟨_, _, _, _, _, _, rfl, S⟩
          | repP j ba =>
            have okp : j < 3 ∧ (ba.length ≤ 3 ∧ ∀ x ∈ ba, okPt m bs.length 1 x) := okp
            obtain ⟨c, v1, v2, v3, rfl, hY, w1, w2, w3⟩ := dp_tup3 hx0
            obtain rfl := dp_str w1
            obtain rfl := dp_int w2
            obtain ⟨mb, ys, rfl, hB, hA⟩ : ∃ mb ys, v3 = .ref mb ∧ SqT K H mb ys ∧ DpAll K H ys (ptsD ba) := by
              cases w3 with
              | tup hT hA => exact ⟨_, _, rfl, hT, hA⟩
            have ly : ys.length = ba.length := by rw [dpAll_len hA, ptsD_map, List.length_map]
            refine ⟨_, rfl, c, _, (0 : Int), _, rfl, rfl, onT S.sm hY, rfl, rfl, _, rfl, ifF (by decide +kernel) ?_⟩
            refine ⟨_, rfl, c, _, (0 : Int), _, rfl, rfl, onT S.sm hY, rfl, rfl, _, rfl, ifF (by decide +kernel) ?_⟩
            refine ⟨_, rfl, c, _, (0 : Int), _, rfl, rfl, onT S.sm hY, rfl, rfl, _, rfl, ifF (by decide +kernel) ?_⟩
            refine ⟨_, rfl, c, _, (0 : Int), _, rfl, rfl, onT S.sm hY, rfl, by show 2 ≤ sizeLine; decide, fun z1 hz1 => ?_⟩
            replace S := S.same (same_new (o := .lst [.str "if", .str "while"]) hz1)
            refine ⟨z1, _, rfl, .inl (lstAt upd_same), rfl, rfl, _, rfl, ifF (by decide +kernel) ?_⟩
            generalize upd _ z1 _ = Hn at S ⊢
            refine ⟨_, rfl, c, _, (0 : Int), _, rfl, rfl, onT S.sm hY, rfl, rfl, _, rfl, ifT (by decide +kernel) ?_⟩
            refine ⟨_, rfl, c, _, (2 : Int), .ref mb, rfl, rfl, onT S.sm hY, rfl, mb, ys, rfl, .inr (onT S.sm hB), fun l hl1 => ?_⟩
            have sl1 := same_new (o := .lst ys) hl1
            replace S := S.same sl1
            have j2 : j = 0 ∨ j = 1 ∨ j = 2 := by omega
            have lr : (List.replicate j ys).flatten.length ≤ 6 := by rcases j2 with rfl | rfl | rfl <;> simp [List.replicate] <;> omega
            have lb : (List.replicate j ba).flatten.length ≤ 6 := by rcases j2 with rfl | rfl | rfl <;> simp [List.replicate] <;> omega
            refine ⟨_, rfl, c, _, (1 : Int), _, rfl, rfl, onT S.sm hY, rfl, l, (j : Int), ys, rfl, rfl, upd_same, by omega, by omega, ?_, fun l2 hl2 => ?_⟩
            · rw [Int.toNat_natCast]
              exact small_a (by rcases j2 with rfl | rfl | rfl <;> omega)
            rw [Int.toNat_natCast]
            have sl2 := same_new (o := .lst (List.replicate j ys).flatten) hl2
            replace S := S.same sl2
            obtain ⟨xt, eT, hxt⟩ := S.tds
            have lx : xt.length = r.length := by rw [dpAll_len hxt, ptsD_map, List.length_map]
            refine ⟨_, rfl, l2, tl1, (List.replicate j ys).flatten, xt, rfl, rfl, upd_same, eT, small_a (by omega), fun tl2 htl2 => ?_⟩
            replace S := S.todo (td' := (List.replicate j ba).flatten ++ r) htl2 (by rw [ptsD_app]; exact dpAll_app (dpAll_rep hA j) hxt) (by rw [List.length_append]; omega) (fun p hp => (List.mem_append.mp hp).elim (fun z => okPt_up _ _ (okp.2.2 p (mem_rep z))) (okr p))
            generalize upd _ tl2 _ = Hp2 at S ⊢
            refine ⟨_, rfl, c, _, (0 : Int), _, rfl, rfl, onT S.sm hY, rfl, rfl, _, rfl, ifF (by decide +kernel) ?_⟩
            refine ⟨_, rfl, c, _, (0 : Int), _, rfl, rfl, onT S.sm hY, rfl, rfl, _, rfl, ifF (by decide +kernel) ?_⟩
            exact ⟨_, _, _, _, _, _, rfl, S⟩
      · exact h'
    obtain ⟨tl, ll, y8, y9, y10, y11, rfl, S⟩ := g2
    generalize hR : runT (bdO bs) k (main, mc0 inp) = R at S q
    obtain ⟨td, M⟩ := R
    refine ⟨_, rfl, .inl ⟨sl, _, rfl, lstAt S.sd, fun sa hsa => ?_⟩⟩
    have S1 := S.same (same_new (o := .tup (M.said.map V.int)) hsa)
    refine ⟨_, rfl, Nat.zero_le _, fun z hz => ?_⟩
    have k2 := same_new (o := .lst []) hz
    have S2 := S1.same k2
    obtain ⟨dT, sT⟩ := S2.dp
    refine ⟨_, _, dT, dp_lst (ns := []) (lstAt upd_same), sT, (by decide +kernel), _, rfl, ?_⟩
    have fin : ∀ z' : Str, z' = endB td → ∀ t, (upd (upd H2 sa (.tup (M.said.map V.int))) z (.lst [])) t = none → Q (.ref t) (upd (upd (upd H2 sa (.tup (M.said.map V.int))) z (.lst [])) t (.tup [.ref sa, .str z'])) := fun z' e t ht => by
      have k3 := same_new (o := .tup [.ref sa, .str z']) ht
      exact q _ t sa (S2.sm.trans k3) (by rw [upd_same, e]) (k3 _ _ (k2 _ _ upd_same))
    show (if (!PyData.eqv (.list (ptsD td)) (.list [])) = true then _ else _)
    rw [pts_ne]
    cases td with
    | nil => exact ifF rfl ⟨by show 2 ≤ sizeLine; decide, fun t ht => fin _ rfl t ht⟩
    | cons p r => exact ifT rfl ⟨by show 2 ≤ sizeLine; decide, fun t ht => fin _ rfl t ht⟩
end
end RH
set_option Elab.async false
set_option linter.all false
set_option maxRecDepth 100000
set_option maxHeartbeats 2000000
namespace RH
open PySem PySem.Spec PyProof.Rows L2
/-! ### the class Player -/
/-- a method that no error leaves -/
structure Met0 (P : Program) (w : World) (K : PySem.W.Frag) (mg : Str → Option Value) (base : Heap) (k : Nat) (C : Addr) (m : Str) (sp : Sp) : Prop where
  ex : ∃ (f : Addr) (fd : FuncData) (ps : List Str), FnOk P w K mg base CX0 k f fd ps sp ∧ Meth K C m f ∧ Binds K fd ps []
/-- a method of the class that stands -/
structure DfM (K : PySem.W.Frag) (C : Addr) (m q : Str) (st : Stmt) (ps : List Str) : Prop where
  ex : ∃ (f : Addr) (fd : FuncData), Fun K m q st f fd ∧ Meth K C m f ∧ Binds K fd ps []
section
variable {P : Program} {w : World} {K : PySem.W.Frag} {mg : Str → Option Value} {base : Heap} {C : Addr}
theorem mkMet0 {m q : Str} {st : Stmt} {N ps : List Str} {k : Nat} {sp : Sp} (F : DfM K C m q st ps) (S : FnScope N ps (defScope st)) (len : ∀ vs H Q E, sp vs H Q E → vs.length = ps.length)
    (body : ∀ (f : Addr) (cdv : Value) (A : Around) (outer : List Env) (s : Shared) (H : Hp) (vs : List V) (Q : VK) (E : XK), Room k (A.deeper (envOfC q (defScope st) s.heap.objs.size f cdv)) → sp vs H Q E →
      ∃ t, PSs (cxOf CX0 P w K mg base N q (defScope st) f cdv A outer s H E).nox (defBody st) t ∧ t { nx := fun _ H' => Q .non H', rt := Q } (start N vs) H) : Met0 P w K mg base (k + 1) C m sp := by
  obtain ⟨f, fd, F, g, b⟩ := F.ex
  exact ⟨f, fd, ps, F.ok S len (body f), g, b⟩
theorem Met0.imp {m : Str} {k : Nat} {sp sp' : Sp} (c : Met0 P w K mg base k C m sp) (h : ∀ vs H Q E, sp' vs H Q E → sp vs H Q E) : Met0 P w K mg base k C m sp' := by
  obtain ⟨f, fd, ps, F, g, b⟩ := c.ex
  exact ⟨f, fd, ps, F.imp h, g, b⟩
end
section
variable {X : Cx} {C : Addr} {m : Str} {sp : Sp} {k j : Nat} {pos apos : Pos} {e o : Expr} {es : List Expr} {ta : TE} {t : TA}
/-- such a method called with arguments, and without -/
theorem pmA {pl : Sem Bool} (M : Met0 X.prog X.w X.K X.mg X.base k C m sp) (c : L2.Cls X.K C) (hr : Room j X.A) (he : PE X o ta) (ha : PA X (e :: es) t) (hk : k ≤ j := by decide)
    (hst : starEach (e :: es) X.env = (false, eval e X.env) :: starEach es X.env := by rfl) (hpl : (backTo pos (starEach es X.env)).any (·.1) = false := by rfl)
    (ht : eval (.Call (.Attribute o m apos) (e :: es) [] pos) X.env = (do
      let ov ← eval o X.env
      standAt apos.atName
      let (f, first) ← holding [ov] (getMethod ov m pl)
      callWith pos f first (backTo pos (starEach (e :: es) X.env)) (backToKw pos (keywordEach [] X.env))) := by rfl) :
    PE X (.Call (.Attribute o m apos) (e :: es) [] pos) (tMeth C m sp [] E0 ta t) := by
  obtain ⟨f, fd, ps, F, hm, b⟩ := M.ex
  exact pe_meth he c hm F (hr.mono hk) b .nil pass0 ha hst hpl ht
theorem pm00 {pl : Sem Bool} (M : Met0 X.prog X.w X.K X.mg X.base k C m sp) (c : L2.Cls X.K C) (hr : Room j X.A) (he : PE X o ta) (hk : k ≤ j := by decide)
    (ht : eval (.Call (.Attribute o m apos) [] [] pos) X.env = (do
      let ov ← eval o X.env
      standAt apos.atName
      let (f, first) ← holding [ov] (getMethod ov m pl)
      callWith pos f first (backTo pos (starEach [] X.env)) (backToKw pos (keywordEach [] X.env))) := by rfl) : PE X (.Call (.Attribute o m apos) [] [] pos) (tMeth C m sp [] E0 ta tNil) := by
  obtain ⟨f, fd, ps, F, hm, b⟩ := M.ex
  exact pe_meth0 he c hm F (hr.mono hk) b .nil pass0 ht
end
theorem putF_long {f : Str} {v : V} : ∀ {fs : List (Str × V)} {u : V}, fs.lookup f = some u → (putF f v fs).length = fs.length
  | [], u, h => by cases h
  | (g, x) :: r, u, h => by
    rw [List.lookup_cons] at h
    unfold putF
    by_cases e : g = f
    · rw [if_pos e]
      rfl
    · rw [if_neg e, List.length_cons, List.length_cons]
      have : (f == g) = false := by simpa using Ne.symm e
      rw [this] at h
      rw [putF_long h]
def plAttrs : List Str := ["worths", "bodies", "inputs", "asked", "doings_left", "has_run_out", "said"]
def plMets : List Str := ["may_do", "do_block", "do_part", "do_while", "do_rounds", "holds", "worth", "next_input"]
/-- what the walk asks of the class -/
structure PlC (K : PySem.W.Frag) (mg : Str → Option Value) (C : Addr) : Prop where
  cl : L2.Cls K C
  no : ∀ f ∈ plAttrs, NoAttr K C f
  g : mg "Player" = some (.ref C)
theorem PlC.at {K : PySem.W.Frag} {mg : Str → Option Value} {C : Addr} (M : PlC K mg C) (f : Str) (h : f ∈ plAttrs := by decide +kernel) : NoAttr K C f := M.no f h
/-- a player's parts that never change -/
structure PlK where
  m : Nat
  bs : List (List Pt)
  inp : List Int
  iv : V
/-- those that do -/
structure PlS where
  asked : Nat
  n : Nat
  out : Bool
  held : Nat → Int
  said : List Int
def PlS.mc (s : PlS) (inp : List Int) : Mc := ⟨s.held, inp.drop s.asked, s.said⟩
/-- a player at p: its worths at wl, its bodies at bl, what it has said at sl -/
structure PlP (K : PySem.W.Frag) (C : Addr) (m : PlK) (H : Hp) (p wl bl sl dx : Addr) (fs : List (Str × V)) (s : PlS) : Prop where
  ob : H p = some (.ins C dx fs)
  l1 : fs.lookup ("worths" : Str) = some (.ref wl)
  l2 : fs.lookup ("bodies" : Str) = some (.ref bl)
  l3 : fs.lookup ("inputs" : Str) = some (m.iv)
  l4 : fs.lookup ("asked" : Str) = some (.int (s.asked : Nat))
  l5 : fs.lookup ("doings_left" : Str) = some (.int (s.n : Nat))
  l6 : fs.lookup ("has_run_out" : Str) = some (.bl s.out)
  l7 : fs.lookup ("said" : Str) = some (.ref sl)
  no : ∀ f ∈ plMets, fs.lookup f = none
  few : fs.length < 100
  wd : HeldL H wl m.m s.held
  bd : Bod K H H bl m.bs
  sd : H sl = some (.lst (s.said.map V.int))
  ne : wl ≠ bl
  hi : TI K H m.iv m.inp
  m4 : m.m ≤ 4
  asl : s.asked ≤ m.inp.length
  sb : s.said.length + s.n ≤ 5000
/-- the rest stays -/
def Fr3 (p t l : Addr) (H H' : Hp) : Prop := ∀ b o, H b = some o → b ≠ p → b ≠ t → b ≠ l → H' b = some o
theorem Fr3.refl (p t l : Addr) (H : Hp) : Fr3 p t l H H := fun _ _ e _ _ _ => e
theorem Fr3.trans {p t l : Addr} {H H1 H2 : Hp} (a : Fr3 p t l H H1) (b : Fr3 p t l H1 H2) : Fr3 p t l H H2 := fun c o e n1 n2 n3 => b c o (a c o e n1 n2 n3) n1 n2 n3
theorem Fr3.same {p t l : Addr} {H H1 : Hp} (a : Same H H1) : Fr3 p t l H H1 := fun c o e _ _ _ => a c o e
theorem Fr3.p {p t l : Addr} {H : Hp} {o : HO} : Fr3 p t l H (upd H p o) := fun b u e n1 _ _ => by rw [upd_ne n1]; exact e
theorem Fr3.t {p t l : Addr} {H : Hp} {o : HO} : Fr3 p t l H (upd H t o) := fun b u e _ n2 _ => by rw [upd_ne n2]; exact e
theorem Fr3.l {p t l : Addr} {H : Hp} {o : HO} : Fr3 p t l H (upd H l o) := fun b u e _ _ n3 => by rw [upd_ne n3]; exact e
theorem dp_tupN {K : PySem.W.Frag} {H H' : Hp} (f : Tups K H H') {d : PyData} {v : V} (h : Dp K H v d) : NL d → Dp K H' v d := by
  refine Dp.rec (motive_1 := fun v d _ => NL d → Dp K H' v d) (motive_2 := fun vs ds _ => (∀ d ∈ ds, NL d) → DpAll K H' vs ds) (fun _ => .non) (fun b _ => .bl b) (fun i _ => .int i) (fun z _ => .str z) ?_ ?_ (fun _ => .nil) ?_ h
  · intro a xs ds hS hA ih n
    cases n
  · intro a xs ds hS hA ih n
    exact .tup (f _ _ hS) (ih n.inv)
  · intro v vs d ds h1 h2 i1 i2 n
    exact .cons (i1 (n d (List.mem_cons_self ..))) (i2 fun e he => n e (List.mem_cons_of_mem _ he))
section
variable {K : PySem.W.Frag} {C : Addr} {m : PlK} {H H' : Hp} {p wl bl sl dx : Addr} {fs : List (Str × V)} {s : PlS}
theorem PlP.tups (S : PlP K C m H p wl bl sl dx fs s) (f : Fr3 p wl sl H H') : Tups K H H' := fun a xs e => by
  obtain ⟨kv, ew, _⟩ := S.wd
  rcases e with (e | ⟨ob, e⟩) | e
  · exact .inl (.inl (f _ _ e (ne_of e S.ob (fun z => nomatch z)) (ne_of e ew (fun z => nomatch z)) (ne_of e S.sd (fun z => nomatch z))))
  · exact .inl (.inr ⟨ob, f _ _ e (ne_of e S.ob (fun z => nomatch z)) (ne_of e ew (fun z => nomatch z)) (ne_of e S.sd (fun z => nomatch z))⟩)
  · exact .inr e
theorem PlP.nps (S : PlP K C m H p wl bl sl dx fs s) : p ≠ sl := ne_of S.ob S.sd (fun z => nomatch z)
theorem PlP.npw (S : PlP K C m H p wl bl sl dx fs s) : p ≠ wl := let ⟨_, e, _⟩ := S.wd; ne_of S.ob e (fun z => nomatch z)
theorem PlP.nws (S : PlP K C m H p wl bl sl dx fs s) : wl ≠ sl := let ⟨_, e, _⟩ := S.wd; ne_of e S.sd (fun z => nomatch z)
theorem PlP.bds (S : PlP K C m H p wl bl sl dx fs s) (f : Fr3 p wl sl H H') : Bod K H' H' bl m.bs := by
  obtain ⟨kv, e, h⟩ := S.bd
  refine ⟨kv, f _ _ e (ne_of e S.ob (fun z => nomatch z)) (Ne.symm S.ne) (ne_of e S.sd (fun z => nomatch z)), fun i b hb => ?_⟩
  obtain ⟨v, h1, h2⟩ := h i b hb
  exact ⟨v, h1, dp_tupN (S.tups f) h2 (.tup (nl_pts b))⟩
/-- all that is told of it in a heap where it stands so -/
theorem PlP.to (S : PlP K C m H p wl bl sl dx fs s) (f : Fr3 p wl sl H H') {dx' : Addr} {fs' : List (Str × V)} {s' : PlS} (ob : H' p = some (.ins C dx' fs')) (l1 : fs'.lookup ("worths" : Str) = some (.ref wl)) (l2 : fs'.lookup ("bodies" : Str) = some (.ref bl)) (l3 : fs'.lookup ("inputs" : Str) = some (m.iv)) (l4 : fs'.lookup ("asked" : Str) = some (.int (s'.asked : Nat))) (l5 : fs'.lookup ("doings_left" : Str) = some (.int (s'.n : Nat))) (l6 : fs'.lookup ("has_run_out" : Str) = some (.bl s'.out)) (l7 : fs'.lookup ("said" : Str) = some (.ref sl)) (no : ∀ f ∈ plMets, fs'.lookup f = none) (few : fs'.length < 100)
    (wd : HeldL H' wl m.m s'.held) (sd : H' sl = some (.lst (s'.said.map V.int))) (asl : s'.asked ≤ m.inp.length) (sb : s'.said.length + s'.n ≤ 5000) : PlP K C m H' p wl bl sl dx' fs' s' :=
  ⟨ob, l1, l2, l3, l4, l5, l6, l7, no, few, wd, S.bds f, sd, S.ne, S.hi.on (S.tups f), S.m4, asl, sb⟩
theorem PlP.same (S : PlP K C m H p wl bl sl dx fs s) (e : Same H H') : PlP K C m H' p wl bl sl dx fs s :=
  S.to (Fr3.same e) (e _ _ S.ob) S.l1 S.l2 S.l3 S.l4 S.l5 S.l6 S.l7 S.no S.few (S.wd.on (e _)) (e _ _ S.sd) S.asl S.sb
theorem PlP.put_asked (S : PlP K C m H p wl bl sl dx fs s) (z : Nat) (hz : z ≤ m.inp.length) : PlP K C m (upd H p (.ins C dx (putF "asked" (.int (z : Nat)) fs))) p wl bl sl dx (putF "asked" (.int (z : Nat)) fs) { s with asked := z } := by
  refine S.to Fr3.p upd_same ?_ ?_ ?_ ?_ ?_ ?_ ?_ (fun f hf => ?_) ?_ (S.wd.on fun o e => by rw [upd_ne (Ne.symm S.npw)]; exact e) (by rw [upd_ne (Ne.symm S.nps)]; exact S.sd) hz S.sb
  · rw [lookup_putF, if_neg (by decide +kernel)]
    exact S.l1
  · rw [lookup_putF, if_neg (by decide +kernel)]
    exact S.l2
  · rw [lookup_putF, if_neg (by decide +kernel)]
    exact S.l3
  · rw [lookup_putF, if_pos rfl]
  · rw [lookup_putF, if_neg (by decide +kernel)]
    exact S.l5
  · rw [lookup_putF, if_neg (by decide +kernel)]
    exact S.l6
  · rw [lookup_putF, if_neg (by decide +kernel)]
    exact S.l7
  · rw [lookup_putF, if_neg (fun e => ?_)]
    · exact S.no f hf
    · subst e
      exact absurd hf (by decide +kernel)
  · rw [putF_long S.l4]
    exact S.few
theorem PlP.put_n (S : PlP K C m H p wl bl sl dx fs s) (z : Nat) (hz : z ≤ s.n) : PlP K C m (upd H p (.ins C dx (putF "doings_left" (.int (z : Nat)) fs))) p wl bl sl dx (putF "doings_left" (.int (z : Nat)) fs) { s with n := z } := by
  refine S.to Fr3.p upd_same ?_ ?_ ?_ ?_ ?_ ?_ ?_ (fun f hf => ?_) ?_ (S.wd.on fun o e => by rw [upd_ne (Ne.symm S.npw)]; exact e) (by rw [upd_ne (Ne.symm S.nps)]; exact S.sd) S.asl (Nat.le_trans (Nat.add_le_add_left hz _) S.sb)
  · rw [lookup_putF, if_neg (by decide +kernel)]
    exact S.l1
  · rw [lookup_putF, if_neg (by decide +kernel)]
    exact S.l2
  · rw [lookup_putF, if_neg (by decide +kernel)]
    exact S.l3
  · rw [lookup_putF, if_neg (by decide +kernel)]
    exact S.l4
  · rw [lookup_putF, if_pos rfl]
  · rw [lookup_putF, if_neg (by decide +kernel)]
    exact S.l6
  · rw [lookup_putF, if_neg (by decide +kernel)]
    exact S.l7
  · rw [lookup_putF, if_neg (fun e => ?_)]
    · exact S.no f hf
    · subst e
      exact absurd hf (by decide +kernel)
  · rw [putF_long S.l5]
    exact S.few
theorem PlP.put_out (S : PlP K C m H p wl bl sl dx fs s) : PlP K C m (upd H p (.ins C dx (putF "has_run_out" (.bl true) fs))) p wl bl sl dx (putF "has_run_out" (.bl true) fs) { s with out := true } := by
  refine S.to Fr3.p upd_same ?_ ?_ ?_ ?_ ?_ ?_ ?_ (fun f hf => ?_) ?_ (S.wd.on fun o e => by rw [upd_ne (Ne.symm S.npw)]; exact e) (by rw [upd_ne (Ne.symm S.nps)]; exact S.sd) S.asl S.sb
  · rw [lookup_putF, if_neg (by decide +kernel)]
    exact S.l1
  · rw [lookup_putF, if_neg (by decide +kernel)]
    exact S.l2
  · rw [lookup_putF, if_neg (by decide +kernel)]
    exact S.l3
  · rw [lookup_putF, if_neg (by decide +kernel)]
    exact S.l4
  · rw [lookup_putF, if_neg (by decide +kernel)]
    exact S.l5
  · rw [lookup_putF, if_pos rfl]
  · rw [lookup_putF, if_neg (by decide +kernel)]
    exact S.l7
  · rw [lookup_putF, if_neg (fun e => ?_)]
    · exact S.no f hf
    · subst e
      exact absurd hf (by decide +kernel)
  · rw [putF_long S.l6]
    exact S.few
theorem PlP.put_worth (S : PlP K C m H p wl bl sl dx fs s) {x : Nat} (hx : x < m.m) (z : Int) : ∃ kvs, H wl = some (.dK kvs) ∧ kvs.length < sizeLine ∧ PlP K C m (upd H wl (.dK (putK kvs (.inr (nmS x)) (.int z)))) p wl bl sl dx fs { s with held := fun y => if y = x then z else s.held y } := by
  obtain ⟨kvs, e, l, h⟩ := S.wd.put (z := z) S.m4 hx
  exact ⟨kvs, e, l, S.to Fr3.t (by rw [upd_ne S.npw]; exact S.ob) S.l1 S.l2 S.l3 S.l4 S.l5 S.l6 S.l7 S.no S.few h (by rw [upd_ne (Ne.symm S.nws)]; exact S.sd) S.asl S.sb⟩
/-- a worth is said: one doing less is left -/
theorem PlP.put_said (S : PlP K C m H p wl bl sl dx fs s) (z : Int) (hz : s.said.length + 1 + s.n ≤ 5000) : PlP K C m (upd H sl (.lst (s.said.map V.int ++ [.int z]))) p wl bl sl dx fs { s with said := s.said ++ [z] } := by
  refine S.to Fr3.l (by rw [upd_ne S.nps]; exact S.ob) S.l1 S.l2 S.l3 S.l4 S.l5 S.l6 S.l7 S.no S.few (S.wd.on fun o e => by rw [upd_ne S.nws]; exact e) ?_ S.asl ?_
  · rw [upd_same, List.map_append]
    rfl
  · show (s.said ++ [z]).length + s.n ≤ 5000
    rw [List.length_append]
    exact hz
end
theorem no_pl {fs : List (Str × V)} (h : ∀ f ∈ plMets, fs.lookup f = none) (f : Str) (hf : f ∈ plMets := by decide +kernel) : fs.lookup f = none := h f hf
end RH
set_option Elab.async false
set_option linter.all false
set_option maxRecDepth 100000
set_option maxHeartbeats 2000000
namespace RH
open PySem PySem.Spec PyProof.Rows L2
/-! ### what the player does: the small methods -/
def isIn : PyData → Bool
  | .int _ => true
  | .bool _ => true
  | _ => false
theorem isi_int {K : PySem.W.Frag} {H : Hp} {v : V} {d : PyData} (h : Dp K H v d) : ∃ t u, ClsV (.ty "int") u ∧ TyX K H v t ∧ PySem.W.kitOne K t u = some (isIn d) := by
  cases h with
  | non => exact ⟨_, _, .ty "int", .base .non, show _ = some false from kit_ty (by decide +kernel)⟩
  | bl b => exact ⟨_, _, .ty "int", .base (.bl b), show _ = some true from kit_ty (by decide +kernel)⟩
  | int i => exact ⟨_, _, .ty "int", .base (.int i), show _ = some true from kit_ty (by decide +kernel)⟩
  | str z => exact ⟨_, _, .ty "int", .base (.str z), show _ = some false from kit_ty (by decide +kernel)⟩
  | lst hS _ => exact ⟨_, _, .ty "int", ty_lst hS, show _ = some false from kit_ty (by decide +kernel)⟩
  | tup hS _ => exact ⟨_, _, .ty "int", ty_tup hS, show _ = some false from kit_ty (by decide +kernel)⟩
def nxtA (inp : List Int) (a : Nat) : Nat := if a = inp.length then a else a + 1
theorem nxtA_drop {inp : List Int} {a : Nat} (h : a ≤ inp.length) : inp.drop (nxtA inp a) = (inp.drop a).drop 1 := by
  unfold nxtA
  by_cases e : a = inp.length
  · rw [if_pos e, e, List.drop_length]
    rfl
  · rw [if_neg e, List.drop_drop]
section
variable {P : Program} {w : World} {K : PySem.W.Frag} {mg : Str → Option Value} {base : Heap} {C : Addr}
def spMay (K : PySem.W.Frag) (C : Addr) : Sp := fun vs H Q _ => ∃ (m : PlK) (p wl bl sl dx : Addr) (fs : List (Str × V)) (s : PlS), vs = [.ref p] ∧ PlP K C m H p wl bl sl dx fs s ∧
  (s.n = 0 → ∀ H' fs', Fr3 p wl sl H H' → PlP K C m H' p wl bl sl dx fs' { s with out := true } → Q (.bl false) H') ∧ (∀ j, s.n = j + 1 → ∀ H' fs', Fr3 p wl sl H H' → PlP K C m H' p wl bl sl dx fs' { s with n := j } → Q (.bl true) H')
theorem ok_may (F : DfM K C "may_do" "Player.may_do" st_m_may_do ["self"]) (T : PlC K mg C) : Met0 P w K mg base 1 C "may_do" (spMay K C) := by
  refine mkMet0 F sc_m_may_do (fun vs H Q E h => ?_) (fun f cdv A outer s H vs Q E hr h => ?_)
  · obtain ⟨m, p, wl, bl, sl, dx, fs, s, rfl, _⟩ := h
    rfl
  · obtain ⟨m, p, wl, bl, sl, dx, fs, s, rfl, S, q1, q2⟩ := h
    refine ⟨_, pss_cons (ps_if (pt_cmpR op_eq (pe_fld (pv 0) rfl) pe_int (nomark _)) (pss_cons (ps_fld (pv 0) pe_bl rfl)
      (pss_one (ps_ret pe_bl))) pss_nil)
      (pss_cons (ps_fldaug (pv 0) pe_int in_sub)
      (pss_one (ps_ret pe_bl))), ?_⟩
    refine ⟨_, rfl, p, C, dx, _, _, rfl, S.ob, T.cl, T.at "doings_left", S.l5, rfl, _, rfl, ?_⟩
    have few := S.few
    cases en : s.n with
    | zero => exact ifT (by decide +kernel) ⟨_, rfl, p, C, dx, _, rfl, S.ob, T.cl, T.at "has_run_out", by omega, q1 en _ _ Fr3.p S.put_out⟩
    | succ j =>
      refine ifF (by show decide (V.int ((j + 1 : Nat) : Int) = V.int 0) = false; rw [V_int]; exact decide_eq_false (by omega)) ⟨_, rfl, p, C, dx, _, _, rfl, S.ob, T.cl, T.at "doings_left", S.l5, ((s.n : Nat) : Int), 1, rfl, rfl, dx, fs, S.ob, by omega, ?_⟩
      have S1 := S.put_n j (by omega)
      have e1 : ((s.n : Nat) : Int) - 1 = (j : Int) := by rw [en]; omega
      rw [← e1] at S1
      exact q2 j en _ _ Fr3.p S1
def spWorthM (K : PySem.W.Frag) (C : Addr) (k : Nat) : Sp := fun vs H Q _ => ∃ (m : PlK) (p wl bl sl dx : Addr) (fs : List (Str × V)) (s : PlS) (v : V) (e : Ex), vs = [.ref p, v] ∧ PlP K C m H p wl bl sl dx fs s ∧ Dp K H v (exD e) ∧ okEx m.m k e ∧ Q (.int (wth s.held e)) H
theorem ok_worthM0 (F : DfM K C "worth" "Player.worth" st_m_worth ["self", "value"]) (B : Bu mg) (T : PlC K mg C) : Met0 P w K mg base 1 C "worth" (spWorthM K C 0) := by
  refine mkMet0 F sc_m_worth (fun vs H Q E h => ?_) (fun f cdv A outer s H vs Q E hr h => ?_)
  · obtain ⟨m, p, wl, bl, sl, dx, fs, s, v, e, rfl, _⟩ := h
    rfl
  · obtain ⟨m, p, wl, bl, sl, dx, fs, s, v, e, rfl, S, hD, ok, q⟩ := h
    refine ⟨_, pss_cons (ps_if (pt_val (pe_callB (cl_isi K) (by rfl) B.isi (by decide +kernel) (pa_cons (pv 1) (pa_cons (pe_bltn (v := .ty "int") (by rfl) B.int (by decide +kernel) rfl) pa_nil)))) (pss_one (ps_ret (pv 1))) pss_nil) (pss_cons (ps_if (pt_val (pe_callB (cl_isi K) (by rfl) B.isi (by decide +kernel) (pa_cons (pv 1) (pa_cons (pe_bltn (v := .ty "str") (by rfl) B.str (by decide +kernel) rfl) pa_nil)))) (pss_one (ps_ret (pe_dget (hu_of hr) (pe_fld (pv 0) rfl) (pv 1) (fun _ _ => rfl)))) pss_nil) (pss_cons ps_no (pss_one ps_no))), ?_⟩
    obtain ⟨t1, u1, ci1, ci2, ci3⟩ := isi_int hD
    refine ⟨_, rfl, v, .ty "int", t1, u1, _, rfl, ci1, ci2, ci3, _, rfl, ?_⟩
    cases e with
    | num i =>
      obtain rfl := dp_int hD
      exact ifT rfl ⟨_, rfl, q⟩
    | nam x =>
      obtain rfl := dp_str hD
      obtain ⟨t2, u2, cj1, cj2, cj3⟩ := isi_str hD
      obtain ⟨kvs, eD, _, hv⟩ := S.wd
      exact ifF rfl ⟨_, rfl, _, .ty "str", t2, u2, _, rfl, cj1, cj2, cj3, _, rfl, ifT rfl ⟨_, rfl, p, C, dx, _, _, rfl, S.ob, T.cl, T.at "worths", S.l1, _, rfl, wl, _, rfl, .inl ⟨kvs, .inr (nmS x), .inl eD, rfl, (hv x ok).symm⟩, q⟩⟩
    | sum add x y => exact absurd ok id
theorem ok_worthMS (k : Nat) (F : DfM K C "worth" "Player.worth" st_m_worth ["self", "value"]) (B : Bu mg) (T : PlC K mg C) (M0 : Met0 P w K mg base (k + 1) C "worth" (spWorthM K C k)) : Met0 P w K mg base (k + 2) C "worth" (spWorthM K C (k + 1)) := by
  refine mkMet0 F sc_m_worth (fun vs H Q E h => ?_) (fun f cdv A outer s H vs Q E hr h => ?_)
  · obtain ⟨m, p, wl, bl, sl, dx, fs, s, v, e, rfl, _⟩ := h
    rfl
  · obtain ⟨m, p, wl, bl, sl, dx, fs, s, v, e, rfl, S, hD, ok, q⟩ := h
    refine ⟨_, pss_cons (ps_if (pt_val (pe_callB (cl_isi K) (by rfl) B.isi (by decide +kernel) (pa_cons (pv 1) (pa_cons (pe_bltn (v := .ty "int") (by rfl) B.int (by decide +kernel) rfl) pa_nil)))) (pss_one (ps_ret (pv 1))) pss_nil)
      (pss_cons (ps_if (pt_val (pe_callB (cl_isi K) (by rfl) B.isi (by decide +kernel) (pa_cons (pv 1) (pa_cons (pe_bltn (v := .ty "str") (by rfl) B.str (by decide +kernel) rfl) pa_nil)))) (pss_one (ps_ret (pe_dget (hu_of hr) (pe_fld (pv 0) rfl) (pv 1) (fun _ _ => rfl)))) pss_nil)
      (pss_cons (ps_par (i := 2) (j := 3) rfl sc_m_worth.nd rfl rfl (by decide) rfl rfl (pa_cons (pmA M0 T.cl hr (pv 0) (pa_cons (pe_ix (ixT K) (pv 1) pe_int (fun _ _ => rfl)) pa_nil) (hk := by omega)) (pa_cons (pmA M0 T.cl hr (pv 0) (pa_cons (pe_ix (ixT K) (pv 1) pe_int (fun _ _ => rfl)) pa_nil) (hk := by omega)) pa_nil)) rfl)
      (pss_one (ps_ret (pe_ifExp (pt_cmpR op_eq (pe_ix (ixT K) (pv 1) pe_int (fun _ _ => rfl)) pe_str (nomark _)) (pe_op op_add (pv 2) (pv 3)) (pe_op op_sub (pv 2) (pv 3))))))), ?_⟩
    obtain ⟨t1, u1, ci1, ci2, ci3⟩ := isi_int hD
    refine ⟨_, rfl, v, .ty "int", t1, u1, _, rfl, ci1, ci2, ci3, _, rfl, ?_⟩
    obtain ⟨t2, u2, cj1, cj2, cj3⟩ := isi_str hD
    cases e with
    | num i =>
      obtain rfl := dp_int hD
      exact ifT rfl ⟨_, rfl, q⟩
    | nam x =>
      obtain rfl := dp_str hD
      obtain ⟨kvs, eD, _, hv⟩ := S.wd
      exact ifF rfl ⟨_, rfl, _, .ty "str", t2, u2, _, rfl, cj1, cj2, cj3, _, rfl, ifT rfl ⟨_, rfl, p, C, dx, _, _, rfl, S.ob, T.cl, T.at "worths", S.l1, _, rfl, wl, _, rfl, .inl ⟨kvs, .inr (nmS x), .inl eD, rfl, (hv x ok).symm⟩, q⟩⟩
    | sum add x y =>
      refine ifF rfl ⟨_, rfl, v, .ty "str", t2, u2, _, rfl, cj1, cj2, cj3, _, rfl, ifF rfl ?_⟩
      obtain ⟨b, v1, v2, v3, rfl, hS, h1, h2, h3⟩ := dp_tup3 hD
      obtain rfl := dp_str h1
      refine ⟨_, rfl, p, dx, fs, rfl, S.ob, no_pl S.no "worth", _, rfl, b, _, (1 : Int), v2, rfl, rfl, hS, rfl, m, p, wl, bl, sl, dx, fs, s, v2, x, rfl, S, h2, ok.1, ?_⟩
      refine ⟨_, rfl, p, dx, fs, rfl, S.ob, no_pl S.no "worth", _, rfl, b, _, (2 : Int), v3, rfl, rfl, hS, rfl, m, p, wl, bl, sl, dx, fs, s, v3, y, rfl, S, h3, ok.2, ?_⟩
      refine ⟨_, _, rfl, _, rfl, b, _, (0 : Int), _, rfl, rfl, hS, rfl, rfl, _, rfl, ?_⟩
      cases add with
      | true => exact ifT (by decide +kernel) ⟨_, rfl, _, rfl, _, _, rfl, rfl, q⟩
      | false => exact ifF (by decide +kernel) ⟨_, rfl, _, rfl, _, _, rfl, rfl, q⟩
def spHolds (K : PySem.W.Frag) (C : Addr) : Sp := fun vs H Q _ => ∃ (m : PlK) (p wl bl sl dx : Addr) (fs : List (Str × V)) (s : PlS) (v : V) (e : Ex) (g : Bool), vs = [.ref p, v] ∧ PlP K C m H p wl bl sl dx fs s ∧ Dp K H v (.tuple [exD e, .bool g]) ∧ okEx m.m 3 e ∧ Q (.bl (okT (s.mc m.inp) e g)) H
theorem ok_holds (F : DfM K C "holds" "Player.holds" st_m_holds ["self", "test"]) (T : PlC K mg C) (MW : Met0 P w K mg base 4 C "worth" (spWorthM K C 3)) : Met0 P w K mg base 5 C "holds" (spHolds K C) := by
  refine mkMet0 F sc_m_holds (fun vs H Q E h => ?_) (fun f cdv A outer s H vs Q E hr h => ?_)
  · obtain ⟨m, p, wl, bl, sl, dx, fs, s, v, e, g, rfl, _⟩ := h
    rfl
  · obtain ⟨m, p, wl, bl, sl, dx, fs, s, v, e, g, rfl, S, hD, ok, q⟩ := h
    refine ⟨_, pss_one (ps_ret (pe_cmpR (op_eqD hr.units) (pe_cmpR op_eq (pmA MW T.cl hr (pv 0) (pa_cons (pe_ix (ixT K) (pv 1) pe_int (fun _ _ => rfl)) pa_nil) (hk := by omega)) pe_int (nomark _)) (pe_ix (ixT K) (pv 1) pe_int (fun _ _ => rfl)) (nomark _))), ?_⟩
    obtain ⟨b, v1, v2, rfl, hS, h1, h2⟩ := dp_two hD
    obtain rfl := dp_bl h2
    refine ⟨_, rfl, p, dx, fs, rfl, S.ob, no_pl S.no "worth", _, rfl, b, _, (0 : Int), v1, rfl, rfl, hS, rfl, m, p, wl, bl, sl, dx, fs, s, v1, e, rfl, S, h1, ok, ?_⟩
    refine ⟨rfl, _, rfl, b, _, (1 : Int), .bl g, rfl, rfl, hS, rfl, .bool _, .bool g, .bl _, .bl g, rfl, rfl, ?_⟩
    have ge : PyData.eqv (.bool (decide (V.int (wth s.held e) = V.int 0))) (.bool g) = okT (s.mc m.inp) e g := good_eq (s.mc m.inp) e g
    rw [ge]
    exact q
def spNextIn (K : PySem.W.Frag) (C : Addr) : Sp := fun vs H Q _ => ∃ (m : PlK) (p wl bl sl dx : Addr) (fs : List (Str × V)) (s : PlS), vs = [.ref p] ∧ PlP K C m H p wl bl sl dx fs s ∧
  ∀ H' fs', Fr3 p wl sl H H' → PlP K C m H' p wl bl sl dx fs' { s with asked := nxtA m.inp s.asked } → Q (.int ((m.inp.drop s.asked).headD 0)) H'
theorem ok_nextIn (F : DfM K C "next_input" "Player.next_input" st_m_next_input ["self"]) (B : Bu mg) (T : PlC K mg C) : Met0 P w K mg base 1 C "next_input" (spNextIn K C) := by
  refine mkMet0 F sc_m_next_input (fun vs H Q E h => ?_) (fun f cdv A outer s H vs Q E hr h => ?_)
  · obtain ⟨m, p, wl, bl, sl, dx, fs, s, rfl, _⟩ := h
    rfl
  · obtain ⟨m, p, wl, bl, sl, dx, fs, s, rfl, S, q⟩ := h
    refine ⟨_, pss_cons (ps_if (pt_cmpR op_eq (pe_fld (pv 0) rfl) (pe_callB (cl_len K) (by rfl) B.len PySem.boot_len (pa_cons (pe_fld (pv 0) rfl) pa_nil)) (nomark _)) (pss_one (ps_ret pe_int)) pss_nil)
      (pss_cons (ps_fldaug (pv 0) pe_int in_add)
      (pss_one (ps_ret (pe_ix (ixT K) (pe_fld (pv 0) rfl) (pe_op op_sub (pe_fld (pv 0) rfl) pe_int) (fun _ _ => rfl))))), ?_⟩
    obtain ⟨ai, ei, hI⟩ := S.hi
    have few := S.few
    refine ⟨_, rfl, p, C, dx, _, _, rfl, S.ob, T.cl, T.at "asked", S.l4, _, rfl, p, C, dx, _, _, rfl, S.ob, T.cl, T.at "inputs", S.l3, ai, m.inp.map V.int, by rw [ei], .inr hI, rfl, _, rfl, ?_⟩
    rw [List.length_map, V_int]
    by_cases e : s.asked = m.inp.length
    · rw [decide_eq_true (by omega)]
      have q := q H fs (Fr3.refl _ _ _ _)
      rw [show nxtA m.inp s.asked = s.asked from if_pos e, show (m.inp.drop s.asked).headD 0 = 0 by rw [e, List.drop_length]; rfl] at q
      exact ifT rfl (q S)
    · rw [decide_eq_false (by omega)]
      have h2 := S.asl
      have S1 := S.put_asked (s.asked + 1) (by omega)
      obtain ⟨z, hz⟩ : ∃ z, m.inp[s.asked]? = some z := ⟨_, List.getElem?_eq_getElem (by omega)⟩
      have ez : (m.inp.drop s.asked).headD 0 = z := by
        rw [List.headD_eq_head?_getD, List.head?_drop, hz]
        rfl
      obtain ⟨ai', ei', hI'⟩ := S1.hi
      refine ifF rfl ⟨_, rfl, p, C, dx, _, _, rfl, S.ob, T.cl, T.at "asked", S.l4, ((s.asked : Nat) : Int), 1, rfl, rfl, dx, fs, S.ob, by omega, ?_⟩
      refine ⟨_, rfl, p, C, dx, _, _, rfl, S1.ob, T.cl, T.at "inputs", S1.l3, _, rfl, p, C, dx, _, _, rfl, S1.ob, T.cl, T.at "asked", S1.l4, ((s.asked + 1 : Nat) : Int), 1, rfl, rfl, ai', m.inp.map V.int, (s.asked : Int), .int z, ei', ?_, hI', atI_nat (by rw [List.getElem?_map, hz]; rfl), ?_⟩
      · show V.int (((s.asked + 1 : Nat) : Int) - 1) = V.int (s.asked : Int)
        exact congrArg V.int (by omega)
      · have q := q _ _ Fr3.p (by rw [show nxtA m.inp s.asked = s.asked + 1 from if_neg e]; exact S1)
        rw [ez] at q
        exact q
end
end RH
set_option Elab.async false
set_option linter.all false
set_option maxRecDepth 100000
set_option maxHeartbeats 2000000
namespace RH
open PySem PySem.Spec PyProof.Rows L2
/-! ### what a walk of the player's comes to -/
def GoodP (m : Nat) (bs : List (List Pt)) : Nat → Pt → Prop
  | 0, p => match p with
    | .letP x e => x < m ∧ okEx m 3 e
    | .sayP e => okEx m 3 e
    | .askP x => x < m
    | .stopP => True
    | _ => False
  | k + 1, p => match p with
    | .letP x e => x < m ∧ okEx m 3 e
    | .sayP e => okEx m 3 e
    | .askP x => x < m
    | .stopP => True
    | .doP q => q < bs.length ∧ ∀ x ∈ bdO bs q, GoodP m bs k x
    | .ifP e _ a b => okEx m 3 e ∧ (∀ x ∈ a, GoodP m bs k x) ∧ ∀ x ∈ b, GoodP m bs k x
    | .whileP e _ a => okEx m 3 e ∧ ∀ x ∈ a, GoodP m bs k x
    | .repP j a => j ≤ 1000 ∧ ∀ x ∈ a, GoodP m bs k x
def Tells (inp : List Int) : Out → PlS → Bool → Prop
  | .go n M, s, r => r = true ∧ s.n = n ∧ s.mc inp = M ∧ s.out = false
  | .halt M, s, r => r = false ∧ s.mc inp = M ∧ s.out = false
  | .dry M, s, r => r = false ∧ s.mc inp = M ∧ s.out = true
def Res (m : PlK) (b : List Pt) (s s' : PlS) (r : Bool) : Prop := ∃ o, Does (bdO m.bs) b s.n (s.mc m.inp) o ∧ Tells m.inp o s' r
section
variable {m : PlK} {a b : List Pt} {s s1 s2 : PlS} {r : Bool} {j : Nat}
theorem Res.nil (h : s.out = false) : Res m [] s s true := ⟨_, .nil, rfl, rfl, rfl, h⟩
theorem Res.go (h : Res m a s s1 true) : Does (bdO m.bs) a s.n (s.mc m.inp) (.go s1.n (s1.mc m.inp)) ∧ s1.out = false := by
  obtain ⟨o, d, t⟩ := h
  cases o with
  | go n M =>
    obtain ⟨_, rfl, rfl, e⟩ := t
    exact ⟨d, e⟩
  | halt M => exact nomatch t.1
  | dry M => exact nomatch t.1
theorem Res.app (h : Res m a s s1 true) (g : Res m b s1 s2 r) : Res m (a ++ b) s s2 r := by
  obtain ⟨o, d, t⟩ := g
  exact ⟨o, h.go.1.app d, t⟩
theorem Res.cut (h : Res m a s s1 false) : Res m (a ++ b) s s1 false := by
  obtain ⟨o, d, t⟩ := h
  cases o with
  | go n M => exact nomatch t.1
  | halt M => exact ⟨_, d.halts, t⟩
  | dry M => exact ⟨_, d.dries, t⟩
theorem Res.le (h : Res m a s s1 true) : s1.n ≤ s.n := (h.go.1 []).1
theorem Res.dry {p : Pt} (h : s.n = 0) : Res m (p :: b) s { s with out := true } false := by
  refine ⟨.dry (s.mc m.inp), ?_, rfl, rfl, rfl⟩
  rw [h]
  exact .dry0
theorem Res.via {p : Pt} (en : s.n = j + 1) (f : ∀ o, Does (bdO m.bs) b j (s.mc m.inp) o → Does (bdO m.bs) [p] (j + 1) (s.mc m.inp) o) (h : Res m b { s with n := j } s1 r) : Res m [p] s s1 r := by
  obtain ⟨o, d, t⟩ := h
  refine ⟨o, ?_, t⟩
  rw [en]
  exact f o d
theorem Res.doP {q : Nat} (en : s.n = j + 1) (h : Res m (bdO m.bs q) { s with n := j } s1 r) : Res m [.doP q] s s1 r := h.via en fun _ d => .doP d
theorem Res.ifP {e : Ex} {g : Bool} {a b : List Pt} (en : s.n = j + 1) (h : Res m (if okT (s.mc m.inp) e g = true then a else b) { s with n := j } s1 r) : Res m [.ifP e g a b] s s1 r := h.via en fun _ d => .ifP d
theorem Res.repP {k : Nat} (en : s.n = j + 1) (h : Res m (List.replicate k a).flatten { s with n := j } s1 r) : Res m [.repP k a] s s1 r := h.via en fun _ d => .repP d
theorem Res.stopP (en : s.n = j + 1) (ho : s.out = false) : Res m [.stopP] s { s with n := j } false := by
  refine ⟨.halt (s.mc m.inp), ?_, rfl, rfl, ho⟩
  rw [en]
  exact .stopP
theorem Res.letP {x : Nat} {e : Ex} (en : s.n = j + 1) (ho : s.out = false) : Res m [.letP x e] s { s with n := j, held := fun y => if y = x then wth s.held e else s.held y } true := by
  refine ⟨.go j ((s.mc m.inp).put x (wth s.held e)), ?_, rfl, rfl, rfl, ho⟩
  rw [en]
  exact .letP
theorem Res.sayP {e : Ex} (en : s.n = j + 1) (ho : s.out = false) : Res m [.sayP e] s { s with n := j, said := s.said ++ [wth s.held e] } true := by
  refine ⟨.go j { s.mc m.inp with said := (s.mc m.inp).said ++ [wth (s.mc m.inp).held e] }, ?_, rfl, rfl, rfl, ho⟩
  rw [en]
  exact .sayP
theorem Res.askP {x : Nat} (en : s.n = j + 1) (ho : s.out = false) (ha : s.asked ≤ m.inp.length) : Res m [.askP x] s { s with n := j, asked := nxtA m.inp s.asked, held := fun y => if y = x then (m.inp.drop s.asked).headD 0 else s.held y } true := by
  refine ⟨.go j { ((s.mc m.inp).put x ((s.mc m.inp).left.headD 0)) with left := (s.mc m.inp).left.drop 1 }, ?_, rfl, rfl, ?_, ho⟩
  · rw [en]
    exact .askP
  · show Mc.mk _ (m.inp.drop (nxtA m.inp s.asked)) _ = Mc.mk _ ((m.inp.drop s.asked).drop 1) _
    rw [nxtA_drop ha]
    rfl
theorem Res.whNo {e : Ex} {g : Bool} (en : s.n = j + 1) (ho : s.out = false) (h : okT (s.mc m.inp) e g = false) : Res m [.whileP e g a] s { s with n := j } true := by
  refine ⟨.go j (s.mc m.inp), ?_, rfl, rfl, rfl, ho⟩
  rw [en]
  exact .whileNo h
theorem Res.whCut {e : Ex} {g : Bool} (en : s.n = j + 1) (h : okT (s.mc m.inp) e g = true) (hb : Res m a { s with n := j } s1 false) : Res m [.whileP e g a] s s1 false := Res.via en (fun _ d => .whileYes h d) (hb.cut (b := [.whileP e g a]))
theorem Res.whGo {e : Ex} {g : Bool} (en : s.n = j + 1) (h : okT (s.mc m.inp) e g = true) (hb : Res m a { s with n := j } s1 true) (hw : Res m [.whileP e g a] s1 s2 r) : Res m [.whileP e g a] s s2 r := Res.via en (fun _ d => .whileYes h d) (hb.app hw)
end
section
variable {P : Program} {w : World} {K : PySem.W.Frag} {mg : Str → Option Value} {base : Heap} {C : Addr}
/-- what a walk promises -/
def Prom (K : PySem.W.Frag) (C : Addr) (m : PlK) (H : Hp) (p wl bl sl dx : Addr) (b : List Pt) (s : PlS) (Q : VK) : Prop := ∀ H' fs' s' r, Fr3 p wl sl H H' → PlP K C m H' p wl bl sl dx fs' s' → Res m b s s' r → Q (.bl r) H'
def spPart (K : PySem.W.Frag) (C : Addr) (k : Nat) : Sp := fun vs H Q _ => ∃ (m : PlK) (p wl bl sl dx : Addr) (fs : List (Str × V)) (s : PlS) (v : V) (pt : Pt), vs = [.ref p, v] ∧ PlP K C m H p wl bl sl dx fs s ∧ s.out = false ∧ Dp K H v (ptD pt) ∧ GoodP m.m m.bs k pt ∧ Prom K C m H p wl bl sl dx [pt] s Q
def spBlk (K : PySem.W.Frag) (C : Addr) (k : Nat) : Sp := fun vs H Q _ => ∃ (m : PlK) (p wl bl sl dx : Addr) (fs : List (Str × V)) (s : PlS) (v : V) (b : List Pt), vs = [.ref p, v] ∧ PlP K C m H p wl bl sl dx fs s ∧ s.out = false ∧ Dp K H v (bkD b) ∧ (∀ x ∈ b, GoodP m.m m.bs k x) ∧ Prom K C m H p wl bl sl dx b s Q
def spRd (K : PySem.W.Frag) (C : Addr) (k : Nat) : Sp := fun vs H Q _ => ∃ (m : PlK) (p wl bl sl dx : Addr) (fs : List (Str × V)) (s : PlS) (j : Nat) (v : V) (b : List Pt), vs = [.ref p, .int (j : Int), v] ∧ PlP K C m H p wl bl sl dx fs s ∧ s.out = false ∧ j ≤ 1000 ∧ Dp K H v (bkD b) ∧ (∀ x ∈ b, GoodP m.m m.bs k x) ∧ Prom K C m H p wl bl sl dx (List.replicate j b).flatten s Q
def spWh (K : PySem.W.Frag) (C : Addr) (k : Nat) : Sp := fun vs H Q _ => ∃ (m : PlK) (p wl bl sl dx : Addr) (fs : List (Str × V)) (s : PlS) (v : V) (e : Ex) (g : Bool) (b : List Pt), vs = [.ref p, v] ∧ PlP K C m H p wl bl sl dx fs s ∧ s.out = false ∧ Dp K H v (ptD (.whileP e g b)) ∧ okEx m.m 3 e ∧ (∀ x ∈ b, GoodP m.m m.bs k x) ∧ Prom K C m H p wl bl sl dx [.whileP e g b] s Q
theorem ok_blk (k : Nat) (F : DfM K C "do_block" "Player.do_block" st_m_do_block ["self", "block"]) (T : PlC K mg C) (MP : Met0 P w K mg base (6 + 3 * k) C "do_part" (spPart K C k)) : Met0 P w K mg base (7 + 3 * k) C "do_block" (spBlk K C k) := by
  rw [show 7 + 3 * k = (6 + 3 * k) + 1 by omega]
  refine mkMet0 F sc_m_do_block (fun vs H Q E h => ?_) (fun f cdv A outer s H vs Q E hr h => ?_)
  · obtain ⟨m, p, wl, bl, sl, dx, fs, s, v, b, rfl, _⟩ := h
    rfl
  · obtain ⟨m, p, wl, bl, sl, dx, fs, s, v, b, rfl, S, ho, hD, ok, q⟩ := h
    refine ⟨_, pss_cons (ps_for PassesOwn.never rfl (pi_tup (pv 1)) (pg_name (i := 2) sc_m_do_block.nd rfl (Or.inl rfl)) (pss_one (ps_if (pt_not (pt_val (pmA MP T.cl hr (pv 0) (pa_cons (pv 2) pa_nil) (hk := by omega)))) (pss_one (ps_ret pe_bl)) pss_nil)))
      (pss_one (ps_ret pe_bl)), ?_⟩
    obtain ⟨a, xs, rfl, hS, hA⟩ : ∃ a xs, v = .ref a ∧ SqT K H a xs ∧ DpAll K H xs (ptsD b) := by
      cases hD with
      | tup hT hA => exact ⟨_, _, rfl, hT, hA⟩
    have lA := dpAll_len hA
    rw [ptsD_map, List.length_map] at lA
    refine ⟨_, rfl, a, rfl, ⟨_, hS⟩, ?_⟩
    refine for_tup (xs := xs) (fun i σ H' => ∃ (y : Option V) (fs' : List (Str × V)) (s' : PlS), σ = [some (.ref p), some (.ref a), y] ∧ Fr3 p wl sl H H' ∧ PlP K C m H' p wl bl sl dx fs' s' ∧ Res m (b.take i) s s' true) ⟨none, fs, s, rfl, Fr3.refl _ _ _ _, S, .nil ho⟩ (fun i σ H' _ h' => ?_) (fun i x σ H' hx h' => ?_) (fun σ H' h' => ?_)
    · obtain ⟨y, fs', s', rfl, f, S', R⟩ := h'
      exact S.tups f _ _ hS
    · obtain ⟨y, fs', s', rfl, f, S', R⟩ := h'
      obtain ⟨d, hd, hx1⟩ := dpAll_at hA hx
      rw [ptsD_map, List.getElem?_map, Option.map_eq_some_iff] at hd
      obtain ⟨pt, hp, rfl⟩ := hd
      have e1 : b.take (i + 1) = b.take i ++ [pt] := by rw [List.take_add_one, hp]; rfl
      refine ⟨_, rfl, p, dx, fs', rfl, S'.ob, no_pl S'.no "do_part", _, rfl, m, p, wl, bl, sl, dx, fs', s', x, pt, rfl, S', R.go.2, dp_tupN (S.tups f) hx1 (nl_pt pt), ok pt (List.mem_of_getElem? hp), fun H2 fs2 s2 r f2 S2 R2 => ⟨_, rfl, ?_⟩⟩
      cases r with
      | true => exact ifF rfl ⟨_, fs2, s2, rfl, f.trans f2, S2, by rw [e1]; exact R.app R2⟩
      | false =>
        refine ifT rfl (q _ fs2 s2 false (f.trans f2) S2 ?_)
        have e2 : b = b.take (i + 1) ++ b.drop (i + 1) := (List.take_append_drop _ _).symm
        rw [e2, e1]
        exact (R.app R2).cut
    · obtain ⟨y, fs', s', rfl, f, S', R⟩ := h'
      rw [lA, List.take_length] at R
      exact q _ fs' s' true f S' R
theorem ok_rd (k : Nat) (F : DfM K C "do_rounds" "Player.do_rounds" st_m_do_rounds ["self", "many", "block"]) (B : Bu mg) (T : PlC K mg C) (MB : Met0 P w K mg base (7 + 3 * k) C "do_block" (spBlk K C k)) : Met0 P w K mg base (8 + 3 * k) C "do_rounds" (spRd K C k) := by
  rw [show 8 + 3 * k = (7 + 3 * k) + 1 by omega]
  refine mkMet0 F sc_m_do_rounds (fun vs H Q E h => ?_) (fun f cdv A outer s H vs Q E hr h => ?_)
  · obtain ⟨m, p, wl, bl, sl, dx, fs, s, j, v, b, rfl, _⟩ := h
    rfl
  · obtain ⟨m, p, wl, bl, sl, dx, fs, s, j, v, b, rfl, S, ho, hj, hD, ok, q⟩ := h
    refine ⟨_, pss_cons (ps_for PassesOwn.never rfl (pi_range1 (by rfl) B.range (pa_cons (pv 1) pa_nil)) (pg_name (i := 3) sc_m_do_rounds.nd rfl (Or.inl rfl)) (pss_one (ps_if (pt_not (pt_val (pmA MB T.cl hr (pv 0) (pa_cons (pv 2) pa_nil) (hk := by omega)))) (pss_one (ps_ret pe_bl)) pss_nil)))
      (pss_one (ps_ret pe_bl)), ?_⟩
    refine ⟨_, rfl, (j : Int), rfl, by omega, by omega, ?_⟩
    rw [Int.toNat_natCast]
    refine for_range (lo := 0) (n := j) (fun i σ H' => ∃ (y : Option V) (fs' : List (Str × V)) (s' : PlS), σ = [some (.ref p), some (.int (j : Int)), some v, y] ∧ Fr3 p wl sl H H' ∧ PlP K C m H' p wl bl sl dx fs' s' ∧ Res m (List.replicate i b).flatten s s' true) ⟨none, fs, s, rfl, Fr3.refl _ _ _ _, S, .nil ho⟩ (fun i σ H' hi h' => ?_) (fun σ H' h' => ?_)
    · obtain ⟨y, fs', s', rfl, f, S', R⟩ := h'
      have e1 : (List.replicate (i + 1) b).flatten = (List.replicate i b).flatten ++ b := by rw [List.replicate_succ', List.flatten_append]; simp
      refine ⟨_, rfl, p, dx, fs', rfl, S'.ob, no_pl S'.no "do_block", _, rfl, m, p, wl, bl, sl, dx, fs', s', v, b, rfl, S', R.go.2, dp_tupN (S.tups f) hD (.tup (nl_pts b)), ok, fun H2 fs2 s2 r f2 S2 R2 => ⟨_, rfl, ?_⟩⟩
      cases r with
      | true => exact ifF rfl ⟨_, fs2, s2, rfl, f.trans f2, S2, by rw [e1]; exact R.app R2⟩
      | false =>
        refine ifT rfl (q _ fs2 s2 false (f.trans f2) S2 ?_)
        have e2 : (List.replicate j b).flatten = (List.replicate (i + 1) b).flatten ++ (List.replicate (j - (i + 1)) b).flatten := by
          rw [← List.flatten_append, List.replicate_append_replicate]
          congr 2
          omega
        rw [e2, e1]
        exact (R.app R2).cut
    · obtain ⟨y, fs', s', rfl, f, S', R⟩ := h'
      exact q _ fs' s' true f S' R
theorem ok_wh (k : Nat) (F : DfM K C "do_while" "Player.do_while" st_m_do_while ["self", "part"]) (T : PlC K mg C) (MM : Met0 P w K mg base 1 C "may_do" (spMay K C)) (MH : Met0 P w K mg base 5 C "holds" (spHolds K C)) (MB : Met0 P w K mg base (7 + 3 * k) C "do_block" (spBlk K C k)) : Met0 P w K mg base (8 + 3 * k) C "do_while" (spWh K C k) := by
  rw [show 8 + 3 * k = (7 + 3 * k) + 1 by omega]
  refine mkMet0 F sc_m_do_while (fun vs H Q E h => ?_) (fun f cdv A outer s H vs Q E hr h => ?_)
  · obtain ⟨m, p, wl, bl, sl, dx, fs, s, v, e, g, b, rfl, _⟩ := h
    rfl
  · obtain ⟨m, p, wl, bl, sl, dx, fs, s, v, e, g, b, rfl, S, ho, hD, oke, ok, q⟩ := h
    refine ⟨_, pss_one (ps_while PassesOwn.never (pt_val pe_bl) (pss_cons (ps_if (pt_not (pt_val (pm00 MM T.cl hr (pv 0) (hk := by omega)))) (pss_one (ps_ret pe_bl)) pss_nil)
      (pss_cons (ps_if (pt_not (pt_val (pmA MH T.cl hr (pv 0) (pa_cons (pe_ix (ixT K) (pv 1) pe_int (fun _ _ => rfl)) pa_nil) (hk := by omega)))) (pss_one (ps_ret pe_bl)) pss_nil)
      (pss_one (ps_if (pt_not (pt_val (pmA MB T.cl hr (pv 0) (pa_cons (pe_ix (ixT K) (pv 1) pe_int (fun _ _ => rfl)) pa_nil) (hk := by omega)))) (pss_one (ps_ret pe_bl)) pss_nil))))), ?_⟩
    obtain ⟨c, v1, v2, v3, rfl, hY, w1, w2, w3⟩ := dp_tup3 hD
    refine ⟨fun mm σ H' => ∃ (fs' : List (Str × V)) (s' : PlS), mm = s'.n ∧ σ = [some (.ref p), some (.ref c)] ∧ Fr3 p wl sl H H' ∧ PlP K C m H' p wl bl sl dx fs' s' ∧ s'.out = false ∧ ∀ s2 r, Res m [.whileP e g b] s' s2 r → Res m [.whileP e g b] s s2 r, ⟨s.n, fs, s, rfl, rfl, Fr3.refl _ _ _ _, S, ho, fun _ _ z => z⟩, ?_⟩
    rintro mm σ H1 ⟨fs1, s1, rfl, rfl, f1, S1, ho1, RR⟩
    refine ⟨_, rfl, ifT rfl ?_⟩
    refine ⟨fun σ' H' => ∃ m', m' < s1.n ∧ ∃ (fs' : List (Str × V)) (s' : PlS), m' = s'.n ∧ σ' = [some (.ref p), some (.ref c)] ∧ Fr3 p wl sl H H' ∧ PlP K C m H' p wl bl sl dx fs' s' ∧ s'.out = false ∧ ∀ s2 r, Res m [.whileP e g b] s' s2 r → Res m [.whileP e g b] s s2 r, fun _ _ h => h, ?_⟩
    refine ⟨_, rfl, p, dx, fs1, rfl, S1.ob, no_pl S1.no "may_do", m, p, wl, bl, sl, dx, fs1, s1, rfl, S1, fun en H2 fs2 f2 S2 => ⟨_, rfl, ifT rfl (q _ fs2 _ false (f1.trans f2) S2 (RR _ _ (.dry en)))⟩, fun j en H2 fs2 f2 S2 => ⟨_, rfl, ifF rfl ?_⟩⟩
    have t2 := S.tups (f1.trans f2)
    refine ⟨_, rfl, p, dx, fs2, rfl, S2.ob, no_pl S2.no "holds", _, rfl, c, _, (1 : Int), v2, rfl, rfl, t2 _ _ hY, rfl, m, p, wl, bl, sl, dx, fs2, _, v2, e, g, rfl, S2, dp_tupN t2 w2 (nl_test e g), oke, _, rfl, ?_⟩
    cases hk : okT (s1.mc m.inp) e g with
    | false => exact ifT (by show (!okT (s1.mc m.inp) e g) = true; rw [hk]; rfl) (q _ fs2 _ true (f1.trans f2) S2 (RR _ _ (.whNo en ho1 hk)))
    | true =>
      refine ifF (by show (!okT (s1.mc m.inp) e g) = false; rw [hk]; rfl) ?_
      refine ⟨_, rfl, p, dx, fs2, rfl, S2.ob, no_pl S2.no "do_block", _, rfl, c, _, (2 : Int), v3, rfl, rfl, t2 _ _ hY, rfl, m, p, wl, bl, sl, dx, fs2, _, v3, b, rfl, S2, ho1, dp_tupN t2 w3 (.tup (nl_pts b)), ok, fun H3 fs3 s3 r f3 S3 R3 => ⟨_, rfl, ?_⟩⟩
      cases r with
      | false => exact ifT rfl (q _ fs3 s3 false (f1.trans (f2.trans f3)) S3 (RR _ _ (.whCut en hk R3)))
      | true =>
        have l3 := R3.le
        exact ifF rfl ⟨s3.n, by have : s3.n ≤ j := l3; omega, fs3, s3, rfl, rfl, f1.trans (f2.trans f3), S3, R3.go.2, fun s4 r4 R4 => RR _ _ (.whGo en hk R3 R4)⟩
end
end RH
set_option Elab.async false
set_option linter.all false
set_option maxRecDepth 100000
set_option maxHeartbeats 2000000
namespace RH
open PySem PySem.Spec PyProof.Rows L2
section
variable {P : Program} {w : World} {K : PySem.W.Frag} {mg : Str → Option Value} {base : Heap} {C : Addr}
theorem ok_part0 (F : DfM K C "do_part" "Player.do_part" st_m_do_part ["self", "part"]) (T : PlC K mg C) (MM : Met0 P w K mg base 1 C "may_do" (spMay K C)) (MW : Met0 P w K mg base 4 C "worth" (spWorthM K C 3)) (MN : Met0 P w K mg base 1 C "next_input" (spNextIn K C)) : Met0 P w K mg base 6 C "do_part" (spPart K C 0) := by
  refine mkMet0 (k := 5) F sc_m_do_part (fun vs H Q E h => ?_) (fun f cdv A outer s0 H vs Q E hr h => ?_)
  · obtain ⟨m, p, wl, bl, sl, dx, fs, s, v, pt, rfl, _⟩ := h
    rfl
  · obtain ⟨m, p, wl, bl, sl, dx, fs, s, v, pt, rfl, S, ho, hD, ok, q⟩ := h
    refine ⟨_, pss_cons (ps_set (i := 2) sc_m_do_part.nd rfl (.inl rfl) (pe_ix (ixT K) (pv 1) pe_int (fun _ _ => rfl)))
      (pss_cons (ps_if (pt_cmpR op_eq (pv 2) pe_str (nomark _)) (pss_one ps_no) pss_nil)
      (pss_cons (ps_if (PW.pt (pw_or (pt_not (pt_val (pm00 MM T.cl hr (pv 0) (hk := by omega)))) (pw_or1 (pt_cmpR op_eq (pv 2) pe_str (nomark _))))) (pss_one (ps_ret pe_bl)) pss_nil)
      (pss_cons (ps_if (pt_cmpR op_eq (pv 2) pe_str (nomark _)) (pss_one ps_no) pss_nil)
      (pss_cons (ps_if (pt_cmpR op_eq (pv 2) pe_str (nomark _)) (pss_one ps_no) pss_nil)
      (pss_cons (ps_if (pt_cmpR op_eq (pv 2) pe_str (nomark _)) (pss_one ps_no) pss_nil)
      (pss_cons (ps_if (pt_cmpR op_eq (pv 2) pe_str (nomark _)) (pss_one (ps_dput (hu_of hr) (pe_fld (pv 0) rfl) (pe_ix (ixT K) (pv 1) pe_int (fun _ _ => rfl)) (pmA MW T.cl hr (pv 0) (pa_cons (pe_ix (ixT K) (pv 1) pe_int (fun _ _ => rfl)) pa_nil) (hk := by omega)) rfl)) (pss_one (ps_if (pt_cmpR op_eq (pv 2) pe_str (nomark _)) (pss_one (ps_expr (pe_bm PySem.F.plainAttrs_list PySem.F.slot_list_append PySem.F.type_list_append mt_append (pe_fld (pv 0) rfl) (pa_cons (pmA MW T.cl hr (pv 0) (pa_cons (pe_ix (ixT K) (pv 1) pe_int (fun _ _ => rfl)) pa_nil) (hk := by omega)) pa_nil)))) (pss_one (ps_dput (hu_of hr) (pe_fld (pv 0) rfl) (pe_ix (ixT K) (pv 1) pe_int (fun _ _ => rfl)) (pm00 MN T.cl hr (pv 0) (hk := by omega)) rfl)))))
      (pss_one (ps_ret pe_bl)))))))), ?_⟩
    cases pt with
    | letP x e =>
      obtain ⟨c, v1, v2, v3, rfl, hY, w1, w2, w3⟩ := dp_tup3 hD
      obtain rfl := dp_str w1
      refine ⟨_, rfl, c, _, (0 : Int), _, rfl, rfl, hY, rfl, ?_⟩
      refine ⟨_, rfl, rfl, _, rfl, ifF (by decide +kernel) ?_⟩
      refine ⟨_, rfl, p, dx, fs, rfl, S.ob, no_pl S.no "may_do", m, p, wl, bl, sl, dx, fs, s, rfl, S, fun en H2 fs2 f2 S2 => ⟨_, rfl, ifT rfl (ifT rfl (q _ fs2 _ false f2 S2 (.dry en)))⟩, fun j0 en H2 fs2 f2 S2 => ⟨_, rfl, ifF rfl ?_⟩⟩
      have t2 := S.tups f2
      have hY2 := t2 _ _ hY
      have few2 := S2.few
      refine ⟨_, rfl, rfl, _, rfl, ifF (by decide +kernel) ?_⟩
      refine ⟨_, rfl, rfl, _, rfl, ifF (by decide +kernel) ?_⟩
      refine ⟨_, rfl, rfl, _, rfl, ifF (by decide +kernel) ?_⟩
      refine ⟨_, rfl, rfl, _, rfl, ifF (by decide +kernel) ?_⟩
      refine ⟨_, rfl, rfl, _, rfl, ifT (by decide +kernel) ?_⟩
      obtain rfl := dp_str w2
      refine ⟨_, rfl, p, dx, fs2, rfl, S2.ob, no_pl S2.no "worth", _, rfl, c, _, (2 : Int), v3, rfl, rfl, hY2, rfl, m, p, wl, bl, sl, dx, fs2, _, v3, e, rfl, S2, dp_tupN t2 w3 (nl_ex e), ok.2, ?_⟩
      obtain ⟨kvs, ek, lk, S3⟩ := S2.put_worth ok.1 (wth s.held e)
      exact ⟨_, rfl, p, C, dx, _, _, rfl, S2.ob, T.cl, T.at "worths", S2.l1, _, rfl, c, _, (1 : Int), _, rfl, rfl, hY2, rfl, wl, _, rfl, .inl ⟨kvs, .inr (nmS x), ek, rfl, lk, rfl⟩, q _ fs2 _ true (f2.trans Fr3.t) S3 (.letP en ho)⟩
    | sayP e =>
      obtain ⟨c, v1, v2, rfl, hY, w1, w2⟩ := dp_two hD
      obtain rfl := dp_str w1
      refine ⟨_, rfl, c, _, (0 : Int), _, rfl, rfl, hY, rfl, ?_⟩
      refine ⟨_, rfl, rfl, _, rfl, ifF (by decide +kernel) ?_⟩
      refine ⟨_, rfl, p, dx, fs, rfl, S.ob, no_pl S.no "may_do", m, p, wl, bl, sl, dx, fs, s, rfl, S, fun en H2 fs2 f2 S2 => ⟨_, rfl, ifT rfl (ifT rfl (q _ fs2 _ false f2 S2 (.dry en)))⟩, fun j0 en H2 fs2 f2 S2 => ⟨_, rfl, ifF rfl ?_⟩⟩
      have t2 := S.tups f2
      have hY2 := t2 _ _ hY
      have few2 := S2.few
      refine ⟨_, rfl, rfl, _, rfl, ifF (by decide +kernel) ?_⟩
      refine ⟨_, rfl, rfl, _, rfl, ifF (by decide +kernel) ?_⟩
      refine ⟨_, rfl, rfl, _, rfl, ifF (by decide +kernel) ?_⟩
      refine ⟨_, rfl, rfl, _, rfl, ifF (by decide +kernel) ?_⟩
      refine ⟨_, rfl, rfl, _, rfl, ifF (by decide +kernel) ?_⟩
      refine ⟨_, rfl, rfl, _, rfl, ifT (by decide +kernel) ?_⟩
      refine ⟨_, rfl, p, C, dx, _, _, rfl, S2.ob, T.cl, T.at "said", S2.l7, .inl ⟨rfl, _, lstAt S2.sd⟩, _, rfl, p, dx, fs2, rfl, S2.ob, no_pl S2.no "worth", _, rfl, c, _, (1 : Int), v2, rfl, rfl, hY2, rfl, m, p, wl, bl, sl, dx, fs2, _, v2, e, rfl, S2, dp_tupN t2 w2 (nl_ex e), ok, ?_⟩
      have sb := S.sb
      have S3 := S2.put_said (wth s.held e) (by show s.said.length + 1 + j0 ≤ 5000; omega)
      exact ⟨sl, _, _, rfl, rfl, S2.sd, by rw [List.length_map, sizeLine_eq]; show s.said.length < _; omega, q _ fs2 _ true (f2.trans Fr3.l) S3 (.sayP en ho)⟩
    | askP x =>
      obtain ⟨c, v1, v2, rfl, hY, w1, w2⟩ := dp_two hD
      obtain rfl := dp_str w1
      refine ⟨_, rfl, c, _, (0 : Int), _, rfl, rfl, hY, rfl, ?_⟩
      refine ⟨_, rfl, rfl, _, rfl, ifF (by decide +kernel) ?_⟩
      refine ⟨_, rfl, p, dx, fs, rfl, S.ob, no_pl S.no "may_do", m, p, wl, bl, sl, dx, fs, s, rfl, S, fun en H2 fs2 f2 S2 => ⟨_, rfl, ifT rfl (ifT rfl (q _ fs2 _ false f2 S2 (.dry en)))⟩, fun j0 en H2 fs2 f2 S2 => ⟨_, rfl, ifF rfl ?_⟩⟩
      have t2 := S.tups f2
      have hY2 := t2 _ _ hY
      have few2 := S2.few
      refine ⟨_, rfl, rfl, _, rfl, ifF (by decide +kernel) ?_⟩
      refine ⟨_, rfl, rfl, _, rfl, ifF (by decide +kernel) ?_⟩
      refine ⟨_, rfl, rfl, _, rfl, ifF (by decide +kernel) ?_⟩
      refine ⟨_, rfl, rfl, _, rfl, ifF (by decide +kernel) ?_⟩
      refine ⟨_, rfl, rfl, _, rfl, ifF (by decide +kernel) ?_⟩
      refine ⟨_, rfl, rfl, _, rfl, ifF (by decide +kernel) ?_⟩
      obtain rfl := dp_str w2
      refine ⟨_, rfl, p, dx, fs2, rfl, S2.ob, no_pl S2.no "next_input", m, p, wl, bl, sl, dx, fs2, _, rfl, S2, fun H3 fs3 f3 S3 => ?_⟩
      obtain ⟨kvs, ek, lk, S4⟩ := S3.put_worth ok ((m.inp.drop s.asked).headD 0)
      exact ⟨_, rfl, p, C, dx, _, _, rfl, S3.ob, T.cl, T.at "worths", S3.l1, _, rfl, c, _, (1 : Int), _, rfl, rfl, S2.tups f3 _ _ hY2, rfl, wl, _, rfl, .inl ⟨kvs, .inr (nmS x), ek, rfl, lk, rfl⟩, q _ fs3 _ true (f2.trans (f3.trans Fr3.t)) S4 (.askP en ho S.asl)⟩
    | stopP =>
      obtain ⟨c, v1, rfl, hY, w1⟩ := dp_one hD
      obtain rfl := dp_str w1
      refine ⟨_, rfl, c, _, (0 : Int), _, rfl, rfl, hY, rfl, ?_⟩
      refine ⟨_, rfl, rfl, _, rfl, ifF (by decide +kernel) ?_⟩
      refine ⟨_, rfl, p, dx, fs, rfl, S.ob, no_pl S.no "may_do", m, p, wl, bl, sl, dx, fs, s, rfl, S, fun en H2 fs2 f2 S2 => ⟨_, rfl, ifT rfl (ifT rfl (q _ fs2 _ false f2 S2 (.dry en)))⟩, fun j0 en H2 fs2 f2 S2 => ⟨_, rfl, ifF rfl ?_⟩⟩
      have t2 := S.tups f2
      have hY2 := t2 _ _ hY
      have few2 := S2.few
      exact ⟨_, rfl, rfl, _, rfl, ifT (by decide +kernel) (q _ fs2 _ false f2 S2 (.stopP en ho))⟩
    | doP q0 =>
      exact ok.elim
    | ifP e g ba bb =>
      exact ok.elim
    | whileP e g ba =>
      exact ok.elim
    | repP j ba =>
      exact ok.elim
theorem ok_partS (k : Nat) (F : DfM K C "do_part" "Player.do_part" st_m_do_part ["self", "part"]) (T : PlC K mg C) (MM : Met0 P w K mg base 1 C "may_do" (spMay K C)) (MW : Met0 P w K mg base 4 C "worth" (spWorthM K C 3)) (MN : Met0 P w K mg base 1 C "next_input" (spNextIn K C)) (MH : Met0 P w K mg base 5 C "holds" (spHolds K C))
    (MB : Met0 P w K mg base (7 + 3 * k) C "do_block" (spBlk K C k)) (MR : Met0 P w K mg base (8 + 3 * k) C "do_rounds" (spRd K C k)) (MWh : Met0 P w K mg base (8 + 3 * k) C "do_while" (spWh K C k)) : Met0 P w K mg base (6 + 3 * (k + 1)) C "do_part" (spPart K C (k + 1)) := by
  rw [show 6 + 3 * (k + 1) = (8 + 3 * k) + 1 by omega]
  refine mkMet0 F sc_m_do_part (fun vs H Q E h => ?_) (fun f cdv A outer s0 H vs Q E hr h => ?_)
  · obtain ⟨m, p, wl, bl, sl, dx, fs, s, v, pt, rfl, _⟩ := h
    rfl
  · obtain ⟨m, p, wl, bl, sl, dx, fs, s, v, pt, rfl, S, ho, hD, ok, q⟩ := h
    refine ⟨_, pss_cons (ps_set (i := 2) sc_m_do_part.nd rfl (.inl rfl) (pe_ix (ixT K) (pv 1) pe_int (fun _ _ => rfl)))
      (pss_cons (ps_if (pt_cmpR op_eq (pv 2) pe_str (nomark _)) (pss_one (ps_ret (pmA MWh T.cl hr (pv 0) (pa_cons (pv 1) pa_nil) (hk := by omega)))) pss_nil)
      (pss_cons (ps_if (PW.pt (pw_or (pt_not (pt_val (pm00 MM T.cl hr (pv 0) (hk := by omega)))) (pw_or1 (pt_cmpR op_eq (pv 2) pe_str (nomark _))))) (pss_one (ps_ret pe_bl)) pss_nil)
      (pss_cons (ps_if (pt_cmpR op_eq (pv 2) pe_str (nomark _)) (pss_one (ps_ret (pmA MB T.cl hr (pv 0) (pa_cons (pe_ifExp (pt_val (pmA MH T.cl hr (pv 0) (pa_cons (pe_ix (ixT K) (pv 1) pe_int (fun _ _ => rfl)) pa_nil) (hk := by omega))) (pe_ix (ixT K) (pv 1) pe_int (fun _ _ => rfl)) (pe_ix (ixT K) (pv 1) pe_int (fun _ _ => rfl))) pa_nil) (hk := by omega)))) pss_nil)
      (pss_cons (ps_if (pt_cmpR op_eq (pv 2) pe_str (nomark _)) (pss_one (ps_ret (pmA MR T.cl hr (pv 0) (pa_cons (pe_ix (ixT K) (pv 1) pe_int (fun _ _ => rfl)) (pa_cons (pe_ix (ixT K) (pv 1) pe_int (fun _ _ => rfl)) pa_nil)) (hk := by omega)))) pss_nil)
      (pss_cons (ps_if (pt_cmpR op_eq (pv 2) pe_str (nomark _)) (pss_one (ps_ret (pmA MB T.cl hr (pv 0) (pa_cons (pe_dget (hu_of hr) (pe_fld (pv 0) rfl) (pe_ix (ixT K) (pv 1) pe_int (fun _ _ => rfl)) (fun _ _ => rfl)) pa_nil) (hk := by omega)))) pss_nil)
      (pss_cons (ps_if (pt_cmpR op_eq (pv 2) pe_str (nomark _)) (pss_one (ps_dput (hu_of hr) (pe_fld (pv 0) rfl) (pe_ix (ixT K) (pv 1) pe_int (fun _ _ => rfl)) (pmA MW T.cl hr (pv 0) (pa_cons (pe_ix (ixT K) (pv 1) pe_int (fun _ _ => rfl)) pa_nil) (hk := by omega)) rfl)) (pss_one (ps_if (pt_cmpR op_eq (pv 2) pe_str (nomark _)) (pss_one (ps_expr (pe_bm PySem.F.plainAttrs_list PySem.F.slot_list_append PySem.F.type_list_append mt_append (pe_fld (pv 0) rfl) (pa_cons (pmA MW T.cl hr (pv 0) (pa_cons (pe_ix (ixT K) (pv 1) pe_int (fun _ _ => rfl)) pa_nil) (hk := by omega)) pa_nil)))) (pss_one (ps_dput (hu_of hr) (pe_fld (pv 0) rfl) (pe_ix (ixT K) (pv 1) pe_int (fun _ _ => rfl)) (pm00 MN T.cl hr (pv 0) (hk := by omega)) rfl)))))
      (pss_one (ps_ret pe_bl)))))))), ?_⟩
    cases pt with
    | letP x e =>
      obtain ⟨c, v1, v2, v3, rfl, hY, w1, w2, w3⟩ := dp_tup3 hD
      obtain rfl := dp_str w1
      refine ⟨_, rfl, c, _, (0 : Int), _, rfl, rfl, hY, rfl, ?_⟩
      refine ⟨_, rfl, rfl, _, rfl, ifF (by decide +kernel) ?_⟩
      refine ⟨_, rfl, p, dx, fs, rfl, S.ob, no_pl S.no "may_do", m, p, wl, bl, sl, dx, fs, s, rfl, S, fun en H2 fs2 f2 S2 => ⟨_, rfl, ifT rfl (ifT rfl (q _ fs2 _ false f2 S2 (.dry en)))⟩, fun j0 en H2 fs2 f2 S2 => ⟨_, rfl, ifF rfl ?_⟩⟩
      have t2 := S.tups f2
      have hY2 := t2 _ _ hY
      have few2 := S2.few
      refine ⟨_, rfl, rfl, _, rfl, ifF (by decide +kernel) ?_⟩
      refine ⟨_, rfl, rfl, _, rfl, ifF (by decide +kernel) ?_⟩
      refine ⟨_, rfl, rfl, _, rfl, ifF (by decide +kernel) ?_⟩
      refine ⟨_, rfl, rfl, _, rfl, ifF (by decide +kernel) ?_⟩
      refine ⟨_, rfl, rfl, _, rfl, ifT (by decide +kernel) ?_⟩
      obtain rfl := dp_str w2
      refine ⟨_, rfl, p, dx, fs2, rfl, S2.ob, no_pl S2.no "worth", _, rfl, c, _, (2 : Int), v3, rfl, rfl, hY2, rfl, m, p, wl, bl, sl, dx, fs2, _, v3, e, rfl, S2, dp_tupN t2 w3 (nl_ex e), ok.2, ?_⟩
      obtain ⟨kvs, ek, lk, S3⟩ := S2.put_worth ok.1 (wth s.held e)
      exact ⟨_, rfl, p, C, dx, _, _, rfl, S2.ob, T.cl, T.at "worths", S2.l1, _, rfl, c, _, (1 : Int), _, rfl, rfl, hY2, rfl, wl, _, rfl, .inl ⟨kvs, .inr (nmS x), ek, rfl, lk, rfl⟩, q _ fs2 _ true (f2.trans Fr3.t) S3 (.letP en ho)⟩
    | sayP e =>
      obtain ⟨c, v1, v2, rfl, hY, w1, w2⟩ := dp_two hD
      obtain rfl := dp_str w1
      refine ⟨_, rfl, c, _, (0 : Int), _, rfl, rfl, hY, rfl, ?_⟩
      refine ⟨_, rfl, rfl, _, rfl, ifF (by decide +kernel) ?_⟩
      refine ⟨_, rfl, p, dx, fs, rfl, S.ob, no_pl S.no "may_do", m, p, wl, bl, sl, dx, fs, s, rfl, S, fun en H2 fs2 f2 S2 => ⟨_, rfl, ifT rfl (ifT rfl (q _ fs2 _ false f2 S2 (.dry en)))⟩, fun j0 en H2 fs2 f2 S2 => ⟨_, rfl, ifF rfl ?_⟩⟩
      have t2 := S.tups f2
      have hY2 := t2 _ _ hY
      have few2 := S2.few
      refine ⟨_, rfl, rfl, _, rfl, ifF (by decide +kernel) ?_⟩
      refine ⟨_, rfl, rfl, _, rfl, ifF (by decide +kernel) ?_⟩
      refine ⟨_, rfl, rfl, _, rfl, ifF (by decide +kernel) ?_⟩
      refine ⟨_, rfl, rfl, _, rfl, ifF (by decide +kernel) ?_⟩
      refine ⟨_, rfl, rfl, _, rfl, ifF (by decide +kernel) ?_⟩
      refine ⟨_, rfl, rfl, _, rfl, ifT (by decide +kernel) ?_⟩
      refine ⟨_, rfl, p, C, dx, _, _, rfl, S2.ob, T.cl, T.at "said", S2.l7, .inl ⟨rfl, _, lstAt S2.sd⟩, _, rfl, p, dx, fs2, rfl, S2.ob, no_pl S2.no "worth", _, rfl, c, _, (1 : Int), v2, rfl, rfl, hY2, rfl, m, p, wl, bl, sl, dx, fs2, _, v2, e, rfl, S2, dp_tupN t2 w2 (nl_ex e), ok, ?_⟩
      have sb := S.sb
      have S3 := S2.put_said (wth s.held e) (by show s.said.length + 1 + j0 ≤ 5000; omega)
      exact ⟨sl, _, _, rfl, rfl, S2.sd, by rw [List.length_map, sizeLine_eq]; show s.said.length < _; omega, q _ fs2 _ true (f2.trans Fr3.l) S3 (.sayP en ho)⟩
    | askP x =>
      obtain ⟨c, v1, v2, rfl, hY, w1, w2⟩ := dp_two hD
      obtain rfl := dp_str w1
      refine ⟨_, rfl, c, _, (0 : Int), _, rfl, rfl, hY, rfl, ?_⟩
      refine ⟨_, rfl, rfl, _, rfl, ifF (by decide +kernel) ?_⟩
      refine ⟨_, rfl, p, dx, fs, rfl, S.ob, no_pl S.no "may_do", m, p, wl, bl, sl, dx, fs, s, rfl, S, fun en H2 fs2 f2 S2 => ⟨_, rfl, ifT rfl (ifT rfl (q _ fs2 _ false f2 S2 (.dry en)))⟩, fun j0 en H2 fs2 f2 S2 => ⟨_, rfl, ifF rfl ?_⟩⟩
      have t2 := S.tups f2
      have hY2 := t2 _ _ hY
      have few2 := S2.few
      refine ⟨_, rfl, rfl, _, rfl, ifF (by decide +kernel) ?_⟩
      refine ⟨_, rfl, rfl, _, rfl, ifF (by decide +kernel) ?_⟩
      refine ⟨_, rfl, rfl, _, rfl, ifF (by decide +kernel) ?_⟩
      refine ⟨_, rfl, rfl, _, rfl, ifF (by decide +kernel) ?_⟩
      refine ⟨_, rfl, rfl, _, rfl, ifF (by decide +kernel) ?_⟩
      refine ⟨_, rfl, rfl, _, rfl, ifF (by decide +kernel) ?_⟩
      obtain rfl := dp_str w2
      refine ⟨_, rfl, p, dx, fs2, rfl, S2.ob, no_pl S2.no "next_input", m, p, wl, bl, sl, dx, fs2, _, rfl, S2, fun H3 fs3 f3 S3 => ?_⟩
      obtain ⟨kvs, ek, lk, S4⟩ := S3.put_worth ok ((m.inp.drop s.asked).headD 0)
      exact ⟨_, rfl, p, C, dx, _, _, rfl, S3.ob, T.cl, T.at "worths", S3.l1, _, rfl, c, _, (1 : Int), _, rfl, rfl, S2.tups f3 _ _ hY2, rfl, wl, _, rfl, .inl ⟨kvs, .inr (nmS x), ek, rfl, lk, rfl⟩, q _ fs3 _ true (f2.trans (f3.trans Fr3.t)) S4 (.askP en ho S.asl)⟩
    | stopP =>
      obtain ⟨c, v1, rfl, hY, w1⟩ := dp_one hD
      obtain rfl := dp_str w1
      refine ⟨_, rfl, c, _, (0 : Int), _, rfl, rfl, hY, rfl, ?_⟩
      refine ⟨_, rfl, rfl, _, rfl, ifF (by decide +kernel) ?_⟩
      refine ⟨_, rfl, p, dx, fs, rfl, S.ob, no_pl S.no "may_do", m, p, wl, bl, sl, dx, fs, s, rfl, S, fun en H2 fs2 f2 S2 => ⟨_, rfl, ifT rfl (ifT rfl (q _ fs2 _ false f2 S2 (.dry en)))⟩, fun j0 en H2 fs2 f2 S2 => ⟨_, rfl, ifF rfl ?_⟩⟩
      have t2 := S.tups f2
      have hY2 := t2 _ _ hY
      have few2 := S2.few
      exact ⟨_, rfl, rfl, _, rfl, ifT (by decide +kernel) (q _ fs2 _ false f2 S2 (.stopP en ho))⟩
    | doP q0 =>
      obtain ⟨c, v1, v2, rfl, hY, w1, w2⟩ := dp_two hD
      obtain rfl := dp_str w1
      refine ⟨_, rfl, c, _, (0 : Int), _, rfl, rfl, hY, rfl, ?_⟩
      refine ⟨_, rfl, rfl, _, rfl, ifF (by decide +kernel) ?_⟩
      refine ⟨_, rfl, p, dx, fs, rfl, S.ob, no_pl S.no "may_do", m, p, wl, bl, sl, dx, fs, s, rfl, S, fun en H2 fs2 f2 S2 => ⟨_, rfl, ifT rfl (ifT rfl (q _ fs2 _ false f2 S2 (.dry en)))⟩, fun j0 en H2 fs2 f2 S2 => ⟨_, rfl, ifF rfl ?_⟩⟩
      have t2 := S.tups f2
      have hY2 := t2 _ _ hY
      have few2 := S2.few
      refine ⟨_, rfl, rfl, _, rfl, ifF (by decide +kernel) ?_⟩
      refine ⟨_, rfl, rfl, _, rfl, ifF (by decide +kernel) ?_⟩
      refine ⟨_, rfl, rfl, _, rfl, ifF (by decide +kernel) ?_⟩
      refine ⟨_, rfl, rfl, _, rfl, ifT (by decide +kernel) ?_⟩
      obtain rfl := dp_str w2
      obtain ⟨kvs, eP, hP2⟩ := S2.bd
      obtain ⟨bv, hbv, dB⟩ := hP2 q0 (bdO m.bs q0) (bdO_at ok.1)
      exact ⟨_, rfl, p, dx, fs2, rfl, S2.ob, no_pl S2.no "do_block", _, rfl, p, C, dx, _, _, rfl, S2.ob, T.cl, T.at "bodies", S2.l2, _, rfl, c, _, (1 : Int), _, rfl, rfl, hY2, rfl, bl, _, rfl, .inl ⟨kvs, .inr (pcS60 q0), .inl eP, rfl, hbv.symm⟩, m, p, wl, bl, sl, dx, fs2, _, bv, bdO m.bs q0, rfl, S2, ho, dB, ok.2, fun H3 fs3 s3 r f3 S3 R3 => q _ fs3 s3 r (f2.trans f3) S3 (.doP en R3)⟩
    | ifP e g ba bb =>
      obtain ⟨c, v1, v2, v3, v4, rfl, hY, w1, w2, w3, w4⟩ := dp_four hD
      obtain rfl := dp_str w1
      refine ⟨_, rfl, c, _, (0 : Int), _, rfl, rfl, hY, rfl, ?_⟩
      refine ⟨_, rfl, rfl, _, rfl, ifF (by decide +kernel) ?_⟩
      refine ⟨_, rfl, p, dx, fs, rfl, S.ob, no_pl S.no "may_do", m, p, wl, bl, sl, dx, fs, s, rfl, S, fun en H2 fs2 f2 S2 => ⟨_, rfl, ifT rfl (ifT rfl (q _ fs2 _ false f2 S2 (.dry en)))⟩, fun j0 en H2 fs2 f2 S2 => ⟨_, rfl, ifF rfl ?_⟩⟩
      have t2 := S.tups f2
      have hY2 := t2 _ _ hY
      have few2 := S2.few
      refine ⟨_, rfl, rfl, _, rfl, ifF (by decide +kernel) ?_⟩
      refine ⟨_, rfl, rfl, _, rfl, ifT (by decide +kernel) ?_⟩
      refine ⟨_, rfl, p, dx, fs2, rfl, S2.ob, no_pl S2.no "do_block", _, rfl, p, dx, fs2, rfl, S2.ob, no_pl S2.no "holds", _, rfl, c, _, (1 : Int), v2, rfl, rfl, hY2, rfl, m, p, wl, bl, sl, dx, fs2, _, v2, e, g, rfl, S2, dp_tupN t2 w2 (nl_test e g), ok.1, _, rfl, ?_⟩
      cases hk : okT (s.mc m.inp) e g with
      | true =>
        exact ifT hk ⟨_, rfl, c, _, (2 : Int), v3, rfl, rfl, hY2, rfl, m, p, wl, bl, sl, dx, fs2, _, v3, ba, rfl, S2, ho, dp_tupN t2 w3 (.tup (nl_pts ba)), ok.2.1, fun H3 fs3 s3 r f3 S3 R3 => q _ fs3 s3 r (f2.trans f3) S3 (.ifP en (by rw [if_pos hk]; exact R3))⟩
      | false =>
        exact ifF hk ⟨_, rfl, c, _, (3 : Int), v4, rfl, rfl, hY2, rfl, m, p, wl, bl, sl, dx, fs2, _, v4, bb, rfl, S2, ho, dp_tupN t2 w4 (.tup (nl_pts bb)), ok.2.2, fun H3 fs3 s3 r f3 S3 R3 => q _ fs3 s3 r (f2.trans f3) S3 (.ifP en (by rw [if_neg (by rw [hk]; decide)]; exact R3))⟩
    | whileP e g ba =>
      obtain ⟨c, v1, v2, v3, rfl, hY, w1, w2, w3⟩ := dp_tup3 hD
      obtain rfl := dp_str w1
      refine ⟨_, rfl, c, _, (0 : Int), _, rfl, rfl, hY, rfl, ?_⟩
      refine ⟨_, rfl, rfl, _, rfl, ifT (by decide +kernel) ?_⟩
      exact ⟨_, rfl, p, dx, fs, rfl, S.ob, no_pl S.no "do_while", _, rfl, m, p, wl, bl, sl, dx, fs, s, _, e, g, ba, rfl, S, ho, hD, ok.1, ok.2, q⟩
    | repP j ba =>
      obtain ⟨c, v1, v2, v3, rfl, hY, w1, w2, w3⟩ := dp_tup3 hD
      obtain rfl := dp_str w1
      refine ⟨_, rfl, c, _, (0 : Int), _, rfl, rfl, hY, rfl, ?_⟩
      refine ⟨_, rfl, rfl, _, rfl, ifF (by decide +kernel) ?_⟩
      refine ⟨_, rfl, p, dx, fs, rfl, S.ob, no_pl S.no "may_do", m, p, wl, bl, sl, dx, fs, s, rfl, S, fun en H2 fs2 f2 S2 => ⟨_, rfl, ifT rfl (ifT rfl (q _ fs2 _ false f2 S2 (.dry en)))⟩, fun j0 en H2 fs2 f2 S2 => ⟨_, rfl, ifF rfl ?_⟩⟩
      have t2 := S.tups f2
      have hY2 := t2 _ _ hY
      have few2 := S2.few
      refine ⟨_, rfl, rfl, _, rfl, ifF (by decide +kernel) ?_⟩
      refine ⟨_, rfl, rfl, _, rfl, ifF (by decide +kernel) ?_⟩
      refine ⟨_, rfl, rfl, _, rfl, ifT (by decide +kernel) ?_⟩
      obtain rfl := dp_int w2
      exact ⟨_, rfl, p, dx, fs2, rfl, S2.ob, no_pl S2.no "do_rounds", _, rfl, c, _, (1 : Int), _, rfl, rfl, hY2, rfl, _, rfl, c, _, (2 : Int), v3, rfl, rfl, hY2, rfl, m, p, wl, bl, sl, dx, fs2, _, j, v3, ba, rfl, S2, ho, ok.1, dp_tupN t2 w3 (.tup (nl_pts ba)), ok.2, fun H3 fs3 s3 r f3 S3 R3 => q _ fs3 s3 r (f2.trans f3) S3 (.repP en R3)⟩
end
end RH
set_option Elab.async false
set_option linter.all false
set_option maxRecDepth 100000
set_option maxHeartbeats 2000000
namespace RH
open PySem PySem.Spec PyProof.Rows L2
/-! ### a player is made -/
theorem putF_le {f : Str} {v : V} : ∀ fs : List (Str × V), (putF f v fs).length ≤ fs.length + 1
  | [] => Nat.le_refl _
  | (g, x) :: r => by
    unfold putF
    by_cases e : g = f
    · rw [if_pos e]
      exact Nat.le_succ _
    · rw [if_neg e]
      have := putF_le (f := f) (v := v) r
      rw [List.length_cons, List.length_cons]
      omega
theorem putF_few {f : Str} {v : V} {fs : List (Str × V)} {n : Nat} (h : fs.length ≤ n) : (putF f v fs).length ≤ n + 1 := Nat.le_trans (putF_le fs) (Nat.succ_le_succ h)
/-- its fields, as they are set one after another -/
def FPl (wl bl sl : Addr) (iv : V) (n : Nat) : List (Str × V) := (putF "said" (.ref sl) (putF "has_run_out" (.bl false) (putF "doings_left" (.int (n : Nat)) (putF "asked" (.int (0 : Nat)) (putF "inputs" (iv) (putF "bodies" (.ref bl) (putF "worths" (.ref wl) [])))))))
section
variable {wl bl sl : Addr} {iv : V} {n : Nat}
theorem FPl_1 : (FPl wl bl sl iv n).lookup ("worths" : Str) = some (.ref wl) := by
  unfold FPl
  rw [lookup_putF, if_neg (by decide +kernel)]
  rw [lookup_putF, if_neg (by decide +kernel)]
  rw [lookup_putF, if_neg (by decide +kernel)]
  rw [lookup_putF, if_neg (by decide +kernel)]
  rw [lookup_putF, if_neg (by decide +kernel)]
  rw [lookup_putF, if_neg (by decide +kernel)]
  rw [lookup_putF, if_pos rfl]
theorem FPl_2 : (FPl wl bl sl iv n).lookup ("bodies" : Str) = some (.ref bl) := by
  unfold FPl
  rw [lookup_putF, if_neg (by decide +kernel)]
  rw [lookup_putF, if_neg (by decide +kernel)]
  rw [lookup_putF, if_neg (by decide +kernel)]
  rw [lookup_putF, if_neg (by decide +kernel)]
  rw [lookup_putF, if_neg (by decide +kernel)]
  rw [lookup_putF, if_pos rfl]
theorem FPl_3 : (FPl wl bl sl iv n).lookup ("inputs" : Str) = some (iv) := by
  unfold FPl
  rw [lookup_putF, if_neg (by decide +kernel)]
  rw [lookup_putF, if_neg (by decide +kernel)]
  rw [lookup_putF, if_neg (by decide +kernel)]
  rw [lookup_putF, if_neg (by decide +kernel)]
  rw [lookup_putF, if_pos rfl]
theorem FPl_4 : (FPl wl bl sl iv n).lookup ("asked" : Str) = some (.int (0 : Nat)) := by
  unfold FPl
  rw [lookup_putF, if_neg (by decide +kernel)]
  rw [lookup_putF, if_neg (by decide +kernel)]
  rw [lookup_putF, if_neg (by decide +kernel)]
  rw [lookup_putF, if_pos rfl]
theorem FPl_5 : (FPl wl bl sl iv n).lookup ("doings_left" : Str) = some (.int (n : Nat)) := by
  unfold FPl
  rw [lookup_putF, if_neg (by decide +kernel)]
  rw [lookup_putF, if_neg (by decide +kernel)]
  rw [lookup_putF, if_pos rfl]
theorem FPl_6 : (FPl wl bl sl iv n).lookup ("has_run_out" : Str) = some (.bl false) := by
  unfold FPl
  rw [lookup_putF, if_neg (by decide +kernel)]
  rw [lookup_putF, if_pos rfl]
theorem FPl_7 : (FPl wl bl sl iv n).lookup ("said" : Str) = some (.ref sl) := by
  unfold FPl
  rw [lookup_putF, if_pos rfl]
theorem FPl_no : ∀ f ∈ plMets, (FPl wl bl sl iv n).lookup f = none := fun f hf => by
  have ne : ∀ f ∈ plMets, ∀ a ∈ plAttrs, ¬ f = a := by decide +kernel
  have n := ne f hf
  unfold FPl
  rw [lookup_putF, if_neg (n "said" (by decide +kernel))]
  rw [lookup_putF, if_neg (n "has_run_out" (by decide +kernel))]
  rw [lookup_putF, if_neg (n "doings_left" (by decide +kernel))]
  rw [lookup_putF, if_neg (n "asked" (by decide +kernel))]
  rw [lookup_putF, if_neg (n "inputs" (by decide +kernel))]
  rw [lookup_putF, if_neg (n "bodies" (by decide +kernel))]
  rw [lookup_putF, if_neg (n "worths" (by decide +kernel))]
  rfl
theorem FPl_len0 (wl bl sl : Addr) (iv : V) (n : Nat) : ([] : List (Str × V)).length ≤ 0 := Nat.le_refl 0
theorem FPl_len1 (wl bl sl : Addr) (iv : V) (n : Nat) : ((putF "worths" (.ref wl) []) : List (Str × V)).length ≤ 1 := putF_few (Nat.le_refl 0)
theorem FPl_len2 (wl bl sl : Addr) (iv : V) (n : Nat) : ((putF "bodies" (.ref bl) (putF "worths" (.ref wl) [])) : List (Str × V)).length ≤ 2 := putF_few (putF_few (Nat.le_refl 0))
theorem FPl_len3 (wl bl sl : Addr) (iv : V) (n : Nat) : ((putF "inputs" (iv) (putF "bodies" (.ref bl) (putF "worths" (.ref wl) []))) : List (Str × V)).length ≤ 3 := putF_few (putF_few (putF_few (Nat.le_refl 0)))
theorem FPl_len4 (wl bl sl : Addr) (iv : V) (n : Nat) : ((putF "asked" (.int (0 : Nat)) (putF "inputs" (iv) (putF "bodies" (.ref bl) (putF "worths" (.ref wl) [])))) : List (Str × V)).length ≤ 4 := putF_few (putF_few (putF_few (putF_few (Nat.le_refl 0))))
theorem FPl_len5 (wl bl sl : Addr) (iv : V) (n : Nat) : ((putF "doings_left" (.int (n : Nat)) (putF "asked" (.int (0 : Nat)) (putF "inputs" (iv) (putF "bodies" (.ref bl) (putF "worths" (.ref wl) []))))) : List (Str × V)).length ≤ 5 := putF_few (putF_few (putF_few (putF_few (putF_few (Nat.le_refl 0)))))
theorem FPl_len6 (wl bl sl : Addr) (iv : V) (n : Nat) : ((putF "has_run_out" (.bl false) (putF "doings_left" (.int (n : Nat)) (putF "asked" (.int (0 : Nat)) (putF "inputs" (iv) (putF "bodies" (.ref bl) (putF "worths" (.ref wl) [])))))) : List (Str × V)).length ≤ 6 := putF_few (putF_few (putF_few (putF_few (putF_few (putF_few (Nat.le_refl 0))))))
theorem FPl_len7 (wl bl sl : Addr) (iv : V) (n : Nat) : ((putF "said" (.ref sl) (putF "has_run_out" (.bl false) (putF "doings_left" (.int (n : Nat)) (putF "asked" (.int (0 : Nat)) (putF "inputs" (iv) (putF "bodies" (.ref bl) (putF "worths" (.ref wl) []))))))) : List (Str × V)).length ≤ 7 := putF_few (putF_few (putF_few (putF_few (putF_few (putF_few (putF_few (Nat.le_refl 0)))))))
end
section
variable {K : PySem.W.Frag} {C : Addr} {H H' : Hp} {p dx : Addr} {fs : List (Str × V)}
theorem tups_at (hp : H p = some (.ins C dx fs)) (f : ∀ b o, H b = some o → b ≠ p → H' b = some o) : Tups K H H' := fun b xs e => by
  rcases e with (e | ⟨ob, e⟩) | e
  · exact .inl (.inl (f _ _ e (ne_of e hp (fun z => nomatch z))))
  · exact .inl (.inr ⟨ob, f _ _ e (ne_of e hp (fun z => nomatch z))⟩)
  · exact .inr e
end
/-- C(..) by its __init__ -/
structure MkX (P : Program) (w : World) (K : PySem.W.Frag) (mg : Str → Option Value) (base : Heap) (k : Nat) (C : Addr) (sp : Sp) : Prop where
  ex : ∃ (f : Addr) (fd : FuncData) (ps : List Str), FnOk P w K mg base CX0 k f fd ps sp ∧ Mk K C f ∧ Binds K fd ps []
structure DfI (K : PySem.W.Frag) (C : Addr) (q : Str) (st : Stmt) (ps : List Str) : Prop where
  ex : ∃ (f : Addr) (fd : FuncData), Fun K "__init__" q st f fd ∧ Mk K C f ∧ Binds K fd ps []
section
variable {X : Cx} {C : Addr} {x : Str} {sp : Sp} {k j : Nat} {p pos : Pos} {e : Expr} {es : List Expr} {t : TA}
theorem pmk (M : MkX X.prog X.w X.K X.mg X.base k C sp) (hm : X.mg x = some (.ref C)) (hr : Room j X.A) (ha : PA X (e :: es) t) (hk : k + 1 ≤ j := by decide) (hg : Gl X x := by rfl)
    (hdb : (x == ("__debug__" : Str)) = false := by decide) (he : starEach (e :: es) X.env = (false, eval e X.env) :: starEach es X.env := by rfl) (hpl : (backTo pos (starEach es X.env)).any (·.1) = false := by rfl) :
    PE X (.Call (.Name x p) (e :: es) [] pos) (tMake C sp [] E0 t) := by
  obtain ⟨f, fd, ps, F, M, b⟩ := M.ex
  exact pe_make M F (hr.mono hk) hg hm b .nil pass0 ha hdb he hpl
end
section
variable {P : Program} {w : World} {K : PySem.W.Frag} {mg : Str → Option Value} {base : Heap} {C : Addr}
def plS0 (n : Nat) : PlS := ⟨0, n, false, fun _ => 0, []⟩
def spInitP (K : PySem.W.Frag) (C : Addr) : Sp := fun vs H Q _ => ∃ (p dx : Addr) (v iv : V) (m : Nat) (bs : List (List Pt)) (main : List Pt) (inp : List Int) (n : Nat), vs = [.ref p, v, iv, .int (n : Int)] ∧ H p = some (.ins C dx []) ∧ PgAt K H v m bs main ∧ PgOk m bs main ∧ TI K H iv inp ∧ n ≤ 5000 ∧
  ∀ H' wl bl sl fs, H wl = none → H sl = none → (∀ b o, H b = some o → b ≠ p → H' b = some o) → PlP K C ⟨m, bs, inp, iv⟩ H' p wl bl sl dx fs (plS0 n) → Q .non H'
theorem ok_initP (F : DfI K C "Player.__init__" st_m___init__ ["self", "program", "inputs", "most"]) (n_dict : mg "dict" = none) (T : PlC K mg C) : MkX P w K mg base 1 C (spInitP K C) := by
  obtain ⟨f, fd, F, g, b⟩ := F.ex
  refine ⟨f, fd, _, F.ok sc_m___init__ (fun vs H Q E h => ?_) (fun cdv A outer s H vs Q E hr h => ?_), g, b⟩
  · obtain ⟨p, dx, v, iv, m, bs, main, inp, n, rfl, _⟩ := h
    rfl
  · obtain ⟨p, dx, v, iv, m, bs, main, inp, n, rfl, hp, hP, hO, hI, hn, q⟩ := h
    refine ⟨_, PSs.nox (pss_cons (ps_asg (pv 1) (pg_tup rfl (pgs_cons (pg_name (i := 4) sc_m___init__.nd rfl (Or.inl rfl)) (pgs_cons (pg_name (i := 5) sc_m___init__.nd rfl (Or.inl rfl)) (pgs_cons (pg_name (i := 6) sc_m___init__.nd rfl (Or.inl rfl)) pgs_nil)))))
      (pss_cons (ps_cutM (ps_fld (pv 0) (pe_dc (own := [("name", 7)]) (g := (gName 7)) (tt := tYes)  rfl sc_m___init__.nd (pi_tup (pv 4)) (blkOk_by (N := ["self", "program", "inputs", "most", "names", "procedures", "_", "name"]) (sc := (defScope st_m___init__)) (by decide +kernel)) (fun _ _ _ _ _ => (pg_name (i := 7) sc_m___init__.nd rfl (Or.inl rfl))) (fun _ _ _ _ _ => pts_nil) (fun _ _ _ _ _ => (pv 7)) (fun _ _ _ _ _ => pe_int)) rfl))
      (pss_cons (ps_cutM (ps_fld (pv 0) (pe_callTy (call_dictT rfl) (by rfl) n_dict (by decide +kernel) (pa_cons (pv 5) pa_nil)) rfl))
      (pss_cons (ps_cutM (ps_fld (pv 0) (pv 2) rfl))
      (pss_cons (ps_cutM (ps_fld (pv 0) pe_int rfl))
      (pss_cons (ps_cutM (ps_fld (pv 0) (pv 3) rfl))
      (pss_cons (ps_cutM (ps_fld (pv 0) pe_bl rfl))
      (pss_one (ps_cutM (ps_fld (pv 0) (pe_lst pa_nil) rfl)))))))))), ?_⟩
    obtain ⟨a, na, pa, mv, xp, rfl, hS, hN, hF, hX, hM⟩ := hP.ex
    refine ⟨_, rfl, a, _, rfl, hS, rfl, _, _, rfl, _, _, rfl, _, _, rfl, rfl, ?_⟩
    have kp : ∀ {H1 : Hp} {o : HO}, (∀ b o, H b = some o → b ≠ p → H1 b = some o) → ∀ b u, H b = some u → b ≠ p → (upd H1 p o) b = some u := fun f b u e n => by
      rw [upd_ne n]
      exact f b u e n
    have hH0 : ∀ {H1 : Hp}, (∀ b o, H b = some o → b ≠ p → H1 b = some o) → ∀ {H2 : Hp}, Same H1 H2 → ∀ {b : Addr}, H2 b = none → b ≠ p → H b = none := fun f H2 s2 b e n => by
      cases q : H b with
      | none => rfl
      | some u =>
        have := s2 _ _ (f b u q n)
        rw [e] at this
        cases this
    refine ⟨fun σ H' => ∃ wl, H wl = none ∧ σ = [some (.ref p), some (.ref a), some iv, some (.int (n : Int)), some (.ref na), some (.ref pa), some mv, none] ∧ (∀ b o, H b = some o → b ≠ p → H' b = some o) ∧ H' p = some (.ins C dx (putF "worths" (.ref wl) [])) ∧ HeldL H' wl m (fun _ => 0), fun σ1 H1 g1 => ?_, ?_⟩
    case refine_2 =>
      refine ⟨_, rfl, na, rfl, ⟨_, hN⟩, fun D hD => ?_⟩
      refine dc_tup (xs := nmV m) (fun i H' => Same H H' ∧ H' D = some (.dK (mergeK [] (zeroK i)))) ⟨same_new hD, upd_same⟩ (fun i H' _ h' => onT h'.1 hN) (fun i x H' hx h' => ?_) (fun H' h' => ?_)
      · obtain ⟨sm, eD⟩ := h'
        obtain ⟨lx, rfl⟩ := nmV_at hx
        have m4 := hO.m4
        have lz : (zeroK i).length = i := by unfold zeroK; rw [List.length_map, List.length_range]
        refine ⟨rfl, _, rfl, _, .inr (nmS i), rfl, eD, small1000 (by have := length_mergeK (zeroK i) []; rw [lz] at this; simp at this; omega), fun b o e => ?_, ?_⟩
        · rw [upd_ne (ne_of_none e hD)]
          exact sm b o e
        · rw [upd_same, zeroK_snoc]
          unfold mergeK
          rw [List.foldl_append]
          rfl
      · obtain ⟨sm, eD⟩ := h'
        rw [nmV_len] at eD
        have nDp : D ≠ p := (ne_of_none hp hD).symm
        refine ⟨_, rfl, p, C, dx, _, rfl, sm _ _ hp, T.cl, T.at "worths", Nat.lt_of_le_of_lt (FPl_len0 0 0 0 iv 0) (by decide), D, hD, rfl, kp (fun b o e _ => sm _ _ e), upd_same, _, by rw [upd_ne nDp]; exact eD, zeroK_len hO.m4, fun x hx => zeroK_at hO.m4 hx⟩
    obtain ⟨wl, hwl, rfl, f1, p1, hw1⟩ := g1
    refine ⟨fun σ H' => ∃ wl bl, H wl = none ∧ wl ≠ bl ∧ σ = [some (.ref p), some (.ref a), some iv, some (.int (n : Int)), some (.ref na), some (.ref pa), some mv, none] ∧ (∀ b o, H b = some o → b ≠ p → H' b = some o) ∧ H' p = some (.ins C dx (putF "bodies" (.ref bl) (putF "worths" (.ref wl) []))) ∧ HeldL H' wl m (fun _ => 0) ∧ Bod K H H' bl bs, fun σ2 H2 g2 => ?_, ?_⟩
    case refine_2 =>
      obtain ⟨qs, kvs, rfl, hQ, hV⟩ := bod_made hO.b2 hX
      obtain ⟨ob, eP, dP⟩ := hF
      have tu := tups_at (K := K) hp f1
      refine ⟨_, rfl, pa, ob, qs, kvs, rfl, f1 _ _ eP (ne_of eP hp (fun z => nomatch z)), dP, paired_imp (S := fun p (kv : Key × V) => SqT K _ p [kV kv.1, kv.2]) (fun p kv h => tu _ _ h) hQ, fun bl hbl => ?_⟩
      have s2 := same_new (o := .dK (mergeK [] kvs)) hbl
      obtain ⟨k1, ew, _, _⟩ := id hw1
      have nbp : bl ≠ p := (ne_of_none p1 hbl).symm
      have nwp : wl ≠ p := ne_of ew p1 (fun z => nomatch z)
      refine ⟨_, rfl, p, C, dx, _, rfl, s2 _ _ p1, T.cl, T.at "bodies", Nat.lt_of_le_of_lt (FPl_len1 wl 0 0 iv 0) (by decide), wl, bl, hwl, ne_of_none ew hbl, rfl, kp (fun b u e n => s2 _ _ (f1 _ _ e n)), upd_same, hw1.on (fun o e => by rw [upd_ne nwp]; exact s2 _ _ e), _, by rw [upd_ne nbp, upd_same], hV⟩
    obtain ⟨wl, bl, hwl, nwb, rfl, f2, p2, hw2, hb2⟩ := g2
    refine ⟨fun σ H' => ∃ wl bl, H wl = none ∧ wl ≠ bl ∧ σ = [some (.ref p), some (.ref a), some iv, some (.int (n : Int)), some (.ref na), some (.ref pa), some mv, none] ∧ (∀ b o, H b = some o → b ≠ p → H' b = some o) ∧ H' p = some (.ins C dx (putF "inputs" (iv) (putF "bodies" (.ref bl) (putF "worths" (.ref wl) [])))) ∧ HeldL H' wl m (fun _ => 0) ∧ Bod K H H' bl bs, fun σ3 H3 g3 => ?_, ?_⟩
    case refine_2 =>
      obtain ⟨k1, ew, _, _⟩ := id hw2
      obtain ⟨k2, eb, _⟩ := id hb2
      have nwp : wl ≠ p := ne_of ew p2 (fun z => nomatch z)
      have nbp : bl ≠ p := ne_of eb p2 (fun z => nomatch z)
      exact ⟨_, rfl, _, rfl, p, C, dx, _, rfl, p2, T.cl, T.at "inputs", Nat.lt_of_le_of_lt (FPl_len2 wl bl 0 iv n) (by decide), wl, bl, hwl, nwb, rfl, kp f2, upd_same, hw2.on (fun o e => by rw [upd_ne nwp]; exact e), hb2.on (fun o e => by rw [upd_ne nbp]; exact e)⟩
    obtain ⟨wl, bl, hwl, nwb, rfl, f3, p3, hw3, hb3⟩ := g3
    refine ⟨fun σ H' => ∃ wl bl, H wl = none ∧ wl ≠ bl ∧ σ = [some (.ref p), some (.ref a), some iv, some (.int (n : Int)), some (.ref na), some (.ref pa), some mv, none] ∧ (∀ b o, H b = some o → b ≠ p → H' b = some o) ∧ H' p = some (.ins C dx (putF "asked" (.int (0 : Nat)) (putF "inputs" (iv) (putF "bodies" (.ref bl) (putF "worths" (.ref wl) []))))) ∧ HeldL H' wl m (fun _ => 0) ∧ Bod K H H' bl bs, fun σ4 H4 g4 => ?_, ?_⟩
    case refine_2 =>
      obtain ⟨k1, ew, _, _⟩ := id hw3
      obtain ⟨k2, eb, _⟩ := id hb3
      have nwp : wl ≠ p := ne_of ew p3 (fun z => nomatch z)
      have nbp : bl ≠ p := ne_of eb p3 (fun z => nomatch z)
      exact ⟨_, rfl, p, C, dx, _, rfl, p3, T.cl, T.at "asked", Nat.lt_of_le_of_lt (FPl_len3 wl bl 0 iv n) (by decide), wl, bl, hwl, nwb, rfl, kp f3, upd_same, hw3.on (fun o e => by rw [upd_ne nwp]; exact e), hb3.on (fun o e => by rw [upd_ne nbp]; exact e)⟩
    obtain ⟨wl, bl, hwl, nwb, rfl, f4, p4, hw4, hb4⟩ := g4
    refine ⟨fun σ H' => ∃ wl bl, H wl = none ∧ wl ≠ bl ∧ σ = [some (.ref p), some (.ref a), some iv, some (.int (n : Int)), some (.ref na), some (.ref pa), some mv, none] ∧ (∀ b o, H b = some o → b ≠ p → H' b = some o) ∧ H' p = some (.ins C dx (putF "doings_left" (.int (n : Nat)) (putF "asked" (.int (0 : Nat)) (putF "inputs" (iv) (putF "bodies" (.ref bl) (putF "worths" (.ref wl) [])))))) ∧ HeldL H' wl m (fun _ => 0) ∧ Bod K H H' bl bs, fun σ5 H5 g5 => ?_, ?_⟩
    case refine_2 =>
      obtain ⟨k1, ew, _, _⟩ := id hw4
      obtain ⟨k2, eb, _⟩ := id hb4
      have nwp : wl ≠ p := ne_of ew p4 (fun z => nomatch z)
      have nbp : bl ≠ p := ne_of eb p4 (fun z => nomatch z)
      exact ⟨_, rfl, _, rfl, p, C, dx, _, rfl, p4, T.cl, T.at "doings_left", Nat.lt_of_le_of_lt (FPl_len4 wl bl 0 iv n) (by decide), wl, bl, hwl, nwb, rfl, kp f4, upd_same, hw4.on (fun o e => by rw [upd_ne nwp]; exact e), hb4.on (fun o e => by rw [upd_ne nbp]; exact e)⟩
    obtain ⟨wl, bl, hwl, nwb, rfl, f5, p5, hw5, hb5⟩ := g5
    refine ⟨fun σ H' => ∃ wl bl, H wl = none ∧ wl ≠ bl ∧ σ = [some (.ref p), some (.ref a), some iv, some (.int (n : Int)), some (.ref na), some (.ref pa), some mv, none] ∧ (∀ b o, H b = some o → b ≠ p → H' b = some o) ∧ H' p = some (.ins C dx (putF "has_run_out" (.bl false) (putF "doings_left" (.int (n : Nat)) (putF "asked" (.int (0 : Nat)) (putF "inputs" (iv) (putF "bodies" (.ref bl) (putF "worths" (.ref wl) []))))))) ∧ HeldL H' wl m (fun _ => 0) ∧ Bod K H H' bl bs, fun σ6 H6 g6 => ?_, ?_⟩
    case refine_2 =>
      obtain ⟨k1, ew, _, _⟩ := id hw5
      obtain ⟨k2, eb, _⟩ := id hb5
      have nwp : wl ≠ p := ne_of ew p5 (fun z => nomatch z)
      have nbp : bl ≠ p := ne_of eb p5 (fun z => nomatch z)
      exact ⟨_, rfl, p, C, dx, _, rfl, p5, T.cl, T.at "has_run_out", Nat.lt_of_le_of_lt (FPl_len5 wl bl 0 iv n) (by decide), wl, bl, hwl, nwb, rfl, kp f5, upd_same, hw5.on (fun o e => by rw [upd_ne nwp]; exact e), hb5.on (fun o e => by rw [upd_ne nbp]; exact e)⟩
    obtain ⟨wl, bl, hwl, nwb, rfl, f6, p6, hw6, hb6⟩ := g6
    obtain ⟨k1, ew, _, _⟩ := id hw6
    obtain ⟨k2, eb, _⟩ := id hb6
    have nwp : wl ≠ p := ne_of ew p6 (fun z => nomatch z)
    have nbp : bl ≠ p := ne_of eb p6 (fun z => nomatch z)
    refine ⟨fun σ' H' => Q .non H', fun _ _ z => z, Nat.zero_le _, fun sl hsl => ?_⟩
    have s7 := same_new (o := .lst []) hsl
    have nsp : sl ≠ p := (ne_of_none p6 hsl).symm
    refine ⟨_, rfl, p, C, dx, _, rfl, s7 _ _ p6, T.cl, T.at "said", Nat.lt_of_le_of_lt (FPl_len6 wl bl 0 iv n) (by decide), ?_⟩
    have ff : ∀ b o, H b = some o → b ≠ p → (upd (upd H6 sl (.lst [])) p (.ins C dx (FPl wl bl sl iv n))) b = some o := kp (fun b u e n => s7 _ _ (f6 _ _ e n))
    have tu := tups_at (K := K) hp ff
    refine q _ wl bl sl (FPl wl bl sl iv n) hwl (hH0 f6 (Same.refl _) hsl nsp) ff ⟨upd_same, FPl_1, FPl_2, FPl_3, FPl_4, FPl_5, FPl_6, FPl_7, FPl_no, Nat.lt_of_le_of_lt (FPl_len7 wl bl sl iv n) (by decide), hw6.on (fun o e => by rw [upd_ne nwp]; exact s7 _ _ e), ?_, by rw [upd_ne nsp, upd_same]; rfl, nwb, hI.on tu, hO.m4, Nat.zero_le _, by show 0 + n ≤ 5000; omega⟩
    obtain ⟨kv, e, h⟩ := hb6
    refine ⟨kv, by rw [upd_ne nbp]; exact s7 _ _ e, fun i b hb => ?_⟩
    obtain ⟨v, h1, h2⟩ := h i b hb
    exact ⟨v, h1, dp_tupN tu h2 (.tup (nl_pts b))⟩
end
end RH
set_option Elab.async false
set_option linter.all false
set_option maxRecDepth 100000
set_option maxHeartbeats 2000000
namespace RH
open PySem PySem.Spec PyProof.Rows L2
/-! ### the checks, for what is drawn -/
/-- a tuple of texts of the module's own top -/
def CTup (K : PySem.W.Frag) (mg : Str → Option Value) (x : Str) (zs : List Str) : Prop := ∃ (a : Addr) (o : Obj) (its : Array Value) (n : Nat), mg x = some (.ref a) ∧ K.lookup a = some o ∧ o.cls = .type "tuple" ∧ o.data = .seq its n ∧ its.size ≤ sizeLine ∧ Vals (zs.map V.str) its.toList
theorem CTup.at {K : PySem.W.Frag} {mg : Str → Option Value} {x : Str} {zs : List Str} (h : CTup K mg x zs) : ∃ a : Addr, mg x = some (.ref a) ∧ ∀ H, SqT K H a (zs.map V.str) := by
  obtain ⟨a, o, its, n, h1, h2, h3, h4, h5, h6⟩ := h
  exact ⟨a, h1, fun H => .inr ⟨o, its, n, h2, h3, h4, h5, h6⟩⟩
def resZ : List Str := ["names", "to", "end", "let", "say", "ask", "if", "else", "while", "repeat", "do", "stop"]
def signZ : List Str := ["plus", "minus"]
def holdZ : List Str := ["if", "while", "repeat"]
/-- over a text, sign by sign -/
theorem lc_sgn {x : Str} {g : TG} {tt : TT} {te : TE} {vs : List Nat} {σ : L2.St} {H1 : Hp} {D : Addr} {Qd : Hp → Prop} (at_ : Nat → Hp → Prop) (start : at_ 0 (upd H1 D (.lst [])))
    (turn : ∀ i c H, x.cps[i]? = some c → at_ i H → g (.str ⟨#[c]⟩) (wipe σ vs) H fun σ2 H2 => wipe σ2 vs = wipe σ vs ∧ tt σ2 H2 fun b H3 =>
      if b = true then te σ2 H3 fun y H4 => ∃ acc, H4 D = some (.lst acc) ∧ acc.length < sizeLine ∧ at_ (i + 1) (upd H4 D (.lst (acc ++ [y]))) else at_ (i + 1) H3) (last : ∀ H, at_ x.cps.size H → Qd H) :
    ∃ W : Nat → Nat → Hp → Prop, (∃ m, W 0 m (upd H1 D (.lst []))) ∧ ∀ i m H, W i m H →
      ((Its x).stop i H ∧ Qd H) ∨ ((Its x).go i H ∧ ∃ Nx : Hp → Prop, (∀ H', Nx H' → ∃ m', m' < m ∧ W (i + 1) m' H') ∧ ∀ y H', (Its x).yld i H y H' → g y (wipe σ vs) H' fun σ2 H2 => wipe σ2 vs = wipe σ vs ∧ tt σ2 H2 fun b H3 =>
        if b = true then te σ2 H3 fun y H4 => ∃ acc, H4 D = some (.lst acc) ∧ acc.length < sizeLine ∧ Nx (upd H4 D (.lst (acc ++ [y]))) else Nx H3) := by
  refine ⟨fun i m H => m + i = x.cps.size ∧ at_ i H, ⟨x.cps.size, rfl, start⟩, fun i m H h => ?_⟩
  obtain ⟨e, p⟩ := h
  cases m with
  | zero =>
    obtain rfl : i = x.cps.size := by omega
    exact .inl ⟨Nat.le_refl _, last H p⟩
  | succ m =>
    have lt : i < x.cps.size := by omega
    refine .inr ⟨lt, at_ (i + 1), fun H' p' => ⟨m, Nat.lt_succ_self m, by omega, p'⟩, fun y H' z => ?_⟩
    obtain ⟨rfl, c, hc, rfl⟩ := z
    exact turn i c _ hc p
theorem all_rep (n : Nat) : (List.replicate n true).all id = true := by simp
/-- a word that may be a name -/
structure Free (z : Str) : Prop where
  l1 : 1 ≤ z.length
  l8 : z.length ≤ 8
  no : inV (.str z) (resZ.map V.str) = false
  lets : ∀ c ∈ z.cps.toList, c ∈ ("abcdefghijklmnopqrstuvwxyz" : Str).cps.toList
theorem free_nm (x : Nat) : Free (nmS x) := by
  have : nmS x = "a" ∨ nmS x = "b" ∨ nmS x = "cat" ∨ nmS x = "dd" := by
    match x with
    | 0 => exact .inl rfl
    | 1 => exact .inr (.inl rfl)
    | 2 => exact .inr (.inr (.inl rfl))
    | 3 => exact .inr (.inr (.inr rfl))
    | x + 4 => exact .inl rfl
  rcases this with e | e | e | e <;> rw [e] <;> exact ⟨by decide +kernel, by decide +kernel, by decide +kernel, by decide +kernel⟩
theorem free_pc (x : Nat) : Free (pcS60 x) := by
  have : pcS60 x = "p" ∨ pcS60 x = "q" := by
    match x with
    | 0 => exact .inl rfl
    | 1 => exact .inr rfl
    | x + 2 => exact .inl rfl
  rcases this with e | e <;> rw [e] <;> exact ⟨by decide +kernel, by decide +kernel, by decide +kernel, by decide +kernel⟩
section
variable {P : Program} {w : World} {K : PySem.W.Frag} {mg : Str → Option Value} {base : Heap}
def spCkNum (K : PySem.W.Frag) : Sp := fun vs H Q _ => ∃ i lo hi : Int, vs = [.int i, .int lo, .int hi] ∧ lo ≤ i ∧ i ≤ hi ∧ Q .non H
theorem ok_ckNum (F : Df K mg "check_number" st_check_number ["value", "low", "high"]) (CN : Cal P w K mg base 2 "is_number" (spIsNumberW K)) : Cal P w K mg base 3 "check_number" (spCkNum K) := by
  refine mkCal F sc_check_number (fun vs H Q E h => ?_) (fun f cdv A outer s H vs Q E hr h => ?_)
  · obtain ⟨i, lo, hi, rfl, _⟩ := h
    rfl
  · obtain ⟨i, lo, hi, rfl, h1, h2, q⟩ := h
    refine ⟨_, pss_one (ps_if (pt_not (pt_val (pc CN hr (pa_cons (pv 0) (pa_cons (pv 1) (pa_cons (pv 2) pa_nil))) (hk := by omega)))) (pss_one ps_no) pss_nil), ?_⟩
    exact ⟨_, rfl, _, rfl, _, rfl, .int i, lo, hi, rfl, .int i, _, rfl, ifF (by show (!(decide (lo ≤ i) && decide (i ≤ hi))) = false; rw [decide_eq_true h1, decide_eq_true h2]; rfl) q⟩
def spCkIn (K : PySem.W.Frag) : Sp := fun vs H Q _ => ∃ (v : V) (ns : List Int), vs = [v] ∧ TI K H v ns ∧ ns.length ≤ 50 ∧ (∀ i ∈ ns, -1000000 ≤ i ∧ i ≤ 1000000) ∧ ∀ H', Same H H' → Q .non H'
theorem ok_ckIn (F : Df K mg "check_inputs" st_check_inputs ["inputs"]) (B : Bu mg) (c_MOST_INPUTS : ∃ t, mg "MOST_INPUTS" = some (.int 50 t)) (c_GREATEST : ∃ t, mg "GREATEST" = some (.int 1000000 t)) (CR : Cal P w K mg base 1 "is_row" (spIsRowW K)) (CN : Cal P w K mg base 2 "is_number" (spIsNumberW K)) : Cal P w K mg base 3 "check_inputs" (spCkIn K) := by
  refine mkCal F sc_check_inputs (fun vs H Q E h => ?_) (fun f cdv A outer s H vs Q E hr h => ?_)
  · obtain ⟨v, ns, rfl, _⟩ := h
    rfl
  · obtain ⟨v, ns, rfl, ⟨a, rfl, hI⟩, hl, hb, q⟩ := h
    refine ⟨_, pss_cons (ps_if (pt_not (pt_val (pc CR hr (pa_cons (pv 0) (pa_cons pe_int (pa_cons (pk c_MOST_INPUTS) pa_nil))) (hk := by omega)))) (pss_one ps_no) pss_nil)
      (pss_one (ps_if (pt_not (pt_val (pe_callB (cr_all rfl) (by rfl) B.all (by decide +kernel) (pa_cons (pe_lc (own := [("number", 1)]) (g := (gName 1)) (tt := tYes)  rfl sc_check_inputs.nd (pi_tup (pv 0)) (blkOk_by (N := ["inputs", "number"]) (sc := (defScope st_check_inputs)) (by decide +kernel)) (fun _ _ _ _ _ => (pg_name (i := 1) sc_check_inputs.nd rfl (Or.inl rfl))) (fun _ _ _ _ _ => pts_nil) (fun _ _ _ _ _ => (pc CN hr (pa_cons (pv 1) (pa_cons (pe_un un_neg (pk c_GREATEST)) (pa_cons (pk c_GREATEST) pa_nil))) (hk := by omega)))) pa_nil)))) (pss_one ps_no) pss_nil)), ?_⟩
    refine ⟨_, rfl, .ref a, some (ns.map V.int), 0, 50, rfl, .tup hI, _, rfl, ifF (by show (!(decide ((0 : Int) ≤ ((ns.map V.int).length : Int)) && decide (((ns.map V.int).length : Int) ≤ 50))) = false; rw [List.length_map, decide_eq_true (by omega), decide_eq_true (by omega)]; rfl) ?_⟩
    refine ⟨_, rfl, a, rfl, ⟨_, hI⟩, fun D hD => ?_⟩
    refine lc_tup (xs := ns.map V.int) (fun i H' => Same H H' ∧ H' D = some (.lst ((List.replicate i true).map V.bl))) ⟨same_new hD, upd_same⟩ (fun i H' _ h' => onT h'.1 hI) (fun i x H' hx h' => ?_) (fun H' h' => ?_)
    · obtain ⟨sm, eD⟩ := h'
      rw [List.getElem?_map, Option.map_eq_some_iff] at hx
      obtain ⟨z, hz, rfl⟩ := hx
      obtain ⟨b1, b2⟩ := hb z (List.mem_of_getElem? hz)
      have li := (List.getElem?_eq_some_iff.mp hz).1
      refine ⟨rfl, _, rfl, 1000000, rfl, .int z, -1000000, 1000000, rfl, .int z, _, eD, small1000 (by rw [List.length_map, List.length_replicate]; omega), fun b o e => ?_, ?_⟩
      · rw [upd_ne (ne_of_none e hD)]
        exact sm b o e
      · rw [upd_same, show inV2 (-1000000) 1000000 (.int z) = true by show (decide _ && decide _) = true; rw [decide_eq_true b1, decide_eq_true b2]; rfl, List.replicate_succ', List.map_append]
        rfl
    · obtain ⟨sm, eD⟩ := h'
      refine ⟨D, _, rfl, lstAt eD, _, rfl, ifF (by rw [show (List.replicate (ns.map V.int).length true).all id = true from all_rep _]; rfl) (q H' sm)⟩
def spFree : Sp := fun vs H Q _ => ∃ z : Str, vs = [.str z] ∧ Free z ∧ ∀ H', Same H H' → Q (.bl true) H'
theorem ok_free (F : Df K mg "is_free_word" st_is_free_word ["value"]) (B : Bu mg) (c_MOST_LETTERS : ∃ t, mg "MOST_LETTERS" = some (.int 8 t)) (s_LETTERS : ∃ t, mg "LETTERS" = some (.str "abcdefghijklmnopqrstuvwxyz" t)) (tR : CTup K mg "RESERVED" resZ) : Cal P w K mg base 1 "is_free_word" spFree := by
  obtain ⟨aR, gaR, hR⟩ := tR.at
  refine mkCal F sc_is_free_word (fun vs H Q E h => ?_) (fun f cdv A outer s H vs Q E hr h => ?_)
  · obtain ⟨z, rfl, _⟩ := h
    rfl
  · obtain ⟨z, rfl, hz, q⟩ := h
    refine ⟨_, pss_cons (ps_if (PW.pt (pw_or (pt_not (pt_val (pe_callB (cl_isi K) (by rfl) B.isi (by decide +kernel) (pa_cons (pv 0) (pa_cons (pe_bltn (v := .ty "str") (by rfl) B.str (by decide +kernel) rfl) pa_nil))))) (pw_or (pt_not (pt_chain op_le op_le pe_int (pe_callB call_len_str (by rfl) B.len PySem.boot_len (pa_cons (pv 0) pa_nil)) (pk c_MOST_LETTERS))) (pw_or1 (pt_cmpR (opIn K) (pv 0) (pe_glob (v := .ref aR) (by rfl) gaR (by rfl)) rfl))))) (pss_one (ps_ret pe_bl)) pss_nil)
      (pss_one (ps_ret (pe_callB (cr_all rfl) (by rfl) B.all (by decide +kernel) (pa_cons (pe_lc (own := [("letter", 1)]) (g := (gName 1)) (tt := tYes)  rfl sc_is_free_word.nd (pi_str (pv 0)) (blkOk_by (N := ["value", "letter"]) (sc := (defScope st_is_free_word)) (by decide +kernel)) (fun _ _ _ _ _ => (pg_name (i := 1) sc_is_free_word.nd rfl (Or.inl rfl))) (fun _ _ _ _ _ => pts_nil) (fun _ _ _ _ _ => (pe_cmpR op_in_sign (pv 1) (C8.pe_gc (v := .str "abcdefghijklmnopqrstuvwxyz") (by rfl) (by obtain ⟨t, e⟩ := s_LETTERS; exact ⟨_, e, t, rfl⟩)) rfl))) pa_nil)))), ?_⟩
    obtain ⟨t1, u1, ci1, ci2, ci3⟩ := isi_str (K := K) (H := H) (Dp.str z)
    refine ⟨_, rfl, .str z, .ty "str", t1, u1, _, rfl, ci1, ci2, ci3, _, rfl, ifF rfl ?_⟩
    refine ⟨_, rfl, z, rfl, Nat.le_of_lt (small1000 (by have := hz.l8; omega)), (1 : Int), (z.length : Int), rfl, rfl, _, rfl, ifT (decide_eq_true (by have := hz.l1; omega)) ?_⟩
    refine ⟨(z.length : Int), 8, rfl, rfl, _, rfl, ifF (by show (!decide ((z.length : Int) ≤ 8)) = false; rw [decide_eq_true (by have := hz.l8; omega)]; rfl) ?_⟩
    refine ⟨_, rfl, aR, _, rfl, .inr (hR _), rfl, by decide, _, rfl, ifF hz.no ?_⟩
    refine ⟨_, rfl, z, rfl, fun D hD => ?_⟩
    refine lc_sgn (fun i H' => Same H H' ∧ H' D = some (.lst ((List.replicate i true).map V.bl))) ⟨same_new hD, upd_same⟩ (fun i c H' hc h' => ?_) (fun H' h' => ?_)
    · obtain ⟨sm, eD⟩ := h'
      have hm : c ∈ z.cps.toList := by rw [← Array.getElem?_toList] at hc; exact List.mem_of_getElem? hc
      have li : i < z.length := (Array.getElem?_eq_some_iff.mp hc).1
      have l8 := hz.l8
      refine ⟨rfl, _, rfl, c, _, rfl, rfl, _, eD, small1000 (by rw [List.length_map, List.length_replicate]; omega), fun b o e => ?_, ?_⟩
      · rw [upd_ne (ne_of_none e hD)]
        exact sm b o e
      · rw [upd_same, decide_eq_true (hz.lets c hm), List.replicate_succ', List.map_append]
        rfl
    · obtain ⟨sm, eD⟩ := h'
      refine ⟨D, _, rfl, lstAt eD, ?_⟩
      rw [all_rep]
      exact q H' sm
def spUnlike (K : PySem.W.Frag) : Sp := fun vs H Q _ => ∃ (a : Addr) (xs : List Str), vs = [.ref a] ∧ SqT K H a (xs.map V.str) ∧ xs.Nodup ∧ xs.length < 64 ∧ Q (.bl true) H
theorem ok_unlike (F : Df K mg "are_unlike" st_are_unlike ["words"]) (B : Bu mg) (n_set : mg "set" = none) : Cal P w K mg base 1 "are_unlike" (spUnlike K) := by
  refine mkCal F sc_are_unlike (fun vs H Q E h => ?_) (fun f cdv A outer s H vs Q E hr h => ?_)
  · obtain ⟨a, xs, rfl, _⟩ := h
    rfl
  · obtain ⟨a, xs, rfl, hS, nd, l, q⟩ := h
    refine ⟨_, pss_one (ps_ret (pe_cmpR op_eq (pe_diff rfl hr.units (by rfl) B.len (by rfl) n_set (pv 0)) (pe_callB (cl_len K) (by rfl) B.len PySem.boot_len (pa_cons (pv 0) pa_nil)) (nomark _))), ?_⟩
    refine ⟨_, rfl, a, xs, rfl, hS, nd, l, _, rfl, a, _, rfl, .inr hS, rfl, ?_⟩
    rw [List.length_map, V_int, decide_eq_true rfl]
    exact q
def spNames (K : PySem.W.Frag) : Sp := fun vs H Q _ => ∃ (a : Addr) (m : Nat), vs = [.ref a] ∧ SqT K H a (nmV m) ∧ 1 ≤ m ∧ m ≤ 4 ∧ ∀ H', Same H H' → Q (.bl true) H'
theorem ok_names (F : Df K mg "are_names" st_are_names ["value"]) (B : Bu mg) (c_MOST_NAMES : ∃ t, mg "MOST_NAMES" = some (.int 5 t)) (CR : Cal P w K mg base 1 "is_row" (spIsRowW K)) (CF : Cal P w K mg base 1 "is_free_word" spFree) (CU : Cal P w K mg base 1 "are_unlike" (spUnlike K)) : Cal P w K mg base 2 "are_names" (spNames K) := by
  refine mkCal F sc_are_names (fun vs H Q E h => ?_) (fun f cdv A outer s H vs Q E hr h => ?_)
  · obtain ⟨a, m, rfl, _⟩ := h
    rfl
  · obtain ⟨a, m, rfl, hN, m1, m4, q⟩ := h
    refine ⟨_, pss_one (ps_ret (pe_and (pc CR hr (pa_cons (pv 0) (pa_cons pe_int (pa_cons (pk c_MOST_NAMES) pa_nil))) (hk := by omega)) (pe_and (pe_callB (cr_all rfl) (by rfl) B.all (by decide +kernel) (pa_cons (pe_lc (own := [("name", 1)]) (g := (gName 1)) (tt := tYes)  rfl sc_are_names.nd (pi_tup (pv 0)) (blkOk_by (N := ["value", "name"]) (sc := (defScope st_are_names)) (by decide +kernel)) (fun _ _ _ _ _ => (pg_name (i := 1) sc_are_names.nd rfl (Or.inl rfl))) (fun _ _ _ _ _ => pts_nil) (fun _ _ _ _ _ => (pc CF hr (pa_cons (pv 1) pa_nil) (hk := by omega)))) pa_nil)) (pe_one (pc CU hr (pa_cons (pv 0) pa_nil) (hk := by omega)))))), ?_⟩
    refine ⟨_, rfl, .ref a, some (nmV m), 1, 5, rfl, .tup hN, _, rfl, ifT (by show (decide ((1 : Int) ≤ ((nmV m).length : Int)) && decide (((nmV m).length : Int) ≤ 5)) = true; rw [nmV_len, decide_eq_true (by omega), decide_eq_true (by omega)]; rfl) ?_⟩
    refine ⟨_, rfl, a, rfl, ⟨_, hN⟩, fun D hD => ?_⟩
    refine lc_tup (xs := nmV m) (fun i H' => Same H H' ∧ H' D = some (.lst ((List.replicate i true).map V.bl))) ⟨same_new hD, upd_same⟩ (fun i H' _ h' => onT h'.1 hN) (fun i x H' hx h' => ?_) (fun H' h' => ?_)
    · obtain ⟨sm, eD⟩ := h'
      obtain ⟨li, rfl⟩ := nmV_at hx
      refine ⟨rfl, _, rfl, nmS i, rfl, free_nm i, fun H2 s2 => ⟨_, s2 _ _ eD, small1000 (by rw [List.length_map, List.length_replicate]; omega), fun b o e => ?_, ?_⟩⟩
      · rw [upd_ne (ne_of_none e hD)]
        exact s2 _ _ (sm b o e)
      · rw [upd_same, List.replicate_succ', List.map_append]
        rfl
    · obtain ⟨sm, eD⟩ := h'
      refine ⟨D, _, rfl, lstAt eD, _, rfl, ?_⟩
      rw [all_rep]
      refine ifT rfl ⟨_, rfl, a, (List.range m).map nmS, rfl, by rw [List.map_map]; exact onT sm hN, ?_, by rw [List.length_map, List.length_range]; omega, q H' sm⟩
      have key : ∀ m, m < 5 → ((List.range m).map nmS).Nodup := by decide +kernel
      exact key m (by omega)
end
end RH
set_option Elab.async false
set_option linter.all false
set_option maxRecDepth 100000
set_option maxHeartbeats 2000000
namespace RH
open PySem PySem.Spec PyProof.Rows L2
/-! ### the checks: sums, tests, parts -/
theorem opNotIn {X : Cx} (K : PySem.W.Frag) (h : X.K = K := by rfl) : OpR X (compareOp .NotIn) (rIn K true) := by
  subst h
  exact op_notIn_seq
/-- t += u of tuples: a tuple has no such method of its own -/
theorem tup_no_iadd : typeLookup (.type "tuple") (dunderI "add") = pure none := am_miss_of_fast (by decide +kernel)
theorem ip_catT {X : Cx} (K : PySem.W.Frag) (h : X.K = K := by rfl) : PIp X .Add (rCatA K) := by
  subst h
  intro pins s σ H x y v u Q I rx ry told
  obtain ⟨a, b, xs, ys, rfl, rfl, ha, hb, few, q0, q1, q2⟩ := told
  cases rx
  cases ry
  obtain ⟨vs, rv, tv, _⟩ := I.tuple ha
  obtain ⟨ws, rw', tw, _⟩ := I.tuple hb
  obtain ⟨⟨c1, d1, t1, l1⟩, o1, k1, n1, e1⟩ := id tv
  obtain ⟨⟨c2, d2, t2, l2⟩, o2, k2, n2, e2⟩ := id tw
  simp only at k1 e1 k2 e2
  subst k1 e1 k2 e2
  by_cases nx : xs = []
  · subst nx
    cases rv
    exact wpAny_inplaceOp_concat ⟨_, o1, rfl⟩ ⟨_, o2, rfl⟩ tup_no_iadd noFill_tuple_add seq_tuple_add (call_meets PySem.F.slot_tuple_add ⟨_, o1, rfl⟩ PySem.F.entry_tuple_add (PySem.F.args_tuple_add_2 _ _)
      (tuple_addW0 a b ([] : List Value).toArray ws.toArray n1 n2 d1 d2 l1 l2 (by simp)) ⟨o1, o2, ⟨.ref b, H, I, rfl, q0 rfl⟩⟩)
  have nv : vs ≠ [] := fun z => nx (rv.nil_iff.mp z)
  by_cases ny : ys = []
  · subst ny
    cases rw'
    exact wpAny_inplaceOp_concat ⟨_, o1, rfl⟩ ⟨_, o2, rfl⟩ tup_no_iadd noFill_tuple_add seq_tuple_add (call_meets PySem.F.slot_tuple_add ⟨_, o1, rfl⟩ PySem.F.entry_tuple_add (PySem.F.args_tuple_add_2 _ _)
      (tuple_addW1 a b vs.toArray ([] : List Value).toArray n1 n2 d1 d2 l1 l2 (by simpa using nv) (by simp)) ⟨o1, o2, ⟨.ref a, H, I, rfl, q1 nx rfl⟩⟩)
  have nw : ws ≠ [] := fun z => ny (rw'.nil_iff.mp z)
  have lens : vs.length + ws.length ≤ sizeLine := by rw [← rv.length, ← rw'.length]; exact few
  refine wpAny_inplaceOp_concat ⟨_, o1, rfl⟩ ⟨_, o2, rfl⟩ tup_no_iadd noFill_tuple_add seq_tuple_add (call_meets PySem.F.slot_tuple_add ⟨_, o1, rfl⟩ PySem.F.entry_tuple_add (PySem.F.args_tuple_add_2 _ _)
    (tuple_addW2 a b vs.toArray ws.toArray n1 n2 d1 d2 l1 l2 (by simpa using nv) (by simpa using nw) (by rw [List.size_toArray, List.size_toArray]; exact lens)) ⟨o1, o2, ?_⟩)
  rw [show vs.toArray ++ ws.toArray = (vs ++ ws).toArray by simp]
  have I2 : Inv X pins σ (upd H s.heap.objs.size (.tup (xs ++ ys))) { s with heap := s.heap.push { cls := .type "tuple", data := .seq (vs ++ ws).toArray } } :=
    I.laid (t' := s.toks) (fun b o q => Heap.get?_push_of_some _ q) (Nat.le_refl _) ⟨by rw [List.length_append]; exact few, _, rv.append rw', IsTup.new _ _⟩
  exact ⟨.ref s.heap.objs.size, _, I2, rfl, q2 nx ny _ (I.hok.fresh (Nat.le_refl _))⟩
/-- how many terms a sum has -/
def termsE : Ex → Nat
  | .num _ => 1
  | .nam _ => 1
  | .sum _ a b => termsE a + termsE b
theorem terms_pos : ∀ e : Ex, 1 ≤ termsE e
  | .num _ => Nat.le_refl _
  | .nam _ => Nat.le_refl _
  | .sum _ a b => Nat.le_trans (terms_pos a) (Nat.le_add_right _ _)
theorem terms_few {m : Nat} : ∀ (k : Nat) (e : Ex), okEx m k e → termsE e ≤ 2 ^ k
  | 0, .num _, _ => Nat.le_refl _
  | 0, .nam _, _ => Nat.le_refl _
  | 0, .sum .., h => h.elim
  | k + 1, .num _, _ => Nat.one_le_two_pow
  | k + 1, .nam _, _ => Nat.one_le_two_pow
  | k + 1, .sum _ a b, h => by
    have h1 := terms_few k a h.1
    have h2 := terms_few k b h.2
    rw [Nat.pow_succ]
    show termsE a + termsE b ≤ _
    omega
def isSum : Ex → Bool
  | .sum .. => true
  | _ => false
theorem in_nm {m x : Nat} (m4 : m ≤ 4) (h : x < m) : inV (V.str (nmS x)) (nmV m) = true := by
  have key : ∀ m, m < 5 → ∀ x, x < m → inV (V.str (nmS x)) (nmV m) = true := by decide +kernel
  exact key m (by omega) x h
theorem in_pc {q x : Nat} (q2 : q ≤ 2) (h : x < q) : inV (V.str (pcS60 x)) (pcV q) = true := by
  have key : ∀ m, m < 3 → ∀ x, x < m → inV (V.str (pcS60 x)) (pcV m) = true := by decide +kernel
  exact key q (by omega) x h
theorem flat_nm (m : Nat) : (nmV m).all flatV = true := by
  rw [List.all_eq_true]
  intro x hx
  obtain ⟨y, _, rfl⟩ := List.mem_map.mp hx
  rfl
theorem flat_pc (m : Nat) : (pcV m).all flatV = true := by
  rw [List.all_eq_true]
  intro x hx
  obtain ⟨y, _, rfl⟩ := List.mem_map.mp hx
  rfl
section
variable {P : Program} {w : World} {K : PySem.W.Frag} {mg : Str → Option Value} {base : Heap}
def spTerm (K : PySem.W.Frag) : Sp := fun vs H Q _ => ∃ (v : V) (na : Addr) (m k : Nat) (e : Ex), vs = [v, .ref na] ∧ SqT K H na (nmV m) ∧ m ≤ 4 ∧ Dp K H v (exD e) ∧ okEx m k e ∧ Q (.bl (!isSum e)) H
theorem ok_term (F : Df K mg "is_term" st_is_term ["value", "names"]) (B : Bu mg) (c_GREATEST_TERM : ∃ t, mg "GREATEST_TERM" = some (.int 1000 t)) (CN : Cal P w K mg base 2 "is_number" (spIsNumberW K)) : Cal P w K mg base 3 "is_term" (spTerm K) := by
  refine mkCal F sc_is_term (fun vs H Q E h => ?_) (fun f cdv A outer s H vs Q E hr h => ?_)
  · obtain ⟨v, na, m, k, e, rfl, _⟩ := h
    rfl
  · obtain ⟨v, na, m, k, e, rfl, hN, m4, hD, ok, q⟩ := h
    refine ⟨_, pss_one (ps_ret (pe_ifExp (pt_val (pe_callB (cl_isi K) (by rfl) B.isi (by decide +kernel) (pa_cons (pv 0) (pa_cons (pe_bltn (v := .ty "str") (by rfl) B.str (by decide +kernel) rfl) pa_nil)))) (pe_cmpR (opIn K) (pv 0) (pv 1) rfl) (pc CN hr (pa_cons (pv 0) (pa_cons (pe_un un_neg (pk c_GREATEST_TERM)) (pa_cons (pk c_GREATEST_TERM) pa_nil))) (hk := by omega)))), ?_⟩
    obtain ⟨t1, u1, ci1, ci2, ci3⟩ := isi_str hD
    refine ⟨_, rfl, v, .ty "str", t1, u1, _, rfl, ci1, ci2, ci3, _, rfl, ?_⟩
    cases e with
    | nam x =>
      obtain rfl := dp_str hD
      have hx : x < m := by cases k <;> exact ok
      refine ifT rfl ⟨_, rfl, _, rfl, na, _, rfl, .inr hN, rfl, flat_nm m, ?_⟩
      rw [show (if false = true then !inV (V.str (nmS x)) (nmV m) else inV (V.str (nmS x)) (nmV m)) = true from in_nm m4 hx]
      exact q
    | num i =>
      obtain rfl := dp_int hD
      have hi : -1000 ≤ i ∧ i ≤ 1000 := by cases k <;> exact ok
      refine ifF rfl ⟨_, rfl, 1000, rfl, .int i, -1000, 1000, rfl, .int i, ?_⟩
      rw [show inV2 (-1000) 1000 (.int i) = true by show (decide _ && decide _) = true; rw [decide_eq_true hi.1, decide_eq_true hi.2]; rfl]
      exact q
    | sum add x y =>
      obtain ⟨b, v1, v2, v3, rfl, hS, h1, h2, h3⟩ := dp_tup3 hD
      exact ifF rfl ⟨_, rfl, 1000, rfl, .ref b, -1000, 1000, rfl, .tup hS, q⟩
def spTerms (K : PySem.W.Frag) (k : Nat) : Sp := fun vs H Q _ => ∃ (v : V) (na : Addr) (m : Nat) (e : Ex) (mo : Int), vs = [v, .ref na, .int mo] ∧ SqT K H na (nmV m) ∧ m ≤ 4 ∧ Dp K H v (exD e) ∧ okEx m k e ∧ (k : Int) ≤ mo ∧ Q (.int (termsE e : Nat)) H
theorem ok_terms0 (F : Df K mg "terms_in" st_terms_in ["value", "names", "most"]) (CT : Cal P w K mg base 3 "is_term" (spTerm K)) : Cal P w K mg base 4 "terms_in" (spTerms K 0) := by
  refine mkCal F sc_terms_in (fun vs H Q E h => ?_) (fun f cdv A outer s H vs Q E hr h => ?_)
  · obtain ⟨v, na, m, e, mo, rfl, _⟩ := h
    rfl
  · obtain ⟨v, na, m, e, mo, rfl, hN, m4, hD, ok, hm, q⟩ := h
    refine ⟨_, pss_cons (ps_if (pt_val (pc CT hr (pa_cons (pv 0) (pa_cons (pv 1) pa_nil)) (hk := by omega))) (pss_one (ps_ret pe_int)) pss_nil) (pss_cons ps_no (pss_cons ps_no (pss_cons ps_no (pss_one ps_no)))), ?_⟩
    refine ⟨_, rfl, _, rfl, v, na, m, 0, e, rfl, hN, m4, hD, ok, _, rfl, ?_⟩
    cases e with
    | nam x => exact ifT rfl q
    | num i => exact ifT rfl q
    | sum add x y => exact absurd ok id
theorem ok_termsS (k : Nat) (F : Df K mg "terms_in" st_terms_in ["value", "names", "most"]) (tS : CTup K mg "SIGNS" signZ) (CT : Cal P w K mg base 3 "is_term" (spTerm K)) (CR : Cal P w K mg base 1 "is_row" (spIsRowW K)) (C : Cal P w K mg base (k + 4) "terms_in" (spTerms K k)) : Cal P w K mg base (k + 5) "terms_in" (spTerms K (k + 1)) := by
  obtain ⟨aS, gaS, hSg⟩ := tS.at
  refine mkCal F sc_terms_in (fun vs H Q E h => ?_) (fun f cdv A outer s H vs Q E hr h => ?_)
  · obtain ⟨v, na, m, e, mo, rfl, _⟩ := h
    rfl
  · obtain ⟨v, na, m, e, mo, rfl, hN, m4, hD, ok, hm, q⟩ := h
    refine ⟨_, pss_cons (ps_if (pt_val (pc CT hr (pa_cons (pv 0) (pa_cons (pv 1) pa_nil)) (hk := by omega))) (pss_one (ps_ret pe_int)) pss_nil)
      (pss_cons (ps_if (PW.pt (pw_or (pt_cmpR op_eq (pv 2) pe_int (nomark _)) (pw_or (pt_not (pt_val (pc CR hr (pa_cons (pv 0) (pa_cons pe_int (pa_cons pe_int pa_nil))) (hk := by omega)))) (pw_or1 (pt_cmpR (opNotIn K) (pe_ix (ixT K) (pv 0) pe_int (fun _ _ => rfl)) (pe_glob (v := .ref aS) (by rfl) gaS (by rfl)) rfl))))) (pss_one (ps_ret pe_int)) pss_nil)
      (pss_cons (ps_set (i := 3) sc_terms_in.nd rfl (.inl rfl) (pc C hr (pa_cons (pe_ix (ixT K) (pv 0) pe_int (fun _ _ => rfl)) (pa_cons (pv 1) (pa_cons (pe_op op_sub (pv 2) pe_int) pa_nil))) (hk := by omega)))
      (pss_cons (ps_set (i := 4) sc_terms_in.nd rfl (.inl rfl) (pc C hr (pa_cons (pe_ix (ixT K) (pv 0) pe_int (fun _ _ => rfl)) (pa_cons (pv 1) (pa_cons (pe_op op_sub (pv 2) pe_int) pa_nil))) (hk := by omega)))
      (pss_one (ps_ret (pe_ifExp (PW.pt (pw_and (pt_cmpR op_gt (pv 3) pe_int (nomark _)) (pw_and1 (pt_cmpR op_gt (pv 4) pe_int (nomark _))))) (pe_op op_add (pv 3) (pv 4)) pe_int)))))), ?_⟩
    refine ⟨_, rfl, _, rfl, v, na, m, k + 1, e, rfl, hN, m4, hD, ok, _, rfl, ?_⟩
    cases e with
    | nam x => exact ifT rfl q
    | num i => exact ifT rfl q
    | sum add x y =>
      obtain ⟨b, v1, v2, v3, rfl, hS, h1, h2, h3⟩ := dp_tup3 hD
      obtain rfl := dp_str h1
      refine ifF rfl ⟨_, rfl, rfl, _, rfl, ifF (by rw [V_int]; exact decide_eq_false (by omega)) ?_⟩
      refine ⟨_, rfl, .ref b, some [_, v2, v3], 3, 3, rfl, .tup hS, _, rfl, ifF (by show (!(decide ((3 : Int) ≤ 3) && decide ((3 : Int) ≤ 3))) = false; decide) ?_⟩
      refine ⟨_, rfl, b, _, (0 : Int), _, rfl, rfl, hS, rfl, aS, _, rfl, .inr (hSg _), ?_, by decide, _, rfl, ifF ?_ ?_⟩
      · cases add <;> rfl
      · cases add <;> decide +kernel
      refine ⟨_, rfl, b, _, (1 : Int), v2, rfl, rfl, hS, rfl, _, rfl, _, rfl, mo, 1, rfl, rfl, v2, na, m, x, mo - 1, rfl, hN, m4, h2, ok.1, by omega, ?_⟩
      refine ⟨_, rfl, b, _, (2 : Int), v3, rfl, rfl, hS, rfl, _, rfl, _, rfl, mo, 1, rfl, rfl, v3, na, m, y, mo - 1, rfl, hN, m4, h3, ok.2, by omega, ?_⟩
      have t1 := terms_pos x
      have t2 := terms_pos y
      refine ⟨_, rfl, _, 0, rfl, rfl, _, rfl, ifT (decide_eq_true (by omega)) ⟨_, rfl, _, 0, rfl, rfl, _, rfl, ifT (decide_eq_true (by omega)) ⟨_, rfl, _, rfl, _, _, rfl, rfl, ?_⟩⟩⟩
      have q' : Q (.int ((termsE x : Int) + (termsE y : Int))) H := by
        rw [← Int.natCast_add]
        exact q
      exact q'
def spSum2 (K : PySem.W.Frag) : Sp := fun vs H Q _ => ∃ (v : V) (na : Addr) (m : Nat) (e : Ex), vs = [v, .ref na] ∧ SqT K H na (nmV m) ∧ m ≤ 4 ∧ Dp K H v (exD e) ∧ okEx m 3 e ∧ Q (.bl true) H
theorem ok_isSum (F : Df K mg "is_sum" st_is_sum ["value", "names"]) (c_MOST_SUMS : ∃ t, mg "MOST_SUMS" = some (.int 6 t)) (c_MOST_TERMS : ∃ t, mg "MOST_TERMS" = some (.int 24 t)) (CT : Cal P w K mg base 7 "terms_in" (spTerms K 3)) : Cal P w K mg base 8 "is_sum" (spSum2 K) := by
  refine mkCal F sc_is_sum (fun vs H Q E h => ?_) (fun f cdv A outer s H vs Q E hr h => ?_)
  · obtain ⟨v, na, m, e, rfl, _⟩ := h
    rfl
  · obtain ⟨v, na, m, e, rfl, hN, m4, hD, ok, q⟩ := h
    refine ⟨_, pss_one (ps_ret (pe_chain op_le op_le pe_int (pc CT hr (pa_cons (pv 0) (pa_cons (pv 1) (pa_cons (pk c_MOST_SUMS) pa_nil))) (hk := by omega)) (pk c_MOST_TERMS))), ?_⟩
    have t1 := terms_pos e
    have t2 := terms_few 3 e ok
    refine ⟨_, rfl, _, rfl, v, na, m, e, 6, rfl, hN, m4, hD, ok, by decide, 1, _, rfl, rfl, _, rfl, ifT (decide_eq_true (by omega)) ⟨_, 24, rfl, rfl, ?_⟩⟩
    have q' : Q (.bl (decide ((termsE e : Int) ≤ 24))) H := by
      rw [decide_eq_true (by omega)]
      exact q
    exact q'
def spTest (K : PySem.W.Frag) : Sp := fun vs H Q _ => ∃ (v : V) (na : Addr) (m : Nat) (e : Ex) (g : Bool), vs = [v, .ref na] ∧ SqT K H na (nmV m) ∧ m ≤ 4 ∧ Dp K H v (.tuple [exD e, .bool g]) ∧ okEx m 3 e ∧ Q (.bl true) H
theorem ok_isTest (F : Df K mg "is_test" st_is_test ["value", "names"]) (B : Bu mg) (CR : Cal P w K mg base 1 "is_row" (spIsRowW K)) (CS : Cal P w K mg base 8 "is_sum" (spSum2 K)) : Cal P w K mg base 9 "is_test" (spTest K) := by
  refine mkCal F sc_is_test (fun vs H Q E h => ?_) (fun f cdv A outer s H vs Q E hr h => ?_)
  · obtain ⟨v, na, m, e, g, rfl, _⟩ := h
    rfl
  · obtain ⟨v, na, m, e, g, rfl, hN, m4, hD, ok, q⟩ := h
    refine ⟨_, pss_one (ps_ret (pe_and (pc CR hr (pa_cons (pv 0) (pa_cons pe_int (pa_cons pe_int pa_nil))) (hk := by omega)) (pe_and (pc CS hr (pa_cons (pe_ix (ixT K) (pv 0) pe_int (fun _ _ => rfl)) (pa_cons (pv 1) pa_nil)) (hk := by omega)) (pe_one (pe_callB (cl_isi K) (by rfl) B.isi (by decide +kernel) (pa_cons (pe_ix (ixT K) (pv 0) pe_int (fun _ _ => rfl)) (pa_cons (pe_bltn (v := .ty "bool") (by rfl) B.bool (by decide +kernel) rfl) pa_nil))))))), ?_⟩
    obtain ⟨b, v1, v2, rfl, hS, h1, h2⟩ := dp_two hD
    obtain rfl := dp_bl h2
    refine ⟨_, rfl, .ref b, some [v1, .bl g], 2, 2, rfl, .tup hS, _, rfl, ifT (by show (decide ((2 : Int) ≤ 2) && decide ((2 : Int) ≤ 2)) = true; decide) ?_⟩
    refine ⟨_, rfl, b, _, (0 : Int), v1, rfl, rfl, hS, rfl, _, rfl, v1, na, m, e, rfl, hN, m4, h1, ok, _, rfl, ifT rfl ?_⟩
    exact ⟨_, rfl, b, _, (1 : Int), .bl g, rfl, rfl, hS, rfl, .bl g, .ty "bool", _, _, true, rfl, .ty "bool", .base (.bl g), kit_ty (by decide +kernel), q⟩
/-- how long the parts are -/
def partK : List (Key × V) := [(.inr "let", .int 3), (.inr "say", .int 2), (.inr "ask", .int 2), (.inr "if", .int 4), (.inr "while", .int 3), (.inr "repeat", .int 3), (.inr "do", .int 2), (.inr "stop", .int 1)]
def spIsPart (K : PySem.W.Frag) : Sp := fun vs H Q _ => ∃ (v : V) (na da : Addr) (m qq d : Nat) (pt : Pt), vs = [v, .ref na, .ref da] ∧ SqT K H na (nmV m) ∧ m ≤ 4 ∧ SqT K H da (pcV qq) ∧ qq ≤ 2 ∧ Dp K H v (ptD pt) ∧ okPt m qq d pt ∧ Q (.bl true) H
theorem ok_part (F : Df K mg "is_part" st_is_part ["value", "names", "before"]) (B : Bu mg) (c_MOST_ROUNDS : ∃ t, mg "MOST_ROUNDS" = some (.int 6 t)) {aP : Addr} (gaP : mg "PART_LENGTHS" = some (.ref aP)) (KD : KDict P w K aP partK)
    (CR : Cal P w K mg base 1 "is_row" (spIsRowW K)) (CS : Cal P w K mg base 8 "is_sum" (spSum2 K)) (CTe : Cal P w K mg base 9 "is_test" (spTest K)) (CN : Cal P w K mg base 2 "is_number" (spIsNumberW K)) : Cal P w K mg base 10 "is_part" (spIsPart K) := by
  refine mkCal F sc_is_part (fun vs H Q E h => ?_) (fun f cdv A outer s H vs Q E hr h => ?_)
  · obtain ⟨v, na, da, m, qq, d, pt, rfl, _⟩ := h
    rfl
  · obtain ⟨v, na, da, m, qq, d, pt, rfl, hN, m4, hDa, q2, hD, ok, q⟩ := h
    refine ⟨_, pss_cons (ps_if (PW.pt (pw_or (pt_not (pt_val (pc CR hr (pa_cons (pv 0) (pa_cons pe_int (pa_cons pe_int pa_nil))) (hk := by omega)))) (pw_or (pt_not (pt_val (pe_callB (cl_isi K) (by rfl) B.isi (by decide +kernel) (pa_cons (pe_ix (ixT K) (pv 0) pe_int (fun _ _ => rfl)) (pa_cons (pe_bltn (v := .ty "str") (by rfl) B.str (by decide +kernel) rfl) pa_nil))))) (pw_or1 (pt_cmpR op_ne (pe_callB (cl_len K) (by rfl) B.len PySem.boot_len (pa_cons (pv 0) pa_nil)) (pe_kget (pe_glob (v := .ref aP) (by rfl) gaP (by rfl)) (pe_ix (ixT K) (pv 0) pe_int (fun _ _ => rfl)) ⟨by rfl, by rfl, by rfl, by rfl⟩) (nomark _)))))) (pss_one (ps_ret pe_bl)) pss_nil)
      (pss_cons (ps_set (i := 3) sc_is_part.nd rfl (.inl rfl) (pe_ix (ixT K) (pv 0) pe_int (fun _ _ => rfl)))
      (pss_cons (ps_if (pt_cmpR op_eq (pv 3) pe_str (nomark _)) (pss_one (ps_ret (pe_and (pe_cmpR (opIn K) (pe_ix (ixT K) (pv 0) pe_int (fun _ _ => rfl)) (pv 1) rfl) (pe_one (pc CS hr (pa_cons (pe_ix (ixT K) (pv 0) pe_int (fun _ _ => rfl)) (pa_cons (pv 1) pa_nil)) (hk := by omega)))))) pss_nil)
      (pss_cons (ps_if (pt_cmpR op_eq (pv 3) pe_str (nomark _)) (pss_one (ps_ret (pc CS hr (pa_cons (pe_ix (ixT K) (pv 0) pe_int (fun _ _ => rfl)) (pa_cons (pv 1) pa_nil)) (hk := by omega)))) pss_nil)
      (pss_cons (ps_if (pt_cmpR op_eq (pv 3) pe_str (nomark _)) (pss_one (ps_ret (pe_cmpR (opIn K) (pe_ix (ixT K) (pv 0) pe_int (fun _ _ => rfl)) (pv 1) rfl))) pss_nil)
      (pss_cons (ps_if (pt_cmpR op_eq (pv 3) pe_str (nomark _)) (pss_one (ps_ret (pe_cmpR (opIn K) (pe_ix (ixT K) (pv 0) pe_int (fun _ _ => rfl)) (pv 2) rfl))) pss_nil)
      (pss_cons (ps_if (pt_cmpR op_eq (pv 3) pe_str (nomark _)) (pss_one (ps_ret (pc CN hr (pa_cons (pe_ix (ixT K) (pv 0) pe_int (fun _ _ => rfl)) (pa_cons pe_int (pa_cons (pk c_MOST_ROUNDS) pa_nil))) (hk := by omega)))) pss_nil)
      (pss_one (ps_ret (pe_or (pe_cmpR op_eq (pv 3) pe_str (nomark _)) (pe_one (pc CTe hr (pa_cons (pe_ix (ixT K) (pv 0) pe_int (fun _ _ => rfl)) (pa_cons (pv 1) pa_nil)) (hk := by omega)))))))))))), ?_⟩
    cases pt with
    | letP x e =>
      have okp : x < m ∧ okEx m 3 e := by cases d <;> exact ok
      obtain ⟨c, v1, v2, v3, rfl, hY, w1, w2, w3⟩ := dp_tup3 hD
      obtain rfl := dp_str w1
      refine ⟨_, rfl, .ref c, some [_, v2, v3], 1, 4, rfl, .tup hY, _, rfl, ifF (by show (!(decide ((1 : Int) ≤ 3) && decide ((3 : Int) ≤ 4))) = false; decide) ?_⟩
      refine ⟨_, rfl, c, _, (0 : Int), _, rfl, rfl, hY, rfl, .str "let", .ty "str", _, _, true, rfl, .ty "str", .base (.str _), kit_ty (by decide +kernel), _, rfl, ifF rfl ?_⟩
      refine ⟨_, rfl, c, _, rfl, .inr hY, aP, partK, rfl, KD, _, rfl, c, _, (0 : Int), _, rfl, rfl, hY, rfl, .inr "let", rfl, by show scal (V.int 3) ((valV partK (.inr "let")).getD .non) = true; decide +kernel, _, rfl, ifF (by show (!decide (V.int 3 = (valV partK (.inr "let")).getD .non)) = false; decide +kernel) ?_⟩
      refine ⟨_, rfl, c, _, (0 : Int), _, rfl, rfl, hY, rfl, ?_⟩
      refine ⟨_, rfl, rfl, _, rfl, ifT (by decide +kernel) ?_⟩
      obtain rfl := dp_str w2
      refine ⟨_, rfl, c, _, (1 : Int), _, rfl, rfl, hY, rfl, _, rfl, na, _, rfl, .inr hN, rfl, flat_nm m, ?_⟩
      exact ⟨_, rfl, ifT (in_nm m4 okp.1) ⟨_, rfl, c, _, (2 : Int), v3, rfl, rfl, hY, rfl, _, rfl, v3, na, m, e, rfl, hN, m4, w3, okp.2, q⟩⟩
    | sayP e =>
      have okp : okEx m 3 e := by cases d <;> exact ok
      obtain ⟨c, v1, v2, rfl, hY, w1, w2⟩ := dp_two hD
      obtain rfl := dp_str w1
      refine ⟨_, rfl, .ref c, some [_, v2], 1, 4, rfl, .tup hY, _, rfl, ifF (by show (!(decide ((1 : Int) ≤ 2) && decide ((2 : Int) ≤ 4))) = false; decide) ?_⟩
      refine ⟨_, rfl, c, _, (0 : Int), _, rfl, rfl, hY, rfl, .str "say", .ty "str", _, _, true, rfl, .ty "str", .base (.str _), kit_ty (by decide +kernel), _, rfl, ifF rfl ?_⟩
      refine ⟨_, rfl, c, _, rfl, .inr hY, aP, partK, rfl, KD, _, rfl, c, _, (0 : Int), _, rfl, rfl, hY, rfl, .inr "say", rfl, by show scal (V.int 2) ((valV partK (.inr "say")).getD .non) = true; decide +kernel, _, rfl, ifF (by show (!decide (V.int 2 = (valV partK (.inr "say")).getD .non)) = false; decide +kernel) ?_⟩
      refine ⟨_, rfl, c, _, (0 : Int), _, rfl, rfl, hY, rfl, ?_⟩
      refine ⟨_, rfl, rfl, _, rfl, ifF (by decide +kernel) ?_⟩
      refine ⟨_, rfl, rfl, _, rfl, ifT (by decide +kernel) ?_⟩
      exact ⟨_, rfl, c, _, (1 : Int), v2, rfl, rfl, hY, rfl, _, rfl, v2, na, m, e, rfl, hN, m4, w2, okp, q⟩
    | askP x =>
      have okp : x < m := by cases d <;> exact ok
      obtain ⟨c, v1, v2, rfl, hY, w1, w2⟩ := dp_two hD
      obtain rfl := dp_str w1
      refine ⟨_, rfl, .ref c, some [_, v2], 1, 4, rfl, .tup hY, _, rfl, ifF (by show (!(decide ((1 : Int) ≤ 2) && decide ((2 : Int) ≤ 4))) = false; decide) ?_⟩
      refine ⟨_, rfl, c, _, (0 : Int), _, rfl, rfl, hY, rfl, .str "ask", .ty "str", _, _, true, rfl, .ty "str", .base (.str _), kit_ty (by decide +kernel), _, rfl, ifF rfl ?_⟩
      refine ⟨_, rfl, c, _, rfl, .inr hY, aP, partK, rfl, KD, _, rfl, c, _, (0 : Int), _, rfl, rfl, hY, rfl, .inr "ask", rfl, by show scal (V.int 2) ((valV partK (.inr "ask")).getD .non) = true; decide +kernel, _, rfl, ifF (by show (!decide (V.int 2 = (valV partK (.inr "ask")).getD .non)) = false; decide +kernel) ?_⟩
      refine ⟨_, rfl, c, _, (0 : Int), _, rfl, rfl, hY, rfl, ?_⟩
      refine ⟨_, rfl, rfl, _, rfl, ifF (by decide +kernel) ?_⟩
      refine ⟨_, rfl, rfl, _, rfl, ifF (by decide +kernel) ?_⟩
      refine ⟨_, rfl, rfl, _, rfl, ifT (by decide +kernel) ?_⟩
      obtain rfl := dp_str w2
      refine ⟨_, rfl, c, _, (1 : Int), _, rfl, rfl, hY, rfl, _, rfl, na, _, rfl, .inr hN, rfl, flat_nm m, ?_⟩
      rw [show (if false = true then !inV (V.str (nmS x)) (nmV m) else inV (V.str (nmS x)) (nmV m)) = true from in_nm m4 okp]
      exact q
    | stopP =>
      have okp : True := by cases d <;> exact ok
      obtain ⟨c, v1, rfl, hY, w1⟩ := dp_one hD
      obtain rfl := dp_str w1
      refine ⟨_, rfl, .ref c, some [_], 1, 4, rfl, .tup hY, _, rfl, ifF (by show (!(decide ((1 : Int) ≤ 1) && decide ((1 : Int) ≤ 4))) = false; decide) ?_⟩
      refine ⟨_, rfl, c, _, (0 : Int), _, rfl, rfl, hY, rfl, .str "stop", .ty "str", _, _, true, rfl, .ty "str", .base (.str _), kit_ty (by decide +kernel), _, rfl, ifF rfl ?_⟩
      refine ⟨_, rfl, c, _, rfl, .inr hY, aP, partK, rfl, KD, _, rfl, c, _, (0 : Int), _, rfl, rfl, hY, rfl, .inr "stop", rfl, by show scal (V.int 1) ((valV partK (.inr "stop")).getD .non) = true; decide +kernel, _, rfl, ifF (by show (!decide (V.int 1 = (valV partK (.inr "stop")).getD .non)) = false; decide +kernel) ?_⟩
      refine ⟨_, rfl, c, _, (0 : Int), _, rfl, rfl, hY, rfl, ?_⟩
      refine ⟨_, rfl, rfl, _, rfl, ifF (by decide +kernel) ?_⟩
      refine ⟨_, rfl, rfl, _, rfl, ifF (by decide +kernel) ?_⟩
      refine ⟨_, rfl, rfl, _, rfl, ifF (by decide +kernel) ?_⟩
      refine ⟨_, rfl, rfl, _, rfl, ifF (by decide +kernel) ?_⟩
      refine ⟨_, rfl, rfl, _, rfl, ifF (by decide +kernel) ?_⟩
      exact ⟨_, rfl, rfl, _, rfl, ifT (by decide +kernel) q⟩
    | doP q0 =>
      have okp : q0 < qq := by cases d <;> exact ok
      obtain ⟨c, v1, v2, rfl, hY, w1, w2⟩ := dp_two hD
      obtain rfl := dp_str w1
      refine ⟨_, rfl, .ref c, some [_, v2], 1, 4, rfl, .tup hY, _, rfl, ifF (by show (!(decide ((1 : Int) ≤ 2) && decide ((2 : Int) ≤ 4))) = false; decide) ?_⟩
      refine ⟨_, rfl, c, _, (0 : Int), _, rfl, rfl, hY, rfl, .str "do", .ty "str", _, _, true, rfl, .ty "str", .base (.str _), kit_ty (by decide +kernel), _, rfl, ifF rfl ?_⟩
      refine ⟨_, rfl, c, _, rfl, .inr hY, aP, partK, rfl, KD, _, rfl, c, _, (0 : Int), _, rfl, rfl, hY, rfl, .inr "do", rfl, by show scal (V.int 2) ((valV partK (.inr "do")).getD .non) = true; decide +kernel, _, rfl, ifF (by show (!decide (V.int 2 = (valV partK (.inr "do")).getD .non)) = false; decide +kernel) ?_⟩
      refine ⟨_, rfl, c, _, (0 : Int), _, rfl, rfl, hY, rfl, ?_⟩
      refine ⟨_, rfl, rfl, _, rfl, ifF (by decide +kernel) ?_⟩
      refine ⟨_, rfl, rfl, _, rfl, ifF (by decide +kernel) ?_⟩
      refine ⟨_, rfl, rfl, _, rfl, ifF (by decide +kernel) ?_⟩
      refine ⟨_, rfl, rfl, _, rfl, ifT (by decide +kernel) ?_⟩
      obtain rfl := dp_str w2
      refine ⟨_, rfl, c, _, (1 : Int), _, rfl, rfl, hY, rfl, _, rfl, da, _, rfl, .inr hDa, rfl, flat_pc qq, ?_⟩
      rw [show (if false = true then !inV (V.str (pcS60 q0)) (pcV qq) else inV (V.str (pcS60 q0)) (pcV qq)) = true from in_pc q2 okp]
      exact q
    | ifP e g ba bb =>
      have okp : okEx m 2 e := by
        cases d with
        | zero => exact ok.elim
        | succ d => exact ok.1
      obtain ⟨c, v1, v2, v3, v4, rfl, hY, w1, w2, w3, w4⟩ := dp_four hD
      obtain rfl := dp_str w1
      refine ⟨_, rfl, .ref c, some [_, v2, v3, v4], 1, 4, rfl, .tup hY, _, rfl, ifF (by show (!(decide ((1 : Int) ≤ 4) && decide ((4 : Int) ≤ 4))) = false; decide) ?_⟩
      refine ⟨_, rfl, c, _, (0 : Int), _, rfl, rfl, hY, rfl, .str "if", .ty "str", _, _, true, rfl, .ty "str", .base (.str _), kit_ty (by decide +kernel), _, rfl, ifF rfl ?_⟩
      refine ⟨_, rfl, c, _, rfl, .inr hY, aP, partK, rfl, KD, _, rfl, c, _, (0 : Int), _, rfl, rfl, hY, rfl, .inr "if", rfl, by show scal (V.int 4) ((valV partK (.inr "if")).getD .non) = true; decide +kernel, _, rfl, ifF (by show (!decide (V.int 4 = (valV partK (.inr "if")).getD .non)) = false; decide +kernel) ?_⟩
      refine ⟨_, rfl, c, _, (0 : Int), _, rfl, rfl, hY, rfl, ?_⟩
      refine ⟨_, rfl, rfl, _, rfl, ifF (by decide +kernel) ?_⟩
      refine ⟨_, rfl, rfl, _, rfl, ifF (by decide +kernel) ?_⟩
      refine ⟨_, rfl, rfl, _, rfl, ifF (by decide +kernel) ?_⟩
      refine ⟨_, rfl, rfl, _, rfl, ifF (by decide +kernel) ?_⟩
      refine ⟨_, rfl, rfl, _, rfl, ifF (by decide +kernel) ?_⟩
      exact ⟨_, rfl, rfl, _, rfl, ifF (by decide +kernel) ⟨_, rfl, c, _, (1 : Int), v2, rfl, rfl, hY, rfl, _, rfl, v2, na, m, e, g, rfl, hN, m4, w2, okEx_up _ _ okp, q⟩⟩
    | whileP e g ba =>
      have okp : okEx m 2 e := by
        cases d with
        | zero => exact ok.elim
        | succ d => exact ok.1
      obtain ⟨c, v1, v2, v3, rfl, hY, w1, w2, w3⟩ := dp_tup3 hD
      obtain rfl := dp_str w1
      refine ⟨_, rfl, .ref c, some [_, v2, v3], 1, 4, rfl, .tup hY, _, rfl, ifF (by show (!(decide ((1 : Int) ≤ 3) && decide ((3 : Int) ≤ 4))) = false; decide) ?_⟩
      refine ⟨_, rfl, c, _, (0 : Int), _, rfl, rfl, hY, rfl, .str "while", .ty "str", _, _, true, rfl, .ty "str", .base (.str _), kit_ty (by decide +kernel), _, rfl, ifF rfl ?_⟩
      refine ⟨_, rfl, c, _, rfl, .inr hY, aP, partK, rfl, KD, _, rfl, c, _, (0 : Int), _, rfl, rfl, hY, rfl, .inr "while", rfl, by show scal (V.int 3) ((valV partK (.inr "while")).getD .non) = true; decide +kernel, _, rfl, ifF (by show (!decide (V.int 3 = (valV partK (.inr "while")).getD .non)) = false; decide +kernel) ?_⟩
      refine ⟨_, rfl, c, _, (0 : Int), _, rfl, rfl, hY, rfl, ?_⟩
      refine ⟨_, rfl, rfl, _, rfl, ifF (by decide +kernel) ?_⟩
      refine ⟨_, rfl, rfl, _, rfl, ifF (by decide +kernel) ?_⟩
      refine ⟨_, rfl, rfl, _, rfl, ifF (by decide +kernel) ?_⟩
      refine ⟨_, rfl, rfl, _, rfl, ifF (by decide +kernel) ?_⟩
      refine ⟨_, rfl, rfl, _, rfl, ifF (by decide +kernel) ?_⟩
      exact ⟨_, rfl, rfl, _, rfl, ifF (by decide +kernel) ⟨_, rfl, c, _, (1 : Int), v2, rfl, rfl, hY, rfl, _, rfl, v2, na, m, e, g, rfl, hN, m4, w2, okEx_up _ _ okp, q⟩⟩
    | repP j ba =>
      have okp : j < 3 := by
        cases d with
        | zero => exact ok.elim
        | succ d => exact ok.1
      obtain ⟨c, v1, v2, v3, rfl, hY, w1, w2, w3⟩ := dp_tup3 hD
      obtain rfl := dp_str w1
      refine ⟨_, rfl, .ref c, some [_, v2, v3], 1, 4, rfl, .tup hY, _, rfl, ifF (by show (!(decide ((1 : Int) ≤ 3) && decide ((3 : Int) ≤ 4))) = false; decide) ?_⟩
      refine ⟨_, rfl, c, _, (0 : Int), _, rfl, rfl, hY, rfl, .str "repeat", .ty "str", _, _, true, rfl, .ty "str", .base (.str _), kit_ty (by decide +kernel), _, rfl, ifF rfl ?_⟩
      refine ⟨_, rfl, c, _, rfl, .inr hY, aP, partK, rfl, KD, _, rfl, c, _, (0 : Int), _, rfl, rfl, hY, rfl, .inr "repeat", rfl, by show scal (V.int 3) ((valV partK (.inr "repeat")).getD .non) = true; decide +kernel, _, rfl, ifF (by show (!decide (V.int 3 = (valV partK (.inr "repeat")).getD .non)) = false; decide +kernel) ?_⟩
      refine ⟨_, rfl, c, _, (0 : Int), _, rfl, rfl, hY, rfl, ?_⟩
      refine ⟨_, rfl, rfl, _, rfl, ifF (by decide +kernel) ?_⟩
      refine ⟨_, rfl, rfl, _, rfl, ifF (by decide +kernel) ?_⟩
      refine ⟨_, rfl, rfl, _, rfl, ifF (by decide +kernel) ?_⟩
      refine ⟨_, rfl, rfl, _, rfl, ifF (by decide +kernel) ?_⟩
      refine ⟨_, rfl, rfl, _, rfl, ifT (by decide +kernel) ?_⟩
      obtain rfl := dp_int w2
      refine ⟨_, rfl, c, _, (1 : Int), _, rfl, rfl, hY, rfl, .int (j : Int), 0, 6, rfl, .int _, ?_⟩
      rw [show inV2 0 6 (.int (j : Int)) = true by show (decide ((0 : Int) ≤ (j : Int)) && decide ((j : Int) ≤ 6)) = true; rw [decide_eq_true (by omega), decide_eq_true (by omega)]; rfl]
      exact q
end
end RH
set_option Elab.async false
set_option linter.all false
set_option maxRecDepth 100000
set_option maxHeartbeats 2000000
namespace RH
open PySem PySem.Spec PyProof.Rows L2
/-! ### the checks: blocks, the program; play -/
theorem cnt_one : ∀ p : Pt, 1 ≤ cntP p := fun p => by
  rw [cnt_inn]
  exact Nat.le_add_right _ _
theorem len_cnt : ∀ b : List Pt, b.length ≤ cntB b
  | [] => Nat.le_refl _
  | p :: r => by
    have h1 := cnt_one p
    have h2 := len_cnt r
    rw [cntB, List.length_cons]
    omega
theorem cnt_take (b : List Pt) (i : Nat) : cntB (b.take i) ≤ cntB b := by
  have h := cntB_app (b.take i) (b.drop i)
  rw [List.take_append_drop] at h
  omega
theorem cnt_k {b : List Pt} {n : Nat} (h : ∀ p ∈ b, cntP p ≤ n) : cntB b ≤ b.length * n := by
  induction b with
  | nil => exact Nat.zero_le _
  | cons p r ih =>
    have h1 := h p (List.mem_cons_self ..)
    have h2 := ih fun x hx => h x (List.mem_cons_of_mem _ hx)
    rw [cntB, List.length_cons, Nat.succ_mul]
    omega
theorem cnt_p0 {m q : Nat} {p : Pt} (h : okPt m q 0 p) : cntP p = 1 := by
  cases p <;> first | rfl | exact h.elim
theorem cnt_b0 {m q : Nat} {b : List Pt} (h : okBk m q 0 b) : cntB b ≤ 3 := by
  have h1 := cnt_k (n := 1) fun p hp => Nat.le_of_eq (cnt_p0 (h.2 p hp))
  have h2 := h.1
  omega
theorem cnt_p1 {m q : Nat} {p : Pt} (h : okPt m q 1 p) : cntP p ≤ 7 := by
  rw [cnt_inn]
  have hi := ok_inn (k := 0) h
  cases p <;> first
    | (simp [inn]; done)
    | (rename_i a b; have h1 := cnt_b0 (hi a (by simp [inn])); have h2 := cnt_b0 (hi b (by simp [inn])); simp [inn]; omega)
    | (rename_i a; have h1 := cnt_b0 (hi a (by simp [inn])); simp [inn]; omega)
theorem cnt_b1 {m q : Nat} {b : List Pt} (h : okBk m q 1 b) : cntB b ≤ 21 := by
  have h1 := cnt_k (n := 7) fun p hp => cnt_p1 (h.2 p hp)
  have h2 := h.1
  omega
section
variable {P : Program} {w : World} {K : PySem.W.Frag} {mg : Str → Option Value} {base : Heap}
def spBlocks (K : PySem.W.Frag) : Sp := fun vs H Q _ => ∃ (v : V) (pt : Pt), vs = [v] ∧ Dp K H v (ptD pt) ∧ ∀ H' t us, Same H H' → SqT K H' t us → DpAll K H us ((inn pt).map bkD) → Q (.ref t) H'
theorem ok_blocks (F : Df K mg "blocks_in" st_blocks_in ["part"]) (tH : CTup K mg "HOLDERS" holdZ) : Cal P w K mg base 1 "blocks_in" (spBlocks K) := by
  obtain ⟨aH, gaH, hH⟩ := tH.at
  refine mkCal F sc_blocks_in (fun vs H Q E h => ?_) (fun f cdv A outer s H vs Q E hr h => ?_)
  · obtain ⟨v, pt, rfl, _⟩ := h
    rfl
  · obtain ⟨v, pt, rfl, hD, q⟩ := h
    refine ⟨_, pss_one (ps_ret (pe_ifExp (pt_cmpR (opIn K) (pe_ix (ixT K) (pv 0) pe_int (fun _ _ => rfl)) (pe_glob (v := .ref aH) (by rfl) gaH (by rfl)) rfl) (pe_slice sl_tupA (pv 0) (po_some pe_int) po_none) (pe_tup pa_nil))), ?_⟩
    obtain ⟨c, ys, rfl, hY, h0, hI⟩ := pt_open hD
    refine ⟨_, rfl, c, ys, (0 : Int), .str (wdP pt), rfl, rfl, hY, atI_nat h0, aH, _, rfl, .inr (hH _), rfl, by decide, _, rfl, ?_⟩
    rw [show (if false = true then !inV (V.str (wdP pt)) (holdZ.map V.str) else inV (V.str (wdP pt)) (holdZ.map V.str)) = holdB pt from in_hold pt]
    cases hb : holdB pt with
    | true =>
      refine ifT rfl ⟨_, rfl, 2, rfl, ?_⟩
      unfold tNoPart
      dsimp only
      exact slT_from (K := K) 2 2 rfl hY fun t H2 s2 ht => q H2 t _ s2 ht (hI hb)
    | false =>
      have ci : inn pt = [] := by cases pt <;> first | rfl | cases hb
      rw [ci] at q
      exact ifF rfl ⟨Nat.zero_le _, fun t ht => q _ t [] (same_new ht) (tupAt upd_same) .nil⟩
def spLeft (K : PySem.W.Frag) (d : Nat) : Sp := fun vs H Q _ => ∃ (v : V) (b : List Pt) (m qq : Nat) (na da : Addr) (dp lf : Int), vs = [v, .int dp, .ref na, .ref da, .int lf] ∧ Dp K H v (bkD b) ∧ okBk m qq d b ∧ SqT K H na (nmV m) ∧ m ≤ 4 ∧ SqT K H da (pcV qq) ∧ qq ≤ 2 ∧ dp + (d : Int) ≤ 6 ∧ (cntB b : Int) ≤ lf ∧ ∀ H', Same H H' → Q (.int (lf - (cntB b : Nat))) H'
theorem ok_left0 (F : Df K mg "left_behind_block" st_left_behind_block ["value", "deep", "names", "before", "left"]) (B : Bu mg) (c_MOST_DEEP : ∃ t, mg "MOST_DEEP" = some (.int 6 t)) (c_NONE_LEFT : ∃ t, mg "NONE_LEFT" = some (.int (-1) t)) (CP : Cal P w K mg base 10 "is_part" (spIsPart K)) (CB : Cal P w K mg base 1 "blocks_in" (spBlocks K)) : Cal P w K mg base 11 "left_behind_block" (spLeft K 0) := by
  refine mkCal F sc_left_behind_block (fun vs H Q E h => ?_) (fun f cdv A outer s H vs Q E hr h => ?_)
  · obtain ⟨v, b, m, qq, na, da, dp, lf, rfl, _⟩ := h
    rfl
  · obtain ⟨v, b, m, qq, na, da, dp, lf, rfl, hD, ok, hN, m4, hDa, q2, hdp, hlf, q⟩ := h
    refine ⟨_, pss_cons (ps_if (PW.pt (pw_or (pt_cmpR op_gt (pv 1) (pk c_MOST_DEEP) (nomark _)) (pw_or (pt_not (pt_val (pe_callB (cl_isi K) (by rfl) B.isi (by decide +kernel) (pa_cons (pv 0) (pa_cons (pe_bltn (v := .ty "tuple") (by rfl) B.tuple (by decide +kernel) rfl) pa_nil))))) (pw_or1 (pt_cmpR op_gt (pe_callB (cl_len K) (by rfl) B.len PySem.boot_len (pa_cons (pv 0) pa_nil)) (pv 4) (nomark _)))))) (pss_one (ps_ret (pk c_NONE_LEFT))) pss_nil)
      (pss_cons (ps_for PassesOwn.never rfl (pi_tup (pv 0)) (pg_name (i := 5) sc_left_behind_block.nd rfl (Or.inl rfl)) (pss_cons (ps_if (PW.pt (pw_or (pt_cmpR op_lt (pv 4) pe_int (nomark _)) (pw_or1 (pt_not (pt_val (pc CP hr (pa_cons (pv 5) (pa_cons (pv 2) (pa_cons (pv 3) pa_nil))) (hk := by omega))))))) (pss_one (ps_ret (pk c_NONE_LEFT))) pss_nil)
      (pss_cons (ps_aug (i := 4) sc_left_behind_block.nd rfl (.inl rfl) pe_int ip_sub)
      (pss_one (ps_for PassesOwn.never rfl (pi_tup (pc CB hr (pa_cons (pv 5) pa_nil) (hk := by omega))) (pg_name (i := 6) sc_left_behind_block.nd rfl (Or.inl rfl)) (pss_one ps_no))))))
      (pss_one (ps_ret (pv 4)))), ?_⟩
    obtain ⟨t2, u2, cj1, cj2, cj3⟩ := isi_tup hD
    obtain ⟨a, xs, rfl, hS, hA⟩ : ∃ a xs, v = .ref a ∧ SqT K H a xs ∧ DpAll K H xs (ptsD b) := by
      cases hD with
      | tup hT hA => exact ⟨_, _, rfl, hT, hA⟩
    have lA := dpAll_len hA
    rw [ptsD_map, List.length_map] at lA
    have lc := len_cnt b
    refine ⟨_, rfl, dp, 6, rfl, rfl, _, rfl, ifF (decide_eq_false (by omega)) ?_⟩
    refine ⟨_, rfl, _, .ty "tuple", t2, u2, _, rfl, cj1, cj2, cj3, _, rfl, ifF rfl ?_⟩
    refine ⟨_, rfl, a, xs, rfl, .inr hS, _, rfl, _, lf, rfl, rfl, _, rfl, ifF (decide_eq_false (by omega)) ?_⟩
    refine ⟨_, rfl, a, rfl, ⟨_, hS⟩, ?_⟩
    refine for_tup (xs := xs) (fun i σ H' => Same H H' ∧ ∃ y5 y6, σ = [some (.ref a), some (.int dp), some (.ref na), some (.ref da), some (.int (lf - (cntB (b.take i) : Nat))), y5, y6]) ⟨Same.refl H, none, none, by rw [List.take_zero, cntB]; simp; rfl⟩ (fun i σ H' _ h' => onT h'.1 hS) (fun i x σ H' hx h' => ?_) (fun σ H' h' => ?_)
    · obtain ⟨sm, y5, y6, rfl⟩ := h'
      obtain ⟨d, hd, hx1⟩ := dpAll_at hA hx
      rw [ptsD_map, List.getElem?_map, Option.map_eq_some_iff] at hd
      obtain ⟨pt, hp, rfl⟩ := hd
      have okp := ok.2 pt (List.mem_of_getElem? hp)
      have more : cntB (b.take (i + 1)) = cntB (b.take i) + cntP pt := by
        rw [List.take_add_one, hp, cntB_app]
        show _ + cntB [pt] = _
        rw [cntB, cntB, Nat.add_zero]
      have le1 := cnt_take b (i + 1)
      have p1 := cnt_one pt
      refine ⟨_, rfl, _, 1, rfl, rfl, _, rfl, ifF (decide_eq_false (by omega)) ?_⟩
      refine ⟨_, rfl, _, rfl, _, rfl, x, na, da, m, qq, 0, pt, rfl, onT sm hN, m4, onT sm hDa, q2, Dp.on sm _ _ hx1, okp, _, rfl, ifF rfl ?_⟩
      refine ⟨_, rfl, _, 1, rfl, rfl, ?_⟩
      refine ⟨_, rfl, x, pt, rfl, Dp.on sm _ _ hx1, fun H2 t us s2 hT hU => ⟨t, rfl, ⟨_, hT⟩, ?_⟩⟩
      have lU := dpAll_len hU
      rw [List.length_map] at lU
      have ci : inn pt = [] := by cases pt <;> first | rfl | exact okp.elim
      have c1 := cnt_p0 okp
      rw [ci] at lU
      obtain rfl : us = [] := List.length_eq_zero_iff.mp lU
      refine for_tup (K := K) (g := gName 6) (tb := fun _ _ _ => False) (xs := []) (fun j σ H3 => Same H2 H3 ∧ σ = [some (.ref a), some (.int dp), some (.ref na), some (.ref da), some (.int (lf - (cntB (b.take i) : Nat) - 1)), some x, y6]) ⟨Same.refl H2, rfl⟩ (fun j σ H3 _ h3 => onT h3.1 hT) (fun j x σ H3 hx3 h3 => by simp at hx3) (fun σ H3 h3 => ?_)
      obtain ⟨s3, rfl⟩ := h3
      refine ⟨sm.trans (s2.trans s3), some x, y6, ?_⟩
      rw [more, c1, Int.natCast_add, Int.sub_sub]
      rfl
    · obtain ⟨sm, y5, y6, rfl⟩ := h'
      rw [lA, List.take_length]
      exact ⟨_, rfl, q H' sm⟩
theorem ok_leftS (k : Nat) (F : Df K mg "left_behind_block" st_left_behind_block ["value", "deep", "names", "before", "left"]) (B : Bu mg) (c_MOST_DEEP : ∃ t, mg "MOST_DEEP" = some (.int 6 t)) (c_NONE_LEFT : ∃ t, mg "NONE_LEFT" = some (.int (-1) t)) (CP : Cal P w K mg base 10 "is_part" (spIsPart K)) (CB : Cal P w K mg base 1 "blocks_in" (spBlocks K)) (C : Cal P w K mg base (k + 11) "left_behind_block" (spLeft K k)) : Cal P w K mg base (k + 12) "left_behind_block" (spLeft K (k + 1)) := by
  refine mkCal F sc_left_behind_block (fun vs H Q E h => ?_) (fun f cdv A outer s H vs Q E hr h => ?_)
  · obtain ⟨v, b, m, qq, na, da, dp, lf, rfl, _⟩ := h
    rfl
  · obtain ⟨v, b, m, qq, na, da, dp, lf, rfl, hD, ok, hN, m4, hDa, q2, hdp, hlf, q⟩ := h
    refine ⟨_, pss_cons (ps_if (PW.pt (pw_or (pt_cmpR op_gt (pv 1) (pk c_MOST_DEEP) (nomark _)) (pw_or (pt_not (pt_val (pe_callB (cl_isi K) (by rfl) B.isi (by decide +kernel) (pa_cons (pv 0) (pa_cons (pe_bltn (v := .ty "tuple") (by rfl) B.tuple (by decide +kernel) rfl) pa_nil))))) (pw_or1 (pt_cmpR op_gt (pe_callB (cl_len K) (by rfl) B.len PySem.boot_len (pa_cons (pv 0) pa_nil)) (pv 4) (nomark _)))))) (pss_one (ps_ret (pk c_NONE_LEFT))) pss_nil)
      (pss_cons (ps_for PassesOwn.never rfl (pi_tup (pv 0)) (pg_name (i := 5) sc_left_behind_block.nd rfl (Or.inl rfl)) (pss_cons (ps_if (PW.pt (pw_or (pt_cmpR op_lt (pv 4) pe_int (nomark _)) (pw_or1 (pt_not (pt_val (pc CP hr (pa_cons (pv 5) (pa_cons (pv 2) (pa_cons (pv 3) pa_nil))) (hk := by omega))))))) (pss_one (ps_ret (pk c_NONE_LEFT))) pss_nil)
      (pss_cons (ps_aug (i := 4) sc_left_behind_block.nd rfl (.inl rfl) pe_int ip_sub)
      (pss_one (ps_for PassesOwn.never rfl (pi_tup (pc CB hr (pa_cons (pv 5) pa_nil) (hk := by omega))) (pg_name (i := 6) sc_left_behind_block.nd rfl (Or.inl rfl)) (pss_one (ps_set (i := 4) sc_left_behind_block.nd rfl (.inl rfl) (pc C hr (pa_cons (pv 6) (pa_cons (pe_op op_add (pv 1) pe_int) (pa_cons (pv 2) (pa_cons (pv 3) (pa_cons (pv 4) pa_nil))))) (hk := by omega)))))))))
      (pss_one (ps_ret (pv 4)))), ?_⟩
    obtain ⟨t2, u2, cj1, cj2, cj3⟩ := isi_tup hD
    obtain ⟨a, xs, rfl, hS, hA⟩ : ∃ a xs, v = .ref a ∧ SqT K H a xs ∧ DpAll K H xs (ptsD b) := by
      cases hD with
      | tup hT hA => exact ⟨_, _, rfl, hT, hA⟩
    have lA := dpAll_len hA
    rw [ptsD_map, List.length_map] at lA
    have lc := len_cnt b
    refine ⟨_, rfl, dp, 6, rfl, rfl, _, rfl, ifF (decide_eq_false (by omega)) ?_⟩
    refine ⟨_, rfl, _, .ty "tuple", t2, u2, _, rfl, cj1, cj2, cj3, _, rfl, ifF rfl ?_⟩
    refine ⟨_, rfl, a, xs, rfl, .inr hS, _, rfl, _, lf, rfl, rfl, _, rfl, ifF (decide_eq_false (by omega)) ?_⟩
    refine ⟨_, rfl, a, rfl, ⟨_, hS⟩, ?_⟩
    refine for_tup (xs := xs) (fun i σ H' => Same H H' ∧ ∃ y5 y6, σ = [some (.ref a), some (.int dp), some (.ref na), some (.ref da), some (.int (lf - (cntB (b.take i) : Nat))), y5, y6]) ⟨Same.refl H, none, none, by rw [List.take_zero, cntB]; simp; rfl⟩ (fun i σ H' _ h' => onT h'.1 hS) (fun i x σ H' hx h' => ?_) (fun σ H' h' => ?_)
    · obtain ⟨sm, y5, y6, rfl⟩ := h'
      obtain ⟨d, hd, hx1⟩ := dpAll_at hA hx
      rw [ptsD_map, List.getElem?_map, Option.map_eq_some_iff] at hd
      obtain ⟨pt, hp, rfl⟩ := hd
      have okp := ok.2 pt (List.mem_of_getElem? hp)
      have more : cntB (b.take (i + 1)) = cntB (b.take i) + cntP pt := by
        rw [List.take_add_one, hp, cntB_app]
        show _ + cntB [pt] = _
        rw [cntB, cntB, Nat.add_zero]
      have le1 := cnt_take b (i + 1)
      have p1 := cnt_one pt
      refine ⟨_, rfl, _, 1, rfl, rfl, _, rfl, ifF (decide_eq_false (by omega)) ?_⟩
      refine ⟨_, rfl, _, rfl, _, rfl, x, na, da, m, qq, k + 1, pt, rfl, onT sm hN, m4, onT sm hDa, q2, Dp.on sm _ _ hx1, okp, _, rfl, ifF rfl ?_⟩
      refine ⟨_, rfl, _, 1, rfl, rfl, ?_⟩
      refine ⟨_, rfl, x, pt, rfl, Dp.on sm _ _ hx1, fun H2 t us s2 hT hU => ⟨t, rfl, ⟨_, hT⟩, ?_⟩⟩
      have lU := dpAll_len hU
      rw [List.length_map] at lU
      have cp := cnt_inn pt
      refine for_tup (K := K) (xs := us) (fun j σ H3 => Same H2 H3 ∧ ∃ y6, σ = [some (.ref a), some (.int dp), some (.ref na), some (.ref da), some (.int (lf - (cntB (b.take i) : Nat) - 1 - ((((inn pt).take j).map cntB).sum : Nat))), some x, y6]) ⟨Same.refl H2, y6, by simp⟩ (fun j σ H3 _ h3 => onT h3.1 hT) (fun j y σ H3 hx3 h3 => ?_) (fun σ H3 h3 => ?_)
      · obtain ⟨s3, z6, rfl⟩ := h3
        obtain ⟨d, hd, hy⟩ := dpAll_at hU hx3
        rw [List.getElem?_map, Option.map_eq_some_iff] at hd
        obtain ⟨bk, hbk, rfl⟩ := hd
        have e1 : (((inn pt).take (j + 1)).map cntB).sum = (((inn pt).take j).map cntB).sum + cntB bk := by
          rw [List.take_add_one, hbk, List.map_append, List.sum_append]
          show _ + (cntB bk + 0) = _
          omega
        have e2 : (((inn pt).take (j + 1)).map cntB).sum ≤ ((inn pt).map cntB).sum := by
          have h := List.take_append_drop (j + 1) (inn pt)
          have h2 : ((inn pt).map cntB).sum = (((inn pt).take (j + 1)).map cntB).sum + (((inn pt).drop (j + 1)).map cntB).sum := by rw [← List.sum_append, ← List.map_append, h]
          omega
        have sA := sm.trans (s2.trans s3)
        refine ⟨_, rfl, _, rfl, dp, 1, rfl, rfl, _, rfl, _, rfl, _, rfl, y, bk, m, qq, na, da, dp + 1, _, rfl, Dp.on (s2.trans s3) _ _ hy, ok_inn okp bk (List.mem_of_getElem? hbk), onT sA hN, m4, onT sA hDa, q2, by omega, by omega, fun H4 s4 => ⟨s3.trans s4, some y, ?_⟩⟩
        rw [e1, Int.natCast_add, ← Int.sub_sub]
        rfl
      · obtain ⟨s3, z6, rfl⟩ := h3
        rw [lU, List.take_length]
        refine ⟨sm.trans (s2.trans s3), some x, z6, ?_⟩
        rw [more, cp, Int.natCast_add, Int.natCast_add, Int.sub_sub, Int.sub_sub]
        rfl
    · obtain ⟨sm, y5, y6, rfl⟩ := h'
      rw [lA, List.take_length]
      exact ⟨_, rfl, q H' sm⟩
def spIsProg (K : PySem.W.Frag) : Sp := fun vs H Q _ => ∃ (v : V) (m : Nat) (bs : List (List Pt)) (main : List Pt), vs = [v] ∧ PgAt K H v m bs main ∧ PgOk m bs main ∧ ∀ H', Same H H' → Q (.bl true) H'
theorem ok_isProg (F : Df K mg "is_block_program" st_is_block_program ["value"]) (c_MOST_PROCEDURES : ∃ t, mg "MOST_PROCEDURES" = some (.int 4 t)) (c_MOST_PARTS : ∃ t, mg "MOST_PARTS" = some (.int 60 t)) (c_NONE_LEFT : ∃ t, mg "NONE_LEFT" = some (.int (-1) t)) (CR : Cal P w K mg base 1 "is_row" (spIsRowW K)) (CA : Cal P w K mg base 2 "are_names" (spNames K)) (CF : Cal P w K mg base 1 "is_free_word" spFree)
    (CL1 : Cal P w K mg base 12 "left_behind_block" (spLeft K 1)) (CL2 : Cal P w K mg base 13 "left_behind_block" (spLeft K 2)) : Cal P w K mg base 14 "is_block_program" (spIsProg K) := by
  refine mkCal F sc_is_block_program (fun vs H Q E h => ?_) (fun f cdv A outer s H vs Q E hr h => ?_)
  · obtain ⟨v, m, bs, main, rfl, _⟩ := h
    rfl
  · obtain ⟨v, m, bs, main, rfl, hP, hO, q⟩ := h
    refine ⟨_, pss_cons (ps_if (pt_not (pt_val (pc CR hr (pa_cons (pv 0) (pa_cons pe_int (pa_cons pe_int pa_nil))) (hk := by omega)))) (pss_one (ps_ret pe_bl)) pss_nil)
      (pss_cons (ps_asg (pv 0) (pg_tup rfl (pgs_cons (pg_name (i := 1) sc_is_block_program.nd rfl (Or.inl rfl)) (pgs_cons (pg_name (i := 2) sc_is_block_program.nd rfl (Or.inl rfl)) (pgs_cons (pg_name (i := 3) sc_is_block_program.nd rfl (Or.inl rfl)) pgs_nil)))))
      (pss_cons (ps_if (PW.pt (pw_or (pt_not (pt_val (pc CA hr (pa_cons (pv 1) pa_nil) (hk := by omega)))) (pw_or1 (pt_not (pt_val (pc CR hr (pa_cons (pv 2) (pa_cons pe_int (pa_cons (pk c_MOST_PROCEDURES) pa_nil))) (hk := by omega))))))) (pss_one (ps_ret pe_bl)) pss_nil)
      (pss_cons (ps_set (i := 4) sc_is_block_program.nd rfl (.inl rfl) (pe_tup pa_nil))
      (pss_cons (ps_set (i := 5) sc_is_block_program.nd rfl (.inl rfl) (pk c_MOST_PARTS))
      (pss_cons (ps_for PassesOwn.never rfl (pi_tup (pv 2)) (pg_name (i := 6) sc_is_block_program.nd rfl (Or.inl rfl)) (pss_cons (ps_if (PW.pt (pw_or (pt_not (pt_val (pc CR hr (pa_cons (pv 6) (pa_cons pe_int (pa_cons pe_int pa_nil))) (hk := by omega)))) (pw_or (pt_not (pt_val (pc CF hr (pa_cons (pe_ix (ixT K) (pv 6) pe_int (fun _ _ => rfl)) pa_nil) (hk := by omega)))) (pw_or1 (pt_cmpR (opIn K) (pe_ix (ixT K) (pv 6) pe_int (fun _ _ => rfl)) (pv 4) rfl))))) (pss_one (ps_ret pe_bl)) pss_nil)
      (pss_cons (ps_set (i := 5) sc_is_block_program.nd rfl (.inl rfl) (pc CL1 hr (pa_cons (pe_ix (ixT K) (pv 6) pe_int (fun _ _ => rfl)) (pa_cons pe_int (pa_cons (pv 1) (pa_cons (pv 4) (pa_cons (pv 5) pa_nil)))))))
      (pss_one (ps_aug (i := 4) sc_is_block_program.nd rfl (.inl rfl) (pe_tup (pa_cons (pe_ix (ixT K) (pv 6) pe_int (fun _ _ => rfl)) pa_nil)) (ip_catT K))))))
      (pss_one (ps_ret (pe_cmpR op_ne (pc CL2 hr (pa_cons (pv 3) (pa_cons pe_int (pa_cons (pv 1) (pa_cons (pv 4) (pa_cons (pv 5) pa_nil)))))) (pk c_NONE_LEFT) (nomark _))))))))), ?_⟩
    obtain ⟨a, na, pa, mv, xp, rfl, hS, hN, hF, hX, hM⟩ := hP.ex
    have b2 := hO.b2
    have hSp : SqT K H pa xp := hF.sq
    have lx := dpAll_len hX
    rw [List.length_mapIdx] at lx
    refine ⟨_, rfl, .ref a, some [.ref na, .ref pa, mv], 3, 3, rfl, .tup hS, _, rfl, ifF (by show (!(decide ((3 : Int) ≤ 3) && decide ((3 : Int) ≤ 3))) = false; decide) ?_⟩
    refine ⟨_, rfl, a, _, rfl, hS, rfl, _, _, rfl, _, _, rfl, _, _, rfl, rfl, ?_⟩
    refine ⟨_, rfl, na, m, rfl, hN, hO.m1, hO.m4, fun H1 s1 => ⟨_, rfl, ifF rfl ?_⟩⟩
    refine ⟨_, rfl, .ref pa, some xp, 0, 4, rfl, .tup (onT s1 hSp), _, rfl, ifF (by show (!(decide ((0 : Int) ≤ (xp.length : Int)) && decide ((xp.length : Int) ≤ 4))) = false; rw [decide_eq_true (by omega), decide_eq_true (by omega)]; rfl) ?_⟩
    refine ⟨Nat.zero_le _, fun t0 h0 => ?_⟩
    have s2 := s1.trans (same_new (o := .tup []) h0)
    refine ⟨_, rfl, pa, rfl, ⟨_, onT s2 hSp⟩, ?_⟩
    refine for_tup (xs := xp) (fun i σ H' => Same H H' ∧ ∃ (y6 : Option V) (da : Addr) (lf : Int), σ = [some (.ref a), some (.ref na), some (.ref pa), some mv, some (.ref da), some (.int lf), y6] ∧ SqT K H' da (pcV i) ∧ 60 - 21 * (i : Int) ≤ lf) ⟨s2, none, t0, 60, rfl, tupAt upd_same, by omega⟩ (fun i σ H' _ h' => onT h'.1 hSp) (fun i x σ H' hx h' => ?_) (fun σ H' h' => ?_)
    · obtain ⟨sm, y6, da, lf, rfl, hDa, hlf⟩ := h'
      obtain ⟨d, hd, hx1⟩ := dpAll_at hX hx
      rw [List.getElem?_mapIdx, Option.map_eq_some_iff] at hd
      obtain ⟨bk, hbk, rfl⟩ := hd
      have li : i < bs.length := (List.getElem?_eq_some_iff.mp hbk).1
      obtain ⟨c, v1, v2, rfl, hY, w1, w2⟩ := dp_two hx1
      obtain rfl := dp_str w1
      have okb := hO.ok i bk hbk
      have cb := cnt_b1 okb
      refine ⟨_, rfl, .ref c, some [_, v2], 2, 2, rfl, .tup (onT sm hY), _, rfl, ifF (by show (!(decide ((2 : Int) ≤ 2) && decide ((2 : Int) ≤ 2))) = false; decide) ?_⟩
      refine ⟨_, rfl, c, _, (0 : Int), _, rfl, rfl, onT sm hY, rfl, pcS60 i, rfl, free_pc i, fun H2 s3 => ⟨_, rfl, ifF rfl ?_⟩⟩
      have sA := sm.trans s3
      refine ⟨_, rfl, c, _, (0 : Int), _, rfl, rfl, onT sA hY, rfl, _, rfl, da, _, rfl, .inr (onT s3 hDa), rfl, flat_pc i, _, rfl, ifF ?_ ?_⟩
      · have key : ∀ i, i < 2 → inV (V.str (pcS60 i)) (pcV i) = false := by decide +kernel
        exact key i (by omega)
      refine ⟨_, rfl, c, _, (1 : Int), v2, rfl, rfl, onT sA hY, rfl, _, rfl, _, rfl, _, rfl, v2, bk, m, i, na, da, 1, lf, rfl, Dp.on sA _ _ w2, okb, onT sA hN, hO.m4, onT s3 hDa, by omega, by decide, by omega, fun H3 s4 => ?_⟩
      have sB := sA.trans s4
      refine ⟨_, rfl, _, rfl, c, _, (0 : Int), _, rfl, rfl, onT sB hY, rfl, by show 1 ≤ sizeLine; decide, fun t1 h1 => ?_⟩
      have s5 := same_new (o := .tup [.str (pcS60 i)]) h1
      refine catT_ok (onT (s3.trans (s4.trans s5)) hDa) (tupAt upd_same) (by rw [pcV_len]; show i + 1 ≤ 1000; omega) fun r H4 s6 hr4 => ⟨sB.trans (s5.trans s6), some (.ref c), r, _, rfl, ?_, by omega⟩
      rw [pcV_snoc]
      exact hr4
    · obtain ⟨sm, y6, da, lf, rfl, hDa, hlf⟩ := h'
      rw [lx] at hDa hlf
      have few := hO.few
      refine ⟨_, rfl, _, rfl, _, rfl, _, rfl, mv, main, m, bs.length, na, da, 1, lf, rfl, Dp.on sm _ _ hM, hO.mn, onT sm hN, hO.m4, hDa, b2, by decide, by omega, fun H3 s4 => ?_⟩
      have e : decide (V.int (lf - (cntB main : Nat)) = V.int (-1)) = false := by rw [V_int]; exact decide_eq_false (by omega)
      refine ⟨rfl, ?_⟩
      have q' : Q (.bl (!decide (V.int (lf - (cntB main : Nat)) = V.int (-1)))) H3 := by
        rw [e]
        exact q H3 (sm.trans s4)
      exact q'
def spCkProg (K : PySem.W.Frag) : Sp := fun vs H Q _ => ∃ (v : V) (m : Nat) (bs : List (List Pt)) (main : List Pt), vs = [v] ∧ PgAt K H v m bs main ∧ PgOk m bs main ∧ ∀ H', Same H H' → Q .non H'
theorem ok_ckProg (F : Df K mg "check_block_program" st_check_block_program ["program"]) (CIB : Cal P w K mg base 14 "is_block_program" (spIsProg K)) : Cal P w K mg base 15 "check_block_program" (spCkProg K) := by
  refine mkCal F sc_check_block_program (fun vs H Q E h => ?_) (fun f cdv A outer s H vs Q E hr h => ?_)
  · obtain ⟨v, m, bs, main, rfl, _⟩ := h
    rfl
  · obtain ⟨v, m, bs, main, rfl, hP, hO, q⟩ := h
    refine ⟨_, pss_one (ps_if (pt_not (pt_val (pc CIB hr (pa_cons (pv 0) pa_nil) (hk := by omega)))) (pss_one ps_no) pss_nil), ?_⟩
    exact ⟨_, rfl, v, m, bs, main, rfl, hP, hO, fun H1 s1 => ⟨_, rfl, ifF rfl (q H1 s1)⟩⟩
end
end RH
set_option Elab.async false
set_option linter.all false
set_option maxRecDepth 100000
set_option maxHeartbeats 2000000
namespace RH
open PySem PySem.Spec PyProof.Rows L2
/-! ### play -/
theorem good_up {m : Nat} {bs : List (List Pt)} : ∀ (k : Nat) (p : Pt), GoodP m bs k p → GoodP m bs (k + 1) p
  | 0, .letP .., h => h
  | 0, .sayP _, h => h
  | 0, .askP _, h => h
  | 0, .stopP, h => h
  | 0, .doP _, h => h.elim
  | 0, .ifP .., h => h.elim
  | 0, .whileP .., h => h.elim
  | 0, .repP .., h => h.elim
  | k + 1, .letP .., h => h
  | k + 1, .sayP _, h => h
  | k + 1, .askP _, h => h
  | k + 1, .stopP, h => h
  | k + 1, .doP _, h => ⟨h.1, fun x hx => good_up k x (h.2 x hx)⟩
  | k + 1, .ifP .., h => ⟨h.1, fun x hx => good_up k x (h.2.1 x hx), fun x hx => good_up k x (h.2.2 x hx)⟩
  | k + 1, .whileP .., h => ⟨h.1, fun x hx => good_up k x (h.2 x hx)⟩
  | k + 1, .repP .., h => ⟨h.1, fun x hx => good_up k x (h.2 x hx)⟩
theorem good_more {m : Nat} {bs : List (List Pt)} {p : Pt} {k : Nat} (h : GoodP m bs k p) : ∀ j, GoodP m bs (k + j) p
  | 0 => h
  | j + 1 => good_up _ _ (good_more h j)
theorem good_of {m q k : Nat} {bs : List (List Pt)} (hq : q ≤ bs.length) (hb : ∀ i, i < q → ∀ x ∈ bdO bs i, GoodP m bs k x) : ∀ (d : Nat) (p : Pt), okPt m q d p → GoodP m bs (k + 1 + d) p
  | 0, .letP .., h => h
  | 0, .sayP _, h => h
  | 0, .askP _, h => h
  | 0, .stopP, _ => trivial
  | 0, .doP i, h => ⟨Nat.lt_of_lt_of_le h hq, hb i h⟩
  | 0, .ifP .., h => h.elim
  | 0, .whileP .., h => h.elim
  | 0, .repP .., h => h.elim
  | d + 1, .letP .., h => h
  | d + 1, .sayP _, h => h
  | d + 1, .askP _, h => h
  | d + 1, .stopP, _ => trivial
  | d + 1, .doP i, h => ⟨Nat.lt_of_lt_of_le h hq, fun x hx => by show GoodP m bs (k + 1 + d) x; rw [Nat.add_assoc]; exact good_more (hb i h x hx) _⟩
  | d + 1, .ifP .., h => ⟨okEx_up _ _ h.1, fun x hx => good_of hq hb d x (h.2.1.2 x hx), fun x hx => good_of hq hb d x (h.2.2.2 x hx)⟩
  | d + 1, .whileP .., h => ⟨okEx_up _ _ h.1, fun x hx => good_of hq hb d x (h.2.2 x hx)⟩
  | d + 1, .repP .., h => ⟨Nat.le_trans (Nat.le_of_lt h.1) (by decide), fun x hx => good_of hq hb d x (h.2.2 x hx)⟩
theorem PgOk.good {m : Nat} {bs : List (List Pt)} {main : List Pt} (h : PgOk m bs main) : ∀ x ∈ main, GoodP m bs 7 x := by
  have b2 := h.b2
  have p0 : ∀ (hl : 0 < bs.length), ∀ x ∈ bdO bs 0, GoodP m bs 2 x := fun hl x hx => good_of (k := 0) (q := 0) (Nat.zero_le _) (fun i hi => absurd hi (by omega)) 1 x ((h.ok 0 _ (bdO_at hl)).2 x hx)
  have p1 : ∀ (hl : 1 < bs.length), ∀ x ∈ bdO bs 1, GoodP m bs 4 x := fun hl x hx => good_of (k := 2) (q := 1) (by omega) (fun i hi => by
    obtain rfl : i = 0 := by omega
    exact p0 (by omega)) 1 x ((h.ok 1 _ (bdO_at hl)).2 x hx)
  exact fun x hx => good_of (k := 4) (q := bs.length) (Nat.le_refl _) (fun i hi y hy => by
    have : i = 0 ∨ i = 1 := by omega
    rcases this with rfl | rfl
    · exact good_more (p0 hi y hy) 2
    · exact p1 hi y hy) 2 x (h.mn.2 x hx)
/-- what a walk over the whole block comes to -/
theorem Res.ends {m : PlK} {b : List Pt} {n : Nat} {s' : PlS} {r : Bool} (h : Res m b (plS0 n) s' r) : s'.said = (runT (bdO m.bs) n (b, mc0 m.inp)).2.said ∧ (if s'.out = true then ("running" : Str) else "stopped") = endB (runT (bdO m.bs) n (b, mc0 m.inp)).1 := by
  obtain ⟨o, d, t⟩ := h
  have d : Does (bdO m.bs) b n (mc0 m.inp) o := by
    have e : (plS0 n).mc m.inp = mc0 m.inp := by unfold PlS.mc plS0 mc0; rfl
    rw [← e]
    exact d
  obtain ⟨e1, e2⟩ := d.last
  unfold endB
  rw [e1, e2]
  cases o with
  | go k M =>
    obtain ⟨_, _, rfl, ho⟩ := t
    rw [ho]
    exact ⟨rfl, rfl⟩
  | halt M =>
    obtain ⟨_, rfl, ho⟩ := t
    rw [ho]
    exact ⟨rfl, rfl⟩
  | dry M =>
    obtain ⟨_, rfl, ho⟩ := t
    rw [ho]
    exact ⟨rfl, rfl⟩
section
variable {P : Program} {w : World} {K : PySem.W.Frag} {mg : Str → Option Value} {base : Heap} {C : Addr}
def spPlay (K : PySem.W.Frag) : Sp := fun vs H Q _ => ∃ (v iv : V) (m : Nat) (bs : List (List Pt)) (main : List Pt) (inp : List Int) (n : Nat), vs = [v, iv, .int (n : Int)] ∧ PgAt K H v m bs main ∧ PgOk m bs main ∧ TI K H iv inp ∧ inp.length ≤ 50 ∧ (∀ i ∈ inp, -1000000 ≤ i ∧ i ≤ 1000000) ∧ n ≤ 5000 ∧
  ∀ H' t sa, Same H H' → H' t = some (.tup [.ref sa, .str (endB (runT (bdO bs) n (main, mc0 inp)).1)]) → H' sa = some (.tup ((runT (bdO bs) n (main, mc0 inp)).2.said.map V.int)) → Q (.ref t) H'
theorem ok_play (F : Df K mg "play" st_play ["program", "inputs", "most"]) (B : Bu mg) (c_MOST_DOINGS : ∃ t, mg "MOST_DOINGS" = some (.int 5000 t)) (T : PlC K mg C) (CPr : Cal P w K mg base 15 "check_block_program" (spCkProg K)) (CI : Cal P w K mg base 3 "check_inputs" (spCkIn K)) (CN : Cal P w K mg base 3 "check_number" (spCkNum K)) (MI : MkX P w K mg base 1 C (spInitP K C)) (MB : Met0 P w K mg base 28 C "do_block" (spBlk K C 7)) : Cal P w K mg base 29 "play" (spPlay K) := by
  refine mkCal F sc_play (fun vs H Q E h => ?_) (fun f cdv A outer s H vs Q E hr h => ?_)
  · obtain ⟨v, iv, m, bs, main, inp, n, rfl, _⟩ := h
    rfl
  · obtain ⟨v, iv, m, bs, main, inp, n, rfl, hP, hO, hI, il, ib, hn, q⟩ := h
    refine ⟨_, pss_cons (ps_expr (pc CPr hr (pa_cons (pv 0) pa_nil) (hk := by omega)))
      (pss_cons (ps_expr (pc CI hr (pa_cons (pv 1) pa_nil) (hk := by omega)))
      (pss_cons (ps_expr (pc CN hr (pa_cons (pv 2) (pa_cons pe_int (pa_cons (pk c_MOST_DOINGS) pa_nil))) (hk := by omega)))
      (pss_cons (ps_cutM (ps_set (i := 3) sc_play.nd rfl (.inl rfl) (pmk MI T.g hr (pa_cons (pv 0) (pa_cons (pv 1) (pa_cons (pv 2) pa_nil))))))
      (pss_cons (ps_expr (pmA MB T.cl hr (pv 3) (pa_cons (pe_ix (ixT K) (pv 0) pe_int (fun _ _ => rfl)) pa_nil) (hk := by decide)))
      (pss_one (ps_ret (pe_tup (pa_cons (pe_tupleOf (by rfl) B.tuple (pe_fld (pv 3) rfl)) (pa_cons (pe_ifExp (pt_val (pe_fld (pv 3) rfl)) pe_str pe_str) pa_nil))))))))), ?_⟩
    refine ⟨_, rfl, v, m, bs, main, rfl, hP, hO, fun H1 s1 => ?_⟩
    refine ⟨_, rfl, iv, inp, rfl, hI.on (Same.tups s1), il, ib, fun H2 s2 => ?_⟩
    refine ⟨_, rfl, (n : Int), 0, 5000, rfl, by omega, by omega, ?_⟩
    have s12 := s1.trans s2
    refine ⟨fun σ' H' => ∃ (p wl bl sl dx : Addr) (fs : List (Str × V)), σ' = [some v, some iv, some (.int (n : Int)), some (.ref p)] ∧ Same H2 H' ∧ H2 p = none ∧ H2 wl = none ∧ H2 sl = none ∧ PlP K C ⟨m, bs, inp, iv⟩ H' p wl bl sl dx fs (plS0 n), fun σ' H3 g3 => ?_, ?_⟩
    case refine_2 =>
      refine ⟨_, rfl, _, rfl, _, rfl, fun p dx hp hdx ne => ?_⟩
      have s3 := same_new (o := .own p) hdx
      have hp1 : (upd H2 dx (.own p)) p = none := by rw [upd_ne (Ne.symm ne)]; exact hp
      have s4 := s3.trans (same_new (o := .ins C dx []) hp1)
      refine ⟨p, dx, v, iv, m, bs, main, inp, n, rfl, upd_same, hP.fix (Fix.same (s12.trans s4)), hO, hI.on (Same.tups (s12.trans s4)), hn, fun H5 wl bl sl fs e1 e2 fr S => ⟨rfl, p, wl, bl, sl, dx, fs, rfl, fun b o e => fr b o (s4 _ _ e) (ne_of_none e hp), hp, none_of60 s4 e1, none_of60 s4 e2, S⟩⟩
    obtain ⟨p, wl, bl, sl, dx, fs, rfl, sm, hp0, hw0, hs0, S⟩ := g3
    have s13 := s12.trans sm
    obtain ⟨a, na, pa, mv, xp, rfl, hS, hN, hF, hX, hM⟩ := (hP.fix (Fix.same s13)).ex
    refine ⟨_, rfl, p, dx, fs, rfl, S.ob, no_pl S.no "do_block", _, rfl, a, _, (2 : Int), mv, rfl, rfl, hS, rfl, ⟨m, bs, inp, iv⟩, p, wl, bl, sl, dx, fs, plS0 n, mv, main, rfl, S, rfl, hM, hO.good, fun H4 fs4 s' r f4 S4 R4 => ?_⟩
    obtain ⟨e1, e2⟩ := R4.ends
    have s4 : Same H H4 := fun b o e => f4 b o (s13 _ _ e) (ne_of_none (s12 _ _ e) hp0) (ne_of_none (s12 _ _ e) hw0) (ne_of_none (s12 _ _ e) hs0)
    have fin : ∀ z : Str, z = endB (runT (bdO bs) n (main, mc0 inp)).1 → ∀ sa, H4 sa = none → ∀ t, (upd H4 sa (.tup (s'.said.map V.int))) t = none → Q (.ref t) (upd (upd H4 sa (.tup (s'.said.map V.int))) t (.tup [.ref sa, .str z])) := fun z ez sa hsa t ht => by
      have k1 := same_new (o := .tup (s'.said.map V.int)) hsa
      have k2 := same_new (o := .tup [.ref sa, .str z]) ht
      exact q _ t sa (s4.trans (k1.trans k2)) (by rw [upd_same, ez]) (by rw [k2 _ _ upd_same, e1])
    refine ⟨_, rfl, p, C, dx, fs4, _, rfl, S4.ob, T.cl, T.at "said", S4.l7, .inl ⟨sl, _, rfl, lstAt S4.sd, fun sa hsa => ?_⟩⟩
    have S5 := S4.same (same_new (o := .tup (s'.said.map V.int)) hsa)
    refine ⟨_, rfl, p, C, dx, fs4, _, rfl, S5.ob, T.cl, T.at "has_run_out", S5.l6, _, rfl, ?_⟩
    cases ho : s'.out with
    | true =>
      rw [ho] at e2
      exact ifT rfl ⟨by show 2 ≤ sizeLine; decide, fun t ht => fin "running" e2 sa hsa t ht⟩
    | false =>
      rw [ho] at e2
      exact ifF rfl ⟨by show 2 ≤ sizeLine; decide, fun t ht => fin "stopped" e2 sa hsa t ht⟩
end
end RH
set_option Elab.async false
set_option linter.all false
set_option maxRecDepth 100000
set_option maxHeartbeats 2000000
namespace RH
open PySem PySem.Spec PyProof.Rows L2
/-! ### k60's law -/
theorem said_few {bd : Nat → List Pt} (s : List Pt × Mc) : ∀ n : Nat, (runT bd n s).2.said.length ≤ s.2.said.length + n
  | 0 => Nat.le_refl _
  | n + 1 => by
    rw [runT_snoc]
    have ih := said_few (bd := bd) s n
    generalize runT bd n s = R at ih ⊢
    obtain ⟨td, M⟩ := R
    have ih : M.said.length ≤ s.2.said.length + n := ih
    cases td with
    | nil => exact Nat.le_succ_of_le ih
    | cons p r =>
      cases p with
      | sayP e =>
        show (M.said ++ [_]).length ≤ _
        rw [List.length_append]
        exact Nat.succ_le_succ ih
      | whileP e g a =>
        show (if okT M e g = true then (a ++ .whileP e g a :: r, M) else (r, M)).2.said.length ≤ _
        split <;> exact Nat.le_succ_of_le ih
      | _ => exact Nat.le_succ_of_le ih
section
variable {P : Program} {w : World} {K : PySem.W.Frag} {mg : Str → Option Value} {base : Heap}
def spLaw (K : PySem.W.Frag) : Sp := fun vs H Q _ => ∃ (a : Addr) (ns : List Int), vs = [.ref a] ∧ Fz K H a (ns.map V.int) ∧ ∀ H', Q (.bl true) H'
theorem ok_law {f : Addr} {fd : FuncData} (F : Fun K "law" "law" st_law f fd) (B : Bu mg) (CT : Cal P w K mg base 1 "_law_taken" (spTaken K)) (CPk : Cal P w K mg base 2 "_law_pick" (spPick K)) (CPg : Cal P w K mg base 10 "_law_program" (spProg K)) (CA : Cal P w K mg base 4 "_law_alike" (spAlike K 3)) (CLp : Cal P w K mg base 5 "_law_play" (spLPlay K)) (CPl : Cal P w K mg base 29 "play" (spPlay K)) :
    FnOk P w K mg base CX0 30 f fd ["script"] (spLaw K) := by
  refine F.ok sc_law (fun vs H Q E h => ?_) (fun cdv A outer s H vs Q E hr h => ?_)
  · obtain ⟨a, ns, rfl, _⟩ := h
    rfl
  · obtain ⟨a, scr, rfl, hZ, q⟩ := h
    refine ⟨_, PSs.nox (pss_cons (ps_set (i := 1) sc_law.nd rfl (.inr rfl) (pe_lst (pa_cons (pv 0) (pa_cons pe_int (pa_cons pe_int (pa_cons pe_int pa_nil))))))
      (pss_cons (ps_set (i := 2) sc_law.nd rfl (.inl rfl) (pc CPg hr (pa_cons (pv 1) pa_nil) (hk := by decide)))
      (pss_cons (ps_cutM (ps_for PassesOwn.never rfl (pi_range1 (by rfl) B.range (pa_cons pe_int pa_nil)) (pg_name (i := 3) sc_law.nd rfl (Or.inl rfl)) (pss_cons (ps_cutM (ps_set (i := 4) sc_law.nd rfl (.inl rfl) (pe_tupleOf (by rfl) B.tuple (pe_lc (own := [("k", 6)]) (g := (gName 6)) (tt := tYes)  rfl sc_law.nd (pi_range1 (by rfl) B.range (pa_cons (pc CT hr (pa_cons (pv 1) (pa_cons pe_int pa_nil)) (hk := by decide)) pa_nil)) (blkOk_by (N := ["script", "row", "program", "turn", "inputs", "most", "k"]) (sc := (defScope st_law)) (by decide +kernel)) (fun _ _ _ _ _ => (pg_name (i := 6) sc_law.nd rfl (Or.inl rfl))) (fun _ _ _ _ _ => pts_nil) (fun _ _ _ _ _ => (pe_op op_sub (pc CT hr (pa_cons (pv 1) (pa_cons pe_int pa_nil)) (hk := by decide)) pe_int))))))
      (pss_cons (ps_cutM (ps_set (i := 5) sc_law.nd rfl (.inl rfl) (pc CT hr (pa_cons (pv 1) (pa_cons (pc CPk hr (pa_cons (pv 1) (pa_cons (pe_lst (pa_cons pe_int (pa_cons pe_int (pa_cons pe_int pa_nil)))) pa_nil)) (hk := by decide)) pa_nil)) (hk := by decide))))
      (pss_one (ps_if (pt_not (pt_val (pc CA hr (pa_cons (pc CPl hr (pa_cons (pv 2) (pa_cons (pv 4) (pa_cons (pv 5) pa_nil))) (hk := by decide)) (pa_cons (pc CLp hr (pa_cons (pv 2) (pa_cons (pv 4) (pa_cons (pv 5) pa_nil))) (hk := by decide)) pa_nil)) (hk := by decide)))) (pss_one (ps_ret pe_bl)) pss_nil))))))
      (pss_one (ps_ret (pe_cmpR (op_eqD hr.units) (pc CPl hr (pa_cons (pv 2) (pa_cons (pe_tup pa_nil) (pa_cons pe_int pa_nil))) (hk := by decide)) (pe_tup (pa_cons (pe_tup pa_nil) (pa_cons (pe_ifExp (pt_cmpR (op_eqD hr.units) (pe_ix (ixT K) (pv 2) pe_int (fun _ _ => rfl)) (pe_tup pa_nil) (nomark _)) pe_str pe_str) pa_nil))) (nomark _))))))), ?_⟩
    refine ⟨_, rfl, by show 4 ≤ sizeLine; decide, fun p hp => ?_⟩
    have sp := same_new (o := .lst [.ref a, .int 0, .int 11000, .int 0]) hp
    have hR1 : Row K (upd H p (.lst [.ref a, .int 0, .int 11000, .int 0])) p := ⟨a, scr, 0, 11000, 0, upd_same, hZ.on (Fix.same sp), Int.le_refl _⟩
    generalize (upd H p (.lst [.ref a, .int 0, .int 11000, .int 0])) = H1 at hR1 ⊢
    refine ⟨_, rfl, p, rfl, hR1, fun H2 v m bs main hB2 hR2 hP hO => ?_⟩
    refine ⟨fun σ' H' => ∃ y3 y4 y5 y6 : Option V, σ' = [some (.ref a), some (.ref p), some v, y3, y4, y5, y6] ∧ Row K H' p ∧ PgAt K H' v m bs main, fun σ3 H3 g3 => ?_, ?_⟩
    case refine_2 =>
      refine ⟨4, rfl, by decide, by decide, ?_⟩
      refine for_range (lo := 0) (n := 4) (fun i σ' H' => ∃ y3 y4 y5 y6 : Option V, σ' = [some (.ref a), some (.ref p), some v, y3, y4, y5, y6] ∧ Row K H' p ∧ PgAt K H' v m bs main) ⟨none, none, none, none, rfl, hR2, hP⟩ (fun i σ' H' hi h' => ?_) (fun σ' H' h' => ?_)
      case refine_2 => exact h'
      obtain ⟨y3, y4, y5, y6, rfl, hR, hP⟩ := h'
      refine ⟨fun σ' H' => ∃ (iv : V) (inp : List Int) (y6 : Option V), σ' = [some (.ref a), some (.ref p), some v, some (.int (0 + (i : Int))), some iv, y5, y6] ∧ Row K H' p ∧ PgAt K H' v m bs main ∧ TI K H' iv inp ∧ inp.length ≤ 5 ∧ ∀ z ∈ inp, -2 ≤ z ∧ z ≤ 2, fun σ4 H4 g4 => ?_, ?_⟩
      case refine_2 =>
        refine ⟨_, rfl, p, 6, rfl, hR, by decide, by decide, fun kk H5 k50 k56 hB5 hR5 => ⟨kk, rfl, by omega, by omega, fun D hD => ?_⟩⟩
        have nDp : p ≠ D := hR5.ne hD
        have f5 := hR.fix hB5
        refine lc_range (lo := 0) (n := kk.toNat) (fun j H' => But p H5 H' ∧ Row K H' p ∧ ∃ L : List Int, H' D = some (.lst (L.map V.int)) ∧ L.length = j ∧ ∀ z ∈ L, -2 ≤ z ∧ z ≤ 2) ⟨But.same (same_new hD), hR5.new hD, [], upd_same, rfl, (fun _ z => nomatch z)⟩ (fun j H' hj h' => ?_) (fun H' h' => ?_)
        · obtain ⟨hB', hR', L, eD, lL, hL⟩ := h'
          refine ⟨rfl, _, rfl, p, 5, rfl, hR', by decide, by decide, fun k H6 k0 k5 hB6 hR6 => ?_⟩
          have eD6 := hB6 _ _ eD (Ne.symm nDp)
          refine ⟨k, 2, rfl, rfl, _, eD6, small1000 (by rw [List.length_map]; omega), (hB'.trans hB6).fresh hD, hR6.lst_upd eD6 nDp, L ++ [k - 2], ?_, ?_, fun z hz => ?_⟩
          · rw [upd_same, List.map_append]
            rfl
          · rw [List.length_append, lL]
            rfl
          · rcases List.mem_append.mp hz with hz | hz
            · exact hL z hz
            · rw [List.mem_singleton.mp hz]
              omega
        · obtain ⟨hB', hR', L, eD, lL, hL⟩ := h'
          refine .inl ⟨D, _, rfl, lstAt eD, fun t ht => ?_⟩
          have k1 := same_new (o := .tup (L.map V.int)) ht
          exact ⟨.ref t, L, _, rfl, hR'.same k1, hP.fix ((f5.trans (hR5.fix hB')).trans (Fix.same k1)), ⟨t, rfl, tupAt upd_same⟩, by omega, hL⟩
      obtain ⟨iv, inp, y6, rfl, hR4, hP4, hI4, il, ib⟩ := g4
      refine ⟨fun σ' H' => ∃ (n : Nat) (y6 : Option V), σ' = [some (.ref a), some (.ref p), some v, some (.int (0 + (i : Int))), some iv, some (.int (n : Int)), y6] ∧ Row K H' p ∧ PgAt K H' v m bs main ∧ TI K H' iv inp ∧ n ≤ 400, fun σ5 H5 g5 => ?_, ?_⟩
      case refine_2 =>
        refine ⟨_, rfl, _, rfl, by show 3 ≤ sizeLine; decide, fun l hl => ?_⟩
        have k1 := same_new (o := .lst [.int 6, .int 60, .int 400]) hl
        refine ⟨p, l, _, rfl, hR4.same k1, upd_same, fun e => hR4.ne hl e.symm, by show 0 < 3; decide, by show 3 ≤ 1000; decide, fun j x H6 hj hB6 hR6 => ?_⟩
        obtain ⟨z, rfl, z0, z4⟩ : ∃ z : Int, x = .int z ∧ 0 < z ∧ z ≤ 400 := by
          match j, hj with
          | 0, hj => cases hj; exact ⟨6, rfl, by decide, by decide⟩
          | 1, hj => cases hj; exact ⟨60, rfl, by decide, by decide⟩
          | 2, hj => cases hj; exact ⟨400, rfl, by decide, by decide⟩
          | j + 3, hj => simp at hj
        refine ⟨p, z, rfl, hR6, z0, by omega, fun k H7 k0 k7 hB7 hR7 => ?_⟩
        have f7 := (Fix.same k1).trans (((hR4.same k1).fix hB6).trans (hR6.fix hB7))
        exact ⟨k.toNat, y6, by rw [Int.toNat_of_nonneg k0]; rfl, hR7, hP4.fix f7, hI4.on f7.tups, by omega⟩
      obtain ⟨n, y6, rfl, hR5, hP5, hI5, hn⟩ := g5
      refine ⟨_, rfl, _, rfl, _, rfl, v, iv, m, bs, main, inp, n, rfl, hP5, hO, hI5, by omega, fun z hz => ⟨by have := ib z hz; omega, by have := ib z hz; omega⟩, by omega, fun H6 t sa s6 et es => ?_⟩
      refine ⟨_, rfl, _, rfl, _, rfl, v, iv, m, bs, main, inp, n, rfl, hP5.fix (Fix.same s6), hO, hI5.on (Same.tups s6), by omega, hn, fun H7 t2 sa2 s7 et2 es2 => ?_⟩
      generalize hW : endB (runT (bdO bs) n (main, mc0 inp)).1 = wd at et et2
      have hl := said_few (bd := bdO bs) (main, mc0 inp) n
      have hl : (runT (bdO bs) n (main, mc0 inp)).2.said.length ≤ 0 + n := hl
      generalize (runT (bdO bs) n (main, mc0 inp)).2.said = L at es es2 hl
      refine ⟨.ref t, .ref t2, .tuple [.tuple (L.map PyData.int), .str wd], rfl, .tup (tupAt (s7 _ _ et)) (.cons (dp_tup (tupAt (s7 _ _ es))) (.cons (.str _) .nil)), .tup (tupAt et2) (.cons (dp_tup (tupAt es2)) (.cons (.str _) .nil)), ⟨by show 2 ≤ 1000; decide, fun d hd => ?_⟩, fun H8 s8 => ⟨_, rfl, ifF rfl ⟨_, _, _, _, rfl, (hR5.same s6).same (s7.trans s8), hP5.fix (Fix.same (s6.trans (s7.trans s8)))⟩⟩⟩
      rcases List.mem_cons.mp hd with rfl | hd
      · refine ⟨by rw [List.length_map]; omega, fun d hd => ?_⟩
        obtain ⟨z, _, rfl⟩ := List.mem_map.mp hd
        exact trivial
      · rw [List.mem_singleton.mp hd]
        exact trivial
    obtain ⟨y3, y4, y5, y6, rfl, hR, hP⟩ := g3
    obtain ⟨pa, na, pc, mv, xp, rfl, hS, hN, hF, hX, hM⟩ := id hP.ex
    refine ⟨_, rfl, Nat.zero_le _, fun t0 h0 => ?_⟩
    have k0 := same_new (o := .tup []) h0
    refine ⟨.ref pa, .ref t0, m, bs, main, [], 0, rfl, hP.fix (Fix.same k0), hO, ⟨t0, rfl, tupAt upd_same⟩, by decide, (fun _ z => nomatch z), by decide, fun H5 t sa s5 et es => ?_⟩
    refine ⟨Nat.zero_le _, fun t1 h1 => ?_⟩
    have k1 := same_new (o := .tup []) h1
    have sA := k0.trans (s5.trans k1)
    refine ⟨_, rfl, pa, _, (2 : Int), mv, rfl, rfl, onT sA hS, rfl, Nat.zero_le _, fun t2 h2 => ?_⟩
    have k2 := same_new (o := .tup []) h2
    have sB := sA.trans k2
    refine ⟨.tuple (ptsD main), .tuple [], Dp.on sB _ _ hM, dp_tup (ns := []) (tupAt upd_same), shaped_tup (lay_pts main) (Nat.le_trans (dep_pts hO.mn.2) (by decide)), by decide +kernel, _, rfl, ?_⟩
    rw [show PyData.eqv (.tuple (ptsD main)) (.tuple []) = main.isEmpty by cases main with
      | nil => rw [ptsD]; decide +kernel
      | cons x r => rw [ptsD]; rfl]
    have fin : ∀ (z : Str) (H' : Hp) (t3 : Addr), endB main = z → (z = "stopped" ∨ z = "running") → Same (upd H5 t1 (.tup [])) H' → H' t3 = none → ∃ d e, Dp K (upd H' t3 (.tup [.ref t1, .str z])) (.ref t) d ∧ Dp K (upd H' t3 (.tup [.ref t1, .str z])) (.ref t3) e ∧ SeqAt.shaped d = true ∧ SeqAt.shaped e = true ∧ PyData.eqv d e = true := fun z H' t3 ez hz s' h3 => by
      have k3 := same_new (o := .tup [.ref t1, .str z]) h3
      have et' : H5 t = some (.tup [.ref sa, .str z]) := by rw [et]; exact congrArg (fun x => some (HO.tup [.ref sa, .str x])) ez
      refine ⟨.tuple [.tuple ([].map PyData.int), .str z], .tuple [.tuple ([].map PyData.int), .str z], .tup (tupAt ((k1.trans (s'.trans k3)) _ _ et')) (.cons (dp_tup (tupAt ((k1.trans (s'.trans k3)) _ _ es))) (.cons (.str _) .nil)), .tup (tupAt upd_same) (.cons (dp_tup (ns := []) (tupAt (k3 _ _ (s' _ _ upd_same)))) (.cons (.str _) .nil)), ?_, ?_, ?_⟩ <;> rcases hz with rfl | rfl <;> decide +kernel
    cases hm : main.isEmpty with
    | true =>
      refine ifT rfl ⟨by show 2 ≤ sizeLine; decide, fun t3 h3 => ?_⟩
      obtain ⟨d, e, d1, d2, d3, d4, d5⟩ := fin "stopped" _ t3 (by unfold endB; rw [hm]; rfl) (.inl rfl) k2 h3
      refine ⟨d, e, d1, d2, d3, d4, ?_⟩
      rw [d5]
      exact q _
    | false =>
      refine ifF rfl ⟨by show 2 ≤ sizeLine; decide, fun t3 h3 => ?_⟩
      obtain ⟨d, e, d1, d2, d3, d4, d5⟩ := fin "running" _ t3 (by unfold endB; rw [hm]; rfl) (.inr rfl) k2 h3
      refine ⟨d, e, d1, d2, d3, d4, ?_⟩
      rw [d5]
      exact q _
end
end RH
set_option Elab.async false
set_option linter.all false
set_option maxRecDepth 100000
set_option maxHeartbeats 2000000
namespace RH
open PySem PySem.Spec PyProof.Rows L2
/-! ### what the top has left -/
theorem df_mk {K : PySem.W.Frag} {h : Heap} {mg : Str → Option Value} (X : K.In h) (G : h.Ns mainGlobals mg) {x : Str} {st : Stmt} {ps : List Str} {f : Addr} {od an : Option Addr} {sl : Array (Option Value)} {oc kV dc pm cd ct : Value}
    (a : PySem.W.nsIn K mainGlobals x = some (some (.ref f))) (l : K.lookup f = some ⟨oc, od, .func (PySem.W.fnOf x x (defArgs st) (defBody st) (defScope st) .none kV dc pm an cd ct), sl⟩) (c : PySem.W.codeIn K cd x = true) (k : PySem.W.keepIn K (.ref f) = true)
    (b : ∀ (kV doc pm : Value) (an : Option Addr) (cdv ct : Value) (us : List Value), us.length = ps.length → bindArgs (PySem.W.fnOf x x (defArgs st) (defBody st) (defScope st) .none kV doc pm an cdv ct) ⟨us, []⟩ = pure (ps.zip us)) : Df K mg x st ps := by
  have F := fun_mk (st := st) l c k
  exact ⟨f, _, F, PySem.W.mg_of X G a, F.binds b⟩
/-- the written part that is meant -/
abbrev kOf {K : PySem.W.Frag} {h : Heap} (_ : K.In h) : PySem.W.Frag := K
theorem const_mk {K : PySem.W.Frag} {h : Heap} {mg : Str → Option Value} (X : K.In h) (G : h.Ns mainGlobals mg) {x : Str} {i : Int} {t : Tok} (a : PySem.W.nsIn K mainGlobals x = some (some (.int i t))) : ∃ t, mg x = some (.int i t) := ⟨t, PySem.W.mg_of X G a⟩
theorem ctup_mk {K : PySem.W.Frag} {h : Heap} {mg : Str → Option Value} (X : K.In h) (G : h.Ns mainGlobals mg) {x : Str} {zs : List Str} {a : Addr} {o : Obj} {its : List Value} {n : Nat} (ha : PySem.W.nsIn K mainGlobals x = some (some (.ref a))) (l : K.lookup a = some o) (c : o.cls = .type "tuple") (d : o.data = .seq its.toArray n) (s : its.length ≤ 100) (v : Vals (zs.map V.str) its) : CTup K mg x zs :=
  ⟨a, o, its.toArray, n, PySem.W.mg_of X G ha, l, c, d, by have : (100 : Nat) ≤ sizeLine := (by rw [sizeLine_eq]; decide +kernel); simpa using Nat.le_trans s this, by simpa using v⟩
theorem constS_mk {K : PySem.W.Frag} {h : Heap} {mg : Str → Option Value} (X : K.In h) (G : h.Ns mainGlobals mg) {x z : Str} {t : Tok} (a : PySem.W.nsIn K mainGlobals x = some (some (.str z t))) : ∃ t, mg x = some (.str z t) := ⟨t, PySem.W.mg_of X G a⟩
/-- an entry of a dict that the top has made: a text and an int -/
def entS (w : World) (l : Str × Int × Tok × Tok) : DictEntry := ⟨PyData.keyHash w.params l.1, .str l.1 l.2.2.1, .int l.2.1 l.2.2.2⟩
theorem ents_told {P : Program} {w : World} : ∀ ls : List (Str × Int × Tok × Tok), (ls.map (·.1)).Nodup → ∃ vs, KV (κ := Key) (ls.map fun l => (.inr l.1, .int l.2.1)) vs ∧ KeysOf (mixKind P w) (ls.map (entS w)).toArray ∧ Pairs (mixKind P w) (ls.map (entS w)) vs ∧ (vs.map (·.1)).Nodup := fun ls nd => by
  refine ⟨ls.map fun l => (.inr l.1, .int l.2.1 l.2.2.2), ?_, fun e he => ?_, ?_, ?_⟩
  · clear nd
    induction ls with
    | nil => exact .nil
    | cons l ls ih => exact .cons ⟨rfl, _, rfl⟩ ih
  · rw [List.mem_toArray] at he
    obtain ⟨l, _, rfl⟩ := List.mem_map.mp he
    exact ⟨.inr l.1, strKind_is P w l.1 l.2.2.1, rfl⟩
  · clear nd
    induction ls with
    | nil => exact .nil
    | cons l ls ih => exact .cons (strKind_is P w l.1 l.2.2.1) rfl ih
  · rw [List.map_map]
    have e : (ls.map ((fun x : Key × Value => x.1) ∘ fun l : Str × Int × Tok × Tok => ((.inr l.1, .int l.2.1 l.2.2.2) : Key × Value))) = (ls.map (·.1)).map Sum.inr := by rw [List.map_map]; rfl
    rw [e]
    exact List.Pairwise.map Sum.inr (fun a b h e => h (Sum.inr.inj e)) nd
theorem kdict_mk {P : Program} {w : World} {K : PySem.W.Frag} {h : Heap} {mg : Str → Option Value} (X : K.In h) (G : h.Ns mainGlobals mg) {x : Str} (ls : List (Str × Int × Tok × Tok)) {a : Addr} {o : Obj} {ep : Nat} (ha : PySem.W.nsIn K mainGlobals x = some (some (.ref a))) (l : K.lookup a = some o) (s : (a == sysModules) = false) (c : o.ExactDict) (d : o.data = .dict (ls.map (entS w)).toArray ep) (nd : (ls.map (·.1)).Nodup) :
    ∃ a, mg x = some (.ref a) ∧ KDict P w K a (ls.map fun l => (.inr l.1, .int l.2.1)) :=
  ⟨a, PySem.W.mg_of X G ha, s, o, l, fun h e => let ⟨vs, r, k1, k2, k3⟩ := ents_told ls nd; ⟨vs, r, o, _, ep, e, c, d, k1, by simpa using k2, k3⟩⟩
/-- the class, as the top has left it -/
theorem cls_mk {K : PySem.W.Frag} {h : Heap} {mg : Str → Option Value} (X : K.In h) (G : h.Ns mainGlobals mg) {C : Addr} (aC : PySem.W.nsIn K mainGlobals "Player" = some (some (.ref C)))
    (pg : PySem.W.plainGet K C Str.empty = true) (hd : PySem.W.hasDictIn K C = true) (po : PySem.W.plainOver K C = true) (sa : PySem.W.findIn K (.ref C) "__setattr__" = some (some (.builtin "object.__setattr__"))) (mk : PySem.W.makesIn K C = true) (kc : PySem.W.keepIn K (.ref C) = true)
    (n0 : PySem.W.findIn K (.ref C) "worths" = some none) (n1 : PySem.W.findIn K (.ref C) "bodies" = some none) (n2 : PySem.W.findIn K (.ref C) "inputs" = some none) (n3 : PySem.W.findIn K (.ref C) "asked" = some none) (n4 : PySem.W.findIn K (.ref C) "doings_left" = some none) (n5 : PySem.W.findIn K (.ref C) "has_run_out" = some none) (n6 : PySem.W.findIn K (.ref C) "said" = some none)
    {f0 : Addr} {od0 an0 : Option Addr} {sl0 : Array (Option Value)} {oc0 kV0 dc0 pm0 cd0 ct0 : Value} (at0 : PySem.W.findIn K (.ref C) "__init__" = some (some (.ref f0))) (i0 : PySem.W.isFn K (.ref f0) = true) (l0 : K.lookup f0 = some ⟨oc0, od0, .func (PySem.W.fnOf "__init__" "Player.__init__" (defArgs st_m___init__) (defBody st_m___init__) (defScope st_m___init__) .none kV0 dc0 pm0 an0 cd0 ct0), sl0⟩) (c0 : PySem.W.codeIn K cd0 "Player.__init__" = true) (k0 : PySem.W.keepIn K (.ref f0) = true)
    {f1 : Addr} {od1 an1 : Option Addr} {sl1 : Array (Option Value)} {oc1 kV1 dc1 pm1 cd1 ct1 : Value} (at1 : PySem.W.findIn K (.ref C) "may_do" = some (some (.ref f1))) (i1 : PySem.W.isFn K (.ref f1) = true) (l1 : K.lookup f1 = some ⟨oc1, od1, .func (PySem.W.fnOf "may_do" "Player.may_do" (defArgs st_m_may_do) (defBody st_m_may_do) (defScope st_m_may_do) .none kV1 dc1 pm1 an1 cd1 ct1), sl1⟩) (c1 : PySem.W.codeIn K cd1 "Player.may_do" = true) (k1 : PySem.W.keepIn K (.ref f1) = true)
    {f2 : Addr} {od2 an2 : Option Addr} {sl2 : Array (Option Value)} {oc2 kV2 dc2 pm2 cd2 ct2 : Value} (at2 : PySem.W.findIn K (.ref C) "do_block" = some (some (.ref f2))) (i2 : PySem.W.isFn K (.ref f2) = true) (l2 : K.lookup f2 = some ⟨oc2, od2, .func (PySem.W.fnOf "do_block" "Player.do_block" (defArgs st_m_do_block) (defBody st_m_do_block) (defScope st_m_do_block) .none kV2 dc2 pm2 an2 cd2 ct2), sl2⟩) (c2 : PySem.W.codeIn K cd2 "Player.do_block" = true) (k2 : PySem.W.keepIn K (.ref f2) = true)
    {f3 : Addr} {od3 an3 : Option Addr} {sl3 : Array (Option Value)} {oc3 kV3 dc3 pm3 cd3 ct3 : Value} (at3 : PySem.W.findIn K (.ref C) "do_part" = some (some (.ref f3))) (i3 : PySem.W.isFn K (.ref f3) = true) (l3 : K.lookup f3 = some ⟨oc3, od3, .func (PySem.W.fnOf "do_part" "Player.do_part" (defArgs st_m_do_part) (defBody st_m_do_part) (defScope st_m_do_part) .none kV3 dc3 pm3 an3 cd3 ct3), sl3⟩) (c3 : PySem.W.codeIn K cd3 "Player.do_part" = true) (k3 : PySem.W.keepIn K (.ref f3) = true)
    {f4 : Addr} {od4 an4 : Option Addr} {sl4 : Array (Option Value)} {oc4 kV4 dc4 pm4 cd4 ct4 : Value} (at4 : PySem.W.findIn K (.ref C) "do_while" = some (some (.ref f4))) (i4 : PySem.W.isFn K (.ref f4) = true) (l4 : K.lookup f4 = some ⟨oc4, od4, .func (PySem.W.fnOf "do_while" "Player.do_while" (defArgs st_m_do_while) (defBody st_m_do_while) (defScope st_m_do_while) .none kV4 dc4 pm4 an4 cd4 ct4), sl4⟩) (c4 : PySem.W.codeIn K cd4 "Player.do_while" = true) (k4 : PySem.W.keepIn K (.ref f4) = true)
    {f5 : Addr} {od5 an5 : Option Addr} {sl5 : Array (Option Value)} {oc5 kV5 dc5 pm5 cd5 ct5 : Value} (at5 : PySem.W.findIn K (.ref C) "do_rounds" = some (some (.ref f5))) (i5 : PySem.W.isFn K (.ref f5) = true) (l5 : K.lookup f5 = some ⟨oc5, od5, .func (PySem.W.fnOf "do_rounds" "Player.do_rounds" (defArgs st_m_do_rounds) (defBody st_m_do_rounds) (defScope st_m_do_rounds) .none kV5 dc5 pm5 an5 cd5 ct5), sl5⟩) (c5 : PySem.W.codeIn K cd5 "Player.do_rounds" = true) (k5 : PySem.W.keepIn K (.ref f5) = true)
    {f6 : Addr} {od6 an6 : Option Addr} {sl6 : Array (Option Value)} {oc6 kV6 dc6 pm6 cd6 ct6 : Value} (at6 : PySem.W.findIn K (.ref C) "holds" = some (some (.ref f6))) (i6 : PySem.W.isFn K (.ref f6) = true) (l6 : K.lookup f6 = some ⟨oc6, od6, .func (PySem.W.fnOf "holds" "Player.holds" (defArgs st_m_holds) (defBody st_m_holds) (defScope st_m_holds) .none kV6 dc6 pm6 an6 cd6 ct6), sl6⟩) (c6 : PySem.W.codeIn K cd6 "Player.holds" = true) (k6 : PySem.W.keepIn K (.ref f6) = true)
    {f7 : Addr} {od7 an7 : Option Addr} {sl7 : Array (Option Value)} {oc7 kV7 dc7 pm7 cd7 ct7 : Value} (at7 : PySem.W.findIn K (.ref C) "worth" = some (some (.ref f7))) (i7 : PySem.W.isFn K (.ref f7) = true) (l7 : K.lookup f7 = some ⟨oc7, od7, .func (PySem.W.fnOf "worth" "Player.worth" (defArgs st_m_worth) (defBody st_m_worth) (defScope st_m_worth) .none kV7 dc7 pm7 an7 cd7 ct7), sl7⟩) (c7 : PySem.W.codeIn K cd7 "Player.worth" = true) (k7 : PySem.W.keepIn K (.ref f7) = true)
    {f8 : Addr} {od8 an8 : Option Addr} {sl8 : Array (Option Value)} {oc8 kV8 dc8 pm8 cd8 ct8 : Value} (at8 : PySem.W.findIn K (.ref C) "next_input" = some (some (.ref f8))) (i8 : PySem.W.isFn K (.ref f8) = true) (l8 : K.lookup f8 = some ⟨oc8, od8, .func (PySem.W.fnOf "next_input" "Player.next_input" (defArgs st_m_next_input) (defBody st_m_next_input) (defScope st_m_next_input) .none kV8 dc8 pm8 an8 cd8 ct8), sl8⟩) (c8 : PySem.W.codeIn K cd8 "Player.next_input" = true) (k8 : PySem.W.keepIn K (.ref f8) = true)
    : ∃ C, PlC K mg C ∧ DfI K C "Player.__init__" st_m___init__ ["self", "program", "inputs", "most"] ∧ DfM K C "may_do" "Player.may_do" st_m_may_do ["self"] ∧ DfM K C "do_block" "Player.do_block" st_m_do_block ["self", "block"] ∧ DfM K C "do_part" "Player.do_part" st_m_do_part ["self", "part"] ∧ DfM K C "do_while" "Player.do_while" st_m_do_while ["self", "part"] ∧ DfM K C "do_rounds" "Player.do_rounds" st_m_do_rounds ["self", "many", "block"] ∧ DfM K C "holds" "Player.holds" st_m_holds ["self", "test"] ∧ DfM K C "worth" "Player.worth" st_m_worth ["self", "value"] ∧ DfM K C "next_input" "Player.next_input" st_m_next_input ["self"] := by
  have F0 := fun_mk (st := st_m___init__) l0 c0 k0
  have F1 := fun_mk (st := st_m_may_do) l1 c1 k1
  have F2 := fun_mk (st := st_m_do_block) l2 c2 k2
  have F3 := fun_mk (st := st_m_do_part) l3 c3 k3
  have F4 := fun_mk (st := st_m_do_while) l4 c4 k4
  have F5 := fun_mk (st := st_m_do_rounds) l5 c5 k5
  have F6 := fun_mk (st := st_m_holds) l6 c6 k6
  have F7 := fun_mk (st := st_m_worth) l7 c7 k7
  have F8 := fun_mk (st := st_m_next_input) l8 c8 k8
  have no : ∀ f ∈ plAttrs, NoAttr K C f := fun f hf => by
    unfold plAttrs at hf
    simp only [List.mem_cons, List.not_mem_nil, or_false] at hf
    rcases hf with rfl | rfl | rfl | rfl | rfl | rfl | rfl
    · exact n0
    · exact n1
    · exact n2
    · exact n3
    · exact n4
    · exact n5
    · exact n6
  exact ⟨C, ⟨⟨pg, hd, po, sa⟩, no, PySem.W.mg_of X G aC⟩, ⟨f0, _, F0, ⟨mk, at0, i0, kc⟩, F0.binds (fun _ _ _ _ _ _ us hl => match us, hl with | [_, _, _, _], _ => rfl)⟩, ⟨f1, _, F1, ⟨at1, i1, k1⟩, F1.binds (fun _ _ _ _ _ _ us hl => match us, hl with | [_], _ => rfl)⟩, ⟨f2, _, F2, ⟨at2, i2, k2⟩, F2.binds (fun _ _ _ _ _ _ us hl => match us, hl with | [_, _], _ => rfl)⟩, ⟨f3, _, F3, ⟨at3, i3, k3⟩, F3.binds (fun _ _ _ _ _ _ us hl => match us, hl with | [_, _], _ => rfl)⟩, ⟨f4, _, F4, ⟨at4, i4, k4⟩, F4.binds (fun _ _ _ _ _ _ us hl => match us, hl with | [_, _], _ => rfl)⟩, ⟨f5, _, F5, ⟨at5, i5, k5⟩, F5.binds (fun _ _ _ _ _ _ us hl => match us, hl with | [_, _, _], _ => rfl)⟩, ⟨f6, _, F6, ⟨at6, i6, k6⟩, F6.binds (fun _ _ _ _ _ _ us hl => match us, hl with | [_, _], _ => rfl)⟩, ⟨f7, _, F7, ⟨at7, i7, k7⟩, F7.binds (fun _ _ _ _ _ _ us hl => match us, hl with | [_, _], _ => rfl)⟩, ⟨f8, _, F8, ⟨at8, i8, k8⟩, F8.binds (fun _ _ _ _ _ _ us hl => match us, hl with | [_], _ => rfl)⟩⟩
theorem top {P : Program} {w : World} {K : PySem.W.Frag} {mg : Str → Option Value} {fa : Addr} (hfa : mg "law" = some (.ref fa)) (B : Bu mg) (c_MOST_INPUTS : ∃ t, mg "MOST_INPUTS" = some (.int 50 t)) (c_GREATEST : ∃ t, mg "GREATEST" = some (.int 1000000 t)) (c_MOST_NAMES : ∃ t, mg "MOST_NAMES" = some (.int 5 t)) (c_MOST_LETTERS : ∃ t, mg "MOST_LETTERS" = some (.int 8 t)) (c_MOST_PROCEDURES : ∃ t, mg "MOST_PROCEDURES" = some (.int 4 t)) (c_MOST_PARTS : ∃ t, mg "MOST_PARTS" = some (.int 60 t)) (c_MOST_DEEP : ∃ t, mg "MOST_DEEP" = some (.int 6 t)) (c_MOST_ROUNDS : ∃ t, mg "MOST_ROUNDS" = some (.int 6 t)) (c_MOST_SUMS : ∃ t, mg "MOST_SUMS" = some (.int 6 t)) (c_MOST_TERMS : ∃ t, mg "MOST_TERMS" = some (.int 24 t)) (c_GREATEST_TERM : ∃ t, mg "GREATEST_TERM" = some (.int 1000 t)) (c_NONE_LEFT : ∃ t, mg "NONE_LEFT" = some (.int (-1) t)) (c_MOST_DOINGS : ∃ t, mg "MOST_DOINGS" = some (.int 5000 t)) (n_set : mg "set" = none) (n_dict : mg "dict" = none) (t_RESERVED : CTup K mg "RESERVED" resZ) (t_SIGNS : CTup K mg "SIGNS" signZ) (t_HOLDERS : CTup K mg "HOLDERS" holdZ) (s_LETTERS : ∃ t, mg "LETTERS" = some (.str "abcdefghijklmnopqrstuvwxyz" t))
    {C : Addr} (T : PlC K mg C) (FI : DfI K C "Player.__init__" st_m___init__ ["self", "program", "inputs", "most"]) (M_may_do : DfM K C "may_do" "Player.may_do" st_m_may_do ["self"]) (M_do_block : DfM K C "do_block" "Player.do_block" st_m_do_block ["self", "block"]) (M_do_part : DfM K C "do_part" "Player.do_part" st_m_do_part ["self", "part"]) (M_do_while : DfM K C "do_while" "Player.do_while" st_m_do_while ["self", "part"]) (M_do_rounds : DfM K C "do_rounds" "Player.do_rounds" st_m_do_rounds ["self", "many", "block"]) (M_holds : DfM K C "holds" "Player.holds" st_m_holds ["self", "test"]) (M_worth : DfM K C "worth" "Player.worth" st_m_worth ["self", "value"]) (M_next_input : DfM K C "next_input" "Player.next_input" st_m_next_input ["self"])
    (d_PART_LENGTHS : ∃ a, mg "PART_LENGTHS" = some (.ref a) ∧ KDict P w K a partK)
    (F_is_integer : Df K mg "is_integer" st_is_integer ["value"])
    (F_is_number : Df K mg "is_number" st_is_number ["value", "low", "high"])
    (F_is_row : Df K mg "is_row" st_is_row ["value", "low", "high"])
    (F_check_number : Df K mg "check_number" st_check_number ["value", "low", "high"])
    (F_check_inputs : Df K mg "check_inputs" st_check_inputs ["inputs"])
    (F_check_block_program : Df K mg "check_block_program" st_check_block_program ["program"])
    (F_is_block_program : Df K mg "is_block_program" st_is_block_program ["value"])
    (F_is_free_word : Df K mg "is_free_word" st_is_free_word ["value"])
    (F_are_names : Df K mg "are_names" st_are_names ["value"])
    (F_are_unlike : Df K mg "are_unlike" st_are_unlike ["words"])
    (F_is_term : Df K mg "is_term" st_is_term ["value", "names"])
    (F_is_sum : Df K mg "is_sum" st_is_sum ["value", "names"])
    (F_terms_in : Df K mg "terms_in" st_terms_in ["value", "names", "most"])
    (F_is_test : Df K mg "is_test" st_is_test ["value", "names"])
    (F_is_part : Df K mg "is_part" st_is_part ["value", "names", "before"])
    (F_blocks_in : Df K mg "blocks_in" st_blocks_in ["part"])
    (F_left_behind_block : Df K mg "left_behind_block" st_left_behind_block ["value", "deep", "names", "before", "left"])
    (F_play : Df K mg "play" st_play ["program", "inputs", "most"])
    (F__law_taken : Df K mg "_law_taken" st__law_taken ["row", "many"])
    (F__law_pick : Df K mg "_law_pick" st__law_pick ["row", "things"])
    (F__law_sum : Df K mg "_law_sum" st__law_sum ["row", "names", "deep"])
    (F__law_block : Df K mg "_law_block" st__law_block ["row", "names", "done", "deep"])
    (F__law_parts : Df K mg "_law_parts" st__law_parts ["block"])
    (F__law_program : Df K mg "_law_program" st__law_program ["row"])
    (F__law_alike : Df K mg "_law_alike" st__law_alike ["found", "due"])
    (F__law_worth : Df K mg "_law_worth" st__law_worth ["held", "value"])
    (F__law_play : Df K mg "_law_play" st__law_play ["program", "inputs", "most"])
    (F_law : Df K mg "law" st_law ["script"])
    : ∃ fd : FuncData, (∀ (s : Shared) (v : Value), BindsTo s fd ⟨[v], []⟩ [("script", v)]) ∧ ∀ base : Heap, FnOk P w K mg base CX0 30 fa fd ["script"] (spLaw K) := by
  obtain ⟨f, fd, F, g, b⟩ := F_law.ex
  have e := hfa.symm.trans g
  cases e
  refine ⟨fd, fun s v => ?_, fun base  => ?_⟩
  · obtain ⟨oc, od, kV, doc, pm, an, cdv, ct, osl, rfl, _⟩ := F.ex
    exact .of_eq rfl
  · obtain ⟨aP, gaP, KD⟩ := d_PART_LENGTHS
    have D1 := ok_is_integerW (P := P) (w := w) (K := K) (base := base) F_is_integer B
    have CN := ok_is_numberW F_is_number D1
    have CR := ok_is_rowW (P := P) (w := w) (K := K) (base := base) F_is_row B
    have CCN := ok_ckNum F_check_number CN
    have CCI := ok_ckIn F_check_inputs B c_MOST_INPUTS c_GREATEST CR CN
    have CF := ok_free (P := P) (w := w) (base := base) F_is_free_word B c_MOST_LETTERS s_LETTERS t_RESERVED
    have CU := ok_unlike (P := P) (w := w) (K := K) (base := base) F_are_unlike B n_set
    have CA := ok_names F_are_names B c_MOST_NAMES CR CF CU
    have CTm := ok_term F_is_term B c_GREATEST_TERM CN
    have T0 := ok_terms0 F_terms_in CTm
    have T1 := ok_termsS 0 F_terms_in t_SIGNS CTm CR T0
    have T2 := ok_termsS 1 F_terms_in t_SIGNS CTm CR T1
    have T3 := ok_termsS 2 F_terms_in t_SIGNS CTm CR T2
    have CS := ok_isSum F_is_sum c_MOST_SUMS c_MOST_TERMS T3
    have CTe := ok_isTest F_is_test B CR CS
    have CP := ok_part F_is_part B c_MOST_ROUNDS gaP KD CR CS CTe CN
    have CB := ok_blocks (P := P) (w := w) (base := base) F_blocks_in t_HOLDERS
    have L0 := ok_left0 F_left_behind_block B c_MOST_DEEP c_NONE_LEFT CP CB
    have L1 := ok_leftS 0 F_left_behind_block B c_MOST_DEEP c_NONE_LEFT CP CB L0
    have L2' := ok_leftS 1 F_left_behind_block B c_MOST_DEEP c_NONE_LEFT CP CB L1
    have CIB := ok_isProg F_is_block_program c_MOST_PROCEDURES c_MOST_PARTS c_NONE_LEFT CR CA CF L1 L2'
    have CPr := ok_ckProg F_check_block_program CIB
    have MM := ok_may (P := P) (w := w) (base := base) M_may_do T
    have W0 := ok_worthM0 (P := P) (w := w) (base := base) M_worth B T
    have W1 := ok_worthMS 0 M_worth B T W0
    have W2 := ok_worthMS 1 M_worth B T W1
    have W3 := ok_worthMS 2 M_worth B T W2
    have MH := ok_holds M_holds T W3
    have MN := ok_nextIn (P := P) (w := w) (base := base) M_next_input B T
    have P0 := ok_part0 M_do_part T MM W3 MN
    have B0 := ok_blk 0 M_do_block T P0
    have R0 := ok_rd 0 M_do_rounds B T B0
    have H0 := ok_wh 0 M_do_while T MM MH B0
    have P1 := ok_partS 0 M_do_part T MM W3 MN MH B0 R0 H0
    have B1 := ok_blk 1 M_do_block T P1
    have R1 := ok_rd 1 M_do_rounds B T B1
    have H1 := ok_wh 1 M_do_while T MM MH B1
    have P2 := ok_partS 1 M_do_part T MM W3 MN MH B1 R1 H1
    have B2 := ok_blk 2 M_do_block T P2
    have R2 := ok_rd 2 M_do_rounds B T B2
    have H2 := ok_wh 2 M_do_while T MM MH B2
    have P3 := ok_partS 2 M_do_part T MM W3 MN MH B2 R2 H2
    have B3 := ok_blk 3 M_do_block T P3
    have R3 := ok_rd 3 M_do_rounds B T B3
    have H3 := ok_wh 3 M_do_while T MM MH B3
    have P4 := ok_partS 3 M_do_part T MM W3 MN MH B3 R3 H3
    have B4 := ok_blk 4 M_do_block T P4
    have R4 := ok_rd 4 M_do_rounds B T B4
    have H4 := ok_wh 4 M_do_while T MM MH B4
    have P5 := ok_partS 4 M_do_part T MM W3 MN MH B4 R4 H4
    have B5 := ok_blk 5 M_do_block T P5
    have R5 := ok_rd 5 M_do_rounds B T B5
    have H5 := ok_wh 5 M_do_while T MM MH B5
    have P6 := ok_partS 5 M_do_part T MM W3 MN MH B5 R5 H5
    have B6 := ok_blk 6 M_do_block T P6
    have R6 := ok_rd 6 M_do_rounds B T B6
    have H6 := ok_wh 6 M_do_while T MM MH B6
    have P7 := ok_partS 6 M_do_part T MM W3 MN MH B6 R6 H6
    have B7 := ok_blk 7 M_do_block T P7
    have MI := ok_initP (P := P) (w := w) (base := base) FI n_dict T
    have CPl := ok_play F_play B c_MOST_DOINGS T CPr CCI CCN MI B7
    have CT := ok_taken (P := P) (w := w) (K := K) (base := base) F__law_taken B
    have CPk := ok_pick F__law_pick B CT
    have CPt := ok_pickT F__law_pick B CT
    have S0 := ok_sum0 F__law_sum B CT CPk CPt
    have S1 := ok_sumS 0 F__law_sum B CT CPk CPt S0
    have S2 := ok_sumS 1 F__law_sum B CT CPk CPt S1
    have S3 := ok_sumS 2 F__law_sum B CT CPk CPt S2
    have K0 := ok_block0 F__law_block B CT CPk CPt S3 S2
    have K1 := ok_blockS 0 F__law_block B CT CPk CPt S3 S2 K0
    have K2 := ok_blockS 1 F__law_block B CT CPk CPt S3 S2 K1
    have N0 := ok_lparts0 (P := P) (w := w) (K := K) (base := base) F__law_parts B
    have N1 := ok_lpartsS 0 F__law_parts B N0
    have N2 := ok_lpartsS 1 F__law_parts B N1
    have CPg := ok_program F__law_program B CT K1 K2 N2
    have V0 := ok_worth0 (P := P) (w := w) (K := K) (base := base) F__law_worth B
    have V1 := ok_worthS 0 F__law_worth B V0
    have V2 := ok_worthS 1 F__law_worth B V1
    have V3 := ok_worthS 2 F__law_worth B V2
    have CLp := ok_lplay F__law_play B n_dict V3
    exact ok_law F B CT CPk CPg (ok_alikeS 2 F__law_alike B (ok_alikeS 1 F__law_alike B (ok_alikeS 0 F__law_alike B (ok_alike0 (P := P) (w := w) (K := K) (base := base) F__law_alike B)))) CLp CPl
end RH
set_option Elab.async false
set_option linter.all false
open PySem PySem.W PyProof.Rows
set_option maxRecDepth 100000 in
set_option maxHeartbeats 0 in
theorem PySem.Challenge.cw_restlesshelf_k60_whole_plays_holds : PySem.Challenge.rw_restlesshelf_k60_whole_plays.Holds := by
  w_on; o_law; k_head; (case hw => w_witness2)
  k_fill
  refine L2.walk_of (l := PySem.Challenge.rw_restlesshelf_k60_whole_plays) (n := 63) (k := 30) (x := "script") (CX := fun _ => L2.CX0) (sp := fun w => RH.spLaw _) rfl (by decide) rfl ⟨rfl, by decide, by decide⟩ (fun w h Y => PySem.W.kIn_of Y) ?F (fun _ _ a ns hl ho hS => ⟨a, ns, rfl, RH.Fz.of ho hS, fun _ => rfl⟩) (fun _ _ _ _ _ h => h)
  case F =>
    intro w mg fa h KX G hmg
    have B : RH.Bu mg := by
      refine' RH.Bu.mk (PySem.W.mg_none_of KX G ?z0) (PySem.W.mg_none_of KX G ?z1) (PySem.W.mg_none_of KX G ?z2) (PySem.W.mg_none_of KX G ?z3) (PySem.W.mg_none_of KX G ?z4) (PySem.W.mg_none_of KX G ?z5) (PySem.W.mg_none_of KX G ?z6) (PySem.W.mg_none_of KX G ?z7) (PySem.W.mg_none_of KX G ?z8) (PySem.W.mg_none_of KX G ?z9) (PySem.W.mg_none_of KX G ?z10) (PySem.W.mg_none_of KX G ?z11) (PySem.W.mg_none_of KX G ?z12)
      (case z0 => k_is); (case z1 => k_is); (case z2 => k_is); (case z3 => k_is); (case z4 => k_is); (case z5 => k_is); (case z6 => k_is); (case z7 => k_is); (case z8 => k_is); (case z9 => k_is); (case z10 => k_is); (case z11 => k_is); (case z12 => k_is)
    have c_MOST_INPUTS : ∃ t, mg "MOST_INPUTS" = some (.int 50 t) := by
      refine' RH.const_mk KX G ?a
      (case a => k_is)
    have c_GREATEST : ∃ t, mg "GREATEST" = some (.int 1000000 t) := by
      refine' RH.const_mk KX G ?a
      (case a => k_is)
    have c_MOST_NAMES : ∃ t, mg "MOST_NAMES" = some (.int 5 t) := by
      refine' RH.const_mk KX G ?a
      (case a => k_is)
    have c_MOST_LETTERS : ∃ t, mg "MOST_LETTERS" = some (.int 8 t) := by
      refine' RH.const_mk KX G ?a
      (case a => k_is)
    have c_MOST_PROCEDURES : ∃ t, mg "MOST_PROCEDURES" = some (.int 4 t) := by
      refine' RH.const_mk KX G ?a
      (case a => k_is)
    have c_MOST_PARTS : ∃ t, mg "MOST_PARTS" = some (.int 60 t) := by
      refine' RH.const_mk KX G ?a
      (case a => k_is)
    have c_MOST_DEEP : ∃ t, mg "MOST_DEEP" = some (.int 6 t) := by
      refine' RH.const_mk KX G ?a
      (case a => k_is)
    have c_MOST_ROUNDS : ∃ t, mg "MOST_ROUNDS" = some (.int 6 t) := by
      refine' RH.const_mk KX G ?a
      (case a => k_is)
    have c_MOST_SUMS : ∃ t, mg "MOST_SUMS" = some (.int 6 t) := by
      refine' RH.const_mk KX G ?a
      (case a => k_is)
    have c_MOST_TERMS : ∃ t, mg "MOST_TERMS" = some (.int 24 t) := by
      refine' RH.const_mk KX G ?a
      (case a => k_is)
    have c_GREATEST_TERM : ∃ t, mg "GREATEST_TERM" = some (.int 1000 t) := by
      refine' RH.const_mk KX G ?a
      (case a => k_is)
    have c_NONE_LEFT : ∃ t, mg "NONE_LEFT" = some (.int (-1) t) := by
      refine' RH.const_mk KX G ?a
      (case a => k_is)
    have c_MOST_DOINGS : ∃ t, mg "MOST_DOINGS" = some (.int 5000 t) := by
      refine' RH.const_mk KX G ?a
      (case a => k_is)
    have n_set : mg "set" = none := by
      refine' PySem.W.mg_none_of KX G ?a
      (case a => k_is)
    have n_dict : mg "dict" = none := by
      refine' PySem.W.mg_none_of KX G ?a
      (case a => k_is)
    have t_RESERVED : RH.CTup (RH.kOf KX) mg "RESERVED" RH.resZ := by
      refine' RH.ctup_mk KX G ?a ?l ?c ?d ?s ?v
      (case a => k_is); (case l => k_is); (case c => exact rfl); (case d => exact rfl); (case v => exact (.cons ⟨_, rfl⟩ (.cons ⟨_, rfl⟩ (.cons ⟨_, rfl⟩ (.cons ⟨_, rfl⟩ (.cons ⟨_, rfl⟩ (.cons ⟨_, rfl⟩ (.cons ⟨_, rfl⟩ (.cons ⟨_, rfl⟩ (.cons ⟨_, rfl⟩ (.cons ⟨_, rfl⟩ (.cons ⟨_, rfl⟩ (.cons ⟨_, rfl⟩ .nil))))))))))))); (case s => decide)
    have t_SIGNS : RH.CTup (RH.kOf KX) mg "SIGNS" RH.signZ := by
      refine' RH.ctup_mk KX G ?a ?l ?c ?d ?s ?v
      (case a => k_is); (case l => k_is); (case c => exact rfl); (case d => exact rfl); (case v => exact (.cons ⟨_, rfl⟩ (.cons ⟨_, rfl⟩ .nil))); (case s => decide)
    have t_HOLDERS : RH.CTup (RH.kOf KX) mg "HOLDERS" RH.holdZ := by
      refine' RH.ctup_mk KX G ?a ?l ?c ?d ?s ?v
      (case a => k_is); (case l => k_is); (case c => exact rfl); (case d => exact rfl); (case v => exact (.cons ⟨_, rfl⟩ (.cons ⟨_, rfl⟩ (.cons ⟨_, rfl⟩ .nil)))); (case s => decide)
    have s_LETTERS : ∃ t, mg "LETTERS" = some (.str "abcdefghijklmnopqrstuvwxyz" t) := by
      refine' RH.constS_mk KX G ?a
      (case a => k_is)
    have F_is_integer : RH.Df (RH.kOf KX) mg "is_integer" RH.st_is_integer ["value"] := by
      refine' RH.df_mk KX G ?a ?l ?c ?k (fun _ _ _ _ _ _ us hl => match us, hl with | [_], _ => rfl)
      (case a => k_is); (case l => k_is); (case c => k_is); (case k => k_is)
    have F_is_number : RH.Df (RH.kOf KX) mg "is_number" RH.st_is_number ["value", "low", "high"] := by
      refine' RH.df_mk KX G ?a ?l ?c ?k (fun _ _ _ _ _ _ us hl => match us, hl with | [_, _, _], _ => rfl)
      (case a => k_is); (case l => k_is); (case c => k_is); (case k => k_is)
    have F_is_row : RH.Df (RH.kOf KX) mg "is_row" RH.st_is_row ["value", "low", "high"] := by
      refine' RH.df_mk KX G ?a ?l ?c ?k (fun _ _ _ _ _ _ us hl => match us, hl with | [_, _, _], _ => rfl)
      (case a => k_is); (case l => k_is); (case c => k_is); (case k => k_is)
    have F_check_number : RH.Df (RH.kOf KX) mg "check_number" RH.st_check_number ["value", "low", "high"] := by
      refine' RH.df_mk KX G ?a ?l ?c ?k (fun _ _ _ _ _ _ us hl => match us, hl with | [_, _, _], _ => rfl)
      (case a => k_is); (case l => k_is); (case c => k_is); (case k => k_is)
    have F_check_inputs : RH.Df (RH.kOf KX) mg "check_inputs" RH.st_check_inputs ["inputs"] := by
      refine' RH.df_mk KX G ?a ?l ?c ?k (fun _ _ _ _ _ _ us hl => match us, hl with | [_], _ => rfl)
      (case a => k_is); (case l => k_is); (case c => k_is); (case k => k_is)
    have F_check_block_program : RH.Df (RH.kOf KX) mg "check_block_program" RH.st_check_block_program ["program"] := by
      refine' RH.df_mk KX G ?a ?l ?c ?k (fun _ _ _ _ _ _ us hl => match us, hl with | [_], _ => rfl)
      (case a => k_is); (case l => k_is); (case c => k_is); (case k => k_is)
    have F_is_block_program : RH.Df (RH.kOf KX) mg "is_block_program" RH.st_is_block_program ["value"] := by
      refine' RH.df_mk KX G ?a ?l ?c ?k (fun _ _ _ _ _ _ us hl => match us, hl with | [_], _ => rfl)
      (case a => k_is); (case l => k_is); (case c => k_is); (case k => k_is)
    have F_is_free_word : RH.Df (RH.kOf KX) mg "is_free_word" RH.st_is_free_word ["value"] := by
      refine' RH.df_mk KX G ?a ?l ?c ?k (fun _ _ _ _ _ _ us hl => match us, hl with | [_], _ => rfl)
      (case a => k_is); (case l => k_is); (case c => k_is); (case k => k_is)
    have F_are_names : RH.Df (RH.kOf KX) mg "are_names" RH.st_are_names ["value"] := by
      refine' RH.df_mk KX G ?a ?l ?c ?k (fun _ _ _ _ _ _ us hl => match us, hl with | [_], _ => rfl)
      (case a => k_is); (case l => k_is); (case c => k_is); (case k => k_is)
    have F_are_unlike : RH.Df (RH.kOf KX) mg "are_unlike" RH.st_are_unlike ["words"] := by
      refine' RH.df_mk KX G ?a ?l ?c ?k (fun _ _ _ _ _ _ us hl => match us, hl with | [_], _ => rfl)
      (case a => k_is); (case l => k_is); (case c => k_is); (case k => k_is)
    have F_is_term : RH.Df (RH.kOf KX) mg "is_term" RH.st_is_term ["value", "names"] := by
      refine' RH.df_mk KX G ?a ?l ?c ?k (fun _ _ _ _ _ _ us hl => match us, hl with | [_, _], _ => rfl)
      (case a => k_is); (case l => k_is); (case c => k_is); (case k => k_is)
    have F_is_sum : RH.Df (RH.kOf KX) mg "is_sum" RH.st_is_sum ["value", "names"] := by
      refine' RH.df_mk KX G ?a ?l ?c ?k (fun _ _ _ _ _ _ us hl => match us, hl with | [_, _], _ => rfl)
      (case a => k_is); (case l => k_is); (case c => k_is); (case k => k_is)
    have F_terms_in : RH.Df (RH.kOf KX) mg "terms_in" RH.st_terms_in ["value", "names", "most"] := by
      refine' RH.df_mk KX G ?a ?l ?c ?k (fun _ _ _ _ _ _ us hl => match us, hl with | [_, _, _], _ => rfl)
      (case a => k_is); (case l => k_is); (case c => k_is); (case k => k_is)
    have F_is_test : RH.Df (RH.kOf KX) mg "is_test" RH.st_is_test ["value", "names"] := by
      refine' RH.df_mk KX G ?a ?l ?c ?k (fun _ _ _ _ _ _ us hl => match us, hl with | [_, _], _ => rfl)
      (case a => k_is); (case l => k_is); (case c => k_is); (case k => k_is)
    have F_is_part : RH.Df (RH.kOf KX) mg "is_part" RH.st_is_part ["value", "names", "before"] := by
      refine' RH.df_mk KX G ?a ?l ?c ?k (fun _ _ _ _ _ _ us hl => match us, hl with | [_, _, _], _ => rfl)
      (case a => k_is); (case l => k_is); (case c => k_is); (case k => k_is)
    have F_blocks_in : RH.Df (RH.kOf KX) mg "blocks_in" RH.st_blocks_in ["part"] := by
      refine' RH.df_mk KX G ?a ?l ?c ?k (fun _ _ _ _ _ _ us hl => match us, hl with | [_], _ => rfl)
      (case a => k_is); (case l => k_is); (case c => k_is); (case k => k_is)
    have F_left_behind_block : RH.Df (RH.kOf KX) mg "left_behind_block" RH.st_left_behind_block ["value", "deep", "names", "before", "left"] := by
      refine' RH.df_mk KX G ?a ?l ?c ?k (fun _ _ _ _ _ _ us hl => match us, hl with | [_, _, _, _, _], _ => rfl)
      (case a => k_is); (case l => k_is); (case c => k_is); (case k => k_is)
    have F_play : RH.Df (RH.kOf KX) mg "play" RH.st_play ["program", "inputs", "most"] := by
      refine' RH.df_mk KX G ?a ?l ?c ?k (fun _ _ _ _ _ _ us hl => match us, hl with | [_, _, _], _ => rfl)
      (case a => k_is); (case l => k_is); (case c => k_is); (case k => k_is)
    have F__law_taken : RH.Df (RH.kOf KX) mg "_law_taken" RH.st__law_taken ["row", "many"] := by
      refine' RH.df_mk KX G ?a ?l ?c ?k (fun _ _ _ _ _ _ us hl => match us, hl with | [_, _], _ => rfl)
      (case a => k_is); (case l => k_is); (case c => k_is); (case k => k_is)
    have F__law_pick : RH.Df (RH.kOf KX) mg "_law_pick" RH.st__law_pick ["row", "things"] := by
      refine' RH.df_mk KX G ?a ?l ?c ?k (fun _ _ _ _ _ _ us hl => match us, hl with | [_, _], _ => rfl)
      (case a => k_is); (case l => k_is); (case c => k_is); (case k => k_is)
    have F__law_sum : RH.Df (RH.kOf KX) mg "_law_sum" RH.st__law_sum ["row", "names", "deep"] := by
      refine' RH.df_mk KX G ?a ?l ?c ?k (fun _ _ _ _ _ _ us hl => match us, hl with | [_, _, _], _ => rfl)
      (case a => k_is); (case l => k_is); (case c => k_is); (case k => k_is)
    have F__law_block : RH.Df (RH.kOf KX) mg "_law_block" RH.st__law_block ["row", "names", "done", "deep"] := by
      refine' RH.df_mk KX G ?a ?l ?c ?k (fun _ _ _ _ _ _ us hl => match us, hl with | [_, _, _, _], _ => rfl)
      (case a => k_is); (case l => k_is); (case c => k_is); (case k => k_is)
    have F__law_parts : RH.Df (RH.kOf KX) mg "_law_parts" RH.st__law_parts ["block"] := by
      refine' RH.df_mk KX G ?a ?l ?c ?k (fun _ _ _ _ _ _ us hl => match us, hl with | [_], _ => rfl)
      (case a => k_is); (case l => k_is); (case c => k_is); (case k => k_is)
    have F__law_program : RH.Df (RH.kOf KX) mg "_law_program" RH.st__law_program ["row"] := by
      refine' RH.df_mk KX G ?a ?l ?c ?k (fun _ _ _ _ _ _ us hl => match us, hl with | [_], _ => rfl)
      (case a => k_is); (case l => k_is); (case c => k_is); (case k => k_is)
    have F__law_alike : RH.Df (RH.kOf KX) mg "_law_alike" RH.st__law_alike ["found", "due"] := by
      refine' RH.df_mk KX G ?a ?l ?c ?k (fun _ _ _ _ _ _ us hl => match us, hl with | [_, _], _ => rfl)
      (case a => k_is); (case l => k_is); (case c => k_is); (case k => k_is)
    have F__law_worth : RH.Df (RH.kOf KX) mg "_law_worth" RH.st__law_worth ["held", "value"] := by
      refine' RH.df_mk KX G ?a ?l ?c ?k (fun _ _ _ _ _ _ us hl => match us, hl with | [_, _], _ => rfl)
      (case a => k_is); (case l => k_is); (case c => k_is); (case k => k_is)
    have F__law_play : RH.Df (RH.kOf KX) mg "_law_play" RH.st__law_play ["program", "inputs", "most"] := by
      refine' RH.df_mk KX G ?a ?l ?c ?k (fun _ _ _ _ _ _ us hl => match us, hl with | [_, _, _], _ => rfl)
      (case a => k_is); (case l => k_is); (case c => k_is); (case k => k_is)
    have F_law : RH.Df (RH.kOf KX) mg "law" RH.st_law ["script"] := by
      refine' RH.df_mk KX G ?a ?l ?c ?k (fun _ _ _ _ _ _ us hl => match us, hl with | [_], _ => rfl)
      (case a => k_is); (case l => k_is); (case c => k_is); (case k => k_is)
    obtain ⟨C, T, FI, M_may_do, M_do_block, M_do_part, M_do_while, M_do_rounds, M_holds, M_worth, M_next_input⟩ : ∃ C, RH.PlC (RH.kOf KX) mg C ∧ RH.DfI (RH.kOf KX) C "Player.__init__" RH.st_m___init__ ["self", "program", "inputs", "most"] ∧ RH.DfM (RH.kOf KX) C "may_do" "Player.may_do" RH.st_m_may_do ["self"] ∧ RH.DfM (RH.kOf KX) C "do_block" "Player.do_block" RH.st_m_do_block ["self", "block"] ∧ RH.DfM (RH.kOf KX) C "do_part" "Player.do_part" RH.st_m_do_part ["self", "part"] ∧ RH.DfM (RH.kOf KX) C "do_while" "Player.do_while" RH.st_m_do_while ["self", "part"] ∧ RH.DfM (RH.kOf KX) C "do_rounds" "Player.do_rounds" RH.st_m_do_rounds ["self", "many", "block"] ∧ RH.DfM (RH.kOf KX) C "holds" "Player.holds" RH.st_m_holds ["self", "test"] ∧ RH.DfM (RH.kOf KX) C "worth" "Player.worth" RH.st_m_worth ["self", "value"] ∧ RH.DfM (RH.kOf KX) C "next_input" "Player.next_input" RH.st_m_next_input ["self"] := by
      refine' Exists.elim (RH.cls_mk KX G ?aC ?pg ?hd ?po ?sa ?mk ?kc ?n0 ?n1 ?n2 ?n3 ?n4 ?n5 ?n6 ?at0 ?i0 ?l0 ?c0 ?k0 ?at1 ?i1 ?l1 ?c1 ?k1 ?at2 ?i2 ?l2 ?c2 ?k2 ?at3 ?i3 ?l3 ?c3 ?k3 ?at4 ?i4 ?l4 ?c4 ?k4 ?at5 ?i5 ?l5 ?c5 ?k5 ?at6 ?i6 ?l6 ?c6 ?k6 ?at7 ?i7 ?l7 ?c7 ?k7 ?at8 ?i8 ?l8 ?c8 ?k8) (fun C hC => ⟨C, hC⟩)
      (case aC => k_is); (case pg => k_is); (case hd => k_is); (case po => k_is); (case sa => k_is); (case mk => k_is); (case kc => k_is); (case n0 => k_is)
      (case n1 => k_is); (case n2 => k_is); (case n3 => k_is); (case n4 => k_is); (case n5 => k_is); (case n6 => k_is); (case at0 => k_is); (case i0 => k_is)
      (case l0 => k_is); (case c0 => k_is); (case k0 => k_is); (case at1 => k_is); (case i1 => k_is); (case l1 => k_is); (case c1 => k_is); (case k1 => k_is)
      (case at2 => k_is); (case i2 => k_is); (case l2 => k_is); (case c2 => k_is); (case k2 => k_is); (case at3 => k_is); (case i3 => k_is); (case l3 => k_is)
      (case c3 => k_is); (case k3 => k_is); (case at4 => k_is); (case i4 => k_is); (case l4 => k_is); (case c4 => k_is); (case k4 => k_is); (case at5 => k_is)
      (case i5 => k_is); (case l5 => k_is); (case c5 => k_is); (case k5 => k_is); (case at6 => k_is); (case i6 => k_is); (case l6 => k_is); (case c6 => k_is)
      (case k6 => k_is); (case at7 => k_is); (case i7 => k_is); (case l7 => k_is); (case c7 => k_is); (case k7 => k_is); (case at8 => k_is); (case i8 => k_is)
      (case l8 => k_is); (case c8 => k_is); (case k8 => k_is)
    have d_PART_LENGTHS : ∃ a, mg "PART_LENGTHS" = some (.ref a) ∧ RH.KDict (PySem.Challenge.rw_restlesshelf_k60_whole_plays).prog w (RH.kOf KX) a RH.partK := by
      refine' RH.kdict_mk KX G [("let", 3, ?t0, ?u0), ("say", 2, ?t1, ?u1), ("ask", 2, ?t2, ?u2), ("if", 4, ?t3, ?u3), ("while", 3, ?t4, ?u4), ("repeat", 3, ?t5, ?u5), ("do", 2, ?t6, ?u6), ("stop", 1, ?t7, ?u7)] ?a ?l ?s ?x ?d ?n
      (case a => k_is); (case l => k_is); (case s => decide); (case x => exact ⟨rfl, rfl, rfl⟩); (case d => exact rfl); (case n => decide +kernel)
    obtain ⟨fd, hb, hF⟩ := RH.top (P := (PySem.Challenge.rw_restlesshelf_k60_whole_plays).prog) (w := w) hmg B c_MOST_INPUTS c_GREATEST c_MOST_NAMES c_MOST_LETTERS c_MOST_PROCEDURES c_MOST_PARTS c_MOST_DEEP c_MOST_ROUNDS c_MOST_SUMS c_MOST_TERMS c_GREATEST_TERM c_NONE_LEFT c_MOST_DOINGS n_set n_dict t_RESERVED t_SIGNS t_HOLDERS s_LETTERS T FI M_may_do M_do_block M_do_part M_do_while M_do_rounds M_holds M_worth M_next_input d_PART_LENGTHS F_is_integer F_is_number F_is_row F_check_number F_check_inputs F_check_block_program F_is_block_program F_is_free_word F_are_names F_are_unlike F_is_term F_is_sum F_terms_in F_is_test F_is_part F_blocks_in F_left_behind_block F_play F__law_taken F__law_pick F__law_sum F__law_block F__law_parts F__law_program F__law_alike F__law_worth F__law_play F_law
    exact ⟨fd, hb, fun base _ _ => hF base⟩
