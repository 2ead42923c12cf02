import PyProof.Rows.All
import Wide.All
import OpenK.AllK
import Wide.FinOn
import HandS.ForMost
import HandS.Exc
import HandS.TryOnly
import HandS.ExcOwn
import HandS.WordsExc
import HandS.IsInst
import HandS.Conv
import HandS.Sort
import HandS.SortInts
import HandS.Zip
import HandS.Zip0
import HandS.Wide
import HandS.Deep
import HandS.Flow
import HandS.Style
import HandS.TupAny
import KE.GoesEnum
import KE.KEqSeq
import KE.KEqDeep
import PyProof.TupleOfSeq
import HandS.Lambda
import HandS.Nested
import HandS.EndTab
import KE.KDictDisplayH
import KE.KDictCopyH
import KE.KIndexOf
import HandS.Dict
import HandS.DictTup
import HandS.TupLen
import HandS.Defaults
import HandS.SortRule
import KE.GoesZip
import HandS.ExcIs
import HandS.RaiseMore
import HandS.FStr
import HandS.Property
import KE.KExcSuper
import HandS.ExcInit
import HandS.ExcField
import HandS.TupMul
import PyProof.FString2
import HandS.Strs
import HandS.SetFor
import HandS.SetBool
import HandS.SetIn
import HandS.More
import KE.KDictSum
import HandS.Comp
import HandS.Codes
import HandS.Walk
import KE.GoesRaise
import HandS.ReplaceLit
import PySem.Challenge.RW_restlesshelf_k18_whole_texts
set_option Elab.async false
set_option linter.all false
set_option maxRecDepth 100000
set_option maxHeartbeats 2000000
/-! Two rules more: a walk over enumerate of a tuple, sorted of a tuple of ints. -/
namespace RH
open PySem PySem.Spec PyProof.Rows L2
theorem made_enumB {v : Value} {o : Obj} {H : Heap → Prop} (B : Begins v o H) :
    Meets (Builtin.«enumerate.__new__» ⟨[.type "enumerate", v], []⟩) (fun _ R s => H s.heap ∧
      R (.ok (.ret (.ref (s.heap.push o).objs.size))) { s with heap := (s.heap.push o).push { cls := .type "enumerate", data := .fields #[.none, .bool false, .ref s.heap.objs.size, rawInt 0, .none, .none] } }) :=
  .of_wp fun prog w A R s h => by
    obtain ⟨hp, g, d, tz, oz⟩ := s; obtain ⟨h1, h⟩ := h
    have hsub := sub_enumerate
    have q1 : ∀ {A' : Around} {E : Value → Shared → Prop} {Q : Value → Shared → Prop}, Q (.ref hp.objs.size) ⟨hp.push o, g, d, tz, oz⟩ → wpAny (model prog w) A' (pyIter v) Q E ⟨hp, g, d, tz, oz⟩ :=
      fun q => B.iter prog w _ _ ⟨hp, g, d, tz, oz⟩ _ h1 q
    wp_walk using q1
    refine wpAny_stack_any fun st => wpAny_pure ?_
    split
    · rename_i c _ _ _ _ _
      cases (c == Value.type "enumerate")
      · wp_walk using q1
        exact ⟨_, rfl, h⟩
      · wp_walk using q1
        exact ⟨_, rfl, h⟩
    · wp_walk using q1
      exact ⟨_, rfl, h⟩
section
variable {prog : Program} {w : World} {A : Around} {E : Value → Shared → Prop} {s : Shared}
theorem enum_one {v : Value} {o : Obj} {H : Heap → Prop} {Q : Value → Shared → Prop} (B : Begins v o H) (h1 : H s.heap)
    (h : ∀ h', IsEnum h' (s.heap.objs.size + 1) s.heap.objs.size 0 .none → h'.get? s.heap.objs.size = some o → h'.objs.size = s.heap.objs.size + 2 →
      (∀ b o, s.heap.get? b = some o → h'.get? b = some o) → Q (.ref (s.heap.objs.size + 1)) { s with heap := h' }) :
    wpAny (model prog w) A (call (.type "enumerate") [v]) Q E s := by
  refine callType_new F.called_enumerate (by decide) (F.typeCall_enumerate_1 _) (F.newCall_enumerate_1 _) (fun obj => F.args_object_init_2 obj _) F.entry_enumerate_new
    (made_enumB B) ⟨h1, ?_⟩
  have hZ : (s.heap.push o).objs.size = s.heap.objs.size + 1 := Heap.size_push ..
  show _ ∧ _
  rw [hZ]
  have he : IsEnum ((s.heap.push o).push { cls := .type "enumerate", data := .fields #[.none, .bool false, .ref s.heap.objs.size, rawInt 0, .none, .none] }) (s.heap.objs.size + 1) s.heap.objs.size 0 .none := by
    have := Heap.get?_push_size (s.heap.push o) (o := { cls := .type "enumerate", data := .fields #[.none, .bool false, .ref s.heap.objs.size, rawInt 0, .none, .none] }) rfl
    rw [hZ] at this; exact this
  refine ⟨⟨_, he, rfl⟩, h _ he (Heap.get?_push_of_some _ (Heap.get?_push_size _ B.free)) (by rw [Heap.size_push, hZ]) fun b o x => Heap.get?_push_of_some _ (Heap.get?_push_of_some _ x)⟩
end
/-- the tuple at a, each item with vz number in a new pair -/
def IteT (K : PySem.W.Frag) (a : Addr) : It :=
  ⟨fun i H => ∃ (xs : List V) (x : V), SqT K H a xs ∧ xs[i]? = some x, fun i H v H' => ∃ T x, v = .ref T ∧ H T = none ∧ H' = upd H T (.tup [.int (i : Nat), x]) ∧ ∀ xs, SqT K H a xs → xs[i]? = some x, fun i H => ∃ xs : List V, SqT K H a xs ∧ xs.length ≤ i⟩
theorem ne_enum {h : Heap} {e it a : Addr} {i : Int} {old : Value} {vz : Array Value} (he : IsEnum h e it i old) (p : IsTup h a vz) : e ≠ a := fun z => by
  obtain ⟨o, hO, hC, _⟩ := p
  rw [← z, he] at hO
  cases hO
  exact absurd (Value.type.inj hC) (by decide)
theorem turn_enumT {P : Program} {w : World} {K : PySem.W.Frag} {elts : List Expr} {kk : Nat} {tpos : Pos} (a e it : Addr) :
    Turn P w K (.Tuple elts kk tpos) (IteT K a) [e, it] e (fun i h => (∃ old, IsEnum h e it ((i : Nat) : Int) old) ∧ h.IsTupleIter it a i ∧ e ≠ it ∧ a ≠ it) where
  mem := by simp
  obj := fun i h st b hb => by
    obtain ⟨⟨old, he⟩, ⟨o, hO, hC, hD⟩, _⟩ := st
    have e' : b = e ∨ b = it := by simpa using hb
    rcases e' with z | z
    · rw [z]; exact ⟨_, he, fun v q => nomatch q⟩
    · rw [z]; exact ⟨o, hO, fun v q => by rw [hD] at q; cases q⟩
  keep := fun i h h' st k => let ⟨⟨old, he⟩, hi, nEI⟩ := st; ⟨⟨old, k e (by simp) _ he⟩, hi.at fun o q => k it (by simp) o q, nEI⟩
  item := by
    intro X hP hw hK hC i pins s σ H E I hf st hg
    subst hP hw hK
    obtain ⟨⟨old, he⟩, hIt, nEI, nAI⟩ := st
    obtain ⟨xs, x, hSq, hx⟩ := hg
    obtain ⟨vz, rz, p, hZ⟩ := I.tuple hSq
    obtain ⟨u, hu, ru⟩ := rz.get hx
    have ltE : e < s.heap.objs.size := Heap.lt_size he
    have ltI : it < s.heap.objs.size := by obtain ⟨_, q, _⟩ := hIt; exact Heap.lt_size q
    have hlt : i < vz.toArray.size := by
      have := (List.getElem?_eq_some_iff.mp hu).1
      simpa using this
    refine wpAny_pyNext_enum_itemD (Draws.tuple (show X.A.in1.handled = none from I.ok.hd hC) it a nAI vz.toArray) he ⟨hIt, p⟩ hlt nEI (by
      intro hm
      have e' : e = it ∨ e = a := by simpa using hm
      rcases e' with z | z
      · exact nEI z
      · exact ne_enum he p z) fun x' h' tz hP' hO hit' hT hSz kp => ?_
    have ex : x' = u := by
      have h2 : vz.toArray[i]? = some u := by simpa using hu
      rw [h2] at hP'
      exact (Option.some.inj hP').symm
    subst ex
    refine ⟨_, rfl, wpAny_letOwnedTupleGo_enum (s := { s with heap := h', toks := tz + 1 }) hO fun h'' he' sbu => ?_⟩
    have hT2 : h''.get? s.heap.objs.size = some { cls := .type "tuple", data := .seq #[.int i tz, x'] } := (sbu.2 _ (Nat.ne_of_gt ltE)).trans hT
    have new : ObjOk X.prog X.w (upd H s.heap.objs.size (.tup [.int (i : Nat), x])) h'' s.heap.objs.size (.tup [.int (i : Nat), x]) :=
      ⟨by show 2 ≤ sizeLine; decide, [.int i tz, x'], .cons ⟨_, rfl⟩ (.cons ru .nil), ⟨_, hT2, rfl, _, rfl⟩⟩
    have I1 : Inv X pins σ (upd H s.heap.objs.size (.tup [.int (i : Nat), x])) { s with heap := h'', toks := tz + 1 } :=
      I.turnedNew (ch := [e, it]) (fun b ob hb q => (sbu.2 b (fun z => hb (by simp [z]))).trans (kp b ob (fun z => hb (by simp [z])) (fun z => hb (by simp [z])) q)) hf (Nat.le_refl _) new
    refine ⟨.ref s.heap.objs.size, _, I1, rfl, ⟨_, x, rfl, I.hok.fresh (Nat.le_refl _), rfl, fun ys hy => by rw [I.tuple_inj hy hSq]; exact hx⟩, ⟨⟨x', ?_⟩, hit'.1.at fun o q => (sbu.2 it (Ne.symm nEI)).trans q, nEI, nAI⟩, fun b hb => ?_⟩
    · have e1 : ((i + 1 : Nat) : Int) = (i : Int) + 1 := by omega
      rw [e1]; exact he'
    · have hb' : b < s.heap.objs.size := by
        have e' : b = e ∨ b = it := by simpa using hb
        rcases e' with z | z
        · rw [z]; exact ltE
        · rw [z]; exact ltI
      rw [upd_ne (Nat.ne_of_lt hb')]
      exact (hf b hb).1
  done := by
    intro X hP hw hK hC i pins s σ H E I hf st hg
    subst hP hw hK
    obtain ⟨⟨old, he⟩, hIt, nEI, nAI⟩ := st
    obtain ⟨xs, hSq, hx⟩ := hg
    obtain ⟨vz, rz, p, hZ⟩ := I.tuple hSq
    obtain ⟨f0, f1, f2, f3, f4, f5⟩ := hf it (by simp)
    have hl := rz.length
    have hT : s.TypeIs (.ref e) "enumerate" := ⟨_, he, rfl⟩
    unfold pyNext
    refine wpAny_bind (wpAny_attempt (wpAny_callSpecial?_slot (name := Str.ofString "__next__") hT F.slot_enumerate_next
      (wpAny_call_entry F.slot_enumerate_next hT F.entry_enumerate_next ?_ (F.args_enumerate_next_1 _))))
    show wpAny _ _ (field (.ref e) 2 >>= _) _ _ _
    refine wpAny_bind (wpAny_field he rfl (x := .ref it) rfl ?_)
    refine wpAny_bind (wpAny_nextOf_tuple_end (show X.A.in1.handled = none from I.ok.hd hC) hIt p (by simp; omega) fun h' x he' hx' => ?_)
    obtain ⟨o, hO, hc'⟩ := hx'
    refine wpAny_bind (wpAny_isInstance (T := "StopIteration") (b := true) ⟨o, hO, hc'⟩ isSubtype_stop ?_)
    exact wpAny_pure ⟨rfl, I.turned (t' := s.toks) (fun b o hb q => he' b o hb q) f0 f1 f3 f4 f5⟩
  self := fun A i s Q E st h => let ⟨⟨_, he⟩, _⟩ := st; wpAny_pyIter_enum he h
def iEnumT (K : PySem.W.Frag) (ta : TA) : TI := fun σ H R => ta σ H fun vs H1 => ∃ a xs, vs = [.ref a] ∧ SqT K H1 a xs ∧ R (IteT K a) H1
theorem pi_enumT {X : Cx} {e : Expr} {ta : TA} {p pos tpos : Pos} {elts : List Expr} {kk : Nat} (hg : Gl X "enumerate") (hm : X.mg "enumerate" = none) (ha : PA X [e] ta) (hs : starEach [e] X.env = [(false, eval e X.env)] := by rfl) :
    PI X (.Tuple elts kk tpos) (.Call (.Name "enumerate" p) [e] [] pos) (iEnumT X.K ta) := by
  refine ⟨fun pins s σ H R I h => ?_⟩
  refine Call_ (ld_blt I hg hm boot_enumerate (PyProof.Rows.callWith_type1 (thn (ha.run pos pins s σ H _ I h) fun us s1 ⟨vs, H1, I1, r1, q1⟩ => ?_) hs rfl))
  obtain ⟨a, xs, ex, hSq, q⟩ := q1
  subst ex
  cases r1 with
  | cons r rr =>
    cases rr
    cases r
    obtain ⟨vz, rz, p', hZ⟩ := I1.tuple hSq
    have hal : a < s1.heap.objs.size := by obtain ⟨_, q', _⟩ := id p'; exact Heap.lt_size q'
    refine enum_one (begins_tuple a vz.toArray) p' fun h' he hIt hSz kp => wpAny_pyIter_enum he ?_
    have I2 : Inv X pins σ H1 { s1 with heap := h' } := I1.kept (t' := s1.toks) kp
    refine ⟨s1.heap.objs.size + 1, [s1.heap.objs.size + 1, s1.heap.objs.size], _, _, H1, rfl, I2, turn_enumT a (s1.heap.objs.size + 1) s1.heap.objs.size, ⟨⟨.none, he⟩, ⟨_, hIt, rfl, rfl⟩, Nat.succ_ne_self _, Nat.ne_of_lt hal⟩, fun b hb => ?_, q⟩
    have e' : b = s1.heap.objs.size + 1 ∨ b = s1.heap.objs.size := by simpa using hb
    have hle : s1.heap.objs.size ≤ b := by
      rcases e' with z | z
      · rw [z]; exact Nat.le_add_right _ _
      · rw [z]; exact Nat.le_refl _
    exact I1.fpOk hle (I1.hok.fresh hle)
/-! ### sorted(a tuple of ints) -/
end RH
set_option Elab.async false
set_option linter.all false
set_option maxRecDepth 100000
set_option maxHeartbeats 2000000
/-! Lambdas with parameters and captured names, as values: made, handed to a def of the text, called there. -/
namespace RH
open PySem PySem.Spec PyProof.Rows L2
open LamX (Tabs TabS TabB ExtN CodeO codeO_ne inv_table among_app)
open NdefX (NF CellsAt NScope startF ncx inv_startN codeO_at slotAt Caps cells_of upd_none)
/-- a lambda's words, what it captured, its code object -/
structure LF where
  qual : Str
  params : Arguments
  body : Expr
  scope : Scope
  cl : List (Str × Addr)
  c : Addr
abbrev LF.fd (F : LF) (pm ctv : Value) : FuncData := PySem.W.kla_fn "<lambda>" F.qual F.params F.body F.scope F.cl pm (.ref F.c) ctv
/-- the object at f is this lambda -/
def FnL (f : Addr) (F : LF) : HO := .ext fun h => ∃ (od : Option Addr) (sl : Array (Option Value)) (pm ctv : Value), h.get? f = some (⟨.type "function", od, .func (F.fd pm ctv), sl⟩ : Obj)
theorem fnL_ne {f : Addr} {F : LF} (ps : Array Value) : FnL f F ≠ .tbl ps := fun z => by
  unfold FnL at z
  cases z
/-! ### what a lambda promises -/
/-! ### a def that is handed things that can be called -/
end RH
set_option Elab.async false
set_option linter.all false
set_option maxRecDepth 100000
set_option maxHeartbeats 2000000
/-! Dicts with tuples for keys: one pair written out, their values; where an int stands in a tuple. -/
set_option Elab.async false
set_option linter.all false
set_option maxRecDepth 100000
set_option maxHeartbeats 2000000
/-! Tuples told by their very object, and dicts whose keys are such tuples of ints. -/
namespace RH
open PySem PySem.Spec PyProof.Rows L2
def keyOf (s : List Int) : List L2.Key := s.map Sum.inl
theorem keyOf_kV (s : List Int) : (keyOf s).map kV = s.map V.int := by
  unfold keyOf
  rw [List.map_map]
  rfl
theorem mapInt_inj : ∀ {s t : List Int}, s.map V.int = t.map V.int → s = t
  | [], [], _ => rfl
  | [], _ :: _, e => by simp at e
  | _ :: _, [], e => by simp at e
  | a :: s, b :: t, e => by
    rw [List.map_cons, List.map_cons] at e
    injection e with e1 e2
    rw [V.int.inj e1, mapInt_inj e2]
theorem keyOf_inj {s t : List Int} (h : keyOf s = keyOf t) : s = t := by
  have e : (keyOf s).map kV = (keyOf t).map kV := by rw [h]
  rw [keyOf_kV, keyOf_kV] at e
  exact mapInt_inj e
/-- b is a tuple of these ints -/
def KX (H : Hp) (b : Addr) (s : List Int) : Prop := Rd H b (.tup (s.map V.int))
inductive XS : List (List Int × V) → List Addr → List (List L2.Key × Addr × Value) → Prop
  | nil : XS [] [] []
  | cons {q : List Int × V} {b : Addr} {u : Value} {as : List (List Int × V)} {bs : List Addr} {xs : List (List L2.Key × Addr × Value)} : RelV q.2 u → XS as bs xs → XS (q :: as) (b :: bs) ((keyOf q.1, b, u) :: xs)
inductive KB (H : Hp) : List (List Int × V) → List Addr → Prop
  | nil : KB H [] []
  | cons {q : List Int × V} {b : Addr} {as : List (List Int × V)} {bs : List Addr} : KX H b q.1 → KB H as bs → KB H (q :: as) (b :: bs)
theorem KB.snoc {H : Hp} {q : List Int × V} {b : Addr} (h : KX H b q.1) : ∀ {as : List (List Int × V)} {bs : List Addr}, KB H as bs → KB H (as ++ [q]) (bs ++ [b])
  | _, _, .nil => .cons h .nil
  | _, _, .cons g t => .cons g (t.snoc h)
theorem KB.imp {H H' : Hp} (f : ∀ b s, KX H b s → KX H' b s) : ∀ {as : List (List Int × V)} {bs : List Addr}, KB H as bs → KB H' as bs
  | _, _, .nil => .nil
  | _, _, .cons g t => .cons (f _ _ g) (t.imp f)
theorem XS.len : ∀ {as : List (List Int × V)} {bs : List Addr} {xs : List (List L2.Key × Addr × Value)}, XS as bs xs → xs.length = as.length
  | _, _, _, .nil => rfl
  | _, _, _, .cons _ t => congrArg (· + 1) t.len
theorem XS.snoc {q : List Int × V} {b : Addr} {u : Value} (h : RelV q.2 u) : ∀ {as : List (List Int × V)} {bs : List Addr} {xs : List (List L2.Key × Addr × Value)}, XS as bs xs → XS (as ++ [q]) (bs ++ [b]) (xs ++ [(keyOf q.1, b, u)])
  | _, _, _, .nil => .cons h .nil
  | _, _, _, .cons g t => .cons g (t.snoc h)
theorem atKey_neg {x : List L2.Key × Addr × Value} {xs : List (List L2.Key × Addr × Value)} {k : List L2.Key} (e : ¬ x.1 = k) : atKey (x :: xs) k = atKey xs k := by simp [atKey, List.find?_cons, e]
theorem XS.no {s : List Int} : ∀ {as : List (List Int × V)} {bs : List Addr} {xs : List (List L2.Key × Addr × Value)}, XS as bs xs → s ∉ as.map Prod.fst → atKey xs (keyOf s) = none
  | _, _, _, .nil, _ => rfl
  | _, _, _, .cons g t, h => (atKey_neg fun e => h (by rw [← keyOf_inj e]; exact List.mem_cons_self ..)).trans (t.no fun z => h (List.mem_cons_of_mem _ z))
/-- the dict at d: as with its values, bs its keys' tuples -/
abbrev DE (P : Program) (w : World) (as : List (List Int × V)) (bs : List Addr) (d : Addr) : HO := .ext fun h => (d == sysModules) = false ∧ as.length ≤ sizeLine ∧ ∃ xs : List (List L2.Key × Addr × Value), XS as bs xs ∧
  ∃ o es ep, h.get? d = some o ∧ o.ExactDict ∧ o.data = .dict es ep ∧ es.toList = xs.map (entryOfKey (tupleKind (mixKind P w))) ∧ (xs.map (·.1)).Nodup
theorem DE.ok {P : Program} {w : World} {H : Hp} {h : Heap} {as : List (List Int × V)} {bs : List Addr} {d : Addr} {xs : List (List L2.Key × Addr × Value)} (hd : (d == sysModules) = false) (hl : as.length ≤ sizeLine) (hx : XS as bs xs) (dd : h.DictOfH (tupleKind (mixKind P w)) d xs) : ObjOk P w H h d (DE P w as bs d) := by
  obtain ⟨o, es, ep, h1, h2, h3, h4, _, h5⟩ := dd
  refine ⟨⟨hd, hl, xs, hx, o, es, ep, h1, h2, h3, h4, h5⟩, ⟨o, h1⟩, fun h1 h2 ⟨a1, a2, xs, a3, o, es, ep, b1, b2⟩ k => ⟨a1, a2, xs, a3, o, es, ep, k _ b1, b2⟩⟩
/-! ### the rules -/
end RH
set_option Elab.async false
set_option linter.all false
set_option maxRecDepth 100000
set_option maxHeartbeats 2000000
/-! Sorted lists of tuples of ints, of any length; more rules for dicts whose keys are such tuples. -/
namespace RH
open PySem PySem.Spec PyProof.Rows L2
open SrtO (Swo Srtd Stb SortableO Cmp lt2)
open TS (TupInts intsOf code Bd lex_ints firsts_of)
/-- each of xs is a tuple of the ints -/
inductive EX (H : Hp) : List V → List (List Int) → Prop
  | nil : EX H [] []
  | cons {b : Addr} {s : List Int} {xs : List V} {ls : List (List Int)} : KX H b s → EX H xs ls → EX H (.ref b :: xs) (s :: ls)
theorem EX.len {H : Hp} : ∀ {xs : List V} {ls : List (List Int)}, EX H xs ls → xs.length = ls.length
  | _, _, .nil => rfl
  | _, _, .cons _ t => congrArg (· + 1) t.len
theorem EX.imp {H H' : Hp} (f : ∀ b s, KX H b s → KX H' b s) : ∀ {xs : List V} {ls : List (List Int)}, EX H xs ls → EX H' xs ls
  | _, _, .nil => .nil
  | _, _, .cons g t => .cons (f _ _ g) (t.imp f)
theorem EX.snoc {H : Hp} {b : Addr} {s : List Int} (h : KX H b s) : ∀ {xs : List V} {ls : List (List Int)}, EX H xs ls → EX H (xs ++ [.ref b]) (ls ++ [s])
  | _, _, .nil => .cons h .nil
  | _, _, .cons g t => .cons g (t.snoc h)
theorem EX.at {H : Hp} : ∀ {xs : List V} {ls : List (List Int)} {i : Nat} {s : List Int}, EX H xs ls → ls[i]? = some s → ∃ b, xs[i]? = some (V.ref b) ∧ KX H b s
  | _, _, _, _, .nil, e => by simp at e
  | _, _, 0, _, .cons h _, e => by
    cases Option.some.inj e
    exact ⟨_, rfl, h⟩
  | _, _, i + 1, _, .cons _ t, e => t.at (i := i) e
end RH
set_option Elab.async false
set_option linter.all false
set_option maxRecDepth 100000
set_option maxHeartbeats 2000000
namespace RH
open PySem PySem.Spec PyProof.Rows L2
open SrtO (Swo Srtd Stb SortableO Cmp lt2)
open TS (TupInts intsOf code Bd lex_ints firsts_of)
theorem KB.ex {H : Hp} : ∀ {as : List (List Int × V)} {bs : List Addr}, KB H as bs → EX H (bs.map V.ref) (as.map Prod.fst)
  | _, _, .nil => .nil
  | _, _, .cons g t => .cons g t.ex
/-! ### get, in, a new one, [..] = -/
end RH
set_option Elab.async false
set_option linter.all false
set_option maxRecDepth 100000
set_option maxHeartbeats 2000000
/-! Lambdas that a def hands back: the cells that they caught are tracked from then on. -/
namespace RH
open PySem PySem.Spec PyProof.Rows L2
open LamX (Tabs TabS TabB ExtN CodeO codeO_ne)
open NdefX (NF CellsAt NScope startF ncx codeO_at slotAt Caps cells_of)
/-- the cell at c holds v -/
def CellO (c : Addr) (v : V) : HO := .ext fun h => ∃ u, L2.RelV v u ∧ h.IsCell c (some u)
theorem cellO_ne {c : Addr} {v : V} : (∀ y, CellO c v ≠ .own y) ∧ (∀ xs, CellO c v ≠ .tup xs) ∧ (∀ o u, CellO c v ≠ .frz o u) ∧ (∀ ps, CellO c v ≠ .tbl ps) := by
  unfold CellO
  exact ⟨fun _ z => (nomatch z), fun _ z => (nomatch z), fun _ _ z => (nomatch z), fun _ z => (nomatch z)⟩
abbrev CL := List (Addr × V)
/-- f may be called from any place, while it is alive -/
structure CallableA (P : Program) (w : World) (K : PySem.W.Frag) (mg : Str → Option Value) (base : Heap) (CX : CXT) (k : Nat) (f : Addr) (live : Hp → Prop) (sp : Sp) : Prop where
  at_ : ∀ (X : Cx), X.prog = P → X.w = w → X.K = K → X.base = base → ∀ pins σ H' s', Inv X pins σ H' s' → live H' → PySem.W.FnAt f s'.heap
  run : ∀ (X : Cx), X.prog = P → X.w = w → X.K = K → X.mg = mg → X.base = base → Room k X.A → ∀ pins σ H' s' us vs Q E, Inv X pins σ H' s' → live H' → Vals vs us → Passes CX X E → sp vs H' Q E →
    wpAny (model P w) X.A (call (.ref f) us) (EP X pins σ Q) X.xe s'
theorem CallableA.imp {P : Program} {w : World} {K : PySem.W.Frag} {mg : Str → Option Value} {base : Heap} {CX : CXT} {k : Nat} {f : Addr} {live live' : Hp → Prop} {sp sp' : Sp} (C : CallableA P w K mg base CX k f live sp) (hl : ∀ H, live' H → live H) (hs : ∀ vs H Q E, live' H → sp' vs H Q E → sp vs H Q E) :
    CallableA P w K mg base CX k f live' sp' :=
  ⟨fun X e1 e2 e3 e4 pins σ H' s' I l => C.at_ X e1 e2 e3 e4 pins σ H' s' I (hl _ l), fun X e1 e2 e3 e4 e5 hr pins σ H' s' us vs Q E I l r hx q => C.run X e1 e2 e3 e4 e5 hr pins σ H' s' us vs Q E I (hl _ l) r hx (hs _ _ _ _ l q)⟩
/-- without the cells, with them -/
def era (l : CL) (H : Hp) : Hp := fun b => match l.lookup b with
  | some _ => none
  | none => H b
def lay (l : CL) (H : Hp) : Hp := fun b => match l.lookup b with
  | some v => some (CellO b v)
  | none => H b
theorem era_in {l : CL} {H : Hp} {b : Addr} {v : V} (e : l.lookup b = some v) : era l H b = none := by
  unfold era
  rw [e]
theorem era_no {l : CL} {H : Hp} {b : Addr} (e : l.lookup b = none) : era l H b = H b := by
  unfold era
  rw [e]
theorem lay_in {l : CL} {H : Hp} {b : Addr} {v : V} (e : l.lookup b = some v) : lay l H b = some (CellO b v) := by
  unfold lay
  rw [e]
theorem lay_no {l : CL} {H : Hp} {b : Addr} (e : l.lookup b = none) : lay l H b = H b := by
  unfold lay
  rw [e]
/-- the cells stand -/
def Stand (l : CL) (H : Hp) : Prop := ∀ b v, l.lookup b = some v → H b = some (CellO b v)
theorem Stand.ext {l : CL} {H H' : Hp} (s : Stand l H) (e : ExtN H H') : Stand l H' := fun b v q => e b _ (s b v q) cellO_ne.2.2.2
theorem Stand.same {l : CL} {H H' : Hp} (s : Stand l H) (e : Same H H') : Stand l H' := fun b v q => e b _ (s b v q)
theorem Stand.cases {l : CL} {H : Hp} (s : Stand l H) {b : Addr} {o : HO} (e : H b = some o) : (∃ v, l.lookup b = some v ∧ o = CellO b v) ∨ (l.lookup b = none ∧ era l H b = some o) := by
  cases q : l.lookup b with
  | some v => exact .inl ⟨v, rfl, Option.some.inj (e.symm.trans (s b v q))⟩
  | none => exact .inr ⟨rfl, (era_no q).trans e⟩
theorem Stand.tup {l : CL} {H : Hp} (s : Stand l H) {b : Addr} {xs : List V} (e : H b = some (.tup xs)) : era l H b = some (.tup xs) := by
  rcases s.cases e with ⟨v, _, z⟩ | ⟨_, z⟩
  · exact absurd z.symm (cellO_ne.2.1 xs)
  · exact z
theorem Stand.frz {l : CL} {H : Hp} (s : Stand l H) {b : Addr} {o : Obj} {u : HO} (e : H b = some (.frz o u)) : era l H b = some (.frz o u) := by
  rcases s.cases e with ⟨v, _, z⟩ | ⟨_, z⟩
  · exact absurd z.symm (cellO_ne.2.2.1 o u)
  · exact z
/-- the heap with the cells goes on as the one without them does -/
theorem Stand.on {l : CL} {H H2 : Hp} (s : Stand l H) (e : Same (era l H) H2) : Same H (RH.lay l H2) := fun b o q => by
  rcases s.cases q with ⟨v, z, rfl⟩ | ⟨z, y⟩
  · exact lay_in z
  · exact (lay_no z).trans (e b o y)
theorem Stand.hok {P : Program} {w : World} {l : CL} {H : Hp} {h : Heap} (s : Stand l H) (k : HOk P w H h) : HOk P w (era l H) h := fun a o e => by
  cases q : l.lookup a with
  | some v =>
    rw [era_in q] at e
    cases e
  | none =>
    rw [era_no q] at e
    refine (k a o e).stay (fun _ _ _ z => z) (fun b z => ?_) fun b xs z => s.tup z
    rcases s.cases z with ⟨v, _, y⟩ | ⟨_, y⟩
    · exact absurd y.symm (cellO_ne.1 a)
    · exact y
/-- the lambda at f stands, with its code and its cells -/
structure LiveK (f : Addr) (F : LF) (l : CL) (H : Hp) : Prop where
  fn : H f = some (FnL f F)
  code : H F.c = some (CodeO F.c F.qual)
  st : Stand l H
theorem LiveK.same {f : Addr} {F : LF} {l : CL} {H H' : Hp} (k : LiveK f F l H) (e : Same H H') : LiveK f F l H' := ⟨e _ _ k.fn, e _ _ k.code, k.st.same e⟩
theorem LiveK.ext {f : Addr} {F : LF} {l : CL} {H H' : Hp} (k : LiveK f F l H) (e : ExtN H H') : LiveK f F l H' := ⟨e _ _ k.fn (fun ps => fnL_ne ps), e _ _ k.code (fun ps => codeO_ne ps), k.st.ext e⟩
/-! ### a body that ends with a return, its names kept -/
end RH
set_option Elab.async false
set_option linter.all false
set_option maxRecDepth 100000
set_option maxHeartbeats 2000000
/-! A walk over zip of a tuple and a list. -/
set_option Elab.async false
set_option linter.all false
set_option maxRecDepth 100000
set_option maxHeartbeats 2000000
/-! Defs and methods that may raise, lambdas handed back that are called without arguments and may raise, what an except suite asks of its error. -/
namespace RH
open PySem PySem.Spec PyProof.Rows L2
open LamX (Tabs TabS TabB ExtN CodeO codeO_ne)
open NdefX (NF CellsAt NScope startF ncx codeO_at slotAt Caps cells_of)
/-! ### a lambda that was handed back, called without arguments -/
/-! ### what an except suite asks of its error -/
/-! ### list.count of flat things -/
/-- what leaves a def that may raise -/
theorem passE {P : Program} {w : World} {K : PySem.W.Frag} {mg : Str → Option Value} {base : Heap} {N : List Str} {qual : Str} {scope : Scope} {f : Addr} {cd : Value} {A : Around} {outer : List Env} {s : Shared} {H : Hp} {E : XK} :
    Passes (L2.CX P w) (cxOf (L2.CX P w) P w K mg base N qual scope f cd A outer s H E) E := passes_call (W := fun cls d _ H => E cls d H) (takes_of rfl rfl rfl rfl) (fun _ _ _ _ h => h)
theorem takesE {P : Program} {w : World} {K : PySem.W.Frag} {mg : Str → Option Value} {base : Heap} {N : List Str} {qual : Str} {scope : Scope} {f : Addr} {cd : Value} {A : Around} {outer : List Env} {s : Shared} {H : Hp} {E : XK} :
    Takes (cxOf (L2.CX P w) P w K mg base N qual scope f cd A outer s H E) (fun cls d _ H => E cls d H) := takes_of rfl rfl rfl rfl
end RH
set_option Elab.async false
set_option linter.all false
set_option maxRecDepth 100000
set_option maxHeartbeats 4000000
/-! own errors whose __init__ asks super().__init__ first -/
namespace L2
open PySem PySem.Calls PySem.Spec PyProof.Rows PySem.W
open NdefX (NScope NF CellsAt startF ncx envF inv_startN)
section
variable {X : Cx} {pins : List (Addr × Obj)} {σ : St} {H : Hp} {s : Shared} {a C u : Addr} {E : Value → Shared → Prop} {A : Around}
/-- the bound ValueError.__init__ is called: nothing of it is told -/
theorem call_mw {us : List Value} {Q : Value → Shared → Prop} (T : OexC X.K C) (I : Inv X pins σ H s) (hu : s.heap.get? u = some (kxs_mw "ValueError.__init__" a)) (e : H a = some (exo a C none)) (hl : us.length ≤ sizeLine) (h : ∀ s', Inv X pins σ H s' → Q .none s') :
    wpAny (model X.prog X.w) A (call (.ref u) us) Q E s := by
  obtain ⟨nm, q, N, bs, bm, sn, sub, ab, col, dd, k0, k1, k2, k3, k5, hC, hbm⟩ := T.cls
  obtain ⟨t1, ho⟩ := exo_at I.hok e
  obtain ⟨hp, g, d, t, os⟩ := s
  refine wpAny_call (codeAny_of_tree ?_)
  show wpAny _ A.in1 (callAny (.ref u) ⟨us, []⟩) _ _ _
  simp only [callAny]
  refine wpAny_bind (wpAny_load hu ?_)
  simp only [kxs_mw, show (Value.type "method-wrapper" == Value.type "method" || Value.type "method-wrapper" == Value.type "builtin_function_or_method" || Value.type "method-wrapper" == Value.type "method-wrapper") = true by decide, if_true]
  refine KFB.if_so (by decide) ?_
  refine wpAny_bind (check_bound_init PySem.F.excBase_ValueError.toExcCallFacts (I.kIn _ _ hC) ho rfl ?_)
  refine wpAny_bind (wpAny_pure (wpAny_pure ?_))
  refine ⟨plainId_quiet PySem.F.excBase_ValueError.init.plain _, codeAny_builtin PySem.F.excBase_ValueError.initEntry ?_⟩
  refine exc_init_tree (cls := .ref C) (t0 := t1) (dv := none) (c2 := .none) (c3 := .none) (b4 := .bool false) ho hl fun h' k hx _ => ?_
  have J := I.write (t' := t) (x := a) (e := a) (o := exo a C none) (by rw [e]; exact True.intro) (.inl rfl) k ⟨_, hx⟩ (exo_ok hx)
  have eu : upd H a (exo a C none) = H := by
    funext b
    by_cases hb : b = a
    · rw [hb, upd_same, e]
    · rw [upd_ne hb]
  rw [eu] at J
  exact h _ J
end
theorem mw_args {M : Model} {i : String} {a u : Addr} {s : Shared} {A : Around} {E : Value → Shared → Prop} {pos : Pos} {env : Env} {e : Expr} {es : List Expr} {Q : Value → Shared → Prop}
    (h : wpAny M A (spliced (backTo pos (starEach (e :: es) env))) (fun vs s₁ => KxsAt i u a s₁.heap ∧ wpAny M A (call (.ref u) vs) Q E s₁) E s)
    (he : starEach (e :: es) env = (false, eval e env) :: starEach es env) (hp : (backTo pos (starEach es env)).any (·.1) = false) : wpAny M A (callWith pos (.ref u) [] (backTo pos (starEach (e :: es) env)) []) Q E s := by
  rw [he] at h ⊢
  exact kxs_callWith (i := i) (x := a) (by show (false || (backTo pos (starEach es env)).any (·.1)) = false; rw [hp]; rfl) (evalArgs_plain h)
/-- the class C with an own __init__ that asks super().__init__ first -/
structure SupC (P : Program) (K : Frag) (mg : Str → Option Value) (C : Addr) (qual : Str) (st : Stmt) (f : Addr) (fd : FuncData) (cc cda : Addr) : Prop where
  t : OexC K C
  ex : ∃ (oc : Value) (od : Option Addr) (kV doc pm : Value) (an : Option Addr) (ct : Value) (osl : Array (Option Value)), fd = fnX "__init__" qual (defArgs st) (defBody st) (defScope st) [("__class__", cc)] .none kV doc pm an (.ref cda) ct ∧ K.lookup f = some ⟨oc, od, .func fd, osl⟩
  code : codeIn K (.ref cda) qual = true
  rec_ : ∃ (ccl : Value) (cdd : Option Addr) (vs : Array Value) (ccs : Array (Option Value)) (file : Str) (tf : Tok), K.lookup cda = some ⟨ccl, cdd, .fields vs, ccs⟩ ∧ vs[2]? = some (.str file tf) ∧ ((P.main.file : Str) == file) = true
  cell : ∃ (cl : Value) (cld : Option Addr) (csl : Array (Option Value)), K.lookup cc = some ⟨cl, cld, .cell (some (.ref C)), csl⟩
  mro : mroIn K C (.ref C) = some true
  any : nsIn K cStatics "thirdparty.any" = some none
  sup : ks_superIn K C C "__init__" = some (some (.builtin "ValueError.__init__"))
  ve : subIn K (.ref C) (.type "ValueError") = some true
  gs : mg "super" = none
  top : (P.main.scope.names.lookup ("super" : Str)).isSome = false
def supF (qual : Str) (st : Stmt) (cc cda : Addr) : NF := ⟨"__init__", qual, defArgs st, defBody st, defScope st, [("__class__", cc)], cda⟩
section
variable {P : Program} {w : World} {K : Frag} {mg : Str → Option Value} {base : Heap}
theorem fn_super {pl : Env → Sem Bool} {CX : CXT} {N ps : List Str} {k : Nat} {sp : Sp} {C f cc cda : Addr} {fd : FuncData} {qual self : Str} {st : Stmt} {rest : List Stmt} {e : Expr} {es : List Expr} {p0 p1 p2 p3 p4 : Pos} {ar : Arg} (M : SupC P K mg C qual st f fd cc cda) (S : NScope N ps ["__class__"] (defScope st))
    (hps : ps[0]? = some self) (har : ((defArgs st).posonlyargs ++ (defArgs st).args).head? = some ar) (hse : ar.arg = self) (hks : (defScope st).names.lookup ("super" : Str) = some .globalImplicit)
    (hb0 : defBody st = .Expr (.Call (.Attribute (.Call (.Name "super" p0) [] [] p1) "__init__" p2) (e :: es) [] p3) p4 :: rest) (len : ∀ vs H Q E, sp vs H Q E → vs.length = ps.length)
    (hbody : ∀ (A : Around) (outer : List Env) (s : Shared) (H : Hp) (vs : List V) (Q : VK) (E : XK), Room k (A.deeper (envF (supF qual st cc cda) f s.heap.objs.size)) → sp vs H Q E →
      ∃ (a : Addr) (ta : TA) (t : TS), vs[0]? = some (.ref a) ∧ H a = some (exo a C none) ∧ PA (ncx CX P w K mg base N (supF qual st cc cda) f A outer s H E) (e :: es) ta ∧ PSs (ncx CX P w K mg base N (supF qual st cc cda) f A outer s H E) rest t ∧
        ta (startF N vs [some (.ref C)]) H (fun us H1 => us.length ≤ 1000 ∧ H1 a = some (exo a C none) ∧ t { nx := fun _ H' => Q .non H', rt := Q } (startF N vs [some (.ref C)]) H1))
    (he : ∀ env, starEach (e :: es) env = (false, eval e env) :: starEach es env := by intro _; rfl) (hpl : ∀ env, (backTo p3 (starEach es env)).any (·.1) = false := by intro _; rfl)
    (hev : ∀ env : Env, eval (.Call (.Attribute (.Call (.Name "super" p0) [] [] p1) "__init__" p2) (e :: es) [] p3) env = (do
      let ov ← attributeBase (.Call (.Name "super" p0) [] [] p1) "__init__" env (eval (.Call (.Name "super" p0) [] [] p1) env)
      standAt p2.atName
      let (f, first) ← holding [ov] (getMethod ov "__init__" (pl env))
      callWith p3 f first (backTo p3 (starEach (e :: es) env)) []) := by intro _; rfl)
    (hsw : ∀ env, swapsWith (.Call (.Attribute (.Call (.Name "super" p0) [] [] p1) "__init__" p2) (e :: es) [] p3) none p4.line env = pure false := by intro _; rfl) :
    FnOk P w K mg base CX (k + 1) f fd ps sp := by
  obtain ⟨oc, od, kV, doc, pm, an, ct, osl, efd, lk⟩ := M.ex
  obtain ⟨ccl, cdd, fvs, ccs, file, tf, hcode, hvs, hfile⟩ := M.rec_
  obtain ⟨cl, cld, csl, hcell⟩ := M.cell
  obtain ⟨nm, qn, Nn, bs, bm, sn, sub, ab, col, dd, k0, k1, k2, k3, k5, hC, hbm⟩ := M.t.cls
  subst efd
  refine ⟨len, fun A outer s H args us vs Q E hr e0 hb r hsp => ?_⟩
  have hl := len _ _ _ _ hsp
  have KX : K.In s.heap := e0.mod.kin.keeps fun b o e => (e0.bs b o e).1
  have lim : s.heap.NoLimit := e0.mod.nolimit.keeps fun b o e => (e0.bs b o e).1
  have kH : ∀ b o, K.lookup b = some o → H b = none := fun b o e => (e0.bs b o (e0.mod.kin _ _ e)).2
  have hkc : (defScope st).names.lookup ("__class__" : Str) = some .free := S.frk _ (List.mem_singleton.mpr rfl)
  have CA : CellsAt (supF qual st cc cda).cl ["__class__"] [some (.ref C)] s.heap H := by
    have one : ∀ y c, ([("__class__", cc)] : List (Str × Addr)).lookup y = some c → y = ("__class__" : Str) ∧ c = cc := fun y c e => by
      have := PySem.mem_of_lookup e
      obtain ⟨rfl, rfl⟩ := Prod.mk.inj (List.mem_singleton.mp this)
      exact ⟨rfl, rfl⟩
    have ic : s.heap.IsCell cc (some (.ref C)) := ⟨_, KX _ _ hcell, rfl⟩
    refine ⟨rfl, fun y c e => ?_, fun x y c e1 e2 => (one x c e1).1.trans (one y c e2).1.symm, fun i y hi => ?_⟩
    · obtain ⟨_, rfl⟩ := one y c e
      exact ⟨kH _ _ hcell, _, ic⟩
    · match i, hi with
      | 0, hi =>
        cases Option.some.inj hi
        refine ⟨cc, by show ([("__class__", cc)] : List (Str × Addr)).lookup ("__class__" : Str) = some cc; rw [List.lookup_cons]; simp, fun v hv => ?_⟩
        cases Option.some.inj (Option.some.inj hv)
        exact ⟨_, rfl, ic⟩
      | i + 1, hi => simp at hi
  refine ks_codeAny_call_defAt (body := defBody st) (binds := ps.zip us) hr.depth (KX _ _ lk) rfl lim (codeRec_of KX M.code) rfl hb S.nocell (fun ⟨n, _⟩ hy => S.par n (List.of_mem_zip hy).1) (fun h₁ hns kp => ?_) S.co S.gen S.kind
  show _root_.PySem.wpAt _ (A.deeper (envF (supF qual st cc cda) f s.heap.objs.size)) (.func (defBody st) (envF (supF qual st cc cda) f s.heap.objs.size)) (execs (defBody st) (envF (supF qual st cc cda) f s.heap.objs.size)) _ _ _
  obtain ⟨a, ta, t, hv0, ha0, hA, ht, hT⟩ := hbody A outer s H vs Q E (hr.deeper _) hsp
  have I : Inv (ncx CX P w K mg base N (supF qual st cc cda) f A outer s H E) [] (startF N vs [some (.ref C)]) H { s with heap := h₁, toks := s.toks + (ps.zip us).length } := inv_startN S hr.hd e0 hl r CA hns kp
  have hx := r.get hv0
  obtain ⟨ux, hux, rx⟩ := hx
  obtain rfl : ux = Value.ref a := rx
  have ndP : ps.Nodup := by
    have q := S.nd.sublist (List.take_sublist (ps.length + (["__class__"] : List Str).length) N)
    rw [S.pre] at q
    exact (List.nodup_append.mp q).1
  have hself : (ps.zip us).reverse.lookup self = some (Value.ref a) := NdefX.zip_look ndP hps hux
  have hka : (defScope st).names.lookup self = some .local := S.par self (List.mem_of_getElem? hps)
  have K1 : K.In h₁ := KX.keeps kp
  have hD1 := K1 _ _ hC
  obtain ⟨t1, hxo⟩ := exo_at I.hok ha0
  have hcl : clsIn K C = some { name := nm, bases := bs, mro := .ref C :: bm, ns := Nn, qualname := qn, hasDict := true, slotNames := sn, subclasses := sub, abstract := ab, collection := col, hasDel := false } := by unfold clsIn; rw [hC] <;> rfl
  have hsup := M.sup
  unfold ks_superIn at hsup
  rw [hcl, Option.bind_some] at hsup
  have IA : InstAt h₁ a { cls := .ref C, dict := none, data := .fields #[.ref t1, .none, .none, .none, .bool false, .none] } C none := ⟨hxo, rfl, rfl, trivial⟩
  rw [hb0]
  refine ks_wpAt_execs_cons (ks_wpAt_Expr_any (ks_wpAt_MethodCall ?_ (hev _)) I.quiet (hsw _))
  refine ks_wpAt_super_base (env := envF (supF qual st cc cda) f s.heap.objs.size) hks hkc (by decide) rfl (K1 _ _ lk) rfl har rfl (K1 _ _ hcode) rfl hvs hfile M.top ?_
  obtain ⟨mb, h1, h2⟩ := I.mod.blt
  refine ks_loadName_global S.kind hks (loadGlobal_builtin (I.mod.glob.keeps I.bk) M.gs (h1.keeps I.bk) ((h2 "super" (by decide)).trans (by first | boot_by_name | rfl | kernel_rfl)) ⟨rfl, ?_⟩)
  refine wpAny_loadName_free S.kind hkc (by show ([("__class__", cc)] : List (Str × Addr)).lookup ("__class__" : Str) = some cc; rw [List.lookup_cons]; simp) ⟨_, K1 _ _ hcell, rfl⟩ ?_
  rw [hse]
  refine wpAny_loadName_local S.kind hka hns hself ?_
  refine ks_wpAny_isType_cls hD1 rfl ⟨rfl, ?_⟩
  refine ks_wpAny_call_super hD1 rfl hxo rfl (fun c z => nomatch z) (looks_mroIn K1 M.mro) (fun h2 eso k2 => ?_)
  have I1 := I.kept (t' := s.toks + (ps.zip us).length) k2
  have K2 : K.In h2 := K1.keeps k2
  have IA2 : InstAt h2 a { cls := .ref C, dict := none, data := .fields #[.ref t1, .none, .none, .none, .bool false, .none] } C none := ⟨k2 _ _ hxo, rfl, rfl, trivial⟩
  have hI : Looks (model P w) h2 (isInstance (.ref a) (.type "ValueError")) true := IA2.type.andThen (looks_subIn K2 M.ve)
  refine kxs_getMethod kxs_ValueError eso (looks_opaque K2 M.any) (l₀ := .ref C :: bm) ?_ rfl K2 hsup hI (ks_ne K1 IA hcl) (by decide) ?_
  · exact fun A Q E s k q => wpAny_bind ((looks_clsIn K2 hcl) A _ E s k (wpAny_pure q))
  have k3 : ∀ b o, h2.get? b = some o → (h2.push (kxs_mw "ValueError.__init__" a)).get? b = some o := fun b o e => Heap.get?_push_of_some _ e
  have I2 := I1.kept (t' := s.toks + (ps.zip us).length + 1) k3
  have hu : (h2.push (kxs_mw "ValueError.__init__" a)).get? h2.objs.size = some (kxs_mw "ValueError.__init__" a) := Heap.get?_push_at rfl rfl
  have I3 : Inv (ncx CX P w K mg base N (supF qual st cc cda) f A outer s H E) [(h2.objs.size, kxs_mw "ValueError.__init__" a)] (startF N vs [some (.ref C)]) H _ := I2.pins_of fun p hp => by
    rw [List.mem_singleton.mp hp]
    exact ⟨hu, I1.hok.fresh (Nat.le_refl _), (Nat.ne_of_lt I1.lt).symm, I1.nofs (Nat.le_refl _), fun v z => nomatch z⟩
  refine mw_args (i := "ValueError.__init__") (a := a) ?_ (he _) (hpl _)
  refine thn (hA.run p3 [(h2.objs.size, kxs_mw "ValueError.__init__" a)] _ (startF N vs [some (.ref C)]) H _ I3 hT) fun us1 s1 ⟨vs1, H1, J, r1, hl1, ha1, q1⟩ => ?_
  have hu1 : s1.heap.get? h2.objs.size = some (kxs_mw "ValueError.__init__" a) := (J.pin _ (List.mem_append_right _ (List.mem_singleton.mpr rfl))).1
  refine ⟨hu1, call_mw M.t J hu1 ha1 (by rw [← Paired.length r1, sizeLine_eq]; omega) fun s2 J2 => ?_⟩
  have J3 : Inv (ncx CX P w K mg base N (supF qual st cc cda) f A outer s H E) [] (startF N vs [some (.ref C)]) H1 s2 := J2.pins_of fun p hp => absurd hp (by simp)
  refine wpAt_of_wpAny (wpAny_mono (ht.run [] s2 (startF N vs [some (.ref C)]) H1 _ J3 q1) (fun fl s' hs => ?_) fun e s' hs => hs)
  have fin : ∀ {σ' : L2.St} {H' : Hp} {v : V} {u : Value}, Inv (ncx CX P w K mg base N (supF qual st cc cda) f A outer s H E) [] σ' H' s' → L2.RelV v u → Q v H' → CE outer P w H s Q u s' :=
    fun {σ' H' v u} J rv q => ⟨v, H', J.os, J.bare, J.base, J.hok, rv, q⟩
  cases fl with
  | ret u =>
    obtain ⟨v, σ', H', J, rv, q⟩ := hs
    exact fin J rv q
  | next =>
    obtain ⟨σ', H', J, q⟩ := hs
    exact fin (v := V.non) (u := Value.none) J rfl q
  | brk =>
    obtain ⟨_, _, _, q⟩ := hs
    exact False.elim q
  | cont =>
    obtain ⟨_, _, _, q⟩ := hs
    exact False.elim q
end
end L2
/-! ### isinstance of an error with a dict -/
namespace PySem.W
open PySem PySem.Spec PySem.Calls PyProof.Rows
section
variable {prog : Program} {w : World} {A : Around} {E : Value → Shared → Prop} {s : Shared} {K : Frag} {x D : Addr} {ox : Obj} {odx : Option Obj}
theorem findObj_dataX {C : Addr} {name : Str} {a g : Value} (hc : (clsIn K C).isSome = true) (ha : findIn K (.ref C) name = some (some a)) (hg : specialIn K a "__get__" = some (some g)) (ht : takesIn K a = some true) : findObj K C odx name = some (.bind g a) := by
  obtain ⟨cd, hc⟩ := Option.isSome_iff_exists.mp hc
  unfold findObj
  rw [hc, Option.bind_some, ha, Option.bind_some]
  simp [hg, ht]
theorem kin_classX {Q : Option Value → Shared → Prop} (C : L2.ExcC K D) (X : K.In s.heap) (I : InstAt s.heap x ox D odx) (h : Q (some (.ref D)) { s with toks := s.toks + 1 }) : wpAny (model prog w) A (getAttr? (.ref x) "__class__") Q E s := by
  have hf : findObj K D odx "__class__" = some (.bind (.builtin "getset_descriptor.__get__") (.builtin "object.__class__")) := findObj_dataX (by obtain ⟨cd, hc, _⟩ := any_some C.hd; rw [hc]; rfl) C.ha C.hn C.ht
  obtain ⟨hp, g, d, t, os⟩ := s
  have L0 := I.type (M := model prog w)
  have L1 := looks_findIn (M := model prog w) X C.hg
  have L2 := looks_findIn (M := model prog w) X C.hk
  have L3 := looks_find (M := model prog w) X I hf
  have sub : Looks (model prog w) hp (isInstance (.ref x) (.type "BaseException")) true := L0.andThen (looks_subIn X C.hs)
  have hx0 : (false && onTheHeap (Value.builtin "BaseException.__getattribute__")) = false := rfl
  have hx2 : (Value.builtin "BaseException.__getattribute__" == Value.builtin "object.__getattribute__") = false := by decide +kernel
  have hx1 : (onTheHeap (Value.ref D) && Value.builtin "BaseException.__getattribute__" == Value.builtin "object.__getattribute__") = false := by rw [hx2]; rfl
  unfold getAttr? getAttrBy? getAttrBy
  refine wpAny_bind (wpAny_mkText (wpAny_bind (wpAny_attempt (wpAny_holding (wpAny_bind (L0.at (wpAny_bind (L1.at ?_))))))))
  show wpAny _ _ (if (onTheHeap (Value.ref D) && Value.builtin "BaseException.__getattribute__" == Value.builtin "object.__getattribute__") = true then _ else _) _ _ _
  rw [hx1, if_neg Bool.false_ne_true]
  unfold getAttrByItsOwn hookBefore
  refine wpAny_bind ?_
  rw [if_pos (show onTheHeap (Value.ref D) = true from rfl)]
  refine L2.at ?_
  refine wpAny_bind (wpAny_attempt (wpAny_holding ?_))
  unfold callGetattribute
  rw [hx0, if_neg Bool.false_ne_true]
  unfold boundAndCalled
  rw [PySem.F.excAttr_ValueError.ga.bind (.ref x)]
  refine wpAny_bind (wpAny_pure ?_)
  show wpAny _ _ (call (.builtin "BaseException.__getattribute__") [.ref x, .str "__class__" t]) _ _ _
  refine wpAny_call (codeAny_call_builtin PySem.F.excAttr_ValueError.ga.plain PySem.F.entry_bexc_ga ?_)
  refine @check_slot (model prog w) _ _ ⟨hp, g, d, t + 1, os⟩ "BaseException.__getattribute__" "BaseException" "__getattribute__" (.ref x) [.str "__class__" t] [] _ (by decide +kernel) (by decide +kernel) sub (PySem.F.args_bexc_ga (.ref x) (.str "__class__" t)) ?_
  unfold Builtin.«object.__getattribute__»
  refine wpAny_bind (wpAny_of_eq (a := ((Value.ref x : Value), [Value.str "__class__" t])) (by first | rfl | (simp only [slotArgs]; rfl)) ?_)
  refine wpAny_bind (wpAny_pure (wpAny_bind (L0.at (wpAny_bind (L3.at ?_)))))
  show wpAny _ _ (holding [Value.builtin "object.__class__"] (call (.builtin "getset_descriptor.__get__") [.builtin "object.__class__", .ref x, .ref D]) >>= ret) _ _ _
  refine wpAny_bind (wpAny_holding (wpAny_call (class_get (s := ⟨hp, g, d, t + 1, os⟩) (ox := ox) (od := odx) X I C.hm ?_)))
  refine wpAny_pure ?_
  show wpAny _ _ (handedOut (.ref D)) _ _ _
  rw [handedOut_of (v := .ref D) rfl]
  first
    | exact wpAny_pure (wpAny_pure h)
    | exact wpAny_pure h
    | exact wpAny_pure (wpAny_bind (wpAny_pure (wpAny_pure h)))
theorem kitx_errX (C : L2.ExcC K D) : KitX K (.ref x) (.ref D) (fun h => InstAt h x ox D odx) where
  ty := fun _ _ _ I => I.type
  it := fun _ _ X _ => by
    obtain ⟨cdD, hcD, _⟩ := any_some C.hd
    unfold clsIn at hcD
    split at hcD
    · rename_i c' d' cd' sl' ho
      intro A' Q' E' s' k q
      unfold isType loadHead
      exact wpAny_bind (wpAny_loadPart (k _ _ (X _ _ ho)) (wpAny_pure q))
    · cases hcD
  ne := fun h tp dd its n sl X htp => by
    obtain ⟨cdD, hcD, _⟩ := any_some C.hd
    refine Bool.eq_false_iff.mpr fun q => ?_
    have e : D = tp := Value.ref.inj (beq_iff_eq.mp q)
    subst e
    unfold clsIn at hcD
    split at hcD
    · rename_i c' d' cd' sl' ho
      have z := (X _ _ ho).symm.trans htp
      cases z
    · cases hcD
  ca := fun X I k => kin_classX C X I k
end
end PySem.W
namespace L2
open PySem PySem.Spec PyProof.Rows
/-- isinstance(e, C), whether e has a dict or not -/
def rIsY (K : PySem.W.Frag) (cls : Value) (d : Option Addr) (a : Addr) : List V → Hp → VK → Prop := fun xs H Q => ∃ (D c : Addr) (b : Bool), cls = .ref D ∧ (d = none ∨ ∃ (dd : Addr) (fs : List (Str × V)), d = some dd ∧ H dd = some (.xd fs)) ∧ ExcC K D ∧ xs = [.ref a, .ref c] ∧ PySem.W.kitOne K (.ref D) (.ref c) = some b ∧ Q (.bl b) H
theorem call_isY {X : Cx} {a : Addr} {oe : Obj} {cls : Value} {d : Option Addr} {pn : List (Addr × Obj)} (hz : Zc cls d oe) (hf : ∃ vs, oe.data = .fields vs) : CallR (X.suite a ((a, oe) :: pn)) (.builtin "isinstance") (rIsY X.K cls d a) := by
  intro pins s σ H xs us Q I r h
  obtain ⟨D, c, b, rfl, hd, C, rfl, e, q⟩ := h
  cases r with
  | cons rx rr =>
    cases rr with
    | cons rt rr =>
      cases rr
      cases rx
      cases rt
      obtain ⟨hget, _⟩ := I.pin (a, oe) (List.mem_append.mpr (.inl List.mem_cons_self))
      obtain ⟨vs, hv⟩ := hf
      have J : ∃ odx, PySem.W.InstAt s.heap a oe D odx := by
        obtain ⟨oc, od, oda, osl⟩ := oe
        obtain ⟨h1, h2⟩ := hz
        dsimp only at h1 h2 hv
        subst h1 h2 hv
        rcases hd with rfl | ⟨dd, fs, rfl, ed⟩
        · exact ⟨none, hget, rfl, rfl, trivial⟩
        · have hx : ObjOk X.prog X.w H s.heap dd (.xd fs) := I.hok dd _ ed
          obtain ⟨mA, hns, hr⟩ := hx
          obtain ⟨od, ho, hl⟩ := lookIn_ns hns
          exact ⟨some od, hget, rfl, rfl, ho⟩
      obtain ⟨odx, J⟩ := J
      exact PySem.W.kia_one (PySem.W.kitx_errX C) I.kIn J e (fun z => nomatch z) fun tk => ⟨.bl b, H, I.kept (t' := tk) fun _ _ z => z, rfl, q⟩
/-! ### f-strings with None -/
def tFmtN (te : TE) : TE := fun σ H Q => te σ H fun x H1 => (x = .non ∧ Q (.str "None") H1) ∨ ∃ i : Int, x = .int i ∧ i.natAbs.log2 < 1920 ∧ Q (.str (toString i)) H1
theorem pe_fmtN {X : Cx} {e : Expr} {te : TE} {pos : Pos} (he : PE X e te) : PE X (.FormattedValue e (-1) none pos) (tFmtN te) := by
  refine ⟨fun pins s σ H Q I h => ?_⟩
  refine wpAny_FormattedValue_plain (thn (he.run pins s σ H _ I h) fun v s1 hv => ?_)
  obtain ⟨x, H1, I1, r1, q⟩ := hv
  rcases q with ⟨rfl, q⟩ | ⟨i, rfl, hz, q⟩
  · obtain rfl : v = Value.none := r1
    exact wpAny_formatField_none ⟨.str "None", H1, I1.tok _, ⟨_, rfl⟩, q⟩
  · obtain ⟨t, rfl⟩ := r1
    exact wpAny_formatField_int hz ⟨.str (toString i), H1, I1.tok _, ⟨_, rfl⟩, q⟩
end L2
set_option Elab.async false
set_option linter.all false
set_option maxRecDepth 100000
set_option maxHeartbeats 2000000
/-! Sets of ints, made of a list, of a display, of a comprehension; the tuple of a dict's keys. -/
namespace RH
open PySem PySem.Spec PyProof.Rows L2
/-! ### the tuple of a dict's keys -/
/-! ### a set display of two ints -/
/-! ### set(xs) of a list of ints -/
section
variable {M : Program} {w : World} {A : Around} {E : Value → Shared → Prop} {s : Shared}
/-- what a new set is -/
abbrev bare (w : World) : Obj := { cls := .type "set", dict := none, data := .set #[] 0 (.fresh 0 0 (!w.params.followText "set-order")) }
end
end RH
set_option Elab.async false
set_option linter.all false
set_option maxRecDepth 100000
set_option maxHeartbeats 2000000
/-! A set comprehension whose members are ints. -/
set_option Elab.async false
set_option linter.all false
set_option maxRecDepth 100000
/-! RcExt: a list comprehension whose member may raise: what a call in it lets out goes on out of the def. -/
namespace RH
open PySem PySem.Spec PyProof.Rows L2
/-- what a call within a block lets out -/
def RawE (Y : Cx) (E : XK) (u : Value) (s' : Shared) : Prop := ∃ (pins : List (Addr × Obj)) (σ : L2.St) (H : Hp) (s : Shared), Inv Y pins σ H s ∧ L2.CX Y.prog Y.w Y.stack H s E u s'
theorem passR {Y : Cx} {E : XK} : Passes (L2.CX Y.prog Y.w) (Y.wish (RawE Y E)) E := fun pins σ H s e s' I c => ⟨pins, σ, H, s, I.unwish, c⟩
theorem frames_less {h B B' : Heap} (hb : ∀ b, B.get? b = none → B'.get? b = none) : ∀ {l : List Env}, h.FunFrames B l → h.FunFrames B' l
  | [], _ => trivial
  | _ :: _, ⟨k, ⟨L, o, f, n, e, d⟩, r⟩ => ⟨k, ⟨L, o, f, hb _ n, e, d⟩, frames_less hb r⟩
theorem frames_but {h h' B : Heap} {C : Addr} {m : Str → Option Value} (hn : h.Ns C m) (hn' : ∃ m', h'.Ns C m') (hs : Heap.SameBut C h h') {l : List Env} (hl : h.FunFrames B l) : h'.FunFrames B l := by
  induction l with
  | nil => trivial
  | cons env r ih =>
    obtain ⟨k, ⟨L, o, f, n, e, d⟩, r⟩ := hl
    refine ⟨k, ?_, ih r⟩
    by_cases hc : L = C
    · subst hc
      obtain ⟨m', o', es, ep, e', d', _⟩ := hn'
      exact ⟨L, o', f, n, e', fun vs z => by rw [d'] at z; cases z⟩
    · exact ⟨L, o, f, n, (hs.2 _ hc).trans e, d⟩
section
variable {X : Cx} {pins : List (Addr × Obj)} {σ : L2.St} {H H3 : Hp} {s3 : Shared} {E : XK}
/-- out of the block -/
theorem out_of_block {scope : Scope} {ce : Env} {fp : List Addr} {u : Value} {s' : Shared} (tk : Takes X (fun c d _ H => E c d H)) (hstk : X.stack = X.env :: X.outer) (hf : X.env.frame = some X.env.locals)
    (I3 : Inv X pins σ H3 s3) (hce : ce.frame = X.env.frame) (hC : s3.heap.objs.size ≤ ce.locals)
    (f3 : ∀ b ∈ fp, (b ∈ X.ex ∨ X.s_0.heap.objs.size ≤ b) ∧ b ≠ X.env.locals ∧ (∀ x c, X.env.cells.lookup x = some c → c ≠ b) ∧ ∀ p ∈ X.pn ++ pins, p.1 ≠ b)
    (h : RawE (X.blk s3 H3 scope ce fp) E u s') : notedBy (model X.prog X.w) X.A ce (CompFails (model X.prog X.w) X.A X.xe ce) u s' := by
  obtain ⟨pins1, σ1, H1, s1, I1, c⟩ := h
  obtain ⟨a, B, H2, cls, d, rfl, fl, hok, ub, na, os, ag, hE⟩ := c
  have hA : X.A.frames = some (X.env :: X.outer) := by rw [I3.ok.frames, hstk]
  have base : Un (frs X.stack) fp H3 H1 s3.heap s1.heap := I1.base
  have C1 : H1 ce.locals = none := I1.free
  have Cf : ce.locals ∉ frs X.stack := fun hm => by
    obtain ⟨_, o, e, _⟩ := I3.stack.mem hm
    exact absurd (Heap.lt_size e) (Nat.not_lt.mpr hC)
  obtain ⟨m1, hn1, _⟩ := I1.loc
  have hn1 : s1.heap.Ns ce.locals m1 := hn1
  have C2 : ∀ o, s1.heap.get? ce.locals = some o → B.get? ce.locals = some o := fun o e => ub.keep _ o e C1 Cf
  have nC : ∀ b o, s3.heap.get? b = some o → b ≠ ce.locals := fun b o e z => by
    have := Heap.lt_size e
    rw [z] at this
    exact absurd this (Nat.not_lt.mpr hC)
  -- the ground without the block's names
  obtain ⟨B', hB'⟩ : ∃ B', B' = PySem.W.hideAll B [ce.locals] := ⟨_, rfl⟩
  have b1 : ∀ b o, B'.get? b = some o → B.get? b = some o := fun b o e => by
    rw [hB'] at e
    exact PySem.W.of_hideAll _ e
  have b2 : ∀ b o, B.get? b = some o → b ≠ ce.locals → B'.get? b = some o := fun b o e ne => by
    rw [hB']
    exact PySem.W.hideAll_get _ e (by simpa using ne)
  have b3 : B'.get? ce.locals = none := by
    rw [hB']
    exact PySem.W.hideAll_none _ (by simp)
  have b4 : ∀ b, B.get? b = none → B'.get? b = none := fun b e => by
    cases q : B'.get? b with
    | none => rfl
    | some o =>
      rw [b1 b o q] at e
      cases e
  obtain ⟨g1, g2, g3, oe, vs, T, oT, ts, he, hz, hd, h1, hnT, hTe, hT, hdT, ht3⟩ := fl
  have fl' : HandSPX.FlyingZ B' (X.env :: X.outer) a (Zc cls d) s'.heap := by
    refine ⟨fun b o e => g1 b o (b1 b o e), b4 _ g2, ?_, oe, vs, T, oT, ts, he, hz, hd, h1, b4 _ hnT, hTe, hT, hdT, ht3⟩
    rw [← hstk]
    exact frames_less b4 g3
  show wpAny _ _ (noteFrame (.ref a) ce) _ _ s'
  rw [noteFrame_env _ hce]
  refine HandSPX.looks_onZ Zc.steady hA hf fl' fun h4 hH up4 => ?_
  have hn4 : h4.Ns ce.locals m1 := by
    obtain ⟨o, es, ep, e, dd, r⟩ := hn1
    obtain ⟨sl, e4⟩ := up4 _ o (g1 _ o (C2 o e)) fun vs z => by rw [dd] at z; cases z
    exact ⟨_, es, ep, e4, dd, r⟩
  refine ⟨m1, hn4, fun h5 m5 hn5 hs5 => ?_⟩
  obtain ⟨k1, k2, k3, oe', vs', T', oT', ts', he', hz', hd', h1', hnT', hTe', hT', hdT', ht3'⟩ := hH
  have fld : ∀ {b : Addr} {o : Obj} {vs : Array Value}, h4.get? b = some o → o.data = .fields vs → b ≠ ce.locals := fun {b o vs} e z q => by
    obtain ⟨o2, es, ep, e2, dd, _⟩ := hn4
    rw [q, e2] at e
    cases e
    rw [dd] at z
    cases z
  have k1' : B'.StaysIn h5 := fun b o e => (hs5.2 b fun q => by rw [q, b3] at e; cases e).trans (k1 b o e)
  have hH5 : HandSPX.HeldZ B' (X.env :: X.outer) a (Zc cls d) X.env.locals h5 := ⟨k1', k2, frames_but hn4 ⟨m5, hn5⟩ hs5 k3, oe', vs', T', oT', ts', (hs5.2 _ (fld he' hd')).trans he', hz', hd', h1', hnT', hTe', (hs5.2 _ (fld hT' hdT')).trans hT', hdT', ht3'⟩
  unfold PySem.passOn
  refine wpAny_bind (wpAny_field ((hs5.2 _ (fld he' hd')).trans he') hd' h1' ?_)
  rw [if_neg (show ¬ ((Value.ref T' == Value.none) = true) from by simp)]
  rw [hce, hf]
  refine wpAny_bind (HandSPX.setFlight_onZ (s := { s' with heap := h5 }) hH5 fun h6 hH6 up6 => wpAny_throw ?_)
  -- in our air
  obtain ⟨G, q1, q2⟩ := restrict s'.heap fun b => (B'.get? b).isSome || decide (b ∈ frs X.stack)
  have og : ∀ b o, G.get? b = some o → s'.heap.get? b = some o ∧ ((B'.get? b).isSome = true ∨ b ∈ frs X.stack) := fun b o e => by
    cases q : ((B'.get? b).isSome || decide (b ∈ frs X.stack)) with
    | false => rw [q2 b q] at e; cases e
    | true =>
      rw [q1 b q] at e
      exact ⟨e, by simpa [Bool.or_eq_true] using q⟩
  have gB : ∀ b o, B'.get? b = some o → G.get? b = some o := fun b o e => by
    rw [q1 b (by simp [e])]
    exact g1 b o (b1 b o e)
  have gF : ∀ b, b ∈ frs X.stack → G.get? b = s'.heap.get? b := fun b hb => q1 b (by simp [hb])
  refine tk _ _ ⟨a, B', { s' with heap := G }, pins, σ, H2, cls, d, rfl, ?_, fun b o e hb => ?_, fun b o e nf => ?_, .inr (.inr ?_), na, rfl, ag, hE⟩
  · refine I3.call' (ch := fp) (os.trans (show s1.os = s3.os from I1.os)) ⟨fun b o e n hb hc => ?_, fun b o e n hb hc => ?_, fun b o e n hc => ?_, fun b o e hc => ?_, fun b xs e => ub.tups _ _ (base.tups _ _ e), fun b o xs e => ub.frzs _ _ _ (base.frzs _ _ _ e), fun b ps e => ?_⟩ ?_ ag f3
    · exact gB b o (b2 b o (ub.keep b o (base.keep b o e n hb hc) (base.free b o e n hc) hb) (nC b o e))
    · obtain ⟨sl, e1⟩ := base.slot b o e n hb hc
      obtain ⟨sl2, e2⟩ := ub.slot b _ e1 hb
      exact ⟨sl2, by rw [gF b hb]; exact e2⟩
    · obtain ⟨o1, e1⟩ := base.there b o e hc
      exact ub.free b o1 e1 (base.free b o e n hc)
    · obtain ⟨o1, e1⟩ := base.there b o e hc
      by_cases hb : b ∈ frs X.stack
      · obtain ⟨sl, e2⟩ := ub.slot b _ e1 hb
        exact ⟨_, by rw [gF b hb]; exact e2⟩
      · obtain ⟨o2, e2⟩ := ub.there b _ e1 hb
        exact ⟨o2, gB b o2 (b2 b o2 e2 (nC b o e))⟩
    · obtain ⟨m1, e1⟩ := base.tbls b ps e
      obtain ⟨m2, e2⟩ := ub.tbls b _ e1
      exact ⟨m1 ++ m2, by rw [e2, Array.append_assoc]⟩
    · have H2C : H2 ce.locals = none := by
        obtain ⟨o, es, ep, e, _⟩ := hn1
        exact ub.free _ o e C1
      refine HOk.kept (fun b o q => (hok b o q).stay (fun c x hc r => b2 c x r fun z => ?_) (fun _ r => r) fun _ _ r => r) gB
      rcases hc with hc | hc
      · rw [← hc, z, H2C] at q
        cases q
      · rw [z, H2C] at hc
        cases hc
  · obtain ⟨e', h⟩ := og b o e
    rcases h with h | h
    · obtain ⟨o', q⟩ := Option.isSome_iff_exists.mp h
      rw [g1 b o' (b1 b o' q)] at e'
      cases e'
      exact q
    · exact absurd h hb
  · obtain ⟨e', h⟩ := og b o e
    obtain ⟨sl, e4⟩ := up4 b o e' nf
    have ne : b ≠ ce.locals := fun z => by
      rcases h with h | h
      · rw [z, b3] at h
        cases h
      · exact Cf (z ▸ h)
    have e5 : h5.get? b = some { o with slots := sl } := (hs5.2 b ne).trans e4
    obtain ⟨sl6, e6⟩ := up6 b _ e5 nf
    exact ⟨sl6, e6⟩
  · rw [hstk]
    exact hH6
end
section
variable {X : Cx} {E : XK}
/-- as a value: the member may let out what a call in it lets out -/
theorem pe_lcR {elt tg iter : Expr} {ifs : List Expr} {scope : Scope} {own : List (PySem.Str × Nat)} {pos : Pos} {wi : TI} {g : TG} {tt : TT} {te : TE} (tk : Takes X (fun c d _ H => E c d H)) (hstk : X.stack = X.env :: X.outer) (hf : X.env.frame = some X.env.locals)
    (hc : X.calm = true) (hN : X.N.Nodup) (hi : PI X tg iter wi) (ok : BlkOk X.N X.env.scope scope own)
    (hg : ∀ (s : Shared) (H : Hp) (C : Addr) (cl : List (PySem.Str × Addr)) (fp : List Addr), PG (X.blk s H scope (compEnvC scope cl C X.env) fp) tg g) (ht : ∀ (s : Shared) (H : Hp) (C : Addr) (cl : List (PySem.Str × Addr)) (fp : List Addr), PTs (X.blk s H scope (compEnvC scope cl C X.env) fp) ifs tt)
    (he : ∀ (s : Shared) (H : Hp) (C : Addr) (cl : List (PySem.Str × Addr)) (fp : List Addr), PE ((X.blk s H scope (compEnvC scope cl C X.env) fp).wish (RawE (X.blk s H scope (compEnvC scope cl C X.env) fp) E)) elt te) (hs : ∀ x, foldedSetIterable iter X.env x = pure x := by intro _; rfl) :
    PE X (.ListComp elt [⟨tg, iter, ifs, 0⟩] scope pos) (tLc wi g tt te (own.map (·.2))) := by
  refine ⟨fun pins s σ H Q I h => ?_⟩
  rw [eval_ListComp]
  have hfree : ∀ y ∈ scope.names, y.2 = .free → ∃ c, X.env.cells.lookup y.1 = some c := fun y hy e => by
    rcases ok.free y hy e with k | k
    · exact I.ok.has _ (.inl k)
    · exact I.ok.has _ (.inr k)
  refine comprehension_at rfl hs (closure_ok hfree) ok.kind (fun y hy e => by rw [ok.uniq y hy, e])
    (thn (hi.run pins s σ H _ I h) fun xv s1 hx => thn hx fun itv s2 h2 => ?_)
  obtain ⟨it, fp, tn, J, H2, e, I2, T, st2, f2, q⟩ := h2
  subst e
  refine wpAny_newObj_type (newEnv_comp ?_) (by show 0 ≤ sizeLine; decide)
  generalize hD : s2.heap.objs.size = D
  have hDn : H2 D = none := I2.hok.fresh (Nat.le_of_eq hD)
  obtain ⟨W, ⟨m0, w0⟩, turn⟩ := q D hDn
  generalize hs3 : ({ s2 with heap := s2.heap.push { cls := .type "list", data := .seq ([] : List Value).toArray } } : Shared) = s3
  have I3 : Inv X pins σ (upd H2 D (.lst [])) s3 := by
    rw [← hs3]
    refine I2.laid (t' := s2.toks) (fun b o e => Heap.get?_push_of_some _ e) (Nat.le_of_eq hD) ⟨Nat.zero_le _, [], 0, .nil, ?_⟩
    rw [← hD]
    exact Heap.get?_push_size _ rfl
  have h3 : s3.heap = s2.heap.push { cls := .type "list", data := .seq ([] : List Value).toArray } := by rw [← hs3]
  have sz : ∀ b ∈ fp, b < s2.heap.objs.size := fun b hb => by
    obtain ⟨o, e, _⟩ := T.obj _ _ st2 b hb
    exact Heap.lt_size e
  have f3 : ∀ b ∈ fp, FpOk X pins (upd H2 D (.lst [])) b ∧ b < s3.heap.objs.size := fun b hb => by
    have hlt := sz b hb
    refine ⟨⟨?_, (f2 b hb).2⟩, by rw [h3, Heap.size_push]; exact Nat.lt_succ_of_lt hlt⟩
    rw [upd_ne (by rw [← hD]; exact Nat.ne_of_lt hlt)]
    exact (f2 b hb).1
  have st3 : tn 0 s3.heap := T.keep _ _ _ st2 fun b _ o e => by rw [h3]; exact Heap.get?_push_of_some _ e
  have I4 := block_start I3 ok hN f3
  have pg := hg s3 (upd H2 D (.lst [])) s3.heap.objs.size (cellsFrom (s3.heap.objs.size + 1) scope.names (cloFrom X.env.cells scope.names [])) fp
  have pt := ht s3 (upd H2 D (.lst [])) s3.heap.objs.size (cellsFrom (s3.heap.objs.size + 1) scope.names (cloFrom X.env.cells scope.names [])) fp
  have pe := he s3 (upd H2 D (.lst [])) s3.heap.objs.size (cellsFrom (s3.heap.objs.size + 1) scope.names (cloFrom X.env.cells scope.names [])) fp
  show codeAny _ _ (.compStart (.ListComp elt [⟨tg, iter, ifs, 0⟩] scope pos) 0 (.ref it) (.ref D) (compEnvC scope (cellsFrom (s3.heap.objs.size + 1) scope.names (cloFrom X.env.cells scope.names [])) s3.heap.objs.size X.env)) (compEnds (model X.prog X.w) X.A X.xe none _ (.ref D) (compEnvC scope (cellsFrom (s3.heap.objs.size + 1) scope.names (cloFrom X.env.cells scope.names [])) s3.heap.objs.size X.env)) { s3 with heap := pushCells (s3.heap.push { cls := .type "dict", data := .dict #[] }) scope.names }
  have nfp : ∀ b ∈ fp, (upd H2 D (.lst [])) b = none := fun b hb => (f3 b hb).1.1
  generalize hce : compEnvC scope (cellsFrom (s3.heap.objs.size + 1) scope.names (cloFrom X.env.cells scope.names [])) s3.heap.objs.size X.env = ce at I4 pg pt pe ⊢
  have cL : ce.locals = s3.heap.objs.size := by subst hce; rfl
  have cF : ce.frame = X.env.frame := by subst hce; rfl
  generalize hH3 : upd H2 D (.lst []) = H3 at I3 I4 pg pt pe w0 nfp f3
  generalize hs4 : ({ s3 with heap := pushCells (s3.heap.push { cls := .type "dict", data := .dict #[] }) scope.names } : Shared) = s4 at I4 ⊢
  have st4 : tn 0 s4.heap := T.keep _ _ _ st3 fun b _ o e => by rw [← hs4]; exact pushCells_keeps _ _ _ _ (Heap.get?_push_of_some _ e)
  have stat : ∀ {σ' : L2.St} {H' : Hp} {s' : Shared}, Inv (X.blk s3 H3 scope ce fp) [] σ' H' s' → (∀ b ∈ fp, H' b = none) → ∀ b ∈ fp, FpOk (X.blk s3 H3 scope ce fp) [] H' b := fun {σ' H' s'} I' hn b hb =>
    ⟨hn b hb, (I'.ok.exf b hb).1, I'.ok.exfs b hb, .inl hb, fun x c e => (I'.ok.exf b hb).2 x c e, fun p hp => absurd (show p ∈ ([] : List (Addr × Obj)) ++ [] from hp) (by simp)⟩
  have foot : ∀ b ∈ fp, (b ∈ X.ex ∨ X.s_0.heap.objs.size ≤ b) ∧ b ≠ X.env.locals ∧ (∀ x c, X.env.cells.lookup x = some c → c ≠ b) ∧ ∀ p ∈ X.pn ++ pins, p.1 ≠ b := fun b hb => ⟨(f3 b hb).1.2.2.2.1, (f3 b hb).1.2.1, (f3 b hb).1.2.2.2.2.1, (f3 b hb).1.2.2.2.2.2⟩
  have loop : codeAny (model X.prog X.w) X.A (.compLoop (.ListComp elt [⟨tg, iter, ifs, 0⟩] scope pos) 0 (.ref it) (.ref D) ce) (compEnds (model X.prog X.w) X.A X.xe none (EP X pins σ Q) (.ref D) ce) s4 := by
    refine compLoop_any (fun n s' => ∃ i H', Inv (X.blk s3 H3 scope ce fp) [] (wipe σ (own.map (·.2))) H' s' ∧ tn i s'.heap ∧ (∀ b ∈ fp, H' b = none) ∧ W i n H') ?_ m0 ⟨0, H3, I4, st4, nfp, w0⟩
    rintro n s5 ⟨i, H5, I5, st5, n5, w5⟩
    rcases turn i n H5 w5 with ⟨stop, qq⟩ | ⟨go, Nx, hNx, step⟩
    · have td := T.done (X.blk s3 H3 scope ce fp) rfl rfl rfl hc i [] s5 _ H5 (fun _ _ => False) I5 (stat I5 n5) st5 stop
      refine thnF td fun r s6 ⟨hr, I6⟩ => ?_
      subst hr
      have I7 : Inv X pins σ H5 s6 := I3.call' (ch := fp) I6.os I6.base I6.hok I6.bare foot
      have nC : H5 s3.heap.objs.size = none := by
        have z : H5 ce.locals = none := I6.free
        rw [cL] at z
        exact z
      obtain ⟨m, hn, _⟩ := I6.loc
      refine ⟨m, hn, fun h'' sb => ?_⟩
      rw [cL] at sb
      obtain ⟨f0, f1, f2, f3, f4, f5⟩ := I3.fpOk (Nat.le_refl _) nC
      exact ⟨.ref D, H5, I7.turned (t' := s6.toks) (fun b o hb e => (sb.2 b hb).trans e) f0 f1 f3 f4 f5, rfl, qq⟩
    · have ti := T.item (X.blk s3 H3 scope ce fp) rfl rfl rfl hc i [] s5 _ H5 (fun _ _ => False) I5 (stat I5 n5) st5 go
      refine thnF ti fun r s6 ⟨u, hr, h6⟩ => ?_
      subst hr
      refine thnF h6 fun _ s7 ⟨x, H7, I7, r7, y7, st7, n7⟩ => ?_
      have I7' := I7.pinned (stat I7 n7) (T.obj _ _ st7)
      refine thnF (pg.run _ s7 _ H7 x u _ I7' r7 (step x H7 y7)) fun _ s8 ⟨σ8, H8, I8, hw8, q8⟩ => ?_
      refine thnF (pt.run _ s8 σ8 H8 _ I8 q8) fun b s9 ⟨H9, I9, q9⟩ => ?_
      have fin : ∀ {s' : Shared} {H' : Hp}, Inv (X.blk s3 H3 scope ce fp) ([] ++ pinsAt fp s7.heap) σ8 H' s' → Nx H' → ∃ m, m < n ∧ ∃ i H', Inv (X.blk s3 H3 scope ce fp) [] (wipe σ (own.map (·.2))) H' s' ∧ tn i s'.heap ∧ (∀ b ∈ fp, H' b = none) ∧ W i m H' := fun {s' H'} I' nx => by
        obtain ⟨m', hm, w'⟩ := hNx H' nx
        have pin' : ∀ b ∈ fp, ∀ o, s7.heap.get? b = some o → s'.heap.get? b = some o ∧ H' b = none := fun b hb o e =>
          let z := I'.pin (b, o) (List.mem_append_right _ (List.mem_append_right _ (mem_pinsAt hb e)))
          ⟨z.1, z.2.1⟩
        have hl : (wipe σ (own.map (·.2))).length = σ8.length := by rw [← hw8, wipe_length]
        refine ⟨m', hm, i + 1, H', (I'.unpinned (pins := [])).weak hl (fun j v e => ?_), T.keep _ _ _ st7 fun b hb o e => (pin' b hb o e).1, fun b hb => ?_, w'⟩
        · rw [← hw8] at e
          exact (wipe_some e).1
        · obtain ⟨o, e, _⟩ := T.obj _ _ st7 b hb
          exact (pin' b hb o e).2
      cases b with
      | false =>
        simp only [Bool.false_eq_true, if_false] at q9 ⊢
        exact fin I9 q9
      | true =>
        simp only [if_true] at q9 ⊢
        refine wpAny_mono (pe.run _ s9 σ8 H9 _ (I9.wish _) q9) (fun z s10 ⟨yv, H10, I10, r10, acc, hD10, hz10, nx⟩ => ?_) (fun u s10 hx => out_of_block tk hstk hf I3 cF (Nat.le_of_eq cL.symm) foot hx)
        exact app_ok (X := X.blk s3 H3 scope ce fp) I10.unwish hD10 hz10 r10 fun s11 I11 => fin I11 nx
  exact codeAny_compStart_list loop (T.self X.A 0 _ _ _ st4 loop)
end
end RH
set_option Elab.async false
set_option linter.all false
set_option maxRecDepth 100000
/-! RpExt: str.replace of written texts within an expression whose first part is a written text (a token is given out by then). -/
namespace RH
open PySem PySem.Spec PyProof.Rows L2
/-- an expression behind which a token is given out -/
def PE1 (X : Cx) (e : Expr) (t : TE) : Prop := ∀ (pins : List (Addr × Obj)) (s : Shared) (σ : L2.St) (H : Hp) (Q : VK), Inv X pins σ H s → t σ H Q → wpAny (model X.prog X.w) X.A (eval e X.env) (fun v s1 => 1 ≤ s1.toks ∧ EP X pins σ Q v s1) X.xe s
section
variable {X : Cx} {e f : Expr} {te tf : TE} {pos : Pos}
theorem pe1_str {x : PySem.Str} {j : Nat} : PE1 X (.Constant (.str x) j pos) (tC (.str x)) := fun _ _ _ H _ I h => Calls.Constant_str ⟨Nat.le_add_left _ _, .str x, H, I.tok _, ⟨_, rfl⟩, h⟩
theorem pe1_op {op : Operator} {r : R2} (ho : OpR X (binaryOp op) r) (ha : PE1 X e te) (hb : PE X f tf) : PE1 X (.BinOp e op f pos) (tOp r te tf) := by
  intro pins s σ H Q I h
  refine wpAny_BinOp (wpAny_mono (ha pins s σ H _ I h) (fun v s1 q => ?_) fun _ _ z => z)
  obtain ⟨h1, x, H1, I1, r1, q1⟩ := q
  refine wpAny_mono (PySem.wpAny_toks_of h1 (hb.run pins s1 σ H1 _ I1 q1)) (fun u s2 q2 => ?_) fun _ _ z => z.2
  obtain ⟨h2, y, H2, I2, r2, q2⟩ := q2
  exact wpAny_mono (PySem.wpAny_toks_of h2 (ho pins s2 σ H2 x y v u Q I2 r1 r2 q2)) (fun _ _ z => z) fun _ _ z => z.2
theorem pe_opT {op : Operator} {r : R2} (ho : OpR X (binaryOp op) r) (ha : PE1 X e te) (hb : L2.PET X f tf) : PE X (.BinOp e op f pos) (tOp r te tf) := by
  refine ⟨fun pins s σ H Q I h => ?_⟩
  refine wpAny_BinOp (wpAny_mono (ha pins s σ H _ I h) (fun v s1 q => ?_) fun _ _ z => z)
  obtain ⟨h1, x, H1, I1, r1, q1⟩ := q
  exact thn (hb pins s1 σ H1 _ h1 I1 q1) fun u s2 ⟨y, H2, I2, r2, q2⟩ => ho pins s2 σ H2 x y v u Q I2 r1 r2 q2
end
/-- some blanks -/
theorem op_blanks {X : Cx} : OpR X (binaryOp .Mult) (fun x y H Q => ∃ k : Nat, k ≤ 2 ∧ x = .str " " ∧ y = .int (k : Int) ∧ Q (.str (SX.S (List.replicate k 32))) H) := by
  intro pins s σ H x y v u Q I rx ry h
  obtain ⟨k, hk, rfl, rfl, q⟩ := h
  obtain ⟨t, rfl⟩ := rx
  obtain ⟨t', rfl⟩ := ry
  have ok : PySem.MulOk (" " : PySem.Str) (k : Int) ∧ PySem.Txt.mul (" " : PySem.Str) (k : Int) = SX.S (List.replicate k 32) := by
    have : k = 0 ∨ k = 1 ∨ k = 2 := by omega
    rcases this with rfl | rfl | rfl
    · exact ⟨by unfold PySem.MulOk; decide +kernel, by decide +kernel⟩
    · exact ⟨by unfold PySem.MulOk; decide +kernel, by decide +kernel⟩
    · exact ⟨by unfold PySem.MulOk; decide +kernel, by decide +kernel⟩
  exact PySem.SB.mul ok.1 fun t2 tk => ⟨.str (PySem.Txt.mul (" " : PySem.Str) (k : Int)), H, I.tok _, ⟨_, rfl⟩, by rw [ok.2]; exact q⟩
/-- a blank becomes two -/
theorem replace_sp {ps : List (List Nat)} (hne : ps ≠ []) (h : ∀ p ∈ ps, 32 ∉ p ∧ p ≠ []) : PySem.Txt.replace (SX.S (TL.joinL [32] ps)) (" " : PySem.Str) ("  " : PySem.Str) = SX.S (TL.joinL [32, 32] ps) := by
  have e1 : (" " : PySem.Str) = SX.S [32] := by decide +kernel
  have e2 : ("  " : PySem.Str) = SX.S [32, 32] := by decide +kernel
  have es : PySem.Txt.split (SX.S (TL.joinL [32] ps)) (SX.S [32]) = ps.map SX.S := by
    rw [SX.split_S (by simp) (by decide), TL.spl_join hne fun p hp => (h p hp).1]
  have ln : (TL.joinL [32] ps) ≠ [] := by
    cases ps with
    | nil => exact absurd rfl hne
    | cons p r =>
      have hp := (h p (List.mem_cons_self ..)).2
      cases r with
      | nil => exact hp
      | cons q r =>
        show p ++ _ ≠ []
        intro e
        exact hp (List.append_eq_nil_iff.mp e).1
  rw [e1, e2]
  unfold PySem.Txt.replace
  unfold PySem.Txt.split at es
  have c1 : (decide ((SX.S (TL.joinL [32] ps)).length < (SX.S [32]).length) || decide (PySem.Builtin.Str.strKind (SX.S (TL.joinL [32] ps)) < PySem.Builtin.Str.strKind (SX.S [32]))) = false := by
    rw [Bool.or_eq_false_iff]
    refine ⟨decide_eq_false ?_, ?_⟩
    · rw [SX.S_len, SX.S_len]
      have : 0 < (TL.joinL [32] ps).length := List.length_pos_iff.mpr ln
      simp
      omega
    · exact decide_eq_false (TL.kind_ok (SX.all256 (by decide)))
  rw [if_neg (by rw [c1]; decide)] at es
  by_cases ho : (PySem.Builtin.Str.occurrences (SX.S (TL.joinL [32] ps)) (SX.S [32]) 0 (SX.S (TL.joinL [32] ps)).length ((SX.S (TL.joinL [32] ps)).length + 1)).isEmpty = true
  · rw [if_pos ho] at es
    rw [ho, Bool.true_or, if_pos rfl]
    have : ps = [TL.joinL [32] ps] := by
      have := congrArg (List.map TL.tl) es
      rw [SX.map_S_tl] at this
      exact this.symm
    cases ps with
    | nil => exact absurd rfl hne
    | cons p r =>
      cases r with
      | nil => rfl
      | cons q r =>
        have := congrArg List.length this
        simp at this
  · rw [if_neg ho] at es
    rw [if_neg (by
      rw [Bool.or_eq_true]
      rintro (z | z)
      · exact ho z
      · rw [SX.S_len] at z
        simp at z)]
    rw [es]
    exact SX.join_S _ _
theorem partsFrom_len (x : PySem.Str) (w : Nat) : ∀ (cuts : List Nat) (a : Nat), (PySem.StrLaws.partsFrom x w a cuts).length = cuts.length + 1
  | [], _ => rfl
  | c :: cuts, a => by
    show (_ :: PySem.StrLaws.partsFrom x w _ cuts).length = _
    rw [List.length_cons, partsFrom_len x w cuts, List.length_cons]
/-- the ends of lines are one less than the lines -/
theorem count_nl {ys : List (List Nat)} (hne : ys ≠ []) (h : ∀ y ∈ ys, 10 ∉ y) (h1 : TL.joinL [10] ys ≠ []) : PySem.Txt.count (SX.S (TL.joinL [10] ys)) ("\n" : PySem.Str) = (ys.length : Int) - 1 := by
  rw [show ("\n" : PySem.Str) = SX.S [10] from by decide +kernel]
  have es : PySem.Txt.split (SX.S (TL.joinL [10] ys)) (SX.S [10]) = ys.map SX.S := by
    rw [SX.split_S (by simp) (by decide), TL.spl_join hne h]
  unfold PySem.Txt.split at es
  have c1 : (decide ((SX.S (TL.joinL [10] ys)).length < (SX.S [10]).length) || decide (PySem.Builtin.Str.strKind (SX.S (TL.joinL [10] ys)) < PySem.Builtin.Str.strKind (SX.S [10]))) = false := by
    rw [Bool.or_eq_false_iff]
    refine ⟨decide_eq_false ?_, decide_eq_false (TL.kind_ok (SX.all256 (by decide)))⟩
    rw [SX.S_len, SX.S_len]
    have : 0 < (TL.joinL [10] ys).length := List.length_pos_iff.mpr h1
    simp
    omega
  rw [if_neg (by rw [c1]; decide)] at es
  unfold PySem.Txt.count
  generalize PySem.Builtin.Str.occurrences (SX.S (TL.joinL [10] ys)) (SX.S [10]) 0 (SX.S (TL.joinL [10] ys)).length ((SX.S (TL.joinL [10] ys)).length + 1) = cuts at es ⊢
  have el := congrArg List.length es
  rw [List.length_map] at el
  by_cases ho : cuts.isEmpty = true
  · rw [if_pos ho] at el
    rw [List.isEmpty_iff] at ho
    rw [ho]
    simp only [List.length_cons, List.length_nil] at el ⊢
    omega
  · rw [if_neg ho, PySem.StrLaws.partsBetween_eq, partsFrom_len] at el
    omega
end RH
set_option Elab.async false
set_option linter.all false
set_option maxRecDepth 100000
set_option maxHeartbeats 2000000
namespace RH
open PySem PySem.Spec PyProof.Rows L2
def topS (i : Nat) : Stmt := PySem.Challenge.pw_restlesshelf_k18_whole_texts.main.body.getD i (.Pass ⟨0, 0, 0, 0⟩)
abbrev st_e_BadProgram : Stmt := inClass (topS 2) 0
theorem sc_e_BadProgram : NdefX.NScope ["self", "index", "__class__"] ["self", "index"] ["__class__"] (defScope st_e_BadProgram) := NdefX.nscope_by (by decide +kernel)
abbrev st_e_BadLine : Stmt := inClass (topS 5) 0
theorem sc_e_BadLine : NdefX.NScope ["self", "line", "word", "__class__"] ["self", "line", "word"] ["__class__"] (defScope st_e_BadLine) := NdefX.nscope_by (by decide +kernel)
abbrev st_is_integer : Stmt := topS 14
theorem sc_is_integer : FnScope ["value"] ["value"] (defScope st_is_integer) :=
  ⟨rfl, rfl, rfl, by decide +kernel, rfl, by decide +kernel, by decide +kernel⟩
abbrev st_is_number : Stmt := topS 15
theorem sc_is_number : FnScope ["value", "low", "high"] ["value", "low", "high"] (defScope st_is_number) :=
  ⟨rfl, rfl, rfl, by decide +kernel, rfl, by decide +kernel, by decide +kernel⟩
abbrev st_is_row : Stmt := topS 16
theorem sc_is_row : FnScope ["value", "low", "high"] ["value", "low", "high"] (defScope st_is_row) :=
  ⟨rfl, rfl, rfl, by decide +kernel, rfl, by decide +kernel, by decide +kernel⟩
abbrev st_is_place : Stmt := topS 17
theorem sc_is_place : FnScope ["value", "places"] ["value", "places"] (defScope st_is_place) :=
  ⟨rfl, rfl, rfl, by decide +kernel, rfl, by decide +kernel, by decide +kernel⟩
abbrev st_is_instruction : Stmt := topS 18
theorem sc_is_instruction : FnScope ["value", "places", "count", "is_restless", "word"] ["value", "places", "count", "is_restless"] (defScope st_is_instruction) :=
  ⟨rfl, rfl, rfl, by decide +kernel, rfl, by decide +kernel, by decide +kernel⟩
abbrev st_check_number : Stmt := topS 19
theorem sc_check_number : FnScope ["value", "low", "high"] ["value", "low", "high"] (defScope st_check_number) :=
  ⟨rfl, rfl, rfl, by decide +kernel, rfl, by decide +kernel, by decide +kernel⟩
abbrev st_check_string : Stmt := topS 20
theorem sc_check_string : FnScope ["text"] ["text"] (defScope st_check_string) :=
  ⟨rfl, rfl, rfl, by decide +kernel, rfl, by decide +kernel, by decide +kernel⟩
abbrev st_check_places : Stmt := topS 21
theorem sc_check_places : FnScope ["places"] ["places"] (defScope st_check_places) :=
  ⟨rfl, rfl, rfl, by decide +kernel, rfl, by decide +kernel, by decide +kernel⟩
abbrev st_check_program : Stmt := topS 22
theorem sc_check_program : FnScope ["program", "places", "most", "is_restless", "index", "instruction"] ["program", "places", "most", "is_restless"] (defScope st_check_program) :=
  ⟨rfl, rfl, rfl, by decide +kernel, rfl, by decide +kernel, by decide +kernel⟩
abbrev st_check_restless : Stmt := topS 23
theorem sc_check_restless : FnScope ["program", "places"] ["program", "places"] (defScope st_check_restless) :=
  ⟨rfl, rfl, rfl, by decide +kernel, rfl, by decide +kernel, by decide +kernel⟩
abbrev st_lines_in : Stmt := topS 26
theorem sc_lines_in : FnScope ["text", "line", "word"] ["text"] (defScope st_lines_in) :=
  ⟨rfl, rfl, rfl, by decide +kernel, rfl, by decide +kernel, by decide +kernel⟩
abbrev st_number_told : Stmt := topS 27
theorem sc_number_told : FnScope ["word", "most", "number", "figure"] ["word", "most"] (defScope st_number_told) :=
  ⟨rfl, rfl, rfl, by decide +kernel, rfl, by decide +kernel, by decide +kernel⟩
abbrev st_signed_number_told : Stmt := topS 28
theorem sc_signed_number_told : FnScope ["word", "most", "number"] ["word", "most"] (defScope st_signed_number_told) :=
  ⟨rfl, rfl, rfl, by decide +kernel, rfl, by decide +kernel, by decide +kernel⟩
abbrev st_write_program : Stmt := topS 31
theorem sc_write_program : FnScope ["places", "program", "instruction", "part"] ["places", "program"] (defScope st_write_program) :=
  ⟨rfl, rfl, rfl, by decide +kernel, rfl, by decide +kernel, by decide +kernel⟩
abbrev st_read_program : Stmt := topS 32
theorem sc_read_program : FnScope ["places", "text", "program", "at", "instruction", "words"] ["places", "text"] (defScope st_read_program) :=
  ⟨rfl, rfl, rfl, by decide +kernel, rfl, by decide +kernel, by decide +kernel⟩
abbrev st_read_instruction : Stmt := topS 33
theorem sc_read_instruction : FnScope ["places", "line", "words", "instruction", "number"] ["places", "line", "words"] (defScope st_read_instruction) :=
  ⟨rfl, rfl, rfl, by decide +kernel, rfl, by decide +kernel, by decide +kernel⟩
abbrev st_second_number : Stmt := topS 34
theorem sc_second_number : FnScope ["places", "words", "word", "told"] ["places", "words"] (defScope st_second_number) :=
  ⟨rfl, rfl, rfl, by decide +kernel, rfl, by decide +kernel, by decide +kernel⟩
abbrev st__law_taken : Stmt := topS 36
theorem sc__law_taken : FnScope ["row", "many", "found", "cell"] ["row", "many"] (defScope st__law_taken) :=
  ⟨rfl, rfl, rfl, by decide +kernel, rfl, by decide +kernel, by decide +kernel⟩
abbrev st__law_pick : Stmt := topS 37
theorem sc__law_pick : FnScope ["row", "things"] ["row", "things"] (defScope st__law_pick) :=
  ⟨rfl, rfl, rfl, by decide +kernel, rfl, by decide +kernel, by decide +kernel⟩
abbrev st__law_program : Stmt := topS 38
theorem sc__law_program : FnScope ["row", "places", "many", "size", "found", "words", "at", "word"] ["row", "places", "many"] (defScope st__law_program) :=
  ⟨rfl, rfl, rfl, by decide +kernel, rfl, by decide +kernel, by decide +kernel⟩
abbrev st__law_alike : Stmt := topS 39
theorem sc__law_alike : FnScope ["found", "due", "k"] ["found", "due"] (defScope st__law_alike) :=
  ⟨rfl, rfl, rfl, by decide +kernel, rfl, by decide +kernel, by decide +kernel⟩
abbrev st__law_told : Stmt := topS 40
theorem sc__law_told : FnScope ["places", "text", "found", "e"] ["places", "text"] (defScope st__law_told) :=
  ⟨rfl, rfl, rfl, by decide +kernel, rfl, by decide +kernel, by decide +kernel⟩
abbrev st__law_number : Stmt := topS 41
theorem sc__law_number : FnScope ["word", "least", "most", "figures", "number", "sign"] ["word", "least", "most"] (defScope st__law_number) :=
  ⟨rfl, rfl, rfl, by decide +kernel, rfl, by decide +kernel, by decide +kernel⟩
abbrev st__law_read : Stmt := topS 42
theorem sc__law_read : FnScope ["places", "text", "found", "line", "signs", "words", "bounds", "word", "low", "high", "number", "at"] ["places", "text"] (defScope st__law_read) :=
  ⟨rfl, rfl, rfl, by decide +kernel, rfl, by decide +kernel, by decide +kernel⟩
abbrev st_law : Stmt := topS 43
theorem sc_law : FnScope ["script", "row", "places", "program", "lines", "word", "text", "loose", "odd", "turn", "bent", "change", "at", "words", "spot", "some", "told", "great", "found", "part", "line"] ["script"] (defScope st_law) :=
  ⟨rfl, rfl, rfl, by decide +kernel, rfl, by decide +kernel, by decide +kernel⟩
/-! ### what the top has written -/
/-- the def x of the text stands in the module under its name -/
structure Df (K : PySem.W.Frag) (mg : Str → Option Value) (x : Str) (st : Stmt) (ps : List Str) : Prop where
  ex : ∃ (f : Addr) (fd : FuncData), Fun K x x st f fd ∧ mg x = some (.ref f) ∧ Binds K fd ps []
/-- names of the interpreter that the module leaves alone -/
structure Bu (mg : Str → Option Value) : Prop where
  isi : mg "isinstance" = none
  int : mg "int" = none
  bool : mg "bool" = none
  str : mg "str" = none
  tuple : mg "tuple" = none
  list : mg "list" = none
  len : mg "len" = none
  all : mg "all" = none
  zip : mg "zip" = none
  range : mg "range" = none
  sorted : mg "sorted" = none
  enumerate : mg "enumerate" = none
  max : mg "max" = none
section
variable {P : Program} {w : World} {K : PySem.W.Frag} {mg : Str → Option Value} {base : Heap}
/-- a def that may be called by its name -/
structure Cal (P : Program) (w : World) (K : PySem.W.Frag) (mg : Str → Option Value) (base : Heap) (k : Nat) (x : Str) (sp : Sp) : Prop where
  ex : ∃ (f : Addr) (fd : FuncData) (ps : List Str), FnOk P w K mg base CX0 k f fd ps sp ∧ mg x = some (.ref f) ∧ PySem.W.keepIn K (.ref f) = true ∧ Binds K fd ps []
theorem mkCal {x : Str} {st : Stmt} {N ps : List Str} {k : Nat} {sp : Sp} (F : Df K mg x st ps) (S : FnScope N ps (defScope st)) (len : ∀ vs H Q E, sp vs H Q E → vs.length = ps.length)
    (hbody : ∀ (f : Addr) (cdv : Value) (A : Around) (outer : List Env) (s : Shared) (H : Hp) (vs : List V) (Q : VK) (E : XK), Room k (A.deeper (envOfC x (defScope st) s.heap.objs.size f cdv)) → sp vs H Q E →
      ∃ t, PSs (cxOf CX0 P w K mg base N x (defScope st) f cdv A outer s H E).nox (defBody st) t ∧ t { nx := fun _ H' => Q .non H', rt := Q } (start N vs) H) : Cal P w K mg base (k + 1) x sp := by
  obtain ⟨f, fd, F, g, b⟩ := F.ex
  exact ⟨f, fd, ps, F.ok S len (hbody f), g, F.kp, b⟩
theorem Cal.imp {k : Nat} {x : Str} {sp sp' : Sp} (c : Cal P w K mg base k x sp) (h : ∀ vs H Q E, sp' vs H Q E → sp vs H Q E) : Cal P w K mg base k x sp' := by
  obtain ⟨f, fd, ps, F, g, kp, b⟩ := c.ex
  exact ⟨f, fd, ps, F.imp h, g, kp, b⟩
end
theorem pc {X : Cx} {k j : Nat} {x : Str} {sp : Sp} {p pos : Pos} {e : Expr} {es : List Expr} {t : TA} (c : Cal X.prog X.w X.K X.mg X.base k x sp) (hr : Room j X.A) (ha : PA X (e :: es) t) (hk : k ≤ j := by decide) (hg : Gl X x := by rfl)
    (hdb : (x == ("__debug__" : Str)) = false := by decide) (he : starEach (e :: es) X.env = (false, eval e X.env) :: starEach es X.env := by rfl) (hpl : (backTo pos (starEach es X.env)).any (·.1) = false := by rfl) :
    PE X (.Call (.Name x p) (e :: es) [] pos) (tCall sp [] E0 t) := by
  obtain ⟨f, fd, ps, F, hm, kp, b⟩ := c.ex
  exact pe_call F (hr.mono hk) hg hm kp b .nil pass0 ha hdb he hpl
/-- a statement that is never come to -/
theorem ps_no {X : Cx} {st : Stmt} : PS X st (fun _ _ _ => False) := ⟨fun _ _ _ _ _ _ h => h.elim⟩
/-! ### heaps, tuples of ints, and of such -/
theorem same_new {H : Hp} {p : Addr} {o : HO} (h : H p = none) : Same H (upd H p o) := fun b x e => by
  rw [upd_ne (ne_of_none e h)]
  exact e
theorem seqT {K : PySem.W.Frag} {H H' : Hp} {a : Addr} {xs : List V} (e : ∀ o, H a = some o → H' a = some o) (h : SqT K H a xs) : SqT K H' a xs := by
  rcases h with (h | ⟨o, h⟩) | h
  · exact .inl (.inl (e _ h))
  · exact .inl (.inr ⟨o, e _ h⟩)
  · exact .inr h
theorem onT {K : PySem.W.Frag} {H H' : Hp} {a : Addr} {xs : List V} (e : Same H H') (h : SqT K H a xs) : SqT K H' a xs := seqT (fun o => e a o) h
theorem tupAt {K : PySem.W.Frag} {H : Hp} {a : Addr} {xs : List V} (h : H a = some (.tup xs)) : SqT K H a xs := .inl (.inl h)
theorem lstAt {K : PySem.W.Frag} {H : Hp} {a : Addr} {xs : List V} (h : H a = some (.lst xs)) : SqL K H a xs := .inl (.inl h)
/-- a tuple's type -/
theorem ty_tup {K : PySem.W.Frag} {H : Hp} {a : Addr} {xs : List V} (h : SqT K H a xs) : TyX K H (.ref a) (.type "tuple") := by
  rcases h with (h | ⟨o, h⟩) | ⟨o, its, n, h, c, _⟩
  · exact .base (.tup h)
  · exact .fTuple h
  · exact .kTuple h c
/-- each by each -/
inductive Each {α : Type} (R : V → α → Prop) : List V → List α → Prop
  | nil : Each R [] []
  | cons {v : V} {d : α} {vs : List V} {ds : List α} : R v d → Each R vs ds → Each R (v :: vs) (d :: ds)
theorem Each.len {α : Type} {R : V → α → Prop} : ∀ {vs : List V} {ds : List α}, Each R vs ds → vs.length = ds.length
  | _, _, .nil => rfl
  | _, _, .cons _ t => congrArg (· + 1) t.len
theorem Each.imp {α : Type} {R R' : V → α → Prop} (f : ∀ v d, R v d → R' v d) : ∀ {vs : List V} {ds : List α}, Each R vs ds → Each R' vs ds
  | _, _, .nil => .nil
  | _, _, .cons h t => .cons (f _ _ h) (t.imp f)
theorem Each.at {α : Type} {R : V → α → Prop} : ∀ {vs : List V} {ds : List α} {i : Nat} {v : V}, Each R vs ds → vs[i]? = some v → ∃ d, ds[i]? = some d ∧ R v d
  | _, _, _, _, .nil, e => by simp at e
  | _, _, 0, _, .cons h _, e => by
    have e' := Option.some.inj e
    subst e'
    exact ⟨_, rfl, h⟩
  | _, _, i + 1, _, .cons _ t, e => t.at (i := i) e
theorem Each.snoc {α : Type} {R : V → α → Prop} {v : V} {d : α} (h : R v d) : ∀ {vs : List V} {ds : List α}, Each R vs ds → Each R (vs ++ [v]) (ds ++ [d])
  | _, _, .nil => .cons h .nil
  | _, _, .cons g t => .cons g (t.snoc h)
/-- a tuple of ints -/
def TI (K : PySem.W.Frag) (H : Hp) (v : V) (ns : List Int) : Prop := ∃ a, v = .ref a ∧ SqT K H a (ns.map V.int)
/-- a tuple of such -/
def TII (K : PySem.W.Frag) (H : Hp) (v : V) (nss : List (List Int)) : Prop := ∃ a vs, v = .ref a ∧ SqT K H a vs ∧ Each (TI K H) vs nss
def THs (K : PySem.W.Frag) (H : Hp) (v : V) (hs : List (List (List Int))) : Prop := ∃ a vs, v = .ref a ∧ SqT K H a vs ∧ Each (TII K H) vs hs
/-- all tuples stand -/
def Tups (K : PySem.W.Frag) (H H' : Hp) : Prop := ∀ a xs, SqT K H a xs → SqT K H' a xs
theorem Same.tups {K : PySem.W.Frag} {H H' : Hp} (e : Same H H') : Tups K H H' := fun _ _ h => onT e h
theorem TI.on {K : PySem.W.Frag} {H H' : Hp} {v : V} {ns : List Int} (e : Tups K H H') (h : TI K H v ns) : TI K H' v ns := let ⟨a, h1, h2⟩ := h; ⟨a, h1, e _ _ h2⟩
theorem TII.on {K : PySem.W.Frag} {H H' : Hp} {v : V} {nss : List (List Int)} (e : Tups K H H') (h : TII K H v nss) : TII K H' v nss := let ⟨a, vs, h1, h2, h3⟩ := h; ⟨a, vs, h1, e _ _ h2, h3.imp fun _ _ z => z.on e⟩
theorem THs.on {K : PySem.W.Frag} {H H' : Hp} {v : V} {hs : List (List (List Int))} (e : Tups K H H') (h : THs K H v hs) : THs K H' v hs := let ⟨a, vs, h1, h2, h3⟩ := h; ⟨a, vs, h1, e _ _ h2, h3.imp fun _ _ z => z.on e⟩
theorem map_at {ns : List Int} {i : Nat} {x : V} (h : (ns.map V.int)[i]? = some x) : ∃ n, ns[i]? = some n ∧ x = .int n := by
  rw [List.getElem?_map] at h
  cases e : ns[i]? with
  | none =>
    rw [e] at h
    cases h
  | some n =>
    rw [e] at h
    exact ⟨n, rfl, (Option.some.inj h).symm⟩
theorem at_map {ns : List Int} {i : Nat} {n : Int} (h : ns[i]? = some n) : (ns.map V.int)[i]? = some (.int n) := by
  rw [List.getElem?_map, h]
  rfl
/-! ### lists of ints, compared -/
theorem dpAll_ints {K : PySem.W.Frag} {H : Hp} : ∀ ns : List Int, DpAll K H (ns.map V.int) (ns.map PyData.int)
  | [] => .nil
  | n :: ns => .cons (.int n) (dpAll_ints ns)
theorem dp_lst {K : PySem.W.Frag} {H : Hp} {a : Addr} {ns : List Int} (h : SqL K H a (ns.map V.int)) : Dp K H (.ref a) (.list (ns.map PyData.int)) := .lst h (dpAll_ints ns)
theorem eqv_lst (ns ms : List Int) : PyData.eqv (.list (ns.map PyData.int)) (.list (ms.map PyData.int)) = decide (ns = ms) := by
  rw [PyData.eqv]
  exact PySem.W.ked_eqvAll ns ms
def rg (n : Nat) : List Int := (List.range n).map fun i : Nat => (i : Int)
theorem rg_len (n : Nat) : (rg n).length = n := by
  unfold rg
  rw [List.length_map, List.length_range]
theorem rg_mem {n : Nat} {x : Int} : x ∈ rg n ↔ 0 ≤ x ∧ x < n := by
  unfold rg
  rw [List.mem_map]
  constructor
  · rintro ⟨i, h, rfl⟩
    have := List.mem_range.mp h
    omega
  · rintro ⟨h1, h2⟩
    exact ⟨x.toNat, List.mem_range.mpr (by omega), by omega⟩
/-! ### walks over enumerate and zip of tuples -/
section
variable {K : PySem.W.Frag} {a b : Addr} {xs ys : List V}
theorem for_enumT {g : TG} {tb : TS} {D : Ends} {σ : L2.St} {H : Hp} (Pv : Nat → L2.St → Hp → Prop) (h0 : Pv 0 σ H) (hl : ∀ i σ H, Pv i σ H → SqT K H a xs)
    (hs : ∀ i x T σ H, xs[i]? = some x → Pv i σ H → H T = none → g (.ref T) σ (upd H T (.tup [.int (i : Nat), x])) fun σ2 H2 => tb { D with nx := Pv (i + 1), ct := Pv (i + 1), bk := D.nx } σ2 H2) (hd : ∀ σ H, Pv xs.length σ H → D.nx σ H) :
    ∃ W : Nat → Nat → L2.St → Hp → Prop, (∃ m, W 0 m σ H) ∧ ∀ i m σ H, W i m σ H →
      ((IteT K a).stop i H ∧ D.nx σ H) ∨ ((IteT K a).go i H ∧ ∃ N : L2.St → Hp → Prop, (∀ σ' H', N σ' H' → ∃ m', m' < m ∧ W (i + 1) m' σ' H') ∧ ∀ x H', (IteT K a).yld i H x H' → g x σ H' fun σ2 H2 => tb { D with nx := N, ct := N, bk := D.nx } σ2 H2) := by
  refine ⟨fun i m σ H => m = xs.length - i ∧ i ≤ xs.length ∧ Pv i σ H, ⟨xs.length, rfl, Nat.zero_le _, h0⟩, ?_⟩
  rintro i m σ H ⟨rfl, hi, p⟩
  have q := hl i σ H p
  by_cases hlt : i < xs.length
  · have hx : xs[i]? = some xs[i] := List.getElem?_eq_getElem hlt
    refine .inr ⟨⟨xs, _, q, hx⟩, Pv (i + 1), fun σ' H' p' => ⟨xs.length - (i + 1), by omega, rfl, hlt, p'⟩, fun v H' y => ?_⟩
    obtain ⟨T, x', rfl, hT, rfl, f1⟩ := y
    exact hs i x' T σ H (f1 xs q) p hT
  · have e : i = xs.length := by omega
    subst e
    exact .inl ⟨⟨xs, q, Nat.le_refl _⟩, hd σ H p⟩
end
end RH
set_option Elab.async false
set_option linter.all false
set_option maxRecDepth 100000
set_option maxHeartbeats 2000000
set_option Elab.async false
set_option linter.all false
set_option maxRecDepth 100000
set_option maxHeartbeats 2000000
set_option Elab.async false
set_option linter.all false
set_option maxRecDepth 100000
set_option maxHeartbeats 2000000
namespace RH
open PySem PySem.Spec PyProof.Rows L2
/-! ### slices and constants -/
theorem cut_from (xs : List V) (k : Nat) : cutV xs (some (k : Int)) none = xs.drop k := by
  unfold cutV
  rw [HT.sIx_nat, HT.sIx_none]
  rcases Nat.le_total k xs.length with h | h
  · rw [Nat.min_eq_left h]
    exact List.take_of_length_le (by rw [List.length_drop]; exact Nat.le_refl _)
  · rw [Nat.min_eq_right h, Nat.sub_self, List.take_zero, List.drop_eq_nil_of_le h]
theorem cut_to (xs : List V) (k : Nat) : cutV xs none (some (k : Int)) = xs.take k := by
  unfold cutV
  rw [HT.sIx_nat, HT.sIx_none, List.drop_zero, Nat.sub_zero]
  rcases Nat.le_total k xs.length with h | h
  · rw [Nat.min_eq_left h]
  · rw [Nat.min_eq_right h, List.take_length, List.take_of_length_le h]
/-- a number that the module keeps -/
theorem pk {X : Cx} {x : Str} {i : Int} {pos : Pos} (h : ∃ t, X.mg x = some (.int i t)) (hg : Gl X x := by rfl) (hn : x ≠ "__name__" := by decide) (hd : (x == ("__debug__" : Str)) = false := by decide) : PE X (.Name x pos) (tC (.int i)) := by
  obtain ⟨t, h⟩ := h
  exact pe_glob (v := .int i) hg h ⟨_, rfl⟩ hd
/-! ### rules within a comprehension: the written part is told -/
def rLenK (K : PySem.W.Frag) : List V → Hp → VK → Prop := fun xs H Q => ∃ p ys, xs = [.ref p] ∧ (SqL K H p ys ∨ SqT K H p ys) ∧ Q (.int ys.length) H
theorem cl_len {X : Cx} (K : PySem.W.Frag) (h : X.K = K := by rfl) : CallR X (.builtin "len") (rLenK K) := by
  subst h
  exact call_len_seq
theorem ixT {X : Cx} (K : PySem.W.Frag) (h : X.K = K := by rfl) : IxR X (rIxT K) := by
  subst h
  exact ix_tup
theorem ixL {X : Cx} (K : PySem.W.Frag) (h : X.K = K := by rfl) : IxR X (rIxL K) := by
  subst h
  exact ix_list
theorem opIn {X : Cx} (K : PySem.W.Frag) (h : X.K = K := by rfl) : OpR X (compareOp .In) (rIn K false) := by
  subst h
  exact op_in_seq
/-! ### rising, a layout, a habit -/
def isLay (p : Nat) (ns : List Int) : Bool := ns.isPerm (rg p)
def isHab (nss : List (List Int)) : Bool := decide (2 ≤ nss.length) && decide (nss.length ≤ 5) && nss.all (isLay nss.length)
end RH
set_option Elab.async false
set_option linter.all false
set_option maxRecDepth 100000
set_option maxHeartbeats 2000000
namespace RH
open PySem PySem.Spec PyProof.Rows L2
/-! ### the mathematics of marks -/
theorem ifT {c : Bool} {A B : Prop} (hc : c = true) (h : A) : if c = true then A else B := by
  rw [if_pos hc]
  exact h
theorem ifF {c : Bool} {A B : Prop} (hc : c = false) (h : B) : if c = true then A else B := by
  rw [hc, if_neg Bool.false_ne_true]
  exact h
/-- a habit of n places -/
structure Hb (n : Nat) (h : List (List Int)) : Prop where
  len : h.length = n
  perm : ∀ ns ∈ h, ns.Perm (rg n)
  lo : 2 ≤ n
  hi : n ≤ 5
theorem Hb.is {n : Nat} {h : List (List Int)} (q : Hb n h) : isHab h = true := by
  unfold isHab
  simp only [Bool.and_eq_true, decide_eq_true_eq, List.all_eq_true]
  refine ⟨⟨by have := q.len; have := q.lo; omega, by have := q.len; have := q.hi; omega⟩, fun ns hm => ?_⟩
  unfold isLay
  rw [q.len, List.isPerm_iff]
  exact q.perm ns hm
theorem Hb.short {n : Nat} {h : List (List Int)} (q : Hb n h) {ns : List Int} (hm : ns ∈ h) : ns.length = n := by
  rw [(q.perm ns hm).length_eq, rg_len]
def mv (h : List (List Int)) (t s : Int) : Int := (h.getD t.toNat []).getD s.toNat 0
theorem Hb.at {n : Nat} {h : List (List Int)} (q : Hb n h) {t s : Int} (t0 : 0 ≤ t) (t1 : t < n) (s0 : 0 ≤ s) (s1 : s < n) :
    ∃ ns, h[t.toNat]? = some ns ∧ ns[s.toNat]? = some (mv h t s) ∧ 0 ≤ mv h t s ∧ mv h t s < n := by
  have h1 : t.toNat < h.length := by rw [q.len]; omega
  have e1 : h[t.toNat]? = some h[t.toNat] := List.getElem?_eq_getElem h1
  have hm : h[t.toNat] ∈ h := List.getElem_mem h1
  have h2 : s.toNat < h[t.toNat].length := by rw [q.short hm]; omega
  have e2 : h[t.toNat][s.toNat]? = some h[t.toNat][s.toNat] := List.getElem?_eq_getElem h2
  have e4 : h.getD t.toNat [] = h[t.toNat] := by
    rw [List.getD_eq_getElem?_getD, e1]
    rfl
  have e3 : mv h t s = h[t.toNat][s.toNat] := by
    unfold mv
    rw [e4, List.getD_eq_getElem?_getD, e2]
    rfl
  have h4 := rg_mem.mp ((q.perm _ hm).mem_iff.mp (List.getElem_mem h2))
  rw [← e3] at h4
  exact ⟨_, e1, by rw [e3]; exact e2, h4⟩
/-- an item of an int's place -/
theorem at_int {α : Type} {xs : List α} {z : Int} {v : α} (h0 : 0 ≤ z) (h : xs[z.toNat]? = some v) : atI xs z = some v := by
  have e : z = ((z.toNat : Nat) : Int) := by omega
  rw [e]
  exact atI_nat h
end RH
set_option Elab.async false
set_option linter.all false
set_option maxRecDepth 100000
set_option maxHeartbeats 2000000
namespace RH
open PySem PySem.Spec PyProof.Rows L2
/-! ### the law's own row of draws -/
/-- all but what stands at p is as it was -/
def But (p : Addr) (H H' : Hp) : Prop := ∀ b o, H b = some o → b ≠ p → H' b = some o
theorem But.refl (p : Addr) (H : Hp) : But p H H := fun _ _ e _ => e
theorem But.trans {p : Addr} {H H1 H2 : Hp} (a : But p H H1) (b : But p H1 H2) : But p H H2 := fun c o e n => b c o (a c o e n) n
theorem But.same {p : Addr} {H H1 : Hp} (a : Same H H1) : But p H H1 := fun c o e _ => a c o e
theorem But.upd {p : Addr} {H H1 : Hp} {o : HO} (a : But p H H1) : But p H (upd H1 p o) := fun c u e n => by
  rw [upd_ne n]
  exact a c u e n
/-- all that is no list is as it was -/
def Fix (H H' : Hp) : Prop := ∀ b o, H b = some o → (∀ xs, o ≠ .lst xs) → H' b = some o
theorem Fix.refl (H : Hp) : Fix H H := fun _ _ e _ => e
theorem Fix.trans {H H1 H2 : Hp} (a : Fix H H1) (b : Fix H1 H2) : Fix H H2 := fun c o e n => b c o (a c o e n) n
theorem Fix.same {H H1 : Hp} (a : Same H H1) : Fix H H1 := fun c o e _ => a c o e
theorem Fix.lst {H : Hp} {p : Addr} {xs : List V} {o : HO} (h : H p = some (.lst xs)) : Fix H (L2.upd H p o) := fun b u e n => by
  by_cases z : b = p
  · subst z
    rw [h] at e
    cases e
    exact absurd rfl (n _)
  · rw [upd_ne z]
    exact e
theorem Fix.tups {K : PySem.W.Frag} {H H' : Hp} (b : Fix H H') : Tups K H H' := fun a xs hS => by
  rcases hS with (hS | ⟨u, hS⟩) | hS
  · exact .inl (.inl (b _ _ hS (fun _ z => nomatch z)))
  · exact .inl (.inr ⟨u, b _ _ hS (fun _ z => nomatch z)⟩)
  · exact .inr hS
theorem But.fix {H H' : Hp} {p : Addr} {xs : List V} (h : H p = some (.lst xs)) (b : But p H H') : Fix H H' := fun c o e n => b c o e fun z => by
  subst z
  rw [h] at e
  cases e
  exact n _ rfl
/-- a list that never changes -/
def Fz (K : PySem.W.Frag) (H : Hp) (a : Addr) (xs : List V) : Prop := (∃ o, H a = some (.frz o (.lst xs))) ∨ ∀ H', SqL K H' a xs
theorem Fz.seq {K : PySem.W.Frag} {H : Hp} {a : Addr} {xs : List V} (h : Fz K H a xs) : SqL K H a xs := by
  rcases h with ⟨o, h⟩ | h
  · exact .inl (.inr ⟨o, h⟩)
  · exact h H
theorem Fz.on {K : PySem.W.Frag} {H H' : Hp} {a : Addr} {xs : List V} (f : Fix H H') (h : Fz K H a xs) : Fz K H' a xs := by
  rcases h with ⟨o, h⟩ | h
  · exact .inl ⟨o, f _ _ h (fun _ z => nomatch z)⟩
  · exact .inr h
theorem Fz.of {K : PySem.W.Frag} {H : Hp} {a : Addr} {xs : List V} (o : Only H) (h : SqL K H a xs) : Fz K H a xs := by
  rcases h with (h | h) | h
  · rcases o a with e | ⟨u, ys, e⟩
    · rw [e] at h
      cases h
    · rw [e] at h
      cases h
  · exact .inl h
  · exact .inr fun H' => .inr h
/-- row: the script, how many of it are taken, the running number, what is left of a great one -/
structure RowA (K : PySem.W.Frag) (H : Hp) (p a : Addr) (ns : List Int) (i r c : Int) : Prop where
  at_ : H p = some (.lst [.ref a, .int i, .int r, .int c])
  fz : Fz K H a (ns.map V.int)
  pos : 0 ≤ i
theorem RowA.scr {K : PySem.W.Frag} {H : Hp} {p a : Addr} {ns : List Int} {i r c : Int} (h : RowA K H p a ns i r c) : SqL K H a (ns.map V.int) := h.fz.seq
def Row (K : PySem.W.Frag) (H : Hp) (p : Addr) : Prop := ∃ a ns i r c, RowA K H p a ns i r c
theorem RowA.put {K : PySem.W.Frag} {H : Hp} {p a : Addr} {ns : List Int} {i r c i' r' c' : Int} (h : RowA K H p a ns i r c) (hi : 0 ≤ i') :
    RowA K (upd H p (.lst [.ref a, .int i', .int r', .int c'])) p a ns i' r' c' :=
  ⟨upd_same, h.fz.on (Fix.lst h.at_), hi⟩
theorem RowA.row {K : PySem.W.Frag} {H : Hp} {p a : Addr} {ns : List Int} {i r c : Int} (h : RowA K H p a ns i r c) : Row K H p := ⟨_, _, _, _, _, h⟩
theorem Row.lst {K : PySem.W.Frag} {H : Hp} {p : Addr} (h : Row K H p) : ∃ xs, H p = some (.lst xs) := by
  obtain ⟨a, ns, i, r, c, h⟩ := h
  exact ⟨_, h.at_⟩
theorem Row.fix {K : PySem.W.Frag} {H H' : Hp} {p : Addr} (h : Row K H p) (b : But p H H') : Fix H H' := by
  obtain ⟨xs, e⟩ := h.lst
  exact But.fix e b
theorem Row.on {K : PySem.W.Frag} {H H' : Hp} {p : Addr} (h : Row K H p) (f : Fix H H') (e : H' p = H p) : Row K H' p := by
  obtain ⟨a, ns, i, r, c, h⟩ := h
  exact ⟨a, ns, i, r, c, e.trans h.at_, h.fz.on f, h.pos⟩
theorem Row.same {K : PySem.W.Frag} {H H' : Hp} {p : Addr} (h : Row K H p) (s : Same H H') : Row K H' p := by
  obtain ⟨xs, e⟩ := h.lst
  exact h.on (Fix.same s) ((s _ _ e).trans e.symm)
/-- another list is written -/
theorem Row.lst_upd {K : PySem.W.Frag} {H : Hp} {p q : Addr} {xs : List V} {o : HO} (h : Row K H p) (e : H q = some (.lst xs)) (n : p ≠ q) : Row K (upd H q o) p := h.on (Fix.lst e) (upd_ne n)
theorem Row.ne {K : PySem.W.Frag} {H : Hp} {p q : Addr} (h : Row K H p) (e : H q = none) : p ≠ q := by
  obtain ⟨xs, e'⟩ := h.lst
  exact ne_of_none e' e
section
variable {P : Program} {w : World} {K : PySem.W.Frag} {mg : Str → Option Value} {base : Heap}
def spTaken (K : PySem.W.Frag) : Sp := fun vs H Q _ => ∃ (p : Addr) (m : Int), vs = [.ref p, .int m] ∧ Row K H p ∧ 0 < m ∧ m < 1048576 ∧ ∀ k H', 0 ≤ k → k < m → But p H H' → Row K H' p → Q (.int k) H'
theorem ok_taken (F : Df K mg "_law_taken" st__law_taken ["row", "many"]) (B : Bu mg) : Cal P w K mg base 1 "_law_taken" (spTaken K) := by
  refine mkCal F sc__law_taken (fun vs H Q E h => ?_) (fun f cdv A outer s H vs Q E hr h => ?_)
  · obtain ⟨p, m, rfl, _⟩ := h
    rfl
  · obtain ⟨p, m, rfl, ⟨a, ns, i, r, c, hR⟩, m0, m1, q⟩ := h
    refine ⟨_, pss_cons (ps_if (pt_cmpR op_gt (pe_ix ix_list (pv 0) pe_int (fun _ _ => rfl)) pe_int (nomark _))
        (pss_cons (ps_set (i := 2) sc__law_taken.nd rfl (.inl rfl) (pe_op op_mod (pe_callTy call_int1 (by rfl) B.int (by decide +kernel) (pa_cons (pe_ix ix_list (pv 0) pe_int (fun _ _ => rfl)) pa_nil)) (pv 1)))
        (pss_cons (ps_asg (pe_op op_fdiv (pe_ix ix_list (pv 0) pe_int (fun _ _ => rfl)) (pv 1)) (pg_sub (pv 0) pe_int set_list))
        (pss_one (ps_ret (pv 2))))) pss_nil)
      (pss_cons (ps_asg (pe_op op_add (pe_ix ix_list (pv 0) pe_int (fun _ _ => rfl)) pe_int) (pg_sub (pv 0) pe_int set_list))
      (pss_cons (ps_if (pt_cmpR op_gt (pe_ix ix_list (pv 0) pe_int (fun _ _ => rfl)) (pe_callB (cl_len K) (by rfl) B.len PySem.boot_len (pa_cons (pe_ix ix_list (pv 0) pe_int (fun _ _ => rfl)) pa_nil)) (nomark _))
        (pss_cons (ps_asg (pe_op op_mod (pe_callTy call_int1 (by rfl) B.int (by decide +kernel) (pa_cons (pe_op op_add (pe_op op_mul (pe_ix ix_list (pv 0) pe_int (fun _ _ => rfl)) pe_int) pe_int) pa_nil)) pe_int) (pg_sub (pv 0) pe_int set_list))
        (pss_one (ps_ret (pe_op op_mod (pe_callTy call_int1 (by rfl) B.int (by decide +kernel) (pa_cons (pe_op op_fdiv (pe_ix ix_list (pv 0) pe_int (fun _ _ => rfl)) pe_int) pa_nil)) (pv 1))))) pss_nil)
      (pss_cons (ps_set (i := 3) sc__law_taken.nd rfl (.inl rfl) (pe_ix ix_list (pe_ix ix_list (pv 0) pe_int (fun _ _ => rfl)) (pe_op op_sub (pe_ix ix_list (pv 0) pe_int (fun _ _ => rfl)) pe_int) (fun _ _ => rfl)))
      (pss_cons (ps_asg (pe_op op_mod (pe_callTy call_int1 (by rfl) B.int (by decide +kernel) (pa_cons (pe_op op_add (pe_op op_add (pe_op op_mul (pe_ix ix_list (pv 0) pe_int (fun _ _ => rfl)) pe_int) (pv 3)) pe_int) pa_nil)) pe_int) (pg_sub (pv 0) pe_int set_list))
      (pss_cons (ps_if (pt_cmpR op_ge (pv 3) (pe_op op_pow pe_int pe_int) (nomark _))
        (pss_one (ps_asg (pe_op op_fdiv (pv 3) (pv 1)) (pg_sub (pv 0) pe_int set_list))) pss_nil)
      (pss_one (ps_ret (pe_op op_mod (pe_callTy call_int1 (by rfl) B.int (by decide +kernel) (pa_cons (pv 3) pa_nil)) (pv 1))))))))), ?_⟩
    have L := hR.at_
    refine ⟨_, rfl, p, _, 3, .int c, rfl, rfl, lstAt L, rfl, c, 0, rfl, rfl, _, rfl, ite2 (fun e => ?_) (fun e => ?_)⟩
    · refine ⟨_, rfl, p, _, 3, .int c, rfl, rfl, lstAt L, rfl, .inl ⟨c, rfl, _, rfl, c, m, rfl, rfl, m0, ?_⟩⟩
      refine ⟨_, rfl, p, _, 3, .int c, rfl, rfl, lstAt L, rfl, _, rfl, c, m, rfl, rfl, ⟨m0, by omega⟩, _, rfl, p, _, 3, 3, rfl, rfl, L, rfl, ?_⟩
      exact ⟨_, rfl, q (c % m) _ (Int.emod_nonneg _ (by omega)) (Int.emod_lt_of_pos _ m0) (But.upd (But.refl p H)) (hR.put hR.pos).row⟩
    · refine ⟨_, rfl, p, _, 1, .int i, rfl, rfl, lstAt L, rfl, i, 1, rfl, rfl, _, rfl, p, _, 1, 1, rfl, rfl, L, rfl, ?_⟩
      have R1 : RowA K (upd H p (.lst [.ref a, .int (i + 1), .int r, .int c])) p a ns (i + 1) r c := hR.put (by have := hR.pos; omega)
      have L1 := R1.at_
      refine ⟨_, rfl, p, _, 1, .int (i + 1), rfl, rfl, lstAt L1, rfl, _, rfl, p, _, 0, .ref a, rfl, rfl, lstAt L1, rfl, a, _, rfl, .inl R1.scr, _, _, rfl, rfl, _, rfl, ite2 (fun e1 => ?_) (fun e1 => ?_)⟩
      · refine ⟨_, rfl, p, _, 2, .int r, rfl, rfl, lstAt L1, rfl, r, 48271, rfl, rfl, .inr ⟨by decide, by decide⟩, _, 11, rfl, rfl, .inl ⟨_, rfl, _, _, rfl, rfl, (by show (0 : Int) < 2147483647; decide), _, rfl, p, _, 2, 2, rfl, rfl, L1, rfl, ?_⟩⟩
        have R2 : RowA K (upd (upd H p (.lst [.ref a, .int (i + 1), .int r, .int c])) p (.lst [.ref a, .int (i + 1), .int ((r * 48271 + 11) % 2147483647), .int c])) p a ns (i + 1) ((r * 48271 + 11) % 2147483647) c := R1.put R1.pos
        refine ⟨_, rfl, p, _, 2, _, rfl, rfl, lstAt R2.at_, rfl, _, 7, rfl, rfl, ⟨by decide, by decide⟩, .inl ⟨_, rfl, _, rfl, _, m, rfl, rfl, m0, ?_⟩⟩
        exact q _ _ (Int.emod_nonneg _ (by omega)) (Int.emod_lt_of_pos _ m0) (But.upd (But.upd (But.refl p H))) R2.row
      · have hi : i < (ns.length : Int) := by
          rw [List.length_map] at e1
          have e9 : i + 1 ≤ (ns.length : Int) := by simpa using e1
          omega
        have hi0 := hR.pos
        obtain ⟨z, hz⟩ : ∃ z, ns[i.toNat]? = some z := ⟨ns[i.toNat]'(by omega), List.getElem?_eq_getElem (by omega)⟩
        refine ⟨_, rfl, p, _, 0, .ref a, rfl, rfl, lstAt L1, rfl, _, rfl, p, _, 1, .int (i + 1), rfl, rfl, lstAt L1, rfl, _, 1, rfl, rfl, a, _, i + 1 - 1, .int z, rfl, rfl, R1.scr, at_int (by omega) (at_map (by rw [show (i + 1 - 1).toNat = i.toNat by omega]; exact hz)), ?_⟩
        refine ⟨_, rfl, p, _, 2, .int r, rfl, rfl, lstAt L1, rfl, r, 48271, rfl, rfl, .inr ⟨by decide, by decide⟩, _, rfl, _, z, rfl, rfl, _, 11, rfl, rfl, .inl ⟨_, rfl, _, _, rfl, rfl, (by show (0 : Int) < 2147483647; decide), _, rfl, p, _, 2, 2, rfl, rfl, L1, rfl, ?_⟩⟩
        have R2 : RowA K (upd (upd H p (.lst [.ref a, .int (i + 1), .int r, .int c])) p (.lst [.ref a, .int (i + 1), .int ((r * 48271 + z + 11) % 2147483647), .int c])) p a ns (i + 1) ((r * 48271 + z + 11) % 2147483647) c := R1.put R1.pos
        refine ⟨_, rfl, 10, 18, rfl, rfl, ⟨by decide, by decide, by decide⟩, z, _, rfl, rfl, _, rfl, ite2 (fun e2 => ?_) (fun e2 => ?_)⟩
        · refine ⟨_, rfl, _, rfl, z, m, rfl, rfl, ⟨m0, by omega⟩, _, rfl, p, _, 3, 3, rfl, rfl, R2.at_, rfl, ?_⟩
          refine ⟨_, rfl, .inl ⟨z, rfl, _, rfl, z, m, rfl, rfl, m0, ?_⟩⟩
          exact q _ _ (Int.emod_nonneg _ (by omega)) (Int.emod_lt_of_pos _ m0) (But.upd (But.upd (But.upd (But.refl p H)))) (R2.put R2.pos).row
        · refine ⟨_, rfl, .inl ⟨z, rfl, _, rfl, z, m, rfl, rfl, m0, ?_⟩⟩
          exact q _ _ (Int.emod_nonneg _ (by omega)) (Int.emod_lt_of_pos _ m0) (But.upd (But.upd (But.refl p H))) R2.row
end
end RH
set_option Elab.async false
set_option linter.all false
set_option maxRecDepth 100000
set_option maxHeartbeats 2000000
namespace RH
open PySem PySem.Spec PyProof.Rows L2
theorem But.fresh {p l : Addr} {H H1 : Hp} {o : HO} (a : But p H H1) (e : H l = none) : But p H (L2.upd H1 l o) := fun c u h n => by
  rw [upd_ne (ne_of_none h e)]
  exact a c u h n
section
variable {P : Program} {w : World} {K : PySem.W.Frag} {mg : Str → Option Value} {base : Heap}
def spPick (K : PySem.W.Frag) : Sp := fun vs H Q _ => ∃ (p l : Addr) (xs : List V), vs = [.ref p, .ref l] ∧ Row K H p ∧ H l = some (.lst xs) ∧ l ≠ p ∧ 0 < xs.length ∧ xs.length ≤ 1000 ∧
  ∀ (i : Nat) x H', xs[i]? = some x → But p H H' → Row K H' p → Q x H'
theorem ok_pick (F : Df K mg "_law_pick" st__law_pick ["row", "things"]) (B : Bu mg) (CT : Cal P w K mg base 1 "_law_taken" (spTaken K)) : Cal P w K mg base 2 "_law_pick" (spPick K) := by
  refine mkCal F sc__law_pick (fun vs H Q E h => ?_) (fun f cdv A outer s H vs Q E hr h => ?_)
  · obtain ⟨p, l, xs, rfl, _⟩ := h
    rfl
  · obtain ⟨p, l, xs, rfl, hR, hl, hlp, l0, l1, q⟩ := h
    refine ⟨_, pss_one (ps_ret (pe_ix ix_list (pv 1) (pc CT hr (pa_cons (pv 0) (pa_cons (pe_callB (cl_len K) (by rfl) B.len PySem.boot_len (pa_cons (pv 1) pa_nil)) pa_nil))) (fun _ _ => rfl))), ?_⟩
    refine ⟨_, rfl, _, rfl, _, rfl, l, xs, rfl, .inl (lstAt hl), p, xs.length, rfl, hR, by omega, by omega, fun k H' k0 k1 hB hR' => ?_⟩
    have hk : k.toNat < xs.length := by omega
    exact ⟨l, xs, k, _, rfl, rfl, lstAt (hB _ _ hl hlp), at_int k0 (List.getElem?_eq_getElem hk), q _ _ H' (List.getElem?_eq_getElem hk) hB hR'⟩
end
end RH
set_option Elab.async false
set_option linter.all false
set_option maxRecDepth 100000
set_option maxHeartbeats 2000000
namespace RH
open PySem PySem.Spec PyProof.Rows L2
/-! ### _law_alike of equal data -/
theorem Dp.on {K : PySem.W.Frag} {H H' : Hp} (s : Same H H') : ∀ (d : PyData) (v : V), Dp K H v d → Dp K H' v d
  | d, v, h => by
    refine Dp.rec (motive_1 := fun v d _ => Dp K H' v d) (motive_2 := fun vs ds _ => DpAll K H' vs ds) .non .bl .int .str ?_ ?_ .nil ?_ h
    · intro a xs ds h1 _ h2
      exact .lst (s.seq h1) h2
    · intro a xs ds h1 _ h2
      exact .tup (onT s h1) h2
    · intro v vs d ds _ _ h1 h2
      exact .cons h1 h2
theorem DpAll.len {K : PySem.W.Frag} {H : Hp} : ∀ {vs : List V} {ds : List PyData}, DpAll K H vs ds → vs.length = ds.length
  | _, _, .nil => rfl
  | _, _, .cons _ t => congrArg (· + 1) (DpAll.len t)
theorem DpAll.of {K : PySem.W.Frag} {H : Hp} : ∀ {vs : List V} {ds : List PyData} {i : Nat} {d : PyData}, DpAll K H vs ds → ds[i]? = some d → ∃ v, vs[i]? = some v ∧ Dp K H v d
  | _, _, _, _, .nil, e => by simp at e
  | _, _, 0, _, .cons h _, e => by
    have e' := Option.some.inj e
    subst e'
    exact ⟨_, rfl, h⟩
  | _, _, i + 1, _, .cons _ t, e => DpAll.of (i := i) t e
def okD : Nat → PyData → Prop
  | 0, .none => True
  | 0, .bool _ => True
  | 0, .int _ => True
  | 0, .str _ => True
  | 0, _ => False
  | _ + 1, .none => True
  | _ + 1, .bool _ => True
  | _ + 1, .int _ => True
  | _ + 1, .str _ => True
  | k + 1, .list ds => ds.length ≤ 1000 ∧ ∀ d ∈ ds, okD k d
  | k + 1, .tuple ds => ds.length ≤ 1000 ∧ ∀ d ∈ ds, okD k d
  | _ + 1, .dict _ => False
theorem kit2 {K : PySem.W.Frag} {t : String} {b1 b2 : Bool} (h1 : kitB t "tuple" = some b1) (h2 : kitB t "list" = some b2) : PySem.W.kitAny K (.type t) [.type "tuple", .type "list"] = some (b1 || b2) := by
  cases b1 with
  | true => exact kitAny_cons (kit_ty h1) (fun z => nomatch z) (fun _ => rfl)
  | false =>
    cases b2 with
    | true => exact kitAny_cons (kit_ty h1) (fun _ => kitAny_cons (kit_ty h2) (fun z => nomatch z) (fun _ => rfl)) (fun z => nomatch z)
    | false => exact kitAny_cons (kit_ty h1) (fun _ => kitAny_cons (kit_ty h2) (fun _ => kitAny_nil) (fun z => nomatch z)) (fun z => nomatch z)
theorem cls2 : Paired ClsV [V.ty "tuple", V.ty "list"] [Value.type "tuple", Value.type "list"] := .cons (.ty _) (.cons (.ty _) .nil)
theorem ixS {X : Cx} (K : PySem.W.Frag) (h : X.K = K := by rfl) : IxR X (rIx K) := by
  subst h
  exact ix_seq
/-- a list or a tuple -/
structure Sq2 (K : PySem.W.Frag) (H : Hp) (a : Addr) (xs : List V) (T : String) (b : Bool) : Prop where
  ty : TyX K H (.ref a) (.type T)
  sq : SqL K H a xs ∨ SqT K H a xs
  k1 : PySem.W.kitAny K (.type T) [.type "tuple", .type "list"] = some true
  k2 : PySem.W.kitOne K (.type T) (.type "list") = some b
  ix : ∀ (i : Nat) (x : V) (Q : VK), xs[i]? = some x → Q x H → rIx K (.ref a) (.int (i : Int)) H Q
theorem sq2T {K : PySem.W.Frag} {H : Hp} {a : Addr} {xs : List V} (h : SqT K H a xs) : Sq2 K H a xs "tuple" false :=
  ⟨ty_tup h, .inr h, kit2 (b1 := true) (b2 := false) (by decide +kernel) (by decide +kernel), kit_ty (by decide +kernel), fun i x Q e q => .inr (.inl ⟨a, xs, i, x, rfl, rfl, h, atI_nat e, q⟩)⟩
theorem ty_lst {K : PySem.W.Frag} {H : Hp} {a : Addr} {xs : List V} (h : SqL K H a xs) : TyX K H (.ref a) (.type "list") := by
  rcases h with (h | ⟨o, h⟩) | ⟨o, vz, n, h, c, _⟩
  · exact .base (.lst h)
  · exact .base (.frz h)
  · exact .kList h c
theorem sq2L {K : PySem.W.Frag} {H : Hp} {a : Addr} {xs : List V} (h : SqL K H a xs) : Sq2 K H a xs "list" true :=
  ⟨ty_lst h, .inl h, kit2 (b1 := false) (b2 := true) (by decide +kernel) (by decide +kernel), kit_ty (by decide +kernel), fun i x Q e q => .inl ⟨a, xs, i, x, rfl, rfl, h, atI_nat e, q⟩⟩
theorem pss_no {X : Cx} {sts : List Stmt} : PSs X sts (fun _ _ _ => False) := ⟨fun _ _ _ _ _ _ h => h.elim⟩
section
variable {P : Program} {w : World} {K : PySem.W.Frag} {mg : Str → Option Value} {base : Heap}
def spAlike (K : PySem.W.Frag) (k : Nat) : Sp := fun vs H Q _ => ∃ (v u : V) (d : PyData), vs = [v, u] ∧ Dp K H v d ∧ Dp K H u d ∧ okD k d ∧ ∀ H', Same H H' → Q (.bl true) H'
theorem ok_alike0 (F : Df K mg "_law_alike" st__law_alike ["found", "due"]) (B : Bu mg) : Cal P w K mg base 1 "_law_alike" (spAlike K 0) := by
  refine mkCal F sc__law_alike (fun vs H Q E h => ?_) (fun f cdv A outer s H vs Q E hr h => ?_)
  · obtain ⟨v, u, d, rfl, _⟩ := h
    rfl
  · obtain ⟨v, u, d, rfl, hv, hu, hk, q⟩ := h
    refine ⟨_, pss_cons (ps_if (pt_val (pe_callB call_isiT (by rfl) B.isi (by decide +kernel) (pa_cons (pv 1) (pa_cons (pe_tup (pa_cons (pe_bltn (v := .ty "tuple") (by rfl) B.tuple (by decide +kernel) rfl) (pa_cons (pe_bltn (v := .ty "list") (by rfl) B.list (by decide +kernel) rfl) pa_nil))) pa_nil)))) pss_no pss_nil)
      (pss_cons (ps_if (PW.pt (pw_or (pt_cmp (pc_isN (pv 1))) (pw_or1 (pt_val (pe_callB call_isi (by rfl) B.isi (by decide +kernel) (pa_cons (pv 1) (pa_cons (pe_bltn (v := .ty "str") (by rfl) B.str (by decide +kernel) rfl) pa_nil)))))))
        (pss_one (ps_ret (pe_and (pe_cmpR op_eq (pv 0) (pv 1) (nomark _)) (pe_one (pe_cmpR op_eq (pe_callB call_isi (by rfl) B.isi (by decide +kernel) (pa_cons (pv 0) (pa_cons (pe_bltn (v := .ty "str") (by rfl) B.str (by decide +kernel) rfl) pa_nil)))
          (pe_callB call_isi (by rfl) B.isi (by decide +kernel) (pa_cons (pv 1) (pa_cons (pe_bltn (v := .ty "str") (by rfl) B.str (by decide +kernel) rfl) pa_nil))) (nomark _)))))) pss_nil)
      (pss_one (ps_ret (pe_and (pe_callB call_isi (by rfl) B.isi (by decide +kernel) (pa_cons (pv 0) (pa_cons (pe_bltn (v := .ty "int") (by rfl) B.int (by decide +kernel) rfl) pa_nil)))
        (pe_and (pe_cmpR op_eq (pe_callB call_isi (by rfl) B.isi (by decide +kernel) (pa_cons (pv 0) (pa_cons (pe_bltn (v := .ty "bool") (by rfl) B.bool (by decide +kernel) rfl) pa_nil)))
          (pe_callB call_isi (by rfl) B.isi (by decide +kernel) (pa_cons (pv 1) (pa_cons (pe_bltn (v := .ty "bool") (by rfl) B.bool (by decide +kernel) rfl) pa_nil))) (nomark _)) (pe_one (pe_cmpR op_eq (pv 0) (pv 1) (nomark _)))))))), ?_⟩
    cases hv with
    | non =>
      cases hu
      refine ⟨_, rfl, (by show 2 ≤ sizeLine; decide), fun t ht => ⟨.non, t, _, _, _, false, rfl, upd_same, cls2, .base .non, kit2 (b1 := false) (b2 := false) (by decide +kernel) (by decide +kernel), _, rfl, ifF rfl ?_⟩⟩
      refine ⟨_, rfl, _, rfl, ifT (decide_eq_true rfl) (ifT rfl ?_)⟩
      exact ⟨_, rfl, _, rfl, rfl, _, rfl, ifT (decide_eq_true rfl) ⟨_, rfl, .non, .ty "str", _, _, false, rfl, .ty "str", .base .non, kit_ty (by decide +kernel), _, rfl, .non, .ty "str", _, _, false, rfl, .ty "str", .base .non, kit_ty (by decide +kernel), rfl, q _ (same_new ht)⟩⟩
    | bl b =>
      cases hu
      refine ⟨_, rfl, (by show 2 ≤ sizeLine; decide), fun t ht => ⟨.bl b, t, _, _, _, false, rfl, upd_same, cls2, .base (.bl b), kit2 (b1 := false) (b2 := false) (by decide +kernel) (by decide +kernel), _, rfl, ifF rfl ?_⟩⟩
      refine ⟨_, rfl, _, rfl, ifF (decide_eq_false (fun z => nomatch z)) ⟨_, rfl, .bl b, .ty "str", _, _, false, rfl, .ty "str", .base (.bl b), kit_ty (by decide +kernel), _, rfl, ifF rfl ?_⟩⟩
      refine ⟨_, rfl, .bl b, .ty "int", _, _, true, rfl, .ty "int", .base (.bl b), kit_ty (by decide +kernel), _, rfl, ifT rfl ?_⟩
      refine ⟨_, rfl, .bl b, .ty "bool", _, _, true, rfl, .ty "bool", .base (.bl b), kit_ty (by decide +kernel), _, rfl, .bl b, .ty "bool", _, _, true, rfl, .ty "bool", .base (.bl b), kit_ty (by decide +kernel), rfl, _, rfl, ifT (decide_eq_true rfl) ?_⟩
      refine ⟨_, rfl, _, rfl, rfl, ?_⟩
      rw [decide_eq_true (rfl : V.bl b = V.bl b)]
      exact q _ (same_new ht)
    | int i =>
      cases hu
      refine ⟨_, rfl, (by show 2 ≤ sizeLine; decide), fun t ht => ⟨.int i, t, _, _, _, false, rfl, upd_same, cls2, .base (.int i), kit2 (b1 := false) (b2 := false) (by decide +kernel) (by decide +kernel), _, rfl, ifF rfl ?_⟩⟩
      refine ⟨_, rfl, _, rfl, ifF (decide_eq_false (fun z => nomatch z)) ⟨_, rfl, .int i, .ty "str", _, _, false, rfl, .ty "str", .base (.int i), kit_ty (by decide +kernel), _, rfl, ifF rfl ?_⟩⟩
      refine ⟨_, rfl, .int i, .ty "int", _, _, true, rfl, .ty "int", .base (.int i), kit_ty (by decide +kernel), _, rfl, ifT rfl ?_⟩
      refine ⟨_, rfl, .int i, .ty "bool", _, _, false, rfl, .ty "bool", .base (.int i), kit_ty (by decide +kernel), _, rfl, .int i, .ty "bool", _, _, false, rfl, .ty "bool", .base (.int i), kit_ty (by decide +kernel), rfl, _, rfl, ifT (decide_eq_true rfl) ?_⟩
      refine ⟨_, rfl, _, rfl, rfl, ?_⟩
      rw [decide_eq_true (rfl : V.int i = V.int i)]
      exact q _ (same_new ht)
    | str x =>
      cases hu
      refine ⟨_, rfl, (by show 2 ≤ sizeLine; decide), fun t ht => ⟨.str x, t, _, _, _, false, rfl, upd_same, cls2, .base (.str x), kit2 (b1 := false) (b2 := false) (by decide +kernel) (by decide +kernel), _, rfl, ifF rfl ?_⟩⟩
      refine ⟨_, rfl, _, rfl, ifF (decide_eq_false (fun z => nomatch z)) ⟨_, rfl, .str x, .ty "str", _, _, true, rfl, .ty "str", .base (.str x), kit_ty (by decide +kernel), _, rfl, ifT rfl ?_⟩⟩
      exact ⟨_, rfl, _, rfl, rfl, _, rfl, ifT (decide_eq_true rfl) ⟨_, rfl, .str x, .ty "str", _, _, true, rfl, .ty "str", .base (.str x), kit_ty (by decide +kernel), _, rfl, .str x, .ty "str", _, _, true, rfl, .ty "str", .base (.str x), kit_ty (by decide +kernel), rfl, q _ (same_new ht)⟩⟩
    | lst _ _ => exact hk.elim
    | tup _ _ => exact hk.elim
end
end RH
set_option Elab.async false
set_option linter.all false
set_option maxRecDepth 100000
set_option maxHeartbeats 2000000
namespace RH
open PySem PySem.Spec PyProof.Rows L2
/-- the permutations found so far -/
def HI (K : PySem.W.Frag) (p g : Addr) (H : Hp) (n i : Nat) (H' : Hp) : Prop := ∃ (xs : List V) (hs : List (List Int)), But p H H' ∧ Row K H' p ∧ H' g = some (.lst xs) ∧ Each (TI K H') xs hs ∧ hs.length = i ∧ ∀ ns ∈ hs, ns.Perm (rg n)
theorem HI.step {K : PySem.W.Frag} {p g : Addr} {H H1 H5 : Hp} {n i : Nat} (h : HI K p g H n i H1) (hg : H g = none) (hpg : p ≠ g) (b : But p H1 H5) (r : Row K H5 p) :
    ∃ xs, H5 g = some (.lst xs) ∧ xs.length = i ∧ ∀ (q : Addr) (ns : List Int) (H6 : Hp), Same H5 H6 → SqT K H6 q (ns.map V.int) → ns.Perm (rg n) → HI K p g H n (i + 1) (upd H6 g (.lst (xs ++ [.ref q]))) := by
  obtain ⟨xs, hs, hB, hR, e, hE, hl, hp⟩ := h
  have e5 := b _ _ e (Ne.symm hpg)
  refine ⟨xs, e5, hE.len.trans hl, fun q ns H6 s6 hq hpm => ⟨xs ++ [.ref q], hs ++ [ns], ?_, ?_, upd_same, ?_, ?_, ?_⟩⟩
  · exact ((hB.trans b).trans (But.same s6)).fresh hg
  · exact (r.same s6).lst_upd (s6 _ _ e5) hpg
  · have f1 : Fix H1 (upd H6 g (.lst (xs ++ [.ref q]))) := (hR.fix b).trans ((Fix.same s6).trans (Fix.lst (s6 _ _ e5)))
    exact Each.snoc ⟨q, rfl, Fix.tups (Fix.lst (s6 _ _ e5)) _ _ hq⟩ (hE.imp fun _ _ z => z.on f1.tups)
  · rw [List.length_append, hl]
    rfl
  · intro ns' hm
    rcases List.mem_append.mp hm with h1 | h1
    · exact hp _ h1
    · rw [List.mem_singleton.mp h1]
      exact hpm
end RH
set_option Elab.async false
set_option linter.all false
set_option maxRecDepth 100000
set_option maxHeartbeats 2000000
namespace RH
open PySem PySem.Spec PyProof.Rows L2
/-! ### defs that may raise; checks of values of many kinds -/
structure CalX (P : Program) (w : World) (K : PySem.W.Frag) (mg : Str → Option Value) (base : Heap) (k : Nat) (x : Str) (sp : Sp) : Prop where
  ex : ∃ (f : Addr) (fd : FuncData) (ps : List Str), FnOk P w K mg base (L2.CX P w) k f fd ps sp ∧ mg x = some (.ref f) ∧ PySem.W.keepIn K (.ref f) = true ∧ Binds K fd ps []
/-- an own error without an __init__ -/
structure ExO (K : PySem.W.Frag) (mg : Str → Option Value) (x : Str) (C : Addr) : Prop where
  q : PySem.W.excIn K C [.type "ValueError", .type "Exception", .type "BaseException", .type "object"] "ValueError.__new__" = true
  g : mg x = some (.ref C)
  k : PySem.W.keepIn K (.ref C) = true
  b : PySem.W.subIn K (.ref C) (.type "BaseException") = some true
  t : PySem.W.typeIn K (.ref C) = some (.type "type")
section
variable {P : Program} {w : World} {K : PySem.W.Frag} {mg : Str → Option Value} {base : Heap}
theorem mkCalX {x : Str} {st : Stmt} {N ps : List Str} {k : Nat} {sp : Sp} (F : Df K mg x st ps) (S : FnScope N ps (defScope st)) (len : ∀ vs H Q E, sp vs H Q E → vs.length = ps.length)
    (hbody : ∀ (f : Addr) (cdv : Value) (A : Around) (outer : List Env) (s : Shared) (H : Hp) (vs : List V) (Q : VK) (E : XK), Room k (A.deeper (envOfC x (defScope st) s.heap.objs.size f cdv)) → sp vs H Q E →
      ∃ t, PSs (cxOf (L2.CX P w) P w K mg base N x (defScope st) f cdv A outer s H E) (defBody st) t ∧ t { nx := fun _ H' => Q .non H', rt := Q } (start N vs) H) : CalX P w K mg base (k + 1) x sp := by
  obtain ⟨f, fd, F, g, b⟩ := F.ex
  exact ⟨f, fd, ps, F.okX S len (hbody f), g, F.kp, b⟩
end
theorem pcX {X : Cx} {k j : Nat} {x : Str} {sp : Sp} {E : XK} {p pos : Pos} {e : Expr} {es : List Expr} {t : TA} (c : CalX X.prog X.w X.K X.mg X.base k x sp) (hx : Passes (L2.CX X.prog X.w) X E) (hr : Room j X.A) (ha : PA X (e :: es) t) (hk : k ≤ j := by decide) (hg : Gl X x := by rfl)
    (hdb : (x == ("__debug__" : Str)) = false := by decide) (he : starEach (e :: es) X.env = (false, eval e X.env) :: starEach es X.env := by rfl) (hpl : (backTo pos (starEach es X.env)).any (·.1) = false := by rfl) :
    PE X (.Call (.Name x p) (e :: es) [] pos) (tCall sp [] E t) := by
  obtain ⟨f, fd, ps, F, hm, kp, b⟩ := c.ex
  exact pe_call F (hr.mono hk) hg hm kp b .nil hx ha hdb he hpl
/-- a value of any kind -/
inductive Sw (K : PySem.W.Frag) (H : Hp) : V → Prop
  | int (i : Int) : Sw K H (.int i)
  | bl (b : Bool) : Sw K H (.bl b)
  | non : Sw K H .non
  | str (s : Str) : Sw K H (.str s)
  | tup {a : Addr} {xs : List V} : SqT K H a xs → Sw K H (.ref a)
  | lst {a : Addr} {xs : List V} : SqL K H a xs → Sw K H (.ref a)
def isI : V → Bool
  | .int _ => true
  | _ => false
def inV2 (lo hi : Int) : V → Bool
  | .int i => decide (lo ≤ i) && decide (i ≤ hi)
  | _ => false
section
variable {P : Program} {w : World} {K : PySem.W.Frag} {mg : Str → Option Value} {base : Heap}
theorem Sw.on {H H' : Hp} {v : V} (e : Same H H') (h : Sw K H v) : Sw K H' v := by
  cases h with
  | int i => exact .int i
  | bl b => exact .bl b
  | non => exact .non
  | str s => exact .str s
  | tup h => exact .tup (onT e h)
  | lst h => exact .lst (e.seq h)
def spIsIntegerW (K : PySem.W.Frag) : Sp := fun vs H Q _ => ∃ v, vs = [v] ∧ Sw K H v ∧ Q (.bl (isI v)) H
theorem ok_is_integerW (F : Df K mg "is_integer" st_is_integer ["value"]) (B : Bu mg) : Cal P w K mg base 1 "is_integer" (spIsIntegerW K) := by
  refine mkCal F sc_is_integer (fun vs H Q E h => ?_) (fun f cdv A outer s H vs Q E hr h => ?_)
  · obtain ⟨v, rfl, _⟩ := h
    rfl
  · obtain ⟨v, rfl, hv, q⟩ := h
    refine ⟨_, pss_one (ps_ret (pe_and (pe_callB call_isi (by rfl) B.isi (by decide +kernel) (pa_cons (pv 0) (pa_cons (pe_bltn (v := .ty "int") (by rfl) B.int (by decide +kernel) rfl) pa_nil)))
      (pe_one (pe_not (pe_callB call_isi (by rfl) B.isi (by decide +kernel) (pa_cons (pv 0) (pa_cons (pe_bltn (v := .ty "bool") (by rfl) B.bool (by decide +kernel) rfl) pa_nil))))))), ?_⟩
    cases hv with
    | int i => exact ⟨_, rfl, .int i, .ty "int", _, _, true, rfl, .ty "int", .base (.int i), kit_ty (by decide +kernel), true, rfl, _, rfl, .int i, .ty "bool", _, _, false, rfl, .ty "bool", .base (.int i), kit_ty (by decide +kernel), false, rfl, q⟩
    | bl b => exact ⟨_, rfl, .bl b, .ty "int", _, _, true, rfl, .ty "int", .base (.bl b), kit_ty (by decide +kernel), true, rfl, _, rfl, .bl b, .ty "bool", _, _, true, rfl, .ty "bool", .base (.bl b), kit_ty (by decide +kernel), true, rfl, q⟩
    | non => exact ⟨_, rfl, .non, .ty "int", _, _, false, rfl, .ty "int", .base .non, kit_ty (by decide +kernel), false, rfl, q⟩
    | str z => exact ⟨_, rfl, .str z, .ty "int", _, _, false, rfl, .ty "int", .base (.str z), kit_ty (by decide +kernel), false, rfl, q⟩
    | @tup a xs h => exact ⟨_, rfl, .ref a, .ty "int", _, _, false, rfl, .ty "int", ty_tup h, kit_ty (by decide +kernel), false, rfl, q⟩
    | @lst a xs h => exact ⟨_, rfl, .ref a, .ty "int", _, _, false, rfl, .ty "int", ty_lst h, kit_ty (by decide +kernel), false, rfl, q⟩
def spIsNumberW (K : PySem.W.Frag) : Sp := fun vs H Q _ => ∃ (v : V) (lo hi : Int), vs = [v, .int lo, .int hi] ∧ Sw K H v ∧ Q (.bl (inV2 lo hi v)) H
theorem inV2_no {lo hi : Int} {v : V} (h : isI v = false) : inV2 lo hi v = false := by
  cases v <;> first | rfl | (cases h)
theorem isI_yes {v : V} (h : isI v = true) : ∃ i, v = .int i := by
  cases v <;> first | exact ⟨_, rfl⟩ | (cases h)
theorem ok_is_numberW (F : Df K mg "is_number" st_is_number ["value", "low", "high"]) (C1 : Cal P w K mg base 1 "is_integer" (spIsIntegerW K)) : Cal P w K mg base 2 "is_number" (spIsNumberW K) := by
  refine mkCal F sc_is_number (fun vs H Q E h => ?_) (fun f cdv A outer s H vs Q E hr h => ?_)
  · obtain ⟨v, lo, hi, rfl, _⟩ := h
    rfl
  · obtain ⟨v, lo, hi, rfl, hv, q⟩ := h
    refine ⟨_, pss_one (ps_ret (pe_and (pc C1 hr (pa_cons (pv 0) pa_nil)) (pe_one (pe_chain op_le op_le (pv 1) (pv 0) (pv 2))))), ?_⟩
    refine ⟨_, rfl, v, rfl, hv, ?_⟩
    cases ei : isI v with
    | true =>
      obtain ⟨i, rfl⟩ := isI_yes ei
      refine ⟨true, rfl, _, rfl, _, rfl, lo, i, rfl, rfl, _, rfl, ite2 (fun e => ?_) (fun e => ?_)⟩
      · refine ⟨_, rfl, i, hi, rfl, rfl, ?_⟩
        have q : Q (.bl (decide (lo ≤ i) && decide (i ≤ hi))) H := q
        rw [e, Bool.true_and] at q
        exact q
      · have e' : decide (lo ≤ i) = false := by simpa using e
        have q : Q (.bl (decide (lo ≤ i) && decide (i ≤ hi))) H := q
        rw [e', Bool.false_and] at q
        exact q
    | false =>
      rw [inV2_no ei] at q
      exact ⟨false, rfl, q⟩
def spIsPlaceW (K : PySem.W.Frag) : Sp := fun vs H Q _ => ∃ (v : V) (p : Int), vs = [v, .int p] ∧ Sw K H v ∧ Q (.bl (inV2 0 (p - 1) v)) H
theorem ok_is_placeW (F : Df K mg "is_place" st_is_place ["value", "places"]) (C2 : Cal P w K mg base 2 "is_number" (spIsNumberW K)) : Cal P w K mg base 3 "is_place" (spIsPlaceW K) := by
  refine mkCal F sc_is_place (fun vs H Q E h => ?_) (fun f cdv A outer s H vs Q E hr h => ?_)
  · obtain ⟨v, p, rfl, _⟩ := h
    rfl
  · obtain ⟨v, p, rfl, hv, q⟩ := h
    refine ⟨_, pss_one (ps_ret (pc C2 hr (pa_cons (pv 0) (pa_cons pe_int (pa_cons (pe_op op_sub (pv 1) pe_int) pa_nil))))), ?_⟩
    exact ⟨_, rfl, _, rfl, p, 1, rfl, rfl, v, 0, p - 1, rfl, hv, q⟩
end
end RH
set_option Elab.async false
set_option linter.all false
set_option maxRecDepth 100000
set_option maxHeartbeats 2000000
namespace RH
open PySem PySem.Spec PyProof.Rows L2
open NdefX (NScope NF CellsAt startF ncx envF)
/-! ### errors that keep something -/
/-- a class of errors that can be made -/
structure BhX (P : Program) (w : World) (K : PySem.W.Frag) (mg : Str → Option Value) (base : Heap) (cls fld : Str) (C : Addr) (sp : Sp) : Prop where
  t : OexC K C
  g : mg cls = some (.ref C)
  f : ∃ (f : Addr) (fd : FuncData), FnOk P w K mg base CX0 1 f fd ["self", fld] sp ∧ PySem.W.findIn K (.ref C) "__init__" = some (some (.ref f)) ∧ PySem.W.typeIn K (.ref f) = some (.type "function") ∧ Binds K fd ["self", fld] []
/-- what an error keeps: none, or a small number -/
def plV (v : V) : Prop := v = .non ∨ ∃ i : Nat, i < 16 ∧ v = .int (i : Int)
def spBI (fld : Str) (C : Addr) : Sp := fun vs H Q _ => ∃ (a : Addr) (v : V), vs = [.ref a, v] ∧ plV v ∧ H a = some (exo a C none) ∧ ∀ d, H d = none → d ≠ a → Q .non (upd (upd H d (exd d [(fld, v)])) a (exo a C (some d)))
theorem few_of {i : Nat} (h : i < 16) : i = 0 ∨ i = 1 ∨ i = 2 ∨ i = 3 ∨ i = 4 ∨ i = 5 ∨ i = 6 ∨ i = 7 ∨ i = 8 ∨ i = 9 ∨ i = 10 ∨ i = 11 ∨ i = 12 ∨ i = 13 ∨ i = 14 ∨ i = 15 := by omega
theorem fmt_few {i : Nat} (h : i < 16) : ((i : Nat) : Int).natAbs.log2 < 1920 := by
  rcases few_of h with rfl | rfl | rfl | rfl | rfl | rfl | rfl | rfl | rfl | rfl | rfl | rfl | rfl | rfl | rfl | rfl <;> decide +kernel
/-- an error that keeps pl comes -/
def bhE (C : Addr) (fn : Str) (pl : V) (H : Hp) (E : XK) : Prop := ∀ d H', Same H H' → H' d = some (.xd [(fn, pl)]) → E (.ref C) (some d) H'
/-- an error without more comes -/
def noE (C : Addr) (H : Hp) (E : XK) : Prop := ∀ H', Same H H' → E (.ref C) none H'
theorem bhE.on {C : Addr} {fn : Str} {pl : V} {H H' : Hp} {E : XK} (h : bhE C fn pl H E) (s : Same H H') : bhE C fn pl H' E := fun d H2 s2 => h d H2 (s.trans s2)
theorem noE.on {C : Addr} {H H' : Hp} {E : XK} (h : noE C H E) (s : Same H H') : noE C H' E := fun H2 s2 => h H2 (s.trans s2)
section
variable {P : Program} {w : World} {K : PySem.W.Frag} {mg : Str → Option Value} {base : Heap}
theorem ok_BadProgram {C f cc cda : Addr} {fd : FuncData} (M : SupC P K mg C "BadProgram.__init__" st_e_BadProgram f fd cc cda) (hno : PySem.W.findIn K (.ref C) "index" = some none) : FnOk P w K mg base CX0 1 f fd ["self", "index"] (spBI "index" C) := by
  refine fn_super (self := "self") M sc_e_BadProgram rfl rfl rfl (by decide +kernel) rfl (fun vs H Q E h => ?_) (fun A outer s H vs Q E hr h => ?_)
  · obtain ⟨a, v, rfl, _⟩ := h
    rfl
  · obtain ⟨a, v, rfl, hv, ha, q⟩ := h
    refine ⟨a, _, _, rfl, ha, pa_cons (pe_joined (.cons pe_str (.cons (pe_fmtN (pv 1)) .nil))) pa_nil, pss_one (ps_ost (pv 0) (pv 1)), ?_⟩
    have go : ∀ H1, H1 = H → ([V.str "x"] : List V).length ≤ 1000 ∧ H1 a = some (exo a C none) ∧ tOst K "index" (tVar 0) (tVar 1) { nx := fun _ H' => Q .non H', rt := Q } [some (.ref a), some v, some (.ref C)] H1 := fun H1 e => by
      subst e
      exact ⟨by decide, ha, _, rfl, _, rfl, a, C, rfl, M.t, hno, .inl ⟨ha, fun dx n ne => q dx n ne⟩⟩
    rcases hv with rfl | ⟨i, hi, rfl⟩
    · refine ⟨_, rfl, ?_, _, rfl, .inl ⟨rfl, _, rfl, ?_, go _ rfl⟩⟩
      · rw [sizeLine_eq]; decide +kernel
      · rw [sizeLine_eq]; decide +kernel
    · refine ⟨_, rfl, ?_, _, rfl, .inr ⟨(i : Int), rfl, fmt_few hi, _, rfl, ?_, go _ rfl⟩⟩
      · rw [sizeLine_eq]; decide +kernel
      · rw [sizeLine_eq]
        rcases few_of hi with rfl | rfl | rfl | rfl | rfl | rfl | rfl | rfl | rfl | rfl | rfl | rfl | rfl | rfl | rfl | rfl <;> decide +kernel
/-- the error is made: its dict stands at d -/
theorem bh_made {C : Addr} {fn : Str} {v : V} {H1 : Hp} {Q : XK} (hv : plV v) (q : ∀ d, H1 d = none → Q (.ref C) (some d) (upd H1 d (.xd [(fn, v)]))) :
    ([v] : List V).length ≤ 1000 ∧ ∀ a, H1 a = none → spBI fn C (.ref a :: ([v] ++ [])) (upd H1 a (exo a C none)) (fun u H2 => u = .non ∧ ∃ (d : Addr) (fs : List (Str × V)), H2 a = some (exo a C (some d)) ∧ H2 d = some (exd d fs) ∧ H1 d = none ∧ Q (.ref C) (some d) (upd (del H2 a) d (.xd fs))) (fun _ _ _ => False) := by
  refine ⟨by show 1 ≤ 1000; decide, fun a ha => ⟨a, v, rfl, hv, upd_same, fun d hd ne => ⟨rfl, d, [(fn, v)], upd_same, ?_, ?_, ?_⟩⟩⟩
  · rw [upd_ne ne, upd_same]
  · rw [upd_ne ne] at hd
    exact hd
  · have hd' : H1 d = none := by
      rw [upd_ne ne] at hd
      exact hd
    have e : upd (del (upd (upd (upd H1 a (exo a C none)) d (exd d [(fn, v)])) a (exo a C (some d))) a) d (.xd [(fn, v)]) = upd H1 d (.xd [(fn, v)]) := by
      funext b
      by_cases hb : b = d
      · rw [hb, upd_same, upd_same]
      · rw [upd_ne hb, upd_ne hb]
        by_cases hba : b = a
        · rw [hba, del_same, ha]
        · rw [del_ne hba, upd_ne hba, upd_ne hb, upd_ne hba]
    rw [e]
    exact q d hd'
end
end RH
set_option Elab.async false
set_option linter.all false
set_option maxRecDepth 100000
set_option maxHeartbeats 2000000
namespace RH
open PySem PySem.Spec PyProof.Rows L2
/-! ### the checks, for values of whatever kind -/
/-- a value: a tuple of values, or what is none -/
inductive Tk (K : PySem.W.Frag) (H : Hp) : V → Option (List V) → Prop
  | tup {a : Addr} {xs : List V} : SqT K H a xs → Tk K H (.ref a) (some xs)
  | lst {a : Addr} {xs : List V} : SqL K H a xs → Tk K H (.ref a) none
  | dct {a : Addr} {kvs : List (L2.Key × V)} : H a = some (.dK kvs) → Tk K H (.ref a) none
  | int (i : Int) : Tk K H (.int i) none
  | bl (b : Bool) : Tk K H (.bl b) none
  | non : Tk K H .non none
  | str (z : Str) : Tk K H (.str z) none
theorem Tk.on {K : PySem.W.Frag} {H H' : Hp} (e : Same H H') {v : V} {wo : Option (List V)} (h : Tk K H v wo) : Tk K H' v wo := by
  cases h with
  | tup h => exact .tup (onT e h)
  | lst h => exact .lst (e.seq h)
  | dct h => exact .dct (e _ _ h)
  | int i => exact .int i
  | bl b => exact .bl b
  | non => exact .non
  | str z => exact .str z
/-- .. of values -/
structure Wd (K : PySem.W.Frag) (H : Hp) (v : V) (wo : Option (List V)) : Prop where
  t : Tk K H v wo
  s : ∀ xs, wo = some xs → ∀ x ∈ xs, Sw K H x
  l : ∀ xs, wo = some xs → xs.length < 64
theorem Wd.on {K : PySem.W.Frag} {H H' : Hp} (e : Same H H') {v : V} {wo : Option (List V)} (h : Wd K H v wo) : Wd K H' v wo := ⟨h.t.on e, fun xs z x hm => (h.s xs z x hm).on e, h.l⟩
def rowW (lo hi : Int) : Option (List V) → Bool
  | some xs => decide (lo ≤ (xs.length : Int)) && decide ((xs.length : Int) ≤ hi)
  | none => false
section
variable {P : Program} {w : World} {K : PySem.W.Frag} {mg : Str → Option Value} {base : Heap}
def spIsRowW (K : PySem.W.Frag) : Sp := fun vs H Q _ => ∃ (v : V) (wo : Option (List V)) (lo hi : Int), vs = [v, .int lo, .int hi] ∧ Tk K H v wo ∧ Q (.bl (rowW lo hi wo)) H
theorem ok_is_rowW (F : Df K mg "is_row" st_is_row ["value", "low", "high"]) (B : Bu mg) : Cal P w K mg base 1 "is_row" (spIsRowW K) := by
  refine mkCal F sc_is_row (fun vs H Q E h => ?_) (fun f cdv A outer s H vs Q E hr h => ?_)
  · obtain ⟨v, ro, lo, hi, rfl, _⟩ := h
    rfl
  · obtain ⟨v, ro, lo, hi, rfl, hk, q⟩ := h
    refine ⟨_, pss_one (ps_ret (pe_and (pe_callB call_isi (by rfl) B.isi (by decide +kernel) (pa_cons (pv 0) (pa_cons (pe_bltn (v := .ty "tuple") (by rfl) B.tuple (by decide +kernel) rfl) pa_nil)))
      (pe_one (pe_chain op_le op_le (pv 1) (pe_callB call_len_seq (by rfl) B.len PySem.boot_len (pa_cons (pv 0) pa_nil)) (pv 2))))), ?_⟩
    cases hk with
    | int i => exact ⟨_, rfl, .int i, .ty "tuple", _, _, false, rfl, .ty "tuple", .base (.int i), kit_ty (by decide +kernel), false, rfl, q⟩
    | bl b => exact ⟨_, rfl, .bl b, .ty "tuple", _, _, false, rfl, .ty "tuple", .base (.bl b), kit_ty (by decide +kernel), false, rfl, q⟩
    | non => exact ⟨_, rfl, .non, .ty "tuple", _, _, false, rfl, .ty "tuple", .base .non, kit_ty (by decide +kernel), false, rfl, q⟩
    | str z => exact ⟨_, rfl, .str z, .ty "tuple", _, _, false, rfl, .ty "tuple", .base (.str z), kit_ty (by decide +kernel), false, rfl, q⟩
    | @lst a xs hS => exact ⟨_, rfl, .ref a, .ty "tuple", _, _, false, rfl, .ty "tuple", ty_lst hS, kit_ty (by decide +kernel), false, rfl, q⟩
    | @dct a kvs e => exact ⟨_, rfl, .ref a, .ty "tuple", _, _, false, rfl, .ty "tuple", .base (.dK e), kit_ty (by decide +kernel), false, rfl, q⟩
    | @tup a xs hS =>
      refine ⟨_, rfl, .ref a, .ty "tuple", _, _, true, rfl, .ty "tuple", ty_tup hS, kit_ty (by decide +kernel), true, rfl, _, rfl, _, rfl, a, xs, rfl, .inr hS, lo, (xs.length : Int), rfl, rfl, _, rfl, ite2 (fun e => ?_) (fun e => ?_)⟩
      · refine ⟨_, rfl, _, hi, rfl, rfl, ?_⟩
        have q : Q (.bl (decide (lo ≤ (xs.length : Int)) && decide ((xs.length : Int) ≤ hi))) H := q
        rw [e, Bool.true_and] at q
        exact q
      · have e' : decide (lo ≤ (xs.length : Int)) = false := by simpa using e
        have q : Q (.bl (decide (lo ≤ (xs.length : Int)) && decide ((xs.length : Int) ≤ hi))) H := q
        rw [e', Bool.false_and] at q
        exact q
end
end RH
set_option Elab.async false
set_option linter.all false
set_option maxRecDepth 100000
set_option maxHeartbeats 2000000
namespace RH
open PySem PySem.Spec PyProof.Rows L2
/-! ### the checks that raise -/
/-- a habit, or what is none: of each row what it is -/
inductive Hk (K : PySem.W.Frag) (H : Hp) : V → Option (List (Option (List V))) → Prop
  | tup {a : Addr} {xs : List V} {wos : List (Option (List V))} : SqT K H a xs → Each (Wd K H) xs wos → Hk K H (.ref a) (some wos)
  | no {v : V} : Tk K H v none → Hk K H v none
theorem Hk.on {K : PySem.W.Frag} {H H' : Hp} (e : Same H H') {v : V} {ho : Option (List (Option (List V)))} (h : Hk K H v ho) : Hk K H' v ho := by
  cases h with
  | tup h hx => exact .tup (onT e h) (hx.imp fun v d z => z.on e)
  | no h => exact .no (h.on e)
section
variable {P : Program} {w : World} {K : PySem.W.Frag} {mg : Str → Option Value} {base : Heap}
/-- a word's value: told row by row -/
structure Ww (K : PySem.W.Frag) (H : Hp) (v : V) (wo : Option (List V)) : Prop where
  t : Tk K H v wo
  w : rowW 0 400 wo = true → Wd K H v wo
theorem Ww.on {H H' : Hp} (e : Same H H') {v : V} {wo : Option (List V)} (h : Ww K H v wo) : Ww K H' v wo := ⟨h.t.on e, fun z => (h.w z).on e⟩
def spCheckNumX (K : PySem.W.Frag) (C : Addr) : Sp := fun vs H Q E => ∃ v : V, vs = [v, .int 2, .int 5] ∧ Sw K H v ∧ (inV2 2 5 v = true → Q .non H) ∧ (inV2 2 5 v = false → E (.ref C) none H)
theorem ok_check_numberX {C : Addr} (F : Df K mg "check_number" st_check_number ["value", "low", "high"]) (Xn : ExO K mg "BadNumber" C) (C2 : Cal P w K mg base 2 "is_number" (spIsNumberW K)) : CalX P w K mg base 3 "check_number" (spCheckNumX K C) := by
  refine mkCalX F sc_check_number (fun vs H Q E h => ?_) (fun f cdv A outer s H vs Q E hr h => ?_)
  · obtain ⟨v, rfl, _⟩ := h
    rfl
  · obtain ⟨v, rfl, hv, q1, q2⟩ := h
    refine ⟨_, pss_one (ps_if (pt_not (pt_val (pc C2 hr (pa_cons (pv 0) (pa_cons (pv 1) (pa_cons (pv 2) pa_nil)))))) (pss_one (ps_raise rfl takesE (SkE.pmk_own1 PySem.F.excBase_ValueError Xn.q Xn.g Xn.k (raises_own Xn.b Xn.t) rfl
      (pe_joined (.cons pe_str (.cons (pe_fmt (pv 1)) (.cons pe_str (.cons (pe_fmt (pv 2)) .nil)))))))) pss_nil), ?_⟩
    refine ⟨_, rfl, _, rfl, _, rfl, v, 2, 5, rfl, hv, _, rfl, ?_⟩
    cases el : inV2 2 5 v with
    | true => exact ifF rfl (q1 el)
    | false =>
      refine ifT rfl ?_
      refine ⟨_, rfl, ?_, _, rfl, .inr ⟨2, rfl, by decide +kernel, _, rfl, ?_, _, rfl, ?_, _, rfl, .inr ⟨5, rfl, by decide +kernel, _, rfl, ?_, q2 el⟩⟩⟩ <;> (rw [sizeLine_eq]; decide +kernel)
def spCheckPlacesX (K : PySem.W.Frag) (C : Addr) : Sp := fun vs H Q E => ∃ v : V, vs = [v] ∧ Sw K H v ∧ (inV2 2 5 v = true → Q .non H) ∧ (inV2 2 5 v = false → E (.ref C) none H)
theorem ok_check_placesX {C : Addr} (F : Df K mg "check_places" st_check_places ["places"]) (c2 : ∃ t, mg "FEWEST_PLACES" = some (.int 2 t)) (c5 : ∃ t, mg "MOST_PLACES" = some (.int 5 t)) (C3 : CalX P w K mg base 3 "check_number" (spCheckNumX K C)) :
    CalX P w K mg base 4 "check_places" (spCheckPlacesX K C) := by
  refine mkCalX F sc_check_places (fun vs H Q E h => ?_) (fun f cdv A outer s H vs Q E hr h => ?_)
  · obtain ⟨v, rfl, _⟩ := h
    rfl
  · obtain ⟨v, rfl, hv, q1, q2⟩ := h
    exact ⟨_, pss_one (ps_expr (pcX C3 passE hr (pa_cons (pv 0) (pa_cons (pk c2) (pa_cons (pk c5) pa_nil))))), _, rfl, v, rfl, hv, q1, q2⟩
end
end RH
set_option Elab.async false
set_option linter.all false
set_option maxRecDepth 100000
set_option maxHeartbeats 2000000
namespace RH
open PySem PySem.Spec PyProof.Rows L2
/-! ### instructions, of whatever kind -/
/-- a tuple of texts among the module's names -/
def CTup (K : PySem.W.Frag) (mg : Str → Option Value) (x : Str) (zs : List Str) : Prop := ∃ (a : Addr) (o : Obj) (its : Array Value) (n : Nat), mg x = some (.ref a) ∧ K.lookup a = some o ∧ o.cls = .type "tuple" ∧ o.data = .seq its n ∧ its.size ≤ sizeLine ∧ Vals (zs.map V.str) its.toList
theorem CTup.at {K : PySem.W.Frag} {mg : Str → Option Value} {x : Str} {zs : List Str} (h : CTup K mg x zs) : ∃ a : Addr, mg x = some (.ref a) ∧ ∀ H, SqT K H a (zs.map V.str) := by
  obtain ⟨a, o, its, n, h1, h2, h3, h4, h5, h6⟩ := h
  exact ⟨a, h1, fun H => .inr ⟨o, its, n, h2, h3, h4, h5, h6⟩⟩
def bareZ : List Str := ["say", "ask", "stop"]
def jumpZ : List Str := ["zero", "go"]
def accZ : List Str := ["get", "set", "plus", "minus"]
def inZ (w : Str) (zs : List Str) : Bool := inV (.str w) (zs.map V.str)
/-- is it an instruction? -/
def insW (p cnt : Int) (rl : Bool) : Option (List V) → Bool
  | some [.str w] => inZ w bareZ
  | some [.str w, v] => !inZ w bareZ && (if inZ w jumpZ then inV2 0 cnt v else if w == "put" then inV2 (-1000000) 1000000 v else (inZ w accZ || (w == "touch" && rl)) && inV2 0 (p - 1) v)
  | _ => false
theorem row12 {xs : List V} (h : rowW 1 2 (some xs) = true) : (∃ x, xs = [x]) ∨ ∃ x y, xs = [x, y] := by
  match xs with
  | [] => cases h
  | [x] => exact .inl ⟨x, rfl⟩
  | [x, y] => exact .inr ⟨x, y, rfl⟩
  | x :: y :: z :: r =>
    have h : (decide ((1 : Int) ≤ ((x :: y :: z :: r).length : Int)) && decide (((x :: y :: z :: r).length : Int) ≤ 2)) = true := h
    rw [Bool.and_eq_true, decide_eq_true_iff, decide_eq_true_iff] at h
    have := h.2
    simp only [List.length_cons] at this
    omega
def isS : V → Bool
  | .str _ => true
  | _ => false
section
variable {P : Program} {w : World} {K : PySem.W.Frag} {mg : Str → Option Value} {base : Heap} {Cb Cl Cp Cw Cn Cg Cs : Addr}
def spIsInsW (K : PySem.W.Frag) : Sp := fun vs H Q _ => ∃ (v : V) (wo : Option (List V)) (p cnt : Int) (rl : Bool), vs = [v, .int p, .int cnt, .bl rl] ∧ Wd K H v wo ∧ Q (.bl (insW p cnt rl wo)) H
theorem ok_is_insW (F : Df K mg "is_instruction" st_is_instruction ["value", "places", "count", "is_restless"]) (B : Bu mg) (bare : CTup K mg "BARE" bareZ) (jump : CTup K mg "JUMPS" jumpZ) (acc : CTup K mg "ACCESSES" accZ) (great : ∃ t, mg "GREATEST" = some (.int 1000000 t))
    (C1 : Cal P w K mg base 1 "is_row" (spIsRowW K)) (C2 : Cal P w K mg base 2 "is_number" (spIsNumberW K)) (C3 : Cal P w K mg base 3 "is_place" (spIsPlaceW K)) : Cal P w K mg base 4 "is_instruction" (spIsInsW K) := by
  obtain ⟨ab, gb, hb⟩ := bare.at
  obtain ⟨aj, gj, hj⟩ := jump.at
  obtain ⟨aa, ga, ha⟩ := acc.at
  refine mkCal F sc_is_instruction (fun vs H Q E h => ?_) (fun f cdv A outer s H vs Q E hr h => ?_)
  · obtain ⟨v, wo, p, cnt, rl, rfl, _⟩ := h
    rfl
  · obtain ⟨v, wo, p, cnt, rl, rfl, hw, q⟩ := h
    refine ⟨_, pss_cons (ps_if (PW.pt (pw_or (pt_not (pt_val (pc C1 hr (pa_cons (pv 0) (pa_cons pe_int (pa_cons pe_int pa_nil)))))) (pw_or1 (pt_not (pt_val (pe_callB call_isi (by rfl) B.isi (by decide +kernel) (pa_cons (pe_ix (ixT K) (pv 0) pe_int (fun _ _ => rfl)) (pa_cons (pe_bltn (v := .ty "str") (by rfl) B.str (by decide +kernel) rfl) pa_nil)))))))) (pss_one (ps_ret pe_bl)) pss_nil)
      (pss_cons (ps_set (i := 4) sc_is_instruction.nd rfl (.inl rfl) (pe_ix (ixT K) (pv 0) pe_int (fun _ _ => rfl)))
      (pss_cons (ps_if (pt_cmpR (opIn K) (pv 4) (pe_glob (v := .ref ab) (by rfl) gb (by rfl)) rfl) (pss_one (ps_ret (pe_cmpR op_eq (pe_callB (cl_len K) (by rfl) B.len PySem.boot_len (pa_cons (pv 0) pa_nil)) pe_int (nomark _)))) pss_nil)
      (pss_cons (ps_if (pt_cmpR op_eq (pe_callB (cl_len K) (by rfl) B.len PySem.boot_len (pa_cons (pv 0) pa_nil)) pe_int (nomark _)) (pss_one (ps_ret pe_bl)) pss_nil)
      (pss_cons (ps_if (pt_cmpR (opIn K) (pv 4) (pe_glob (v := .ref aj) (by rfl) gj (by rfl)) rfl) (pss_one (ps_ret (pc C2 hr (pa_cons (pe_ix (ixT K) (pv 0) pe_int (fun _ _ => rfl)) (pa_cons pe_int (pa_cons (pv 2) pa_nil)))))) pss_nil)
      (pss_cons (ps_if (pt_cmpR op_eq (pv 4) pe_str (nomark _)) (pss_one (ps_ret (pc C2 hr (pa_cons (pe_ix (ixT K) (pv 0) pe_int (fun _ _ => rfl)) (pa_cons (pe_un un_neg (pk great)) (pa_cons (pk great) pa_nil)))))) pss_nil)
      (pss_cons (ps_if (PW.pt (pw_or (pt_cmpR (opIn K) (pv 4) (pe_glob (v := .ref aa) (by rfl) ga (by rfl)) rfl) (pw_or1 (PW.pt (pw_and (pt_cmpR op_eq (pv 4) pe_str (nomark _)) (pw_and1 (pt_val (pv 3)))))))) (pss_one (ps_ret (pc C3 hr (pa_cons (pe_ix (ixT K) (pv 0) pe_int (fun _ _ => rfl)) (pa_cons (pv 1) pa_nil))))) pss_nil)
      (pss_one (ps_ret pe_bl)))))))), ?_⟩
    refine ⟨_, rfl, v, wo, 1, 2, rfl, hw.t, _, rfl, ?_⟩
    cases er : rowW 1 2 wo with
    | false =>
      refine ifT (by rfl) (ifT rfl ?_)
      have : insW p cnt rl wo = false := by
        cases wo with
        | none => rfl
        | some xs =>
          match xs with
          | [] => rfl
          | [x] => cases er
          | [x, y] => cases er
          | x :: y :: z :: r =>
            cases x <;> rfl
      rw [this] at q
      exact q
    | true =>
      refine ifF (by rfl) ?_
      obtain ⟨ht, hsw, hlen⟩ := hw
      cases ht with
      | @tup a xs hS =>
        have main : ∀ x, xs[0]? = some x → Sw K H x → (isS x = false → insW p cnt rl (some xs) = false) := fun x hx _ hs => by
          match xs, hx with
          | [y], hx => cases Option.some.inj hx; cases x <;> first | rfl | cases hs
          | [y, z], hx => cases Option.some.inj hx; cases x <;> first | rfl | cases hs
          | y :: z :: t :: r, hx => cases Option.some.inj hx; cases x <;> first | rfl | cases hs
        obtain ⟨x, hx⟩ : ∃ x, xs[0]? = some x := by
          rcases row12 er with ⟨x, rfl⟩ | ⟨x, y, rfl⟩ <;> exact ⟨x, rfl⟩
        have hsx := hsw xs rfl x (List.mem_of_getElem? hx)
        refine ⟨_, rfl, a, xs, 0, x, rfl, rfl, hS, atI_nat (j := 0) hx, ?_⟩
        have no : ∀ k, isS x = k → k = false → insW p cnt rl (some xs) = false := fun k e1 e2 => main x hx hsx (e1.trans e2)
        cases hsx with
        | int i => exact ⟨.int i, .ty "str", _, _, false, rfl, .ty "str", .base (.int i), kit_ty (by decide +kernel), _, rfl, ifT rfl (by rw [no _ rfl rfl] at q; exact q)⟩
        | bl b => exact ⟨.bl b, .ty "str", _, _, false, rfl, .ty "str", .base (.bl b), kit_ty (by decide +kernel), _, rfl, ifT rfl (by rw [no _ rfl rfl] at q; exact q)⟩
        | non => exact ⟨.non, .ty "str", _, _, false, rfl, .ty "str", .base .non, kit_ty (by decide +kernel), _, rfl, ifT rfl (by rw [no _ rfl rfl] at q; exact q)⟩
        | @tup a2 xs2 h => exact ⟨.ref a2, .ty "str", _, _, false, rfl, .ty "str", ty_tup h, kit_ty (by decide +kernel), _, rfl, ifT rfl (by rw [no _ rfl rfl] at q; exact q)⟩
        | @lst a2 xs2 h => exact ⟨.ref a2, .ty "str", _, _, false, rfl, .ty "str", ty_lst h, kit_ty (by decide +kernel), _, rfl, ifT rfl (by rw [no _ rfl rfl] at q; exact q)⟩
        | str z =>
          refine ⟨.str z, .ty "str", _, _, true, rfl, .ty "str", .base (.str z), kit_ty (by decide +kernel), _, rfl, ifF rfl ?_⟩
          refine ⟨_, rfl, a, xs, 0, .str z, rfl, rfl, hS, atI_nat (j := 0) hx, ?_⟩
          refine ⟨_, rfl, ab, _, rfl, .inr (hb _), rfl, by decide, _, rfl, ?_⟩
          rcases row12 er with ⟨x, rfl⟩ | ⟨x, y, rfl⟩
          · cases Option.some.inj hx
            have q : Q (.bl (inZ z bareZ)) H := q
            cases e1 : inZ z bareZ with
            | true =>
              rw [e1] at q
              exact ifT e1 ⟨_, rfl, a, _, rfl, .inr hS, rfl, q⟩
            | false =>
              rw [e1] at q
              exact ifF e1 ⟨_, rfl, a, _, rfl, .inr hS, rfl, _, rfl, ifT rfl q⟩
          · cases Option.some.inj hx
            have hsy := hsw _ rfl y (List.mem_cons_of_mem _ (List.mem_cons_self ..))
            have q : Q (.bl (!inZ z bareZ && (if inZ z jumpZ then inV2 0 cnt y else if z == "put" then inV2 (-1000000) 1000000 y else (inZ z accZ || (z == "touch" && rl)) && inV2 0 (p - 1) y))) H := q
            cases e1 : inZ z bareZ with
            | true =>
              rw [e1] at q
              exact ifT e1 ⟨_, rfl, a, _, rfl, .inr hS, rfl, q⟩
            | false =>
              rw [e1, Bool.not_false, Bool.true_and] at q
              refine ifF e1 ⟨_, rfl, a, _, rfl, .inr hS, rfl, _, rfl, ifF rfl ?_⟩
              refine ⟨_, rfl, aj, _, rfl, .inr (hj _), rfl, by decide, _, rfl, ?_⟩
              cases e2 : inZ z jumpZ with
              | true =>
                rw [e2, if_pos rfl] at q
                exact ifT e2 ⟨_, rfl, a, _, 1, y, rfl, rfl, hS, rfl, _, rfl, y, 0, cnt, rfl, hsy, q⟩
              | false =>
                rw [e2, if_neg (by decide)] at q
                refine ifF e2 ⟨_, rfl, rfl, _, rfl, ?_⟩
                rw [dec_str]
                cases e3 : z == "put" with
                | true =>
                  rw [e3, if_pos rfl] at q
                  exact ifT rfl ⟨_, rfl, a, _, 1, y, rfl, rfl, hS, rfl, 1000000, rfl, y, -1000000, 1000000, rfl, hsy, q⟩
                | false =>
                  rw [e3, if_neg (by decide)] at q
                  refine ifF rfl ⟨_, rfl, aa, _, rfl, .inr (ha _), rfl, by decide, _, rfl, ?_⟩
                  have yes : (inZ z accZ || (z == "touch" && rl)) = true → tRet (tCall (spIsPlaceW K) [] E0 (tCons (tOp (rIxT K) (tVar 0) (tC (V.int 1))) (tCons (tVar 1) tNil))) { nx := fun _ H' => Q .non H', rt := Q } [some (.ref a), some (.int p), some (.int cnt), some (.bl rl), some (.str z)] H := fun e => by
                    rw [e, Bool.true_and] at q
                    exact ⟨_, rfl, a, _, 1, y, rfl, rfl, hS, rfl, _, rfl, y, p, rfl, hsy, q⟩
                  cases e4 : inZ z accZ with
                  | true => exact ifT e4 (yes (by rw [e4]; rfl))
                  | false =>
                    refine ifF e4 ⟨_, rfl, rfl, _, rfl, ?_⟩
                    rw [dec_str]
                    cases e5 : z == "touch" with
                    | false =>
                      rw [e4, e5] at q
                      exact ifF rfl q
                    | true =>
                      refine ifT rfl ⟨_, rfl, _, rfl, ?_⟩
                      cases rl with
                      | true => exact yes (by rw [e4, e5]; rfl)
                      | false =>
                        rw [e4, e5] at q
                        exact q
      | _ => cases er
end
end RH
set_option Elab.async false
set_option linter.all false
set_option maxRecDepth 100000
set_option maxHeartbeats 2000000
namespace RH
open PySem PySem.Spec PyProof.Rows L2
/-! ### programs, of whatever kind -/
section
variable {P : Program} {w : World} {K : PySem.W.Frag} {mg : Str → Option Value} {base : Heap} {Cb Cl Cp Cw Cn Cg Cs : Addr}
/-- the index that BadProgram tells, if it is none -/
def pgBad (p most : Int) (rl : Bool) : Option (List (Option (List V))) → Option V
  | none => some .non
  | some wos => if (decide ((1 : Int) ≤ (wos.length : Int)) && decide ((wos.length : Int) ≤ most)) = true then (wos.findIdx? fun wo => !insW p wos.length rl wo).map (fun i => V.int (i : Nat)) else some .non
def spCheckProgX (K : PySem.W.Frag) (C : Addr) : Sp := fun vs H Q E => ∃ (v : V) (ho : Option (List (Option (List V)))) (p most : Int) (rl : Bool), vs = [v, .int p, .int most, .bl rl] ∧ Hk K H v ho ∧ (pgBad p most rl ho = none → ∀ H', Same H H' → Q .non H') ∧ (∀ pl, pgBad p most rl ho = some pl → plV pl ∧ bhE C "index" pl H E)
theorem ok_check_programX {C : Addr} (F : Df K mg "check_program" st_check_program ["program", "places", "most", "is_restless"]) (B : Bu mg) (T : BhX P w K mg base "BadProgram" "index" C (spBI "index" C)) (C1 : Cal P w K mg base 1 "is_row" (spIsRowW K)) (C4 : Cal P w K mg base 4 "is_instruction" (spIsInsW K)) :
    CalX P w K mg base 5 "check_program" (spCheckProgX K C) := by
  refine mkCalX F sc_check_program (fun vs H Q E h => ?_) (fun f cdv A outer s H vs Q E hr h => ?_)
  · obtain ⟨v, ho, p, most, rl, rfl, _⟩ := h
    rfl
  · obtain ⟨v, ho, p, most, rl, rfl, hk, q1, q2⟩ := h
    obtain ⟨fI, fdI, FI, iC, tI, bI⟩ := T.f
    refine ⟨_, pss_cons (ps_if (pt_not (pt_val (pc C1 hr (pa_cons (pv 0) (pa_cons pe_int (pa_cons (pv 2) pa_nil)))))) (pss_one (ps_raise rfl takesE (pmk_oex T.t iC tI FI (hr.mono (by decide)) bI .nil pass0 rfl T.g (pa_cons pe_non pa_nil)))) pss_nil)
      (pss_one (ps_for (passes_of rfl) rfl (pi_enumT (by rfl) B.enumerate (pa_cons (pv 0) pa_nil)) (pg_tup rfl (pgs_cons (pg_name (i := 4) sc_check_program.nd rfl (.inl rfl)) (pgs_cons (pg_name (i := 5) sc_check_program.nd rfl (.inl rfl)) pgs_nil)))
        (pss_one (ps_if (pt_not (pt_val (pc C4 hr (pa_cons (pv 5) (pa_cons (pv 1) (pa_cons (pe_callB (cl_len K) (by rfl) B.len PySem.boot_len (pa_cons (pv 0) pa_nil)) (pa_cons (pv 3) pa_nil))))))) (pss_one (ps_raise rfl takesE (pmk_oex T.t iC tI FI (hr.mono (by decide)) bI .nil pass0 rfl T.g (pa_cons (pv 4) pa_nil)))) pss_nil)))), ?_⟩
    have none_ : ∀ {H1 : Hp}, Same H H1 → pgBad p most rl ho = some .non → ∀ d, H1 d = none → E (.ref C) (some d) (upd H1 d (.xd [("index", .non)])) := fun {H1} s1 e d hd => (q2 _ e).2 d _ (s1.trans (same_new hd)) upd_same
    cases hk with
    | @no v ht => exact ⟨_, rfl, _, rfl, v, none, 1, most, rfl, ht, _, rfl, ifT rfl (bh_made (.inl rfl) (none_ (Same.refl H) rfl))⟩
    | @tup a xs wos hS hE =>
      have hlen := hE.len
      refine ⟨_, rfl, _, rfl, .ref a, some xs, 1, most, rfl, .tup hS, _, rfl, ?_⟩
      have er : rowW 1 most (some xs) = (decide ((1 : Int) ≤ (wos.length : Int)) && decide ((wos.length : Int) ≤ most)) := by
        show (decide ((1 : Int) ≤ (xs.length : Int)) && decide ((xs.length : Int) ≤ most)) = _
        rw [hlen]
      rw [er]
      cases hc : (decide ((1 : Int) ≤ (wos.length : Int)) && decide ((wos.length : Int) ≤ most)) with
      | false =>
        refine ifT rfl (bh_made (.inl rfl) (none_ (Same.refl H) ?_))
        unfold pgBad
        dsimp only
        rw [hc]
        rfl
      | true =>
        refine ifF rfl ?_
        refine ⟨_, rfl, a, xs, rfl, hS, ?_⟩
        refine for_enumT (xs := xs) (fun i σ H' => Same H H' ∧ (∀ j wo, j < i → wos[j]? = some wo → insW p wos.length rl wo = true) ∧ ∃ y1 y2, σ = [some (.ref a), some (.int p), some (.int most), some (.bl rl), y1, y2]) ⟨Same.refl H, fun j wo hj => absurd hj (Nat.not_lt_zero _), none, none, rfl⟩ (fun i σ H' h' => onT h'.1 hS) (fun i x T σ H' hx h' hT => ?_) (fun σ H' h' => q1 ?_ H' h'.1)
        · obtain ⟨sm, old, y1, y2, rfl⟩ := h'
          obtain ⟨wo, hwo, hTx⟩ := hE.at hx
          have sT : Same H (upd H' T (.tup [.int (i : Nat), x])) := sm.trans (same_new hT)
          refine ⟨T, _, rfl, tupAt upd_same, rfl, _, _, rfl, _, _, rfl, rfl, _, rfl, _, rfl, _, rfl, a, xs, rfl, .inr (onT sT hS), _, rfl, x, wo, p, (wos.length : Int), rl, by rw [hlen]; rfl, hTx.on sT, _, rfl, ?_⟩
          cases hl : insW p wos.length rl wo with
          | true =>
            refine ifF rfl ⟨sT, fun j wo' hj e => ?_, _, _, rfl⟩
            rcases Nat.lt_succ_iff_lt_or_eq.mp hj with hj | rfl
            · exact old j wo' hj e
            · rw [hwo] at e
              cases e
              exact hl
          | false =>
            refine ifT rfl ⟨_, rfl, ?_⟩
            have hi : i < wos.length := (List.getElem?_eq_some_iff.mp hwo).1
            have e : pgBad p most rl (some wos) = some (.int (i : Nat)) := by
              unfold pgBad
              dsimp only
              rw [if_pos hc]
              have : (wos.findIdx? fun wo => !insW p wos.length rl wo) = some i := by
                rw [List.findIdx?_eq_some_iff_getElem]
                refine ⟨hi, ?_, fun j hj => ?_⟩
                · rw [(List.getElem?_eq_some_iff.mp hwo).2, hl]
                  rfl
                · rw [old j _ hj (List.getElem?_eq_getElem _)]
                  decide
              rw [this]
              rfl
            exact bh_made (q2 _ e).1 fun d hd => (q2 _ e).2 d _ (sT.trans (same_new hd)) upd_same
        · unfold pgBad
          dsimp only
          rw [if_pos hc]
          have : (wos.findIdx? fun wo => !insW p wos.length rl wo) = none := by
            rw [List.findIdx?_eq_none_iff]
            intro wo hm
            obtain ⟨j, hj⟩ := List.mem_iff_getElem?.mp hm
            rw [h'.2.1 j wo (by rw [hlen]; exact (List.getElem?_eq_some_iff.mp hj).1) hj]
            rfl
          rw [this]
          rfl
def spCheckPg2 (K : PySem.W.Frag) (C : Addr) (most : Int) (rl : Bool) : Sp := fun vs H Q E => ∃ (v : V) (ho : Option (List (Option (List V)))) (p : Int), vs = [v, .int p] ∧ Hk K H v ho ∧ (pgBad p most rl ho = none → ∀ H', Same H H' → Q .non H') ∧ (∀ pl, pgBad p most rl ho = some pl → plV pl ∧ bhE C "index" pl H E)
theorem ok_check_restlessX {C : Addr} (F : Df K mg "check_restless" st_check_restless ["program", "places"]) (c4000 : ∃ t, mg "MOST_RESTLESS" = some (.int 4000 t)) (CP : CalX P w K mg base 5 "check_program" (spCheckProgX K C)) : CalX P w K mg base 6 "check_restless" (spCheckPg2 K C 4000 true) := by
  refine mkCalX F sc_check_restless (fun vs H Q E h => ?_) (fun f cdv A outer s H vs Q E hr h => ?_)
  · obtain ⟨v, ho, p, rfl, _⟩ := h
    rfl
  · obtain ⟨v, ho, p, rfl, hk, q1, q2⟩ := h
    exact ⟨_, pss_one (ps_expr (pcX CP passE hr (pa_cons (pv 0) (pa_cons (pv 1) (pa_cons (pk c4000) (pa_cons pe_bl pa_nil)))))), _, rfl, _, rfl, v, ho, p, 4000, true, rfl, hk, q1, q2⟩
end
end RH
set_option Elab.async false
set_option linter.all false
set_option maxRecDepth 100000
set_option maxHeartbeats 2000000
namespace RH
open PySem PySem.Spec PyProof.Rows L2
/-! ### instructions, and what a machine does -/
inductive Ins where
  | say | ask | stop
  | put (c : Int) | zero (t : Nat) | go (t : Nat)
  | get (k : Nat) | set (k : Nat) | plus (k : Nat) | minus (k : Nat) | touch (k : Nat)
deriving DecidableEq
def Ins.word : Ins → Str
  | .say => "say" | .ask => "ask" | .stop => "stop" | .put _ => "put" | .zero _ => "zero" | .go _ => "go"
  | .get _ => "get" | .set _ => "set" | .plus _ => "plus" | .minus _ => "minus" | .touch _ => "touch"
def Ins.num : Ins → List Int
  | .say => [] | .ask => [] | .stop => [] | .put c => [c] | .zero t => [(t : Int)] | .go t => [(t : Int)]
  | .get k => [(k : Int)] | .set k => [(k : Int)] | .plus k => [(k : Int)] | .minus k => [(k : Int)] | .touch k => [(k : Int)]
def RIns (K : PySem.W.Frag) (H : Hp) (v : V) (i : Ins) : Prop := ∃ a, v = .ref a ∧ SqT K H a (.str i.word :: i.num.map V.int)
def RPg (K : PySem.W.Frag) (H : Hp) (v : V) (pg : List Ins) : Prop := ∃ a xs, v = .ref a ∧ SqT K H a xs ∧ Each (RIns K H) xs pg
/-- an instruction of so many places and instructions -/
def okIns (n cnt : Nat) : Ins → Prop
  | .zero t => t ≤ cnt
  | .go t => t ≤ cnt
  | .get k => k < n | .set k => k < n | .plus k => k < n | .minus k => k < n | .touch k => k < n
  | _ => True
/-- an instruction's data -/
def Ins.data (i : Ins) : PyData := .tuple (.str i.word :: i.num.map PyData.int)
theorem RIns.dp {K : PySem.W.Frag} {H : Hp} {v : V} {i : Ins} (r : RIns K H v i) : Dp K H v i.data := by
  obtain ⟨a, rfl, hS⟩ := r
  refine .tup hS (.cons (.str _) ?_)
  cases i <;> first | exact .nil | exact .cons (.int _) .nil
theorem word_ok (i : Ins) : PyData.strOk i.word = true := by
  have w : ∀ z ∈ (["say", "ask", "stop", "put", "zero", "go", "get", "set", "plus", "minus", "touch"] : List Str), PyData.strOk z = true := by decide +kernel
  cases i <;> exact w _ (by simp [Ins.word])
theorem Ins.shaped (i : Ins) : SeqAt.shaped i.data = true := by
  have h := word_ok i
  cases i <;> (unfold Ins.data; simp [Ins.num, SeqAt.shaped, PyData.canLay0, PyData.canLayAll0, PyData.depth, PyData.depthAll]; exact h)
theorem RIns.on {K : PySem.W.Frag} {H H' : Hp} (e : Tups K H H') {v : V} {i : Ins} (r : RIns K H v i) : RIns K H' v i := by
  obtain ⟨a, rfl, hS⟩ := r
  exact ⟨a, rfl, e _ _ hS⟩
theorem RPg.on {K : PySem.W.Frag} {H H' : Hp} (e : Tups K H H') {v : V} {pg : List Ins} (r : RPg K H v pg) : RPg K H' v pg := by
  obtain ⟨a, xs, rfl, hS, hE⟩ := r
  exact ⟨a, xs, rfl, e _ _ hS, hE.imp fun _ _ z => z.on e⟩
end RH
set_option Elab.async false
set_option linter.all false
set_option maxRecDepth 100000
set_option maxHeartbeats 2000000
namespace RH
open PySem PySem.Spec PyProof.Rows L2
/-! ### programs that the law draws -/
/-- an instruction of a still program -/
def stI : Ins → Prop
  | .touch _ => False
  | .put c => -1000000 ≤ c ∧ c ≤ 1000000
  | _ => True
def wordsL : List V := [.str "get", .str "set", .str "plus", .str "minus", .str "get", .str "set", .str "put", .str "say", .str "ask", .str "zero", .str "zero", .str "go", .str "stop", .str "say"]
theorem words_of {x : V} (h : x ∈ wordsL) : x = .str "get" ∨ x = .str "set" ∨ x = .str "plus" ∨ x = .str "minus" ∨ x = .str "put" ∨ x = .str "say" ∨ x = .str "ask" ∨ x = .str "zero" ∨ x = .str "go" ∨ x = .str "stop" := by
  unfold wordsL at h
  simp only [List.mem_cons, List.not_mem_nil, or_false] at h
  rcases h with h | h | h | h | h | h | h | h | h | h | h | h | h | h <;> simp [h]
section
variable {P : Program} {w : World} {K : PySem.W.Frag} {mg : Str → Option Value} {base : Heap}
def spProgL (K : PySem.W.Frag) : Sp := fun vs H Q _ => ∃ (p : Addr) (n many : Nat), vs = [.ref p, .int (n : Int), .int (many : Int)] ∧ Row K H p ∧ 1 ≤ n ∧ n ≤ 5 ∧ 1 ≤ many ∧ many ≤ 30 ∧
  ∀ (H' : Hp) (v : V) (pg : List Ins), But p H H' → Row K H' p → RPg K H' v pg → 1 ≤ pg.length → pg.length ≤ many → (∀ i ∈ pg, okIns n pg.length i ∧ stI i) → Q v H'
theorem Each.appM {α : Type} {R : V → α → Prop} : ∀ {xs ys : List V} {ds es : List α}, Each R xs ds → Each R ys es → Each R (xs ++ ys) (ds ++ es)
  | _, _, _, _, .nil, h => h
  | _, _, _, _, .cons k t, h => .cons k (t.appM h)
/-- what has been drawn so far -/
structure PrL (K : PySem.W.Frag) (H : Hp) (p fl wl : Addr) (n size : Nat) (H' : Hp) (xs : List V) (pg : List Ins) : Prop where
  but : But p H H'
  row : Row K H' p
  ls : H' fl = some (.lst xs)
  wd : H' wl = some (.lst wordsL)
  each : Each (RIns K H') xs pg
  ok : ∀ i ∈ pg, okIns n size i ∧ stI i
theorem PrL.step {H : Hp} {p fl wl : Addr} {n size : Nat} {H1 H2 : Hp} {xs : List V} {pg : List Ins} (s : PrL K H p fl wl n size H1 xs pg) (np : fl ≠ p) (nw : wl ≠ p) (b : But p H1 H2) (r : Row K H2 p) : PrL K H p fl wl n size H2 xs pg :=
  ⟨fun c o e ne => b c o (s.but c o e ne) ne, r, b _ _ s.ls np, b _ _ s.wd nw, s.each.imp fun _ _ z => z.on (s.row.fix b).tups, s.ok⟩
theorem PrL.add {H : Hp} {p fl wl : Addr} {n size : Nat} {H1 : Hp} {xs : List V} {pg : List Ins} (s : PrL K H p fl wl n size H1 xs pg) (np : fl ≠ p) (nw : wl ≠ fl) (hf : H fl = none) {t : Addr} {i : Ins} (ht : H1 t = none) (ok : okIns n size i ∧ stI i) :
    PrL K H p fl wl n size (upd (upd H1 t (.tup (.str i.word :: i.num.map V.int))) fl (.lst (xs ++ [.ref t]))) (xs ++ [.ref t]) (pg ++ [i]) := by
  have s1 := same_new (o := .tup (.str i.word :: i.num.map V.int)) ht
  have e1 := s1 _ _ s.ls
  have fx : Fix H1 (upd (upd H1 t (.tup (.str i.word :: i.num.map V.int))) fl (.lst (xs ++ [.ref t]))) := (Fix.same s1).trans (Fix.lst e1)
  obtain ⟨rs, hrs⟩ := s.row.lst
  refine ⟨fun c o e ne => ?_, ?_, upd_same, ?_, ?_, fun j hj => ?_⟩
  · rw [upd_ne (ne_of_none e hf)]
    exact s1 _ _ (s.but c o e ne)
  · exact (s.row.same s1).lst_upd e1 (Ne.symm np)
  · rw [upd_ne nw]
    exact s1 _ _ s.wd
  · refine (s.each.imp fun _ _ z => z.on fx.tups).appM (.cons ⟨t, rfl, ?_⟩ .nil)
    exact (Fix.lst e1).tups _ _ (tupAt upd_same)
  · rcases List.mem_append.mp hj with hj | hj
    · exact s.ok j hj
    · rw [List.mem_singleton.mp hj]
      exact ok
theorem ok_lprogram (F : Df K mg "_law_program" st__law_program ["row", "places", "many"]) (B : Bu mg) (CT : Cal P w K mg base 1 "_law_taken" (spTaken K)) (CPk : Cal P w K mg base 2 "_law_pick" (spPick K)) : Cal P w K mg base 3 "_law_program" (spProgL K) := by
  refine mkCal F sc__law_program (fun vs H Q E h => ?_) (fun f cdv A outer s H vs Q E hr h => ?_)
  · obtain ⟨p, n, many, rfl, _⟩ := h
    rfl
  · obtain ⟨p, n, many, rfl, hR, n1, n5, m1, m30, q⟩ := h
    refine ⟨_, (pss_cons (ps_par (i := 3) (j := 4) rfl sc__law_program.nd rfl rfl (by decide) rfl rfl (pa_cons (pe_op op_add pe_int (pc CT hr (pa_cons (pv 0) (pa_cons (pv 2) pa_nil)))) (pa_cons (pe_lst pa_nil) pa_nil)) rfl)
      (pss_cons (ps_set (i := 5) sc__law_program.nd rfl (.inl rfl) (pe_lst (pa_cons pe_str (pa_cons pe_str (pa_cons pe_str (pa_cons pe_str (pa_cons pe_str (pa_cons pe_str (pa_cons pe_str (pa_cons pe_str (pa_cons pe_str (pa_cons pe_str (pa_cons pe_str (pa_cons pe_str (pa_cons pe_str (pa_cons pe_str pa_nil))))))))))))))))
      (pss_cons (ps_for PassesOwn.never rfl (pi_range1 (by rfl) B.range (pa_cons (pv 3) pa_nil)) (pg_name (i := 6) sc__law_program.nd rfl (.inl rfl))
        (pss_cons (ps_set (i := 7) sc__law_program.nd rfl (.inl rfl) (pc CPk hr (pa_cons (pv 0) (pa_cons (pv 5) pa_nil)))) (pss_one (ps_if (pt_cmpR (opIn K) (pv 7) (pe_lst (pa_cons pe_str (pa_cons pe_str (pa_cons pe_str (pa_cons pe_str pa_nil))))) rfl) (pss_one (ps_expr (pe_bm PySem.F.plainAttrs_list PySem.F.slot_list_append PySem.F.type_list_append mt_append (pv 4) (pa_cons (pe_tup (pa_cons (pv 7) (pa_cons (pc CT hr (pa_cons (pv 0) (pa_cons (pv 1) pa_nil))) pa_nil))) pa_nil))))
          (pss_one (ps_if (pt_cmpR op_eq (pv 7) pe_str (nomark _)) (pss_one (ps_expr (pe_bm PySem.F.plainAttrs_list PySem.F.slot_list_append PySem.F.type_list_append mt_append (pv 4) (pa_cons (pe_tup (pa_cons (pv 7) (pa_cons (pe_op op_sub (pc CT hr (pa_cons (pv 0) (pa_cons pe_int pa_nil))) pe_int) pa_nil))) pa_nil))))
            (pss_one (ps_if (pt_cmpR (opIn K) (pv 7) (pe_lst (pa_cons pe_str (pa_cons pe_str pa_nil))) rfl) (pss_one (ps_expr (pe_bm PySem.F.plainAttrs_list PySem.F.slot_list_append PySem.F.type_list_append mt_append (pv 4) (pa_cons (pe_tup (pa_cons (pv 7) (pa_cons (pc CT hr (pa_cons (pv 0) (pa_cons (pe_op op_add (pv 3) pe_int) pa_nil))) pa_nil))) pa_nil))))
              (pss_one (ps_expr (pe_bm PySem.F.plainAttrs_list PySem.F.slot_list_append PySem.F.type_list_append mt_append (pv 4) (pa_cons (pe_ifExp (PW.pt (pw_or (pt_cmpR op_ne (pv 7) pe_str (nomark _)) (pw_or1 (pt_cmpR op_eq (pc CT hr (pa_cons (pv 0) (pa_cons pe_int pa_nil))) pe_int (nomark _))))) (pe_tup (pa_cons (pv 7) pa_nil)) (pe_tup (pa_cons pe_str pa_nil))) pa_nil))))))))))))
      (pss_one (ps_ret (pe_tupleOf (by rfl) B.tuple (pv 4))))))), ?_⟩
    refine ⟨_, rfl, _, rfl, p, (many : Int), rfl, hR, by omega, by omega, fun k H1 k0 k1 hB1 hR1 => ⟨1, k, rfl, rfl, Nat.zero_le _, fun fl hfl => ⟨_, _, rfl, ?_⟩⟩⟩
    obtain ⟨size, hs⟩ : ∃ size : Nat, 1 + k = (size : Int) := ⟨(1 + k).toNat, by omega⟩
    simp only [hs]
    have z1 : 1 ≤ size := by omega
    have z2 : size ≤ many := by omega
    have np : fl ≠ p := (hR1.ne hfl).symm
    have sf := same_new (o := .lst []) hfl
    refine ⟨by show 14 ≤ sizeLine; decide, fun wl hwl => ?_⟩
    have sw := same_new (o := .lst wordsL) hwl
    have nw : wl ≠ p := (((hR1.same sf).ne hwl)).symm
    have nwf : wl ≠ fl := fun e => by
      rw [e, upd_same] at hwl
      cases hwl
    have hf0 : H fl = none := by
      cases e : H fl with
      | none => rfl
      | some o =>
        have := hB1 _ _ e np
        rw [hfl] at this
        cases this
    have L0 : PrL K H p fl wl n size (upd (upd H1 fl (.lst [])) wl (.lst wordsL)) [] [] := ⟨fun c o e ne => sw _ _ (sf _ _ (hB1 c o e ne)), (hR1.same sf).same sw, sw _ _ upd_same, upd_same, .nil, fun i hi => by cases hi⟩
    refine ⟨_, rfl, (size : Int), rfl, by omega, by omega, ?_⟩
    rw [Int.toNat_natCast]
    refine for_range (lo := 0) (n := size) (fun i σ H' => ∃ xs pg y6 y7, PrL K H p fl wl n size H' xs pg ∧ pg.length = i ∧ σ = [some (.ref p), some (.int (n : Int)), some (.int (many : Int)), some (.int (size : Int)), some (.ref fl), some (.ref wl), y6, y7]) ⟨[], [], none, none, L0, rfl, rfl⟩ (fun i σ H' hi h' => ?_) (fun σ H' h' => ?_)
    · obtain ⟨xs, pg, y6, y7, L, hl, rfl⟩ := h'
      refine ⟨_, rfl, _, rfl, p, wl, wordsL, rfl, L.row, L.wd, nw, by decide, by decide, fun iw wx H2 hwx hB2 hR2 => ?_⟩
      have L2 := L.step np nw hB2 hR2
      have few : xs.length < sizeLine := by
        have := L2.each.len
        rw [this, hl, sizeLine_eq]
        omega
      have fin : ∀ {H3 : Hp} (L3 : PrL K H p fl wl n size H3 xs pg) {t : Addr} (y6' y7' : Option V) (j : Ins), H3 t = none → okIns n size j ∧ stI j → (∃ xs' pg' y6 y7, PrL K H p fl wl n size (upd (upd H3 t (.tup (.str j.word :: j.num.map V.int))) fl (.lst (xs ++ [.ref t]))) xs' pg' ∧ pg'.length = i + 1 ∧ [some (.ref p), some (.int (n : Int)), some (.int (many : Int)), some (.int (size : Int)), some (.ref fl), some (.ref wl), y6', y7'] = [some (.ref p), some (.int (n : Int)), some (.int (many : Int)), some (.int (size : Int)), some (.ref fl), some (.ref wl), y6, y7]) := fun {_} L3 {t} y6' y7' j ht ok => ⟨_, _, _, _, L3.add np nwf hf0 ht ok, by rw [List.length_append, hl]; rfl, rfl⟩
      rcases words_of (List.mem_of_getElem? hwx) with rfl | rfl | rfl | rfl | rfl | rfl | rfl | rfl | rfl | rfl
      · refine ⟨_, rfl, by show 4 ≤ sizeLine; decide, fun la hla => ⟨la, _, rfl, .inl (lstAt upd_same), rfl, by decide, _, rfl, ifT (by show inV (.str "get") (accZ.map V.str) = true; decide +kernel) ?_⟩⟩
        have La := L2.step np nw (fun c o e ne => same_new (o := .lst [.str "get", .str "set", .str "plus", .str "minus"]) hla c o e) (hR2.same (same_new hla))
        refine ⟨_, rfl, .inl ⟨rfl, _, lstAt La.ls⟩, _, rfl, _, rfl, _, rfl, p, (n : Int), rfl, La.row, by omega, by omega, fun kk H3 kk0 kk1 hB3 hR3 => ⟨by show 2 ≤ sizeLine; decide, fun t ht => ?_⟩⟩
        have L3 := La.step np nw hB3 hR3
        obtain ⟨kn, rfl⟩ : ∃ kn : Nat, kk = (kn : Int) := ⟨kk.toNat, by omega⟩
        exact ⟨fl, _, _, rfl, rfl, same_new (o := .tup [.str "get", .int (kn : Int)]) ht _ _ L3.ls, few, fin L3 _ _ (.get kn) ht ⟨by show kn < n; omega, trivial⟩⟩
      · refine ⟨_, rfl, by show 4 ≤ sizeLine; decide, fun la hla => ⟨la, _, rfl, .inl (lstAt upd_same), rfl, by decide, _, rfl, ifT (by show inV (.str "set") (accZ.map V.str) = true; decide +kernel) ?_⟩⟩
        have La := L2.step np nw (fun c o e ne => same_new (o := .lst [.str "get", .str "set", .str "plus", .str "minus"]) hla c o e) (hR2.same (same_new hla))
        refine ⟨_, rfl, .inl ⟨rfl, _, lstAt La.ls⟩, _, rfl, _, rfl, _, rfl, p, (n : Int), rfl, La.row, by omega, by omega, fun kk H3 kk0 kk1 hB3 hR3 => ⟨by show 2 ≤ sizeLine; decide, fun t ht => ?_⟩⟩
        have L3 := La.step np nw hB3 hR3
        obtain ⟨kn, rfl⟩ : ∃ kn : Nat, kk = (kn : Int) := ⟨kk.toNat, by omega⟩
        exact ⟨fl, _, _, rfl, rfl, same_new (o := .tup [.str "set", .int (kn : Int)]) ht _ _ L3.ls, few, fin L3 _ _ (.set kn) ht ⟨by show kn < n; omega, trivial⟩⟩
      · refine ⟨_, rfl, by show 4 ≤ sizeLine; decide, fun la hla => ⟨la, _, rfl, .inl (lstAt upd_same), rfl, by decide, _, rfl, ifT (by show inV (.str "plus") (accZ.map V.str) = true; decide +kernel) ?_⟩⟩
        have La := L2.step np nw (fun c o e ne => same_new (o := .lst [.str "get", .str "set", .str "plus", .str "minus"]) hla c o e) (hR2.same (same_new hla))
        refine ⟨_, rfl, .inl ⟨rfl, _, lstAt La.ls⟩, _, rfl, _, rfl, _, rfl, p, (n : Int), rfl, La.row, by omega, by omega, fun kk H3 kk0 kk1 hB3 hR3 => ⟨by show 2 ≤ sizeLine; decide, fun t ht => ?_⟩⟩
        have L3 := La.step np nw hB3 hR3
        obtain ⟨kn, rfl⟩ : ∃ kn : Nat, kk = (kn : Int) := ⟨kk.toNat, by omega⟩
        exact ⟨fl, _, _, rfl, rfl, same_new (o := .tup [.str "plus", .int (kn : Int)]) ht _ _ L3.ls, few, fin L3 _ _ (.plus kn) ht ⟨by show kn < n; omega, trivial⟩⟩
      · refine ⟨_, rfl, by show 4 ≤ sizeLine; decide, fun la hla => ⟨la, _, rfl, .inl (lstAt upd_same), rfl, by decide, _, rfl, ifT (by show inV (.str "minus") (accZ.map V.str) = true; decide +kernel) ?_⟩⟩
        have La := L2.step np nw (fun c o e ne => same_new (o := .lst [.str "get", .str "set", .str "plus", .str "minus"]) hla c o e) (hR2.same (same_new hla))
        refine ⟨_, rfl, .inl ⟨rfl, _, lstAt La.ls⟩, _, rfl, _, rfl, _, rfl, p, (n : Int), rfl, La.row, by omega, by omega, fun kk H3 kk0 kk1 hB3 hR3 => ⟨by show 2 ≤ sizeLine; decide, fun t ht => ?_⟩⟩
        have L3 := La.step np nw hB3 hR3
        obtain ⟨kn, rfl⟩ : ∃ kn : Nat, kk = (kn : Int) := ⟨kk.toNat, by omega⟩
        exact ⟨fl, _, _, rfl, rfl, same_new (o := .tup [.str "minus", .int (kn : Int)]) ht _ _ L3.ls, few, fin L3 _ _ (.minus kn) ht ⟨by show kn < n; omega, trivial⟩⟩
      · refine ⟨_, rfl, by show 4 ≤ sizeLine; decide, fun la hla => ⟨la, _, rfl, .inl (lstAt upd_same), rfl, by decide, _, rfl, ifF (by show inV (.str "put") (accZ.map V.str) = false; decide +kernel) ?_⟩⟩
        have La := L2.step np nw (fun c o e ne => same_new (o := .lst [.str "get", .str "set", .str "plus", .str "minus"]) hla c o e) (hR2.same (same_new hla))
        refine ⟨_, rfl, rfl, _, rfl, ifT (by show decide (V.str "put" = V.str "put") = true; decide +kernel) ⟨_, rfl, .inl ⟨rfl, _, lstAt La.ls⟩, _, rfl, _, rfl, p, 7, rfl, La.row, by decide, by decide, fun kk H3 kk0 kk1 hB3 hR3 => ⟨kk, 3, rfl, rfl, by show 2 ≤ sizeLine; decide, fun t ht => ?_⟩⟩⟩
        have L3 := La.step np nw hB3 hR3
        exact ⟨fl, _, _, rfl, rfl, same_new (o := .tup [.str "put", .int (kk - 3)]) ht _ _ L3.ls, few, fin L3 _ _ (.put (kk - 3)) ht ⟨trivial, by show -1000000 ≤ kk - 3 ∧ kk - 3 ≤ 1000000; omega⟩⟩
      · refine ⟨_, rfl, by show 4 ≤ sizeLine; decide, fun la hla => ⟨la, _, rfl, .inl (lstAt upd_same), rfl, by decide, _, rfl, ifF (by show inV (.str "say") (accZ.map V.str) = false; decide +kernel) ?_⟩⟩
        have La := L2.step np nw (fun c o e ne => same_new (o := .lst [.str "get", .str "set", .str "plus", .str "minus"]) hla c o e) (hR2.same (same_new hla))
        refine ⟨_, rfl, rfl, _, rfl, ifF (by show decide (V.str "say" = V.str "put") = false; decide +kernel) ⟨_, rfl, by show 2 ≤ sizeLine; decide, fun lj hlj => ⟨lj, _, rfl, .inl (lstAt upd_same), rfl, by decide, _, rfl, ifF (by show inV (.str "say") (jumpZ.map V.str) = false; decide +kernel) ?_⟩⟩⟩
        have Lb := La.step np nw (fun c o e ne => same_new (o := .lst [.str "zero", .str "go"]) hlj c o e) (La.row.same (same_new hlj))
        refine ⟨_, rfl, .inl ⟨rfl, _, lstAt Lb.ls⟩, _, rfl, rfl, _, rfl, ifT (by show (!decide (V.str "say" = V.str "stop")) = true; decide +kernel) (ifT rfl ⟨_, rfl, by show 1 ≤ sizeLine; decide, fun t ht => ?_⟩)⟩
        exact ⟨fl, _, _, rfl, rfl, same_new (o := .tup [.str "say"]) ht _ _ Lb.ls, few, fin Lb _ _ .say ht ⟨trivial, trivial⟩⟩
      · refine ⟨_, rfl, by show 4 ≤ sizeLine; decide, fun la hla => ⟨la, _, rfl, .inl (lstAt upd_same), rfl, by decide, _, rfl, ifF (by show inV (.str "ask") (accZ.map V.str) = false; decide +kernel) ?_⟩⟩
        have La := L2.step np nw (fun c o e ne => same_new (o := .lst [.str "get", .str "set", .str "plus", .str "minus"]) hla c o e) (hR2.same (same_new hla))
        refine ⟨_, rfl, rfl, _, rfl, ifF (by show decide (V.str "ask" = V.str "put") = false; decide +kernel) ⟨_, rfl, by show 2 ≤ sizeLine; decide, fun lj hlj => ⟨lj, _, rfl, .inl (lstAt upd_same), rfl, by decide, _, rfl, ifF (by show inV (.str "ask") (jumpZ.map V.str) = false; decide +kernel) ?_⟩⟩⟩
        have Lb := La.step np nw (fun c o e ne => same_new (o := .lst [.str "zero", .str "go"]) hlj c o e) (La.row.same (same_new hlj))
        refine ⟨_, rfl, .inl ⟨rfl, _, lstAt Lb.ls⟩, _, rfl, rfl, _, rfl, ifT (by show (!decide (V.str "ask" = V.str "stop")) = true; decide +kernel) (ifT rfl ⟨_, rfl, by show 1 ≤ sizeLine; decide, fun t ht => ?_⟩)⟩
        exact ⟨fl, _, _, rfl, rfl, same_new (o := .tup [.str "ask"]) ht _ _ Lb.ls, few, fin Lb _ _ .ask ht ⟨trivial, trivial⟩⟩
      · refine ⟨_, rfl, by show 4 ≤ sizeLine; decide, fun la hla => ⟨la, _, rfl, .inl (lstAt upd_same), rfl, by decide, _, rfl, ifF (by show inV (.str "zero") (accZ.map V.str) = false; decide +kernel) ?_⟩⟩
        have La := L2.step np nw (fun c o e ne => same_new (o := .lst [.str "get", .str "set", .str "plus", .str "minus"]) hla c o e) (hR2.same (same_new hla))
        refine ⟨_, rfl, rfl, _, rfl, ifF (by show decide (V.str "zero" = V.str "put") = false; decide +kernel) ⟨_, rfl, by show 2 ≤ sizeLine; decide, fun lj hlj => ⟨lj, _, rfl, .inl (lstAt upd_same), rfl, by decide, _, rfl, ifT (by show inV (.str "zero") (jumpZ.map V.str) = true; decide +kernel) ?_⟩⟩⟩
        have Lb := La.step np nw (fun c o e ne => same_new (o := .lst [.str "zero", .str "go"]) hlj c o e) (La.row.same (same_new hlj))
        refine ⟨_, rfl, .inl ⟨rfl, _, lstAt Lb.ls⟩, _, rfl, _, rfl, _, rfl, (size : Int), 1, rfl, rfl, p, (size : Int) + 1, rfl, Lb.row, by omega, by omega, fun kk H3 kk0 kk1 hB3 hR3 => ⟨by show 2 ≤ sizeLine; decide, fun t ht => ?_⟩⟩
        have L3 := Lb.step np nw hB3 hR3
        obtain ⟨kn, rfl⟩ : ∃ kn : Nat, kk = (kn : Int) := ⟨kk.toNat, by omega⟩
        exact ⟨fl, _, _, rfl, rfl, same_new (o := .tup [.str "zero", .int (kn : Int)]) ht _ _ L3.ls, few, fin L3 _ _ (.zero kn) ht ⟨by show kn ≤ size; omega, trivial⟩⟩
      · refine ⟨_, rfl, by show 4 ≤ sizeLine; decide, fun la hla => ⟨la, _, rfl, .inl (lstAt upd_same), rfl, by decide, _, rfl, ifF (by show inV (.str "go") (accZ.map V.str) = false; decide +kernel) ?_⟩⟩
        have La := L2.step np nw (fun c o e ne => same_new (o := .lst [.str "get", .str "set", .str "plus", .str "minus"]) hla c o e) (hR2.same (same_new hla))
        refine ⟨_, rfl, rfl, _, rfl, ifF (by show decide (V.str "go" = V.str "put") = false; decide +kernel) ⟨_, rfl, by show 2 ≤ sizeLine; decide, fun lj hlj => ⟨lj, _, rfl, .inl (lstAt upd_same), rfl, by decide, _, rfl, ifT (by show inV (.str "go") (jumpZ.map V.str) = true; decide +kernel) ?_⟩⟩⟩
        have Lb := La.step np nw (fun c o e ne => same_new (o := .lst [.str "zero", .str "go"]) hlj c o e) (La.row.same (same_new hlj))
        refine ⟨_, rfl, .inl ⟨rfl, _, lstAt Lb.ls⟩, _, rfl, _, rfl, _, rfl, (size : Int), 1, rfl, rfl, p, (size : Int) + 1, rfl, Lb.row, by omega, by omega, fun kk H3 kk0 kk1 hB3 hR3 => ⟨by show 2 ≤ sizeLine; decide, fun t ht => ?_⟩⟩
        have L3 := Lb.step np nw hB3 hR3
        obtain ⟨kn, rfl⟩ : ∃ kn : Nat, kk = (kn : Int) := ⟨kk.toNat, by omega⟩
        exact ⟨fl, _, _, rfl, rfl, same_new (o := .tup [.str "go", .int (kn : Int)]) ht _ _ L3.ls, few, fin L3 _ _ (.go kn) ht ⟨by show kn ≤ size; omega, trivial⟩⟩
      · refine ⟨_, rfl, by show 4 ≤ sizeLine; decide, fun la hla => ⟨la, _, rfl, .inl (lstAt upd_same), rfl, by decide, _, rfl, ifF (by show inV (.str "stop") (accZ.map V.str) = false; decide +kernel) ?_⟩⟩
        have La := L2.step np nw (fun c o e ne => same_new (o := .lst [.str "get", .str "set", .str "plus", .str "minus"]) hla c o e) (hR2.same (same_new hla))
        refine ⟨_, rfl, rfl, _, rfl, ifF (by show decide (V.str "stop" = V.str "put") = false; decide +kernel) ⟨_, rfl, by show 2 ≤ sizeLine; decide, fun lj hlj => ⟨lj, _, rfl, .inl (lstAt upd_same), rfl, by decide, _, rfl, ifF (by show inV (.str "stop") (jumpZ.map V.str) = false; decide +kernel) ?_⟩⟩⟩
        have Lb := La.step np nw (fun c o e ne => same_new (o := .lst [.str "zero", .str "go"]) hlj c o e) (La.row.same (same_new hlj))
        refine ⟨_, rfl, .inl ⟨rfl, _, lstAt Lb.ls⟩, _, rfl, rfl, _, rfl, ifF (by show (!decide (V.str "stop" = V.str "stop")) = false; decide +kernel) ⟨_, rfl, p, 3, rfl, Lb.row, by decide, by decide, fun kk H3 kk0 kk1 hB3 hR3 => ⟨rfl, _, rfl, ?_⟩⟩⟩
        have L3 := Lb.step np nw hB3 hR3
        rw [dec_int]
        cases kk == (0 : Int) with
        | true =>
          refine ifT rfl ⟨_, rfl, by show 1 ≤ sizeLine; decide, fun t ht => ?_⟩
          exact ⟨fl, _, _, rfl, rfl, same_new (o := .tup [.str "stop"]) ht _ _ L3.ls, few, fin L3 _ _ .stop ht ⟨trivial, trivial⟩⟩
        | false =>
          refine ifF rfl ⟨by show 1 ≤ sizeLine; decide, fun t ht => ?_⟩
          exact ⟨fl, _, _, rfl, rfl, same_new (o := .tup [.str "say"]) ht _ _ L3.ls, few, fin L3 _ _ .say ht ⟨trivial, trivial⟩⟩
    · obtain ⟨xs, pg, y6, y7, L, hl, rfl⟩ := h'
      refine ⟨_, rfl, .inl ⟨fl, xs, rfl, lstAt L.ls, fun t ht => ?_⟩⟩
      have s1 := same_new (o := .tup xs) ht
      refine q _ _ pg (fun c o e ne => s1 _ _ (L.but c o e ne)) (L.row.same s1) ⟨t, xs, rfl, tupAt upd_same, L.each.imp fun _ _ z => z.on (Same.tups s1)⟩ (by omega) (by omega) (fun i hi => by rw [hl]; exact L.ok i hi)
end
end RH
set_option Elab.async false
set_option linter.all false
set_option maxRecDepth 100000
set_option maxHeartbeats 2000000
namespace RH
open PySem PySem.Spec PyProof.Rows L2
/-! ### long tuples -/
theorem rep_flat {α : Type} (k : Nat) (v : α) : (List.replicate k [v]).flatten = List.replicate k v := by
  induction k with
  | zero => rfl
  | succ k ih => rw [List.replicate_succ, List.flatten_cons, ih, List.replicate_succ]; rfl
end RH
set_option Elab.async false
set_option linter.all false
set_option maxRecDepth 100000
set_option maxHeartbeats 2000000
namespace RH
open PySem PySem.Spec PyProof.Rows L2
/-! ### programs that the checks take -/
theorem catT_ok {K : PySem.W.Frag} {H : Hp} {a b : Addr} {xs ys : List V} {Q : VK} (ha : SqT K H a xs) (hb : SqT K H b ys) (hl : xs.length + ys.length ≤ 1000) (q : ∀ r H', Same H H' → SqT K H' r (xs ++ ys) → Q (.ref r) H') : rCatA K (.ref a) (.ref b) H Q := by
  refine ⟨a, b, xs, ys, rfl, rfl, ha, hb, Nat.le_of_lt (small1000 hl), fun e => ?_, fun _ e => ?_, fun _ _ p hp => q p _ (same_new hp) (tupAt upd_same)⟩
  · subst e
    exact q b H (Same.refl H) hb
  · subst e
    exact q a H (Same.refl H) (by rw [List.append_nil]; exact ha)
theorem cl_listOf {X : Cx} (K : PySem.W.Frag) (h : X.K = K := by rfl) : CallR X (.type "list") (fun xs H Q => ∃ p ys, xs = [.ref p] ∧ (SqL K H p ys ∨ SqT K H p ys) ∧ ∀ l, H l = none → Q (.ref l) (upd H l (.lst ys))) := by
  subst h
  exact call_list_of
theorem Each.take {α : Type} {R : V → α → Prop} : ∀ {xs : List V} {ds : List α} (k : Nat), Each R xs ds → Each R (xs.take k) (ds.take k)
  | _, _, 0, _ => .nil
  | _, _, _ + 1, .nil => .nil
  | _, _, k + 1, .cons h t => .cons h (t.take k)
theorem Each.drop {α : Type} {R : V → α → Prop} : ∀ {xs : List V} {ds : List α} (k : Nat), Each R xs ds → Each R (xs.drop k) (ds.drop k)
  | _, _, 0, h => h
  | _, _, _ + 1, .nil => .nil
  | _, _, k + 1, .cons _ t => t.drop k
section
variable {K : PySem.W.Frag} {H H' : Hp} {n : Nat} {v pl : V}
theorem wd_head {a : Addr} {x : V} {ns : List Int} (h : SqT K H a (x :: ns.map V.int)) (hx : Sw K H x) (hl : ns.length < 63) : Wd K H (.ref a) (some (x :: ns.map V.int)) :=
  ⟨.tup h, fun xs z y hm => by
    cases z
    rcases List.mem_cons.mp hm with rfl | hm
    · exact hx
    · obtain ⟨i, _, rfl⟩ := List.mem_map.mp hm
      exact .int i, fun xs z => by cases z; rw [List.length_cons, List.length_map]; omega⟩
end
section
variable {p cnt : Int} {rl : Bool} {v : V}
theorem ins_num {w : Str} {b1 b2 b3 b4 b5 : Bool} (h1 : inZ w bareZ = b1) (h2 : inZ w jumpZ = b2) (h3 : (w == "put") = b3) (h4 : inZ w accZ = b4) (h5 : (w == "touch") = b5) :
    insW p cnt rl (some [.str w, v]) = (!b1 && (if b2 = true then inV2 0 cnt v else if b3 = true then inV2 (-1000000) 1000000 v else (b4 || (b5 && rl)) && inV2 0 (p - 1) v)) := by
  subst h1 h2 h3 h4 h5
  rfl
theorem in_get : insW p cnt rl (some [.str "get", v]) = inV2 0 (p - 1) v := by
  rw [ins_num (b1 := false) (b2 := false) (b3 := false) (b4 := true) (b5 := false) (by decide +kernel) (by decide +kernel) (by decide +kernel) (by decide +kernel) (by decide +kernel)]
  simp
theorem in_set : insW p cnt rl (some [.str "set", v]) = inV2 0 (p - 1) v := by
  rw [ins_num (b1 := false) (b2 := false) (b3 := false) (b4 := true) (b5 := false) (by decide +kernel) (by decide +kernel) (by decide +kernel) (by decide +kernel) (by decide +kernel)]
  simp
theorem in_plus : insW p cnt rl (some [.str "plus", v]) = inV2 0 (p - 1) v := by
  rw [ins_num (b1 := false) (b2 := false) (b3 := false) (b4 := true) (b5 := false) (by decide +kernel) (by decide +kernel) (by decide +kernel) (by decide +kernel) (by decide +kernel)]
  simp
theorem in_minus : insW p cnt rl (some [.str "minus", v]) = inV2 0 (p - 1) v := by
  rw [ins_num (b1 := false) (b2 := false) (b3 := false) (b4 := true) (b5 := false) (by decide +kernel) (by decide +kernel) (by decide +kernel) (by decide +kernel) (by decide +kernel)]
  simp
theorem in_touch : insW p cnt rl (some [.str "touch", v]) = (rl && inV2 0 (p - 1) v) := by
  rw [ins_num (b1 := false) (b2 := false) (b3 := false) (b4 := false) (b5 := true) (by decide +kernel) (by decide +kernel) (by decide +kernel) (by decide +kernel) (by decide +kernel)]
  cases rl <;> simp
theorem in_put : insW p cnt rl (some [.str "put", v]) = inV2 (-1000000) 1000000 v := by
  rw [ins_num (b1 := false) (b2 := false) (b3 := true) (b4 := false) (b5 := false) (by decide +kernel) (by decide +kernel) (by decide +kernel) (by decide +kernel) (by decide +kernel)]
  simp
theorem in_zero : insW p cnt rl (some [.str "zero", v]) = inV2 0 cnt v := by
  rw [ins_num (b1 := false) (b2 := true) (b3 := false) (b4 := false) (b5 := false) (by decide +kernel) (by decide +kernel) (by decide +kernel) (by decide +kernel) (by decide +kernel)]
  simp
theorem in_go : insW p cnt rl (some [.str "go", v]) = inV2 0 cnt v := by
  rw [ins_num (b1 := false) (b2 := true) (b3 := false) (b4 := false) (b5 := false) (by decide +kernel) (by decide +kernel) (by decide +kernel) (by decide +kernel) (by decide +kernel)]
  simp
theorem in1_say : insW p cnt rl (some [.str "say"]) = true := by
  show inZ "say" bareZ = true
  decide +kernel
theorem in1_ask : insW p cnt rl (some [.str "ask"]) = true := by
  show inZ "ask" bareZ = true
  decide +kernel
theorem in1_stop : insW p cnt rl (some [.str "stop"]) = true := by
  show inZ "stop" bareZ = true
  decide +kernel
end
def insV (i : Ins) : Option (List V) := some (.str i.word :: i.num.map V.int)
def rlI (rl : Bool) : Ins → Prop
  | .touch _ => rl = true
  | .put c => -1000000 ≤ c ∧ c ≤ 1000000
  | _ => True
theorem rlI_of {i : Ins} {rl : Bool} (h : stI i) : rlI rl i := by
  cases i <;> first | exact h | trivial | exact h.elim
theorem inV2_in {lo hi i : Int} (h1 : lo ≤ i) (h2 : i ≤ hi) : inV2 lo hi (.int i) = true := by
  show (decide (lo ≤ i) && decide (i ≤ hi)) = true
  rw [decide_eq_true h1, decide_eq_true h2]
  rfl
theorem ins_good {n cnt : Nat} {rl : Bool} {i : Ins} (h : okIns n cnt i) (r : rlI rl i) : insW (n : Int) (cnt : Int) rl (insV i) = true := by
  cases i with
  | say => exact in1_say
  | ask => exact in1_ask
  | stop => exact in1_stop
  | put c =>
    show insW _ _ _ (some [.str "put", .int c]) = true
    rw [in_put]
    exact inV2_in r.1 r.2
  | zero t =>
    have h : t ≤ cnt := h
    show insW _ _ _ (some [.str "zero", .int (t : Int)]) = true
    rw [in_zero]
    exact inV2_in (by omega) (by omega)
  | go t =>
    have h : t ≤ cnt := h
    show insW _ _ _ (some [.str "go", .int (t : Int)]) = true
    rw [in_go]
    exact inV2_in (by omega) (by omega)
  | get k =>
    have h : k < n := h
    show insW _ _ _ (some [.str "get", .int (k : Int)]) = true
    rw [in_get]
    exact inV2_in (by omega) (by omega)
  | set k =>
    have h : k < n := h
    show insW _ _ _ (some [.str "set", .int (k : Int)]) = true
    rw [in_set]
    exact inV2_in (by omega) (by omega)
  | plus k =>
    have h : k < n := h
    show insW _ _ _ (some [.str "plus", .int (k : Int)]) = true
    rw [in_plus]
    exact inV2_in (by omega) (by omega)
  | minus k =>
    have h : k < n := h
    show insW _ _ _ (some [.str "minus", .int (k : Int)]) = true
    rw [in_minus]
    exact inV2_in (by omega) (by omega)
  | touch k =>
    have h : k < n := h
    have r : rl = true := r
    show insW _ _ _ (some [.str "touch", .int (k : Int)]) = true
    rw [in_touch, r, inV2_in (by omega) (by omega)]
    rfl
theorem pg_fine {n : Nat} {most : Int} {rl : Bool} {pg : List Ins} (h1 : 1 ≤ pg.length) (h2 : (pg.length : Int) ≤ most) (ok : ∀ i ∈ pg, okIns n pg.length i ∧ rlI rl i) : pgBad (n : Int) most rl (some (pg.map insV)) = none := by
  unfold pgBad
  dsimp only
  rw [List.length_map, decide_eq_true (by omega), decide_eq_true h2]
  have : ((pg.map insV).findIdx? fun wo => !insW (n : Int) pg.length rl wo) = none := by
    rw [List.findIdx?_eq_none_iff]
    intro wo hm
    obtain ⟨i, hi, rfl⟩ := List.mem_map.mp hm
    rw [ins_good (ok i hi).1 (ok i hi).2]
    rfl
  rw [this]
  rfl
section
variable {K : PySem.W.Frag} {H H' : Hp} {n : Nat} {v pl : V}
theorem ins_wd {i : Ins} (r : RIns K H v i) : Wd K H v (insV i) := by
  obtain ⟨a, rfl, hS⟩ := r
  exact wd_head hS (.str _) (by cases i <;> first | (show 0 < 63; decide) | (show 1 < 63; decide))
theorem pg_wds {xs : List V} {pg : List Ins} (hE : Each (RIns K H) xs pg) : Each (Wd K H) xs (pg.map insV) := by
  induction hE with
  | nil => exact .nil
  | cons h _ ih => exact .cons (ins_wd h) ih
theorem hk_pg {pg : List Ins} (r : RPg K H v pg) : Hk K H v (some (pg.map insV)) := by
  obtain ⟨a, xs, rfl, hS, hE⟩ := r
  exact .tup hS (pg_wds hE)
variable {T : List (Addr × Str)} {p : Addr} {vH vP : V} {h : List (List Int)} {pg : List Ins}
end
end RH
set_option Elab.async false
set_option linter.all false
set_option maxRecDepth 100000
set_option maxHeartbeats 2000000
namespace RH
open PySem PySem.Spec PyProof.Rows L2
/-! ### texts: lines and words -/
abbrev tx (l : List Nat) : V := .str (SX.S l)
def wordsIn (l : List Nat) : List (List Nat) := (TL.spl [32] 0 [] l).filter fun w => !w.isEmpty
def linesIn (t : List Nat) : List (List (List Nat)) := (TL.spl [10] 0 [] t).map wordsIn
/-- a list of words, a list of such lists -/
def LW (H : Hp) (v : V) (ws : List (List Nat)) : Prop := ∃ a, v = .ref a ∧ H a = some (.lst (ws.map tx))
def LL (H : Hp) (v : V) (ls : List (List (List Nat))) : Prop := ∃ a xs, v = .ref a ∧ H a = some (.lst xs) ∧ Each (LW H) xs ls
theorem nl_eq : ("\n" : Str) = SX.S [10] := by decide +kernel
theorem sp_eq : (" " : Str) = SX.S [32] := by decide +kernel
theorem split_nl (a : List Nat) : Txt.split (SX.S a) ("\n" : Str) = (TL.spl [10] 0 [] a).map SX.S := by
  rw [nl_eq]
  exact SX.split_S (by simp) (by decide)
theorem split_sp (a : List Nat) : Txt.split (SX.S a) (" " : Str) = (TL.spl [32] 0 [] a).map SX.S := by
  rw [sp_eq]
  exact SX.split_S (by simp) (by decide)
theorem LW.on {H H' : Hp} (e : Same H H') {v : V} {ws : List (List Nat)} (h : LW H v ws) : LW H' v ws := by
  obtain ⟨a, rfl, hS⟩ := h
  exact ⟨a, rfl, e _ _ hS⟩
/-- a list of lists grows -/
theorem LW.grow {H H' : Hp} {D : Addr} {us : List V} (eD : H D = some (.lst us)) (k : ∀ b o, H b = some o → b ≠ D → H' b = some o) : ∀ {xs : List V} {ls : List (List (List Nat))}, (∀ x ∈ xs, x ∈ us) → Each (LW H) xs ls → Each (LW H') xs ls
  | _, _, _, .nil => .nil
  | x :: xs, _, hm, .cons h t => .cons (by
      obtain ⟨a, rfl, hS⟩ := h
      refine ⟨a, rfl, k a _ hS fun z => ?_⟩
      have hx := hm _ (List.mem_cons_self ..)
      rw [z, eD] at hS
      cases hS
      rw [List.mem_map] at hx
      obtain ⟨w, _, e⟩ := hx
      cases e) (LW.grow eD k (fun y hy => hm y (List.mem_cons_of_mem _ hy)) t)
/-- what is cut is no more than what there was -/
theorem cut_len (c : Nat) : ∀ (t : List Nat) (acc : List Nat), (TL.spl [c] 0 acc t).length ≤ t.length + 1 ∧ ∀ w ∈ TL.spl [c] 0 acc t, w.length ≤ acc.length + t.length
  | [], acc => by
    unfold TL.spl
    simp
  | x :: t, acc => by
    cases hp : TL.pre [c] (x :: t) with
    | true =>
      rw [TL.spl_hit hp]
      obtain ⟨h1, h2⟩ := cut_len c t []
      refine ⟨by simpa using h1, fun w hw => ?_⟩
      rcases List.mem_cons.mp hw with rfl | hw
      · omega
      · have := h2 w hw
        simp only [List.length_nil, List.length_cons] at this ⊢
        omega
    | false =>
      rw [TL.spl_miss hp]
      obtain ⟨h1, h2⟩ := cut_len c t (acc ++ [x])
      refine ⟨by simp only [List.length_cons]; omega, fun w hw => ?_⟩
      have := h2 w hw
      simp only [List.length_append, List.length_cons, List.length_nil] at this ⊢
      omega
theorem map_tx {ls : List (List Nat)} {i : Nat} {x : V} (h : (ls.map (V.str ∘ SX.S))[i]? = some x) : ∃ l, ls[i]? = some l ∧ x = tx l := by
  rw [List.getElem?_map] at h
  cases e : ls[i]? with
  | none => rw [e] at h; cases h
  | some l => rw [e] at h; cases h; exact ⟨l, rfl, rfl⟩
abbrev rSplitW : V → List V → Hp → VK → Prop := fun x xs H Q => ∃ a b, x = .str a ∧ xs = [.str b] ∧ (b.length == 0) = false ∧ a.length + 2 ≤ sizeLine ∧ rNewStrs (Txt.split a b) H Q
abbrev tTru (K : PySem.W.Frag) (i : Nat) : TT := fun σ H Q => tVar i σ H fun x H' => ∃ k, TruV K x H' k ∧ Q k H'
abbrev tWords (K : PySem.W.Frag) (i j : Nat) : TE := tLc (iList K (tM1 rSplitW (tVar i) (tC (.str " ")))) (gName j) (tTru K j) (tVar j) [j]
def retL (st : Stmt) : Scope := match (defBody st).getLast? with
  | some (.Return (some (.ListComp _ _ sc _)) _) => sc
  | _ => defScope st
/-- a statement's way on told -/
theorem ps_cut {X : Cx} {st : Stmt} {t : TS} (G : L2.St → Hp → Prop) (h : PS X st t) : PS X st (fun D σ H => (∀ σ' H', G σ' H' → D.nx σ' H') ∧ t { D with nx := G } σ H) := by
  refine ⟨fun pins s σ H D I hw => thn (h.run pins s σ H { D with nx := G } I hw.2) fun fl s1 q => ?_⟩
  cases fl with
  | next =>
    obtain ⟨σ', H', I', q⟩ := q
    exact ⟨σ', H', I', hw.1 _ _ q⟩
  | ret v => exact q
  | brk => exact q
  | cont => exact q
section
variable {P : Program} {w : World} {K : PySem.W.Frag} {mg : Str → Option Value} {base : Heap}
def spStrG : Sp := fun vs H Q _ => ∃ z, vs = [.str z] ∧ Q .non H
theorem ok_check_stringG (F : Df K mg "check_string" st_check_string ["text"]) (B : Bu mg) : Cal P w K mg base 1 "check_string" spStrG := by
  refine mkCal F sc_check_string (fun vs H Q E h => ?_) (fun f cdv A outer s H vs Q E hr h => ?_)
  · obtain ⟨z, rfl, _⟩ := h
    rfl
  · obtain ⟨z, rfl, q⟩ := h
    exact ⟨_, pss_one (ps_if (pt_not (pt_val (pe_callB call_isi (by rfl) B.isi (by decide +kernel) (pa_cons (pv 0) (pa_cons (pe_bltn (v := .ty "str") (by rfl) B.str (by decide +kernel) rfl) pa_nil))))) (pss_one ps_no) pss_nil),
      _, rfl, .str z, .ty "str", _, _, true, rfl, .ty "str", .base (.str z), kit_ty (by decide +kernel), _, rfl, ifF rfl q⟩
def spLinesIn : Sp := fun vs H Q _ => ∃ t, vs = [tx t] ∧ t.length ≤ 100000 ∧ ∀ H' v, Same H H' → LL H' v (linesIn t) → Q v H'
theorem ok_lines_in (F : Df K mg "lines_in" st_lines_in ["text"]) (CS : Cal P w K mg base 1 "check_string" spStrG) : Cal P w K mg base 2 "lines_in" spLinesIn := by
  refine mkCal F sc_lines_in (fun vs H Q E h => ?_) (fun f cdv A outer s H vs Q E hr h => ?_)
  · obtain ⟨t, rfl, _⟩ := h
    rfl
  · obtain ⟨t, rfl, ht, q⟩ := h
    refine ⟨_, pss_cons (ps_expr (pc CS hr (pa_cons (pv 0) pa_nil)))
      (pss_one (ps_ret (pe_lc (own := [("line", 1)]) (g := gName 1) (tt := tYes) rfl sc_lines_in.nd (pi_list (pe_split (pv 0) pe_str))
        (blkOk_by (N := ["text", "line", "word"]) (sc := defScope st_lines_in) (by decide +kernel)) (fun _ _ _ _ _ => pg_name (i := 1) sc_lines_in.nd rfl (Or.inl rfl)) (fun _ _ _ _ _ => pts_nil)
        (te := tWords K 1 2)
        (fun _ _ _ _ _ => pe_lc (own := [("word", 2)]) (g := gName 2) rfl sc_lines_in.nd (pi_list (pe_split (pv 1) pe_str))
          (blkOk_by (N := ["text", "line", "word"]) (sc := retL st_lines_in) (by decide +kernel)) (fun _ _ _ _ _ => pg_name (i := 2) sc_lines_in.nd rfl (Or.inl rfl)) (fun _ _ _ _ _ => pts_one (pt_truth (pv 2) (by intro _; rfl))) (fun _ _ _ _ _ => pv 2))))), ?_⟩
    refine ⟨_, rfl, _, rfl, _, rfl, ⟨_, rfl⟩, _, _, rfl, rfl, rfl, by rw [sizeLine_eq, SX.S_len]; omega, fun L hL => ⟨L, rfl, ⟨_, lstAt upd_same⟩, fun D hD => ?_⟩⟩
    obtain ⟨ls, hls⟩ : ∃ ls, ls = TL.spl [10] 0 [] t := ⟨_, rfl⟩
    have bl := cut_len 10 t []
    rw [split_nl, List.map_map, ← hls] at hD ⊢
    rw [← hls] at bl
    have s1 := same_new (o := .lst (ls.map (V.str ∘ SX.S))) hL
    refine lc_list (K := K) (a := L) (xs := ls.map (V.str ∘ SX.S)) (fun i H' => Same (upd H L (.lst (ls.map (V.str ∘ SX.S)))) H' ∧ ∃ us, H' D = some (.lst us) ∧ Each (LW H') us ((ls.take i).map wordsIn)) ⟨same_new hD, [], upd_same, .nil⟩ (fun i H' _ h' => lstAt (h'.1 _ _ upd_same)) (fun i x H' hx h' => ?_) (fun H' h' => ?_)
    · obtain ⟨sm, us, eD, eu⟩ := h'
      obtain ⟨l, hl, rfl⟩ := map_tx hx
      have ll := bl.2 l (List.mem_of_getElem? hl)
      simp only [List.length_nil, Nat.zero_add] at ll
      obtain ⟨ws, hws⟩ : ∃ ws, ws = TL.spl [32] 0 [] l := ⟨_, rfl⟩
      have bw := cut_len 32 l []
      rw [← hws] at bw
      refine ⟨rfl, _, rfl, ⟨_, rfl⟩, _, _, rfl, rfl, rfl, by rw [sizeLine_eq, SX.S_len]; omega, fun L2 hL2 => ⟨L2, rfl, ⟨_, lstAt upd_same⟩, fun D2 hD2 => ?_⟩⟩
      rw [split_sp, List.map_map, ← hws] at hD2 ⊢
      have s2 := same_new (o := .lst (ws.map (V.str ∘ SX.S))) hL2
      refine lc_list (K := K) (a := L2) (xs := ws.map (V.str ∘ SX.S)) (fun j H2 => Same (upd H' L2 (.lst (ws.map (V.str ∘ SX.S)))) H2 ∧ H2 D2 = some (.lst (((ws.take j).filter fun w => !w.isEmpty).map tx))) ⟨same_new hD2, upd_same⟩ (fun j H2 _ h2 => lstAt (h2.1 _ _ upd_same)) (fun j y H2 hy h2 => ?_) (fun H2 h2 => ?_)
      · obtain ⟨sm2, e2⟩ := h2
        obtain ⟨wd, hw, rfl⟩ := map_tx hy
        have lw := bw.2 wd (List.mem_of_getElem? hw)
        simp only [List.length_nil, Nat.zero_add] at lw
        have tk : ws.take (j + 1) = ws.take j ++ [wd] := by rw [List.take_add_one, hw]; rfl
        refine ⟨rfl, _, rfl, (((SX.S wd).length : Int) != 0), ⟨by rw [sizeLine_eq, SX.S_len]; omega, rfl⟩, ?_⟩
        rw [SX.S_len, tk, List.filter_append]
        cases wd with
        | nil => exact ⟨sm2, by rw [e2]; simp⟩
        | cons c r =>
          have e : (((c :: r).length : Int) != 0) = true := by simp; omega
          rw [if_pos e]
          refine ⟨_, rfl, _, e2, ?_, fun b o eb => ?_, ?_⟩
          · have h1 := List.length_filter_le (fun w : List Nat => !w.isEmpty) (ws.take j)
            have h2 := bw.1
            rw [List.length_map, sizeLine_eq]
            rw [List.length_take] at h1
            omega
          · rw [upd_ne (ne_of_none eb hD2)]
            exact sm2 b o eb
          · rw [upd_same]; simp
      · obtain ⟨sm2, e2⟩ := h2
        rw [List.length_map, List.take_length] at e2
        have s3 := s2.trans sm2
        refine ⟨us, s3 _ _ eD, ?_, fun b o eb => ?_, us ++ [.ref D2], upd_same, ?_⟩
        · have h1 := eu.len
          have h2 := bl.1
          rw [List.length_map, List.length_take] at h1
          rw [sizeLine_eq]
          omega
        · rw [upd_ne (ne_of_none eb hD)]
          exact s3 b o (sm b o eb)
        · have tk : ls.take (i + 1) = ls.take i ++ [l] := by rw [List.take_add_one, hl]; rfl
          rw [tk, List.map_append]
          have nd : D2 ≠ D := fun z => by
            rw [z, s2 _ _ eD] at hD2
            cases hD2
          refine Each.snoc ⟨D2, rfl, ?_⟩ (LW.grow (us := us) eD (fun b o eb ne => by
            rw [upd_ne ne]
            exact s3 b o eb) (fun x hx => hx) eu)
          rw [upd_ne nd, e2]
          unfold wordsIn
          rw [← hws]
    · obtain ⟨sm, us, eD, eu⟩ := h'
      refine q H' _ (s1.trans sm) ⟨D, us, rfl, eD, ?_⟩
      unfold linesIn
      rw [← hls]
      rw [List.length_map, List.take_length] at eu
      exact eu
end
end RH
set_option Elab.async false
set_option linter.all false
set_option maxRecDepth 100000
set_option maxHeartbeats 2000000
namespace RH
open PySem PySem.Spec PyProof.Rows L2
/-! ### numbers told -/
def figs (w : List Nat) : Bool := w.all fun c => decide (48 ≤ c) && decide (c ≤ 57)
def valW (w : List Nat) : Nat := NumText.digitsVal w
def numTold (w : List Nat) (most : Nat) : Option Int :=
  if w = [] ∨ (w.head? = some 48 ∧ 1 < w.length) then none else if figs w = true ∧ valW w ≤ most then some (valW w : Int) else none
def sgnTold (w : List Nat) (most : Nat) : Option Int :=
  if w.head? = some 45 then (match numTold w.tail most with
    | none => none
    | some i => if i = 0 then none else some (-i))
  else numTold w most
def onI : Option Int → V
  | none => .non
  | some i => .int i
theorem valW_snoc (w : List Nat) (c : Nat) : valW (w ++ [c]) = valW w * 10 + (c - 48) := NumText.digitsVal_snoc w c
theorem valW_take (w : List Nat) (i : Nat) : valW (w.take i) ≤ valW w := by
  have h : valW w = (w.drop i).foldl (fun acc c => acc * 10 + (c - 48)) (valW (w.take i)) := by
    unfold valW NumText.digitsVal
    rw [← List.foldl_append, List.take_append_drop]
  rw [h]
  exact NumText.foldl_ge _ _
theorem figs_take {w : List Nat} {i c : Nat} (h : figs (w.take i) = true) (hc : w[i]? = some c) : figs (w.take (i + 1)) = (decide (48 ≤ c) && decide (c ≤ 57)) := by
  unfold figs at h ⊢
  rw [List.take_add_one, hc, List.all_append, h]
  simp
theorem figs_mem {w : List Nat} {i c : Nat} (hc : w[i]? = some c) (h : (decide (48 ≤ c) && decide (c ≤ 57)) = false) : figs w = false := by
  cases e : figs w with
  | false => rfl
  | true =>
    have := List.all_eq_true.mp e c (List.mem_of_getElem? hc)
    rw [h] at this
    cases this
theorem figures_eq : ("0123456789" : Str).cps.toList = [48, 49, 50, 51, 52, 53, 54, 55, 56, 57] := by decide +kernel
theorem at0 {c : Nat} {r : List Nat} : atI (SX.S (c :: r)).cps.toList 0 = some c := atI_nat (j := 0) (by simp)
theorem in_figures (c : Nat) : decide (c ∈ ("0123456789" : Str).cps.toList) = (decide (48 ≤ c) && decide (c ≤ 57)) := by
  rw [figures_eq, ← Bool.decide_and]
  refine decide_eq_decide.mpr ⟨fun h => ?_, fun h => ?_⟩
  · simp only [List.mem_cons, List.not_mem_nil, or_false] at h
    omega
  · simp only [List.mem_cons, List.not_mem_nil, or_false]
    omega
theorem one_figure {c : Nat} (h : (decide (48 ≤ c) && decide (c ≤ 57)) = true) : PySem.intText? (⟨#[c]⟩ : Str) = some ((c - 48 : Nat) : Int) := by
  have e := SX.int_S (a := [c]) (by simpa using h) (by simp) (by simp)
  rw [show (⟨#[c]⟩ : Str) = SX.S [c] from rfl, e]
  show some (((0 * 10 + (c - 48) : Nat)) : Int) = _
  rw [Nat.zero_mul, Nat.zero_add]
section
variable {P : Program} {w : World} {K : PySem.W.Frag} {mg : Str → Option Value} {base : Heap}
def spNumTold : Sp := fun vs H Q _ => ∃ (w : List Nat) (most : Nat), vs = [tx w, .int (most : Int)] ∧ w.length ≤ 100000 ∧ Q (onI (numTold w most)) H
theorem ok_number_told (F : Df K mg "number_told" st_number_told ["word", "most"]) (B : Bu mg) (fg : ∃ t, mg "FIGURES" = some (.str "0123456789" t)) : Cal P w K mg base 1 "number_told" spNumTold := by
  refine mkCal F sc_number_told (fun vs H Q E h => ?_) (fun f cdv A outer s H vs Q E hr h => ?_)
  · obtain ⟨w, most, rfl, _⟩ := h
    rfl
  · obtain ⟨z, most, rfl, hz, q⟩ := h
    refine ⟨_, pss_cons (ps_if (PW.pt (pw_or (pt_not (pt_truth (pv 0) (by intro _; rfl))) (pw_or1 (PW.pt (pw_and (pt_cmpR op_eq (pe_ix ix_str (pv 0) pe_int (fun _ _ => rfl)) pe_str (nomark _)) (pw_and1 (pt_cmpR op_gt (pe_callB call_len_str (by rfl) B.len PySem.boot_len (pa_cons (pv 0) pa_nil)) pe_int (nomark _)))))))) (pss_one (ps_ret pe_non)) pss_nil)
      (pss_cons (ps_set (i := 2) sc_number_told.nd rfl (.inl rfl) pe_int)
      (pss_cons (ps_for PassesOwn.never rfl (pi_str (pv 0)) (pg_name (i := 3) sc_number_told.nd rfl (.inl rfl))
        (pss_cons (ps_if (pt_cmpR op_notIn_sign (pv 3) (C8.pe_gc (v := .str "0123456789") (by rfl) (by obtain ⟨t, e⟩ := fg; exact ⟨_, e, t, rfl⟩)) rfl) (pss_one (ps_ret pe_non)) pss_nil)
        (pss_cons (ps_set (i := 2) sc_number_told.nd rfl (.inl rfl) (pe_op op_add (pe_op op_mul pe_int (pv 2)) (pe_callTy call_int_str (by rfl) B.int (by decide +kernel) (pa_cons (pv 3) pa_nil))))
        (pss_one (ps_if (pt_cmpR op_gt (pv 2) (pv 1) (nomark _)) (pss_one (ps_ret pe_non)) pss_nil)))))
      (pss_one (ps_ret (pv 2))))), ?_⟩
    have zl : (SX.S z).length ≤ sizeLine := by rw [SX.S_len, sizeLine_eq]; omega
    cases z with
    | nil => exact ⟨_, rfl, false, ⟨zl, rfl⟩, ifT rfl (ifT rfl q)⟩
    | cons c r =>
      have ek : (((SX.S (c :: r)).length : Int) != 0) = true := by rw [SX.S_len]; simp; omega
      refine ⟨_, rfl, true, ⟨zl, ek.symm⟩, ifF rfl ?_⟩
      refine ⟨_, rfl, _, _, c, rfl, rfl, zl, at0, ?_⟩
      refine ⟨rfl, _, rfl, ?_⟩
      have e0 : decide (V.str ⟨#[c]⟩ = V.str "0") = decide (c = 48) := by
        rw [show ("0" : Str) = SX.S [48] from by decide +kernel]
        refine decide_eq_decide.mpr ⟨fun h => ?_, fun h => by rw [h]⟩
        injection h with h
        have := SX.S_inj (a := [c]) (b := [48]) h
        injection this
      rw [e0]
      by_cases h0 : c = 48 ∧ 1 < (c :: r).length
      · have no : numTold (c :: r) most = none := if_pos (.inr ⟨by rw [h0.1]; rfl, h0.2⟩)
        rw [no] at q
        refine ifT (decide_eq_true h0.1) ⟨_, rfl, _, rfl, zl, _, _, rfl, rfl, _, rfl, ?_⟩
        exact ifT (decide_eq_true (by rw [SX.S_len]; have := h0.2; omega)) q
      · have yes : numTold (c :: r) most = if figs (c :: r) = true ∧ valW (c :: r) ≤ most then some (valW (c :: r) : Int) else none := if_neg fun h => by
          rcases h with h | ⟨h1, h2⟩
          · cases h
          · injection h1 with h1
            exact h0 ⟨h1, h2⟩
        rw [yes] at q
        obtain ⟨l, hl⟩ : ∃ l, l = c :: r := ⟨_, rfl⟩
        rw [← hl] at q zl
        have hzl : l.length ≤ 100000 := by rw [hl]; exact hz
        have qn : ¬ (figs l = true ∧ valW l ≤ most) → Q .non H := fun h => by
          rw [if_neg h] at q
          exact q
        rcases h48 : decide (c = 48) with _ | _
        refine ifF rfl (ifF rfl ?_)
        rotate_left
        refine ifT rfl ⟨_, rfl, _, rfl, by rw [← hl]; exact zl, _, _, rfl, rfl, _, rfl, ifF (decide_eq_false (by rw [SX.S_len]; intro z; exact h0 ⟨of_decide_eq_true h48, by omega⟩)) ?_⟩
        all_goals
          show tSeq _ _ _ (L2.start _ [tx (c :: r), V.int (most : Int)]) H
          rw [← hl]
          refine ⟨_, rfl, _, rfl, L2.for_it L2.walk_str (fun i σ H' => ∃ y3, H' = H ∧ figs (l.take i) = true ∧ valW (l.take i) ≤ most ∧ σ = [some (tx l), some (.int (most : Int)), some (.int (valW (l.take i) : Int)), y3]) ⟨none, rfl, rfl, Nat.zero_le _, rfl⟩ (fun _ _ _ _ _ => trivial) (fun i x σ H1 H' hi h' y => ?_) (fun σ H' h' => ?_)⟩
          · obtain ⟨y3, rfl, hf, hv, rfl⟩ := h'
            obtain ⟨rfl, c2, hc2, rfl⟩ := y
            have hc3 : l[i]? = some c2 := by simpa using hc2
            refine ⟨_, rfl, c2, _, rfl, rfl, _, rfl, ?_⟩
            rw [in_figures]
            cases h3 : (decide (48 ≤ c2) && decide (c2 ≤ 57)) with
            | false => exact ifT rfl (qn fun h => by rw [figs_mem hc3 h3] at h; cases h.1)
            | true =>
              have tk : l.take (i + 1) = l.take i ++ [c2] := by rw [List.take_add_one, hc3]; rfl
              have ft := figs_take hf hc3
              rw [h3] at ft
              have vt : valW (l.take (i + 1)) = valW (l.take i) * 10 + (c2 - 48) := by rw [tk, valW_snoc]
              have vi : (10 : Int) * (valW (l.take i) : Int) + ((c2 - 48 : Nat) : Int) = (valW (l.take (i + 1)) : Int) := by rw [vt]; omega
              have le := valW_take l (i + 1)
              refine ifF rfl ⟨_, rfl, _, _, rfl, rfl, .inl ⟨by decide, by decide⟩, _, rfl, _, _, rfl, one_figure h3, by show 1 ≤ 640; decide, _, _, rfl, rfl, ?_⟩
              refine ⟨_, rfl, _, rfl, _, _, rfl, rfl, _, rfl, ?_⟩
              by_cases hm : valW (l.take (i + 1)) ≤ most
              · exact ifF (decide_eq_false (by omega)) ⟨_, rfl, ft, hm, by rw [← vi]; rfl⟩
              · exact ifT (decide_eq_true (by omega)) (qn fun h => hm (by omega))
          · obtain ⟨y3, rfl, hf, hv, rfl⟩ := h'
            have e : l.take (SX.S l).cps.size = l := by simp
            rw [e] at hf hv
            rw [if_pos ⟨hf, hv⟩] at q
            refine ⟨_, rfl, ?_⟩
            rw [e]
            exact q
def spSgnTold : Sp := fun vs H Q _ => ∃ (w : List Nat) (most : Nat), vs = [tx w, .int (most : Int)] ∧ w.length ≤ 100000 ∧ Q (onI (sgnTold w most)) H
theorem ok_signed_told (F : Df K mg "signed_number_told" st_signed_number_told ["word", "most"]) (CN : Cal P w K mg base 1 "number_told" spNumTold) : Cal P w K mg base 2 "signed_number_told" spSgnTold := by
  refine mkCal F sc_signed_number_told (fun vs H Q E h => ?_) (fun f cdv A outer s H vs Q E hr h => ?_)
  · obtain ⟨w, most, rfl, _⟩ := h
    rfl
  · obtain ⟨z, most, rfl, hz, q⟩ := h
    refine ⟨_, pss_cons (ps_if (pt_cmpR op_ne (pe_slice sl_str (pv 0) po_none (po_some pe_int)) pe_str (nomark _)) (pss_one (ps_ret (pc CN hr (pa_cons (pv 0) (pa_cons (pv 1) pa_nil))))) pss_nil)
      (pss_cons (ps_set (i := 2) sc_signed_number_told.nd rfl (.inl rfl) (pc CN hr (pa_cons (pe_slice sl_str (pv 0) (po_some pe_int) po_none) (pa_cons (pv 1) pa_nil))))
      (pss_one (ps_ret (pe_ifExp (PW.pt (pw_or (pt_cmp (pc_isN (pv 2))) (pw_or1 (pt_cmpR op_eq (pv 2) pe_int (nomark _))))) pe_non (pe_un un_neg (pv 2)))))), ?_⟩
    have zl : (SX.S z).length ≤ sizeLine := by rw [SX.S_len, sizeLine_eq]; omega
    have h1 : cutS (SX.S z) none (some 1) = SX.S (z.take 1) := by rw [C8.cutS_slice, SX.slice_to (by decide)]; rfl
    have h2 : cutS (SX.S z) (some 1) none = SX.S (z.drop 1) := by rw [C8.cutS_slice, SX.slice_from (by decide)]; rfl
    refine ⟨_, rfl, _, rfl, _, rfl, zl, ?_⟩
    rw [h1]
    refine ⟨rfl, _, rfl, ?_⟩
    have e0 : decide (V.str (SX.S (z.take 1)) = V.str "-") = decide (z.head? = some 45) := by
      rw [show ("-" : Str) = SX.S [45] from by decide +kernel]
      refine decide_eq_decide.mpr ⟨fun h => ?_, fun h => ?_⟩
      · injection h with h
        have := SX.S_inj h
        cases z with
        | nil => cases this
        | cons c r => simp at this; simp [this]
      · cases z with
        | nil => cases h
        | cons c r => simp at h; simp [h]
    show (if (!decide (V.str (SX.S (z.take 1)) = V.str "-")) = true then _ else _)
    rw [e0]
    unfold sgnTold at q
    cases e : decide (z.head? = some 45) with
    | false =>
      rw [if_neg (of_decide_eq_false e)] at q
      exact ifT rfl ⟨_, rfl, _, rfl, z, most, rfl, hz, q⟩
    | true =>
      rw [if_pos (of_decide_eq_true e)] at q
      refine ifF rfl ⟨_, rfl, _, rfl, _, rfl, zl, ?_⟩
      rw [h2]
      refine ⟨_, rfl, z.drop 1, most, rfl, by rw [List.length_drop]; omega, ?_⟩
      rw [List.drop_one]
      cases en : numTold z.tail most with
      | none =>
        rw [en] at q
        exact ⟨_, rfl, _, rfl, ifT rfl (ifT rfl q)⟩
      | some i =>
        rw [en] at q
        refine ⟨_, rfl, _, rfl, ifF rfl ⟨_, rfl, rfl, _, rfl, ?_⟩⟩
        show (if decide (V.int i = V.int 0) = true then _ else _)
        by_cases h0 : i = 0
        · subst h0
          exact ifT rfl q
        · have q2 : Q (.int (-i)) H := by
            have q1 : Q (onI (if i = 0 then none else some (-i))) H := q
            rw [if_neg h0] at q1
            exact q1
          exact ifF (decide_eq_false fun h => by injection h with h; exact h0 h) ⟨_, rfl, i, rfl, q2⟩
end
end RH
set_option Elab.async false
set_option linter.all false
set_option maxRecDepth 100000
set_option maxHeartbeats 2000000
namespace RH
open PySem PySem.Spec PyProof.Rows L2
/-! ### a line read -/
theorem opNotIn {X : Cx} (K : PySem.W.Frag) (h : X.K = K := by rfl) : OpR X (compareOp .NotIn) (rIn K true) := by
  subst h
  exact op_notIn_seq
theorem tOp_cc {r : R2} {u v : V} {σ : L2.St} {H : Hp} {Q : VK} (h : r u v H Q) : tOp r (tC u) (tC v) σ H Q := h
def numZ : List Str := ["get", "set", "plus", "minus", "put", "zero", "go", "touch"]
def secNum (n : Nat) : List (List Nat) → Option Int
  | w :: t :: _ => if SX.S w = "put" then sgnTold t 1000000 else if inZ (SX.S w) jumpZ = true then numTold t 4000 else numTold t (n - 1)
  | _ => none
/-- the word that cannot stand, or the instruction -/
def rdIns (n : Nat) (ws : List (List Nat)) : Nat ⊕ (List Nat × Option Int) := match ws with
  | [] => .inl 1
  | w :: r => if inZ (SX.S w) (bareZ ++ numZ) = false then .inl 1
    else if inZ (SX.S w) numZ = true then (match secNum n (w :: r) with
      | none => .inl 2
      | some i => if 2 < (w :: r).length then .inl 3 else .inr (w, some i))
    else if 1 < (w :: r).length then .inl 2 else .inr (w, none)
def RI (K : PySem.W.Frag) (H : Hp) (v : V) (x : List Nat × Option Int) : Prop := ∃ a, v = .ref a ∧ SqT K H a (tx x.1 :: x.2.toList.map V.int)
theorem RI.on {K : PySem.W.Frag} {H H' : Hp} (e : Tups K H H') {v : V} {x : List Nat × Option Int} (h : RI K H v x) : RI K H' v x := by
  obtain ⟨a, rfl, hS⟩ := h
  exact ⟨a, rfl, e _ _ hS⟩
/-- BadLine with its line and its word comes -/
def blE (C : Addr) (l k : Nat) (H : Hp) (E : XK) : Prop := ∀ d H', Same H H' → H' d = some (.xd [("word", .int (k : Int)), ("line", .int (l : Int))]) → E (.ref C) (some d) H'
structure BlX (P : Program) (w : World) (K : PySem.W.Frag) (mg : Str → Option Value) (base : Heap) (C : Addr) (sp : Sp) : Prop where
  t : OexC K C
  g : mg "BadLine" = some (.ref C)
  f : ∃ (f : Addr) (fd : FuncData), FnOk P w K mg base CX0 1 f fd ["self", "line", "word"] sp ∧ PySem.W.findIn K (.ref C) "__init__" = some (some (.ref f)) ∧ PySem.W.typeIn K (.ref f) = some (.type "function") ∧ Binds K fd ["self", "line", "word"] []
def spBL (C : Addr) : Sp := fun vs H Q _ => ∃ (a : Addr) (l k : Nat), vs = [.ref a, .int (l : Int), .int (k : Int)] ∧ l ≤ 5000 ∧ k ≤ 9 ∧ H a = some (exo a C none) ∧ ∀ d, H d = none → d ≠ a → Q .non (upd (upd H d (exd d [("word", .int (k : Int)), ("line", .int (l : Int))])) a (exo a C (some d)))
theorem log_few {l : Nat} (h : l ≤ 5000) : ((l : Nat) : Int).natAbs.log2 < 1920 := by
  rw [Int.natAbs_natCast]
  by_cases z : l = 0
  · subst z; decide
  · rw [Nat.log2_lt z]
    exact Nat.lt_of_lt_of_le (show l < 2 ^ 13 by omega) (Nat.pow_le_pow_right (by decide) (by decide))
theorem str_few {l : Nat} (h : l ≤ 5000) : (Str.ofString (toString ((l : Nat) : Int))).length ≤ 4 := by
  rw [SX.num_S, SX.S_len]
  exact TL.numL_len (by decide) (by omega)
section
variable {P : Program} {w : World} {K : PySem.W.Frag} {mg : Str → Option Value} {base : Heap}
def spSecond : Sp := fun vs H Q _ => ∃ (n : Nat) (a : Addr) (ws : List (List Nat)), vs = [.int (n : Int), .ref a] ∧ 2 ≤ n ∧ n ≤ 5 ∧ 1 ≤ ws.length ∧ H a = some (.lst (ws.map tx)) ∧ (∀ z ∈ ws, z.length ≤ 100000) ∧ Q (onI (secNum n ws)) H
theorem ok_second_number (F : Df K mg "second_number" st_second_number ["places", "words"]) (B : Bu mg) (jump : CTup K mg "JUMPS" jumpZ) (great : ∃ t, mg "GREATEST" = some (.int 1000000 t)) (c4000 : ∃ t, mg "MOST_RESTLESS" = some (.int 4000 t))
    (CS : Cal P w K mg base 2 "signed_number_told" spSgnTold) (CN : Cal P w K mg base 1 "number_told" spNumTold) : Cal P w K mg base 3 "second_number" spSecond := by
  obtain ⟨aj, gj, hj⟩ := jump.at
  refine mkCal F sc_second_number (fun vs H Q E h => ?_) (fun f cdv A outer s H vs Q E hr h => ?_)
  · obtain ⟨n, a, ws, rfl, _⟩ := h
    rfl
  · obtain ⟨n, a, ws, rfl, n2, n5, wl, ha, hw, q⟩ := h
    refine ⟨_, pss_cons (ps_if (pt_cmpR op_eq (pe_callB (cl_len K) (by rfl) B.len PySem.boot_len (pa_cons (pv 1) pa_nil)) pe_int (nomark _)) (pss_one (ps_ret pe_non)) pss_nil)
      (pss_cons (ps_par (i := 2) (j := 3) rfl sc_second_number.nd rfl rfl (by decide) rfl rfl (pa_cons (pe_ix ix_list (pv 1) pe_int (fun _ _ => rfl)) (pa_cons (pe_ix ix_list (pv 1) pe_int (fun _ _ => rfl)) pa_nil)) rfl)
      (pss_cons (ps_if (pt_cmpR op_eq (pv 2) pe_str (nomark _)) (pss_one (ps_ret (pc CS hr (pa_cons (pv 3) (pa_cons (pk great) pa_nil))))) pss_nil)
      (pss_cons (ps_if (pt_cmpR (opIn K) (pv 2) (pe_glob (v := .ref aj) (by rfl) gj (by rfl)) rfl) (pss_one (ps_ret (pc CN hr (pa_cons (pv 3) (pa_cons (pk c4000) pa_nil))))) pss_nil)
      (pss_one (ps_ret (pc CN hr (pa_cons (pv 3) (pa_cons (pe_op op_sub (pv 0) pe_int) pa_nil)))))))), ?_⟩
    refine ⟨_, rfl, a, _, rfl, .inl (lstAt ha), ?_⟩
    refine ⟨rfl, _, rfl, ?_⟩
    rw [List.length_map]
    match ws, wl with
    | [w], _ => exact ifT rfl q
    | w :: t :: r, _ =>
      have lw := hw w (by simp)
      have lt := hw t (by simp)
      refine ifF (decide_eq_false fun h => by injection h with h; simp at h; omega) ?_
      refine ⟨_, rfl, a, _, _, _, rfl, rfl, lstAt ha, atI_nat (j := 0) rfl, _, rfl, a, _, _, _, rfl, rfl, lstAt ha, atI_nat (j := 1) rfl, _, _, rfl, ?_⟩
      have hput : decide (V.str (SX.S w) = V.str "put") = decide (SX.S w = "put") := decide_eq_decide.mpr ⟨fun h => by injection h, fun h => by rw [h]⟩
      refine ⟨_, rfl, rfl, _, rfl, ?_⟩
      show (if decide (V.str (SX.S w) = V.str "put") = true then _ else _)
      rw [hput]
      have q : Q (onI (if SX.S w = "put" then sgnTold t 1000000 else if inZ (SX.S w) jumpZ = true then numTold t 4000 else numTold t (n - 1))) H := q
      by_cases hp : SX.S w = "put"
      · rw [if_pos hp] at q
        exact ifT (decide_eq_true hp) ⟨_, rfl, t, 1000000, rfl, lt, q⟩
      · rw [if_neg hp] at q
        refine ifF (decide_eq_false hp) ⟨_, rfl, aj, _, rfl, .inr (hj H), rfl, by decide, _, rfl, ?_⟩
        show (if inZ (SX.S w) jumpZ = true then _ else _)
        cases hz : inZ (SX.S w) jumpZ with
        | true =>
          rw [if_pos hz] at q
          exact ifT rfl ⟨_, rfl, t, 4000, rfl, lt, q⟩
        | false =>
          rw [if_neg (by rw [hz]; decide)] at q
          exact ifF rfl ⟨_, rfl, _, rfl, _, _, rfl, rfl, t, n - 1, by rw [show ((n - 1 : Nat) : Int) = (n : Int) - 1 by omega]; rfl, lt, q⟩
theorem ok_BadLine {C f cc cda : Addr} {fd : FuncData} (M : SupC P K mg C "BadLine.__init__" st_e_BadLine f fd cc cda) (hno : PySem.W.findIn K (.ref C) "line" = some none) (hno2 : PySem.W.findIn K (.ref C) "word" = some none) : FnOk P w K mg base CX0 1 f fd ["self", "line", "word"] (spBL C) := by
  refine fn_super (self := "self") M sc_e_BadLine rfl rfl rfl (by decide +kernel) rfl (fun vs H Q E h => ?_) (fun A outer s H vs Q E hr h => ?_)
  · obtain ⟨a, l, k, rfl, _⟩ := h
    rfl
  · obtain ⟨a, l, k, rfl, hl, hk, ha, q⟩ := h
    refine ⟨a, _, _, rfl, ha, pa_cons (pe_joined (.cons pe_str (.cons (pe_fmtN (pv 1)) (.cons pe_str (.cons (pe_fmtN (pv 2)) (.cons pe_str .nil)))))) pa_nil, pss_cons (ps_ost (pv 0) (pv 1)) (pss_one (ps_ost (pv 0) (pv 2))), ?_⟩
    have s1 := str_few hl
    have s2 := str_few (Nat.le_trans hk (by decide : 9 ≤ 5000))
    have e1 : (Str.empty ++ ("line " : Str)).length = 5 := by decide +kernel
    have e2 : (", word " : Str).length = 7 := by decide +kernel
    have e3 : (" cannot stand" : Str).length = 13 := by decide +kernel
    refine ⟨_, rfl, by rw [e1, sizeLine_eq]; omega, _, rfl, .inr ⟨(l : Int), rfl, log_few hl, _, rfl, ?_, _, rfl, ?_, _, rfl, .inr ⟨(k : Int), rfl, log_few (by omega), _, rfl, ?_, _, rfl, ?_, ?_⟩⟩⟩
    · rw [PySem.Str.length_append, e1, sizeLine_eq]; omega
    · rw [PySem.Str.length_append, PySem.Str.length_append, e1, e2, sizeLine_eq]; omega
    · rw [PySem.Str.length_append, PySem.Str.length_append, PySem.Str.length_append, e1, e2, sizeLine_eq]; omega
    · rw [PySem.Str.length_append, PySem.Str.length_append, PySem.Str.length_append, PySem.Str.length_append, e1, e2, e3, sizeLine_eq]; omega
    · refine ⟨by show 1 ≤ 1000; decide, ha, _, rfl, _, rfl, a, C, rfl, M.t, hno, .inl ⟨ha, fun dx n ne => ?_⟩⟩
      refine ⟨_, rfl, _, rfl, a, C, rfl, M.t, hno2, .inr ⟨dx, [("line", .int (l : Int))], upd_same, by rw [upd_ne ne, upd_same], by show 1 ≤ 900; decide, ?_⟩⟩
      have e : upd (upd (upd H dx (exd dx [("line", .int (l : Int))])) a (exo a C (some dx))) dx (exd dx [("word", .int (k : Int)), ("line", .int (l : Int))]) = upd (upd H dx (exd dx [("word", .int (k : Int)), ("line", .int (l : Int))])) a (exo a C (some dx)) := by
        funext b
        by_cases hb : b = dx
        · rw [hb, upd_same, upd_ne ne, upd_same]
        · by_cases hba : b = a
          · rw [upd_ne hb, hba, upd_same, upd_same]
          · rw [upd_ne hb, upd_ne hba, upd_ne hb, upd_ne hba, upd_ne hb]
      show Q .non (upd (upd (upd H dx (exd dx [("line", .int (l : Int))])) a (exo a C (some dx))) dx (exd dx [("word", .int (k : Int)), ("line", .int (l : Int))]))
      rw [e]
      exact q dx n ne
def spRdIns (K : PySem.W.Frag) (C : Addr) : Sp := fun vs H Q E => ∃ (n l : Nat) (a : Addr) (ws : List (List Nat)), vs = [.int (n : Int), .int (l : Int), .ref a] ∧ 2 ≤ n ∧ n ≤ 5 ∧ l ≤ 5000 ∧ ws.length ≤ 100000 ∧ H a = some (.lst (ws.map tx)) ∧ (∀ z ∈ ws, z.length ≤ 100000) ∧
  (∀ x, rdIns n ws = .inr x → ∀ H' v, Same H H' → RI K H' v x → Q v H') ∧ ∀ k, rdIns n ws = .inl k → blE C l k H E
/-- the error is made -/
theorem bl_made {C : Addr} {l k : Nat} {H1 : Hp} {Q : XK} (hl : l ≤ 5000) (hk : k ≤ 9) (q : ∀ d, H1 d = none → Q (.ref C) (some d) (upd H1 d (.xd [("word", .int (k : Int)), ("line", .int (l : Int))]))) :
    ([V.int (l : Int), V.int (k : Int)] : List V).length ≤ 1000 ∧ ∀ a, H1 a = none → spBL C (.ref a :: ([V.int (l : Int), V.int (k : Int)] ++ [])) (upd H1 a (exo a C none)) (fun u H2 => u = .non ∧ ∃ (d : Addr) (fs : List (Str × V)), H2 a = some (exo a C (some d)) ∧ H2 d = some (exd d fs) ∧ H1 d = none ∧ Q (.ref C) (some d) (upd (del H2 a) d (.xd fs))) (fun _ _ _ => False) := by
  refine ⟨by show 2 ≤ 1000; decide, fun a ha => ⟨a, l, k, rfl, hl, hk, upd_same, fun d hd ne => ⟨rfl, d, [("word", .int (k : Int)), ("line", .int (l : Int))], upd_same, ?_, ?_, ?_⟩⟩⟩
  · rw [upd_ne ne, upd_same]
  · rw [upd_ne ne] at hd
    exact hd
  · have hd' : H1 d = none := by
      rw [upd_ne ne] at hd
      exact hd
    have e : upd (del (upd (upd (upd H1 a (exo a C none)) d (exd d [("word", .int (k : Int)), ("line", .int (l : Int))])) a (exo a C (some d))) a) d (.xd [("word", .int (k : Int)), ("line", .int (l : Int))]) = upd H1 d (.xd [("word", .int (k : Int)), ("line", .int (l : Int))]) := by
      funext b
      by_cases hb : b = d
      · rw [hb, upd_same, upd_same]
      · rw [upd_ne hb, upd_ne hb]
        by_cases hba : b = a
        · rw [hba, del_same, ha]
        · rw [del_ne hba, upd_ne hba, upd_ne hb, upd_ne hba]
    rw [e]
    exact q d hd'
theorem ok_read_instruction {C : Addr} (F : Df K mg "read_instruction" st_read_instruction ["places", "line", "words"]) (B : Bu mg) (T : BlX P w K mg base C (spBL C)) (bare : CTup K mg "BARE" bareZ) (numd : CTup K mg "NUMBERED" numZ) (CS : Cal P w K mg base 3 "second_number" spSecond) :
    CalX P w K mg base 4 "read_instruction" (spRdIns K C) := by
  obtain ⟨ab, gb, hb⟩ := bare.at
  obtain ⟨an, gn, hn⟩ := numd.at
  refine mkCalX F sc_read_instruction (fun vs H Q E h => ?_) (fun f cdv A outer s H vs Q E hr h => ?_)
  · obtain ⟨n, l, a, ws, rfl, _⟩ := h
    rfl
  · obtain ⟨n, l, a, ws, rfl, n2, n5, hl, wl, ha, hw, q1, q2⟩ := h
    obtain ⟨fI, fdI, FI, iC, tI, bI⟩ := T.f
    refine ⟨_, pss_cons (ps_if (PW.pt (pw_or (pt_not (pt_truth (pv 2) (by intro _; rfl))) (pw_or1 (pt_cmpR (opNotIn K) (pe_ix ix_list (pv 2) pe_int (fun _ _ => rfl)) (pe_op op_catA (pe_glob (v := .ref ab) (by rfl) gb (by rfl)) (pe_glob (v := .ref an) (by rfl) gn (by rfl))) rfl)))) (pss_one (ps_raise rfl takesE (pmk_oex T.t iC tI FI (hr.mono (by decide)) bI .nil pass0 rfl T.g (pa_cons (pv 1) (pa_cons pe_int pa_nil))))) pss_nil)
      (pss_cons (ps_set (i := 3) sc_read_instruction.nd rfl (.inl rfl) (pe_tup (pa_cons (pe_ix ix_list (pv 2) pe_int (fun _ _ => rfl)) pa_nil)))
      (pss_cons (ps_if (pt_cmpR (opIn K) (pe_ix ix_list (pv 2) pe_int (fun _ _ => rfl)) (pe_glob (v := .ref an) (by rfl) gn (by rfl)) rfl)
        (pss_cons (ps_set (i := 4) sc_read_instruction.nd rfl (.inl rfl) (pc CS hr (pa_cons (pv 0) (pa_cons (pv 2) pa_nil))))
        (pss_cons (ps_if (pt_cmp (pc_isN (pv 4))) (pss_one (ps_raise rfl takesE (pmk_oex T.t iC tI FI (hr.mono (by decide)) bI .nil pass0 rfl T.g (pa_cons (pv 1) (pa_cons pe_int pa_nil))))) pss_nil)
        (pss_one (ps_set (i := 3) sc_read_instruction.nd rfl (.inl rfl) (pe_tup (pa_cons (pe_ix ix_list (pv 2) pe_int (fun _ _ => rfl)) (pa_cons (pv 4) pa_nil))))))) pss_nil)
      (pss_cons (ps_if (pt_cmpR op_gt (pe_callB (cl_len K) (by rfl) B.len PySem.boot_len (pa_cons (pv 2) pa_nil)) (pe_callB (cl_len K) (by rfl) B.len PySem.boot_len (pa_cons (pv 3) pa_nil)) (nomark _)) (pss_one (ps_raise rfl takesE (pmk_oex T.t iC tI FI (hr.mono (by decide)) bI .nil pass0 rfl T.g (pa_cons (pv 1) (pa_cons (pe_op op_add (pe_callB (cl_len K) (by rfl) B.len PySem.boot_len (pa_cons (pv 3) pa_nil)) pe_int) pa_nil))))) pss_nil)
      (pss_one (ps_ret (pv 3)))))), ?_⟩
    have no : ∀ {H1 : Hp} (k : Nat), Same H H1 → rdIns n ws = .inl k → ∀ d, H1 d = none → E (.ref C) (some d) (upd H1 d (.xd [("word", .int (k : Int)), ("line", .int (l : Int))])) := fun {H1} k s1 e d hd => q2 k e d _ (s1.trans (same_new hd)) upd_same
    match ws, wl with
    | [], _ => exact ⟨_, rfl, false, .inl ⟨_, lstAt ha, rfl⟩, ifT rfl (ifT rfl ⟨_, rfl, bl_made (k := 1) hl (by decide) (no 1 (Same.refl H) rfl)⟩)⟩
    | w :: r, wl =>
      refine ⟨_, rfl, true, .inl ⟨_, lstAt ha, rfl⟩, ifF rfl ?_⟩
      refine ⟨_, rfl, a, _, _, _, rfl, rfl, lstAt ha, atI_nat (j := 0) rfl, ?_⟩
      show tOp (rCatA K) (tC (V.ref ab)) (tC (V.ref an)) _ H _
      refine tOp_cc ?_
      refine catT_ok (hb H) (hn H) (by decide) (fun t H1 s1 hS1 => ?_)
      rw [← List.map_append] at hS1
      refine ⟨t, _, rfl, .inr hS1, rfl, by decide, _, rfl, ?_⟩
      show (if (!inZ (SX.S w) (bareZ ++ numZ)) = true then _ else _)
      have len : (w :: r).length = r.length + 1 := rfl
      cases hz : inZ (SX.S w) (bareZ ++ numZ) with
      | false =>
        have e1 : rdIns n (w :: r) = .inl 1 := if_pos hz
        exact ifT rfl ⟨_, rfl, bl_made (k := 1) hl (by decide) (no 1 s1 e1)⟩
      | true =>
        have e0 : rdIns n (w :: r) = if inZ (SX.S w) numZ = true then (match secNum n (w :: r) with
            | none => .inl 2
            | some i => if 2 < (w :: r).length then .inl 3 else .inr (w, some i))
          else if 1 < (w :: r).length then .inl 2 else .inr (w, none) := if_neg (by rw [hz]; decide)
        have ha1 := s1 _ _ ha
        refine ifF rfl ?_
        refine ⟨_, rfl, a, _, _, _, rfl, rfl, lstAt ha1, atI_nat (j := 0) rfl, by show 1 ≤ sizeLine; decide, fun t1 ht1 => ?_⟩
        have st1 := same_new (o := .tup [tx w]) ht1
        refine ⟨_, rfl, a, _, _, _, rfl, rfl, lstAt (st1 _ _ ha1), atI_nat (j := 0) rfl, an, _, rfl, .inr (hn _), rfl, by decide, _, rfl, ?_⟩
        show (if inZ (SX.S w) numZ = true then _ else _)
        have s2 := s1.trans st1
        cases hn2 : inZ (SX.S w) numZ with
        | false =>
          rw [if_neg (by rw [hn2]; decide)] at e0
          refine ifF rfl ⟨_, rfl, a, _, rfl, .inl (lstAt (s2 _ _ ha)), _, rfl, t1, _, rfl, .inr (tupAt upd_same), _, _, rfl, rfl, _, rfl, ?_⟩
          rw [List.length_map]
          by_cases h1 : 1 < (w :: r).length
          · rw [if_pos h1] at e0
            refine ifT (decide_eq_true (by show ((1 : Nat) : Int) < _; omega)) ⟨_, rfl, _, rfl, t1, _, rfl, .inr (tupAt upd_same), _, _, rfl, rfl, ?_⟩
            exact bl_made (k := 2) hl (by decide) (no 2 s2 e0)
          · rw [if_neg h1] at e0
            exact ifF (decide_eq_false (by show ¬ ((1 : Nat) : Int) < _; omega)) ⟨_, rfl, q1 _ e0 _ _ s2 ⟨t1, rfl, tupAt upd_same⟩⟩
        | true =>
          rw [if_pos hn2] at e0
          refine ifT rfl ⟨_, rfl, _, rfl, n, a, w :: r, rfl, n2, n5, by show 1 ≤ r.length + 1; omega, s2 _ _ ha, hw, ?_⟩
          cases es : secNum n (w :: r) with
          | none =>
            rw [es] at e0
            exact ⟨_, rfl, _, rfl, ifT rfl ⟨_, rfl, bl_made (k := 2) hl (by decide) (no 2 s2 e0)⟩⟩
          | some i =>
            rw [es] at e0
            refine ⟨_, rfl, _, rfl, ifF rfl ?_⟩
            refine ⟨_, rfl, a, _, _, _, rfl, rfl, lstAt (s2 _ _ ha), atI_nat (j := 0) rfl, _, rfl, by show 2 ≤ sizeLine; decide, fun t2 ht2 => ?_⟩
            have s3 := s2.trans (same_new (o := .tup [tx w, .int i]) ht2)
            refine ⟨_, rfl, a, _, rfl, .inl (lstAt (s3 _ _ ha)), _, rfl, t2, _, rfl, .inr (tupAt upd_same), _, _, rfl, rfl, _, rfl, ?_⟩
            rw [List.length_map]
            have e1 : rdIns n (w :: r) = if 2 < (w :: r).length then .inl 3 else .inr (w, some i) := e0
            by_cases h1 : 2 < (w :: r).length
            · rw [if_pos h1] at e1
              refine ifT (decide_eq_true (by show ((2 : Nat) : Int) < _; omega)) ⟨_, rfl, _, rfl, t2, _, rfl, .inr (tupAt upd_same), _, _, rfl, rfl, ?_⟩
              exact bl_made (k := 3) hl (by decide) (no 3 s3 e1)
            · rw [if_neg h1] at e1
              exact ifF (decide_eq_false (by show ¬ ((2 : Nat) : Int) < _; omega)) ⟨_, rfl, q1 _ e1 _ _ s3 ⟨t2, rfl, tupAt upd_same⟩⟩
end
end RH
set_option Elab.async false
set_option linter.all false
set_option maxRecDepth 100000
set_option maxHeartbeats 2000000
namespace RH
open PySem PySem.Spec PyProof.Rows L2
/-! ### a program read -/
/-- all lines from the i-th on -/
def rdAll (n : Nat) : Nat → List (List (List Nat)) → (Nat × Nat) ⊕ List (List Nat × Option Int)
  | _, [] => .inr []
  | i, ws :: r => match rdIns n ws with
    | .inl k => .inl (i + 1, k)
    | .inr x => match rdAll n (i + 1) r with
      | .inl e => .inl e
      | .inr xs => .inr (x :: xs)
theorem rdAll_done {n : Nat} : ∀ {ls : List (List (List Nat))} {xs : List (List Nat × Option Int)} (i : Nat), ls.map (rdIns n) = xs.map .inr → rdAll n i ls = .inr xs
  | [], [], _, _ => rfl
  | [], _ :: _, _, h => by cases h
  | _ :: _, [], _, h => by cases h
  | ws :: r, x :: xs, i, h => by
    simp only [List.map_cons, List.cons.injEq] at h
    unfold rdAll
    rw [h.1]
    dsimp only
    rw [rdAll_done (i + 1) h.2]
theorem rdAll_bad {n k : Nat} {ws : List (List Nat)} (hk : rdIns n ws = .inl k) : ∀ {ls : List (List (List Nat))} {xs : List (List Nat × Option Int)} (i j : Nat), ls[i]? = some ws → (ls.take i).map (rdIns n) = xs.map .inr → rdAll n j ls = .inl (j + i + 1, k)
  | [], _, _, _, h, _ => by cases h
  | w0 :: r, xs, 0, j, h, _ => by
    cases h
    unfold rdAll
    rw [hk]
  | w0 :: r, [], i + 1, j, h, e => by cases e
  | w0 :: r, x :: xs, i + 1, j, h, e => by
    simp only [List.take_succ_cons, List.map_cons, List.cons.injEq] at e
    have ih := rdAll_bad hk i (j + 1) (ls := r) (by simpa using h) e.2
    unfold rdAll
    rw [e.1]
    dsimp only
    rw [ih, show j + 1 + i + 1 = j + (i + 1) + 1 by omega]
def farJ (m : Nat) (x : List Nat × Option Int) : Bool := inZ (SX.S x.1) jumpZ && decide ((m : Int) < x.2.getD 0)
def rdPg (n : Nat) (ls : List (List (List Nat))) : (Nat × Nat) ⊕ List (List Nat × Option Int) := match rdAll n 0 ls with
  | .inl e => .inl e
  | .inr xs => match xs.findIdx? (farJ xs.length) with
    | some i => .inl (i + 1, 2)
    | none => if 4000 < xs.length then .inl (4001, 1) else .inr xs
def RP (K : PySem.W.Frag) (H : Hp) (v : V) (xs : List (List Nat × Option Int)) : Prop := ∃ a us, v = .ref a ∧ SqT K H a us ∧ Each (RI K H) us xs
theorem jump_num {w : List Nat} (h : inZ (SX.S w) jumpZ = true) : inZ (SX.S w) numZ = true := by
  have : SX.S w = "zero" ∨ SX.S w = "go" := by
    unfold inZ inV jumpZ at h
    simp only [List.map_cons, List.map_nil, List.any_cons, List.any_nil, Bool.or_false, Bool.or_eq_true] at h
    rcases h with h | h
    · have h : (("zero" : Str) == SX.S w) = true := h
      exact .inl (eq_of_beq h).symm
    · have h : (("go" : Str) == SX.S w) = true := h
      exact .inr (eq_of_beq h).symm
  rcases this with e | e <;> rw [e] <;> decide +kernel
theorem rdIns_jump {n : Nat} {ws : List (List Nat)} {x : List Nat × Option Int} (h : rdIns n ws = .inr x) (hj : inZ (SX.S x.1) jumpZ = true) : ∃ i, x.2 = some i := by
  unfold rdIns at h
  cases ws with
  | nil => cases h
  | cons w r =>
    dsimp only at h
    split at h
    · cases h
    · split at h
      · split at h
        · cases h
        · split at h
          · cases h
          · cases h
            exact ⟨_, rfl⟩
      · rename_i hn
        split at h
        · cases h
        · cases h
          exact absurd (jump_num hj) hn
theorem lines_small {t : List Nat} {ws : List (List Nat)} (h : ws ∈ linesIn t) : ws.length ≤ t.length + 1 ∧ ∀ z ∈ ws, z.length ≤ t.length := by
  unfold linesIn at h
  rw [List.mem_map] at h
  obtain ⟨l, hl, rfl⟩ := h
  have b1 := (cut_len 10 t []).2 l hl
  simp only [List.length_nil, Nat.zero_add] at b1
  have b2 := cut_len 32 l []
  unfold wordsIn
  refine ⟨Nat.le_trans (List.length_filter_le _ _) (by have := b2.1; omega), fun z hz => ?_⟩
  have := b2.2 z (List.mem_filter.mp hz).1
  simp only [List.length_nil, Nat.zero_add] at this
  omega
section
variable {P : Program} {w : World} {K : PySem.W.Frag} {mg : Str → Option Value} {base : Heap}
def spRdPg (K : PySem.W.Frag) (C : Addr) : Sp := fun vs H Q E => ∃ (n : Nat) (t : List Nat), vs = [.int (n : Int), tx t] ∧ 2 ≤ n ∧ n ≤ 5 ∧ t.length ≤ 90000 ∧ (linesIn t).length ≤ 4990 ∧ (∀ xs, rdPg n (linesIn t) = .inr xs → ∀ H' v, Same H H' → RP K H' v xs → Q v H') ∧ ∀ e, rdPg n (linesIn t) = .inl e → blE C e.1 e.2 H E
theorem ok_read_program {Cn C : Addr} (F : Df K mg "read_program" st_read_program ["places", "text"]) (B : Bu mg) (T : BlX P w K mg base C (spBL C)) (jump : CTup K mg "JUMPS" jumpZ) (c4000 : ∃ t, mg "MOST_RESTLESS" = some (.int 4000 t)) (CP : CalX P w K mg base 4 "check_places" (spCheckPlacesX K Cn))
    (CL : Cal P w K mg base 2 "lines_in" spLinesIn) (CI : CalX P w K mg base 4 "read_instruction" (spRdIns K C)) : CalX P w K mg base 5 "read_program" (spRdPg K C) := by
  obtain ⟨aj, gj, hj⟩ := jump.at
  refine mkCalX F sc_read_program (fun vs H Q E h => ?_) (fun f cdv A outer s H vs Q E hr h => ?_)
  · obtain ⟨n, t, rfl, _⟩ := h
    rfl
  · obtain ⟨n, t, rfl, n2, n5, ht, hl, q1, q2⟩ := h
    obtain ⟨fI, fdI, FI, iC, tI, bI⟩ := T.f
    refine ⟨_, pss_cons (ps_expr (pcX CP passE hr (pa_cons (pv 0) pa_nil)))
      (pss_cons (ps_set (i := 2) sc_read_program.nd rfl (.inl rfl) (pe_tupleOf (by rfl) B.tuple (pe_lcR (own := [("at", 3), ("words", 5)]) (g := gTup K 2 (gCons (gName 3) (gCons (gName 5) gNil))) (tt := tYes) takesE rfl rfl rfl sc_read_program.nd (pi_enum (by rfl) B.enumerate (pa_cons (pc CL hr (pa_cons (pv 1) pa_nil)) pa_nil))
          (blkOk_by (N := ["places", "text", "program", "at", "instruction", "words"]) (sc := defScope st_read_program) (by decide +kernel))
          (fun _ _ _ _ _ => pg_tup rfl (pgs_cons (pg_name (i := 3) sc_read_program.nd rfl (.inl rfl)) (pgs_cons (pg_name (i := 5) sc_read_program.nd rfl (.inl rfl)) pgs_nil))) (fun _ _ _ _ _ => pts_nil)
          (te := tCall (spRdIns K C) [] E (tCons (tVar 0) (tCons (tOp (rI0 fun i j => .int (i + j)) (tVar 3) (tC (.int 1))) (tCons (tVar 5) tNil))))
          (fun _ _ _ _ _ => pcX CI passR hr (pa_cons (pv 0) (pa_cons (pe_op op_add (pv 3) pe_int) (pa_cons (pv 5) pa_nil)))))))
      (pss_cons (ps_for (passes_of rfl) rfl (pi_enumT (by rfl) B.enumerate (pa_cons (pv 2) pa_nil)) (pg_tup rfl (pgs_cons (pg_name (i := 3) sc_read_program.nd rfl (.inl rfl)) (pgs_cons (pg_name (i := 4) sc_read_program.nd rfl (.inl rfl)) pgs_nil)))
        (pss_one (ps_if (PW.pt (pw_and (pt_cmpR (opIn K) (pe_ix (ixT K) (pv 4) pe_int (fun _ _ => rfl)) (pe_glob (v := .ref aj) (by rfl) gj (by rfl)) rfl) (pw_and1 (pt_cmpR op_gt (pe_ix (ixT K) (pv 4) pe_int (fun _ _ => rfl)) (pe_callB (cl_len K) (by rfl) B.len PySem.boot_len (pa_cons (pv 2) pa_nil)) (nomark _)))))
          (pss_one (ps_raise rfl takesE (pmk_oex T.t iC tI FI (hr.mono (by decide)) bI .nil pass0 rfl T.g (pa_cons (pe_op op_add (pv 3) pe_int) (pa_cons pe_int pa_nil))))) pss_nil)))
      (pss_cons (ps_if (pt_cmpR op_gt (pe_callB (cl_len K) (by rfl) B.len PySem.boot_len (pa_cons (pv 2) pa_nil)) (pk c4000) (nomark _)) (pss_one (ps_raise rfl takesE (pmk_oex T.t iC tI FI (hr.mono (by decide)) bI .nil pass0 rfl T.g (pa_cons (pe_op op_add (pk c4000) pe_int) (pa_cons pe_int pa_nil))))) pss_nil)
      (pss_one (ps_ret (pv 2)))))), ?_⟩
    have hn : inV2 2 5 (.int (n : Int)) = true := inV2_in (by omega) (by omega)
    refine ⟨_, rfl, _, rfl, .int _, fun _ => ?_, fun e => by rw [hn] at e; cases e⟩
    refine ⟨_, rfl, t, rfl, by omega, fun H1 v s1 hLL => ?_⟩
    obtain ⟨L, us0, rfl, eL, eu0⟩ := hLL
    have lu := eu0.len
    obtain ⟨ls, hls⟩ : ∃ ls, ls = linesIn t := ⟨_, rfl⟩
    rw [← hls] at q1 q2 hl eu0 lu
    refine ⟨L, _, rfl, lstAt eL, fun D hD => ?_⟩
    refine lc_it walk_enum (fun i H' => Same H1 H' ∧ ∃ us xs, H' D = some (.lst us) ∧ Each (RI K H') us xs ∧ (ls.take i).map (rdIns n) = xs.map .inr) ⟨same_new hD, [], [], upd_same, .nil, rfl⟩ (fun i H' _ h' => lstAt (h'.1 _ _ eL)) (fun i x H2 H3 hi h' y => ?_) (fun H' h' => ?_)
    · obtain ⟨sm, us, xs, eD, eu, ex⟩ := h'
      obtain ⟨T, x1, x2, rfl, hT, rfl, hx1, hx2⟩ := y
      cases hx1
      obtain ⟨ws, hws, lw, rfl, hlw⟩ := eu0.at hx2
      have hw1 := lines_small (t := t) (ws := ws) (by rw [← hls]; exact List.mem_of_getElem? hws)
      have sT : Same H2 (upd H2 T (.tup [.int (i : Nat), .ref lw])) := same_new hT
      have tk : ls.take (i + 1) = ls.take i ++ [ws] := by rw [List.take_add_one, hws]; rfl
      refine ⟨T, _, rfl, tupAt upd_same, rfl, _, _, rfl, _, _, rfl, rfl, rfl, ?_⟩
      refine ⟨_, rfl, _, rfl, _, _, rfl, rfl, _, rfl, n, i + 1, lw, ws, rfl, n2, n5, by omega, by omega, sT _ _ (sm _ _ hlw), fun z hz => Nat.le_trans (hw1.2 z hz) (by omega), fun x ex2 H4 v s4 hv => ?_, fun k ek => ?_⟩
      · have hD4 : H4 D = some (.lst us) := s4 _ _ (sT _ _ eD)
        have fx : Fix H2 (upd H4 D (.lst (us ++ [v]))) := (Fix.same (sT.trans s4)).trans (Fix.lst hD4)
        refine ⟨us, hD4, ?_, fun b o eb => ?_, us ++ [v], xs ++ [x], upd_same, Each.snoc (hv.on (Fix.lst hD4).tups) (eu.imp fun _ _ z => z.on fx.tups), ?_⟩
        · have h1 := eu.len
          have h2 := congrArg List.length ex
          rw [List.length_map, List.length_map, List.length_take] at h2
          rw [sizeLine_eq]
          omega
        · rw [upd_ne (ne_of_none eb hD)]
          exact s4 _ _ (sT _ _ (sm _ _ eb))
        · rw [tk, List.map_append, ex, List.map_append, List.map_singleton, List.map_singleton, ex2]
      · have e : rdPg n ls = .inl (i + 1, k) := by
          unfold rdPg
          rw [rdAll_bad ek i 0 hws ex, Nat.zero_add]
        exact fun d H5 s5 e5 => q2 _ e d H5 (s1.trans (sm.trans (sT.trans s5))) e5
    · obtain ⟨sm, us, xs, eD, eu, ex⟩ := h'
      rw [lu, List.take_length] at ex
      have lx : xs.length = ls.length := by
        have := congrArg List.length ex
        rw [List.length_map, List.length_map] at this
        exact this.symm
      have eA : rdAll n 0 ls = .inr xs := rdAll_done 0 ex
      have e0 : rdPg n ls = match xs.findIdx? (farJ xs.length) with
          | some i => .inl (i + 1, 2)
          | none => if 4000 < xs.length then .inl (4001, 1) else .inr xs := by
        unfold rdPg
        rw [eA]
      have lus := eu.len
      refine .inl ⟨D, us, rfl, lstAt eD, fun p hp => ?_⟩
      have sp := same_new (o := .tup us) hp
      have s0 : Same H (upd H' p (.tup us)) := s1.trans (sm.trans sp)
      have eu2 : Each (RI K (upd H' p (.tup us))) us xs := eu.imp fun _ _ z => z.on (Fix.same sp).tups
      refine ⟨_, rfl, p, us, rfl, tupAt upd_same, ?_⟩
      refine for_enumT (xs := us) (fun i σ H2 => Same (upd H' p (.tup us)) H2 ∧ (∀ j x, j < i → xs[j]? = some x → farJ xs.length x = false) ∧ ∃ y3 y4 y5, σ = [some (.int (n : Int)), some (tx t), some (.ref p), y3, y4, y5]) ⟨Same.refl _, fun j x hj => absurd hj (Nat.not_lt_zero _), none, none, none, rfl⟩ (fun i σ H2 h2 => onT h2.1 (tupAt upd_same)) (fun i v T σ H2 hv h2 hT => ?_) (fun σ H2 h2 => ?_)
      · obtain ⟨sm2, old, y3, y4, y5, rfl⟩ := h2
        obtain ⟨x, hx, b, rfl, hb⟩ := eu2.at hv
        have sT : Same (upd H' p (.tup us)) (upd H2 T (.tup [.int (i : Nat), .ref b])) := sm2.trans (same_new hT)
        have hb2 := onT sT hb
        have next : farJ xs.length x = false → ∀ j x', j < i + 1 → xs[j]? = some x' → farJ xs.length x' = false := fun hf j x' hj e => by
          rcases Nat.lt_succ_iff_lt_or_eq.mp hj with hj | rfl
          · exact old j x' hj e
          · rw [hx] at e
            cases e
            exact hf
        refine ⟨T, _, rfl, tupAt upd_same, rfl, _, _, rfl, _, _, rfl, rfl, ?_⟩
        refine ⟨_, rfl, b, _, _, _, rfl, rfl, hb2, atI_nat (j := 0) rfl, aj, _, rfl, .inr (hj _), rfl, by decide, _, rfl, ?_⟩
        show (if inZ (SX.S x.1) jumpZ = true then _ else _)
        have ef : farJ xs.length x = (inZ (SX.S x.1) jumpZ && decide ((xs.length : Int) < x.2.getD 0)) := rfl
        cases hz : inZ (SX.S x.1) jumpZ with
        | false =>
          rw [hz] at ef
          exact ifF rfl (ifF rfl ⟨sT, next (by rw [ef]; rfl), _, _, _, rfl⟩)
        | true =>
          rw [hz] at ef
          have hws : ∃ ws, ls[i]? = some ws ∧ rdIns n ws = .inr x := by
            have := congrArg (fun l => l[i]?) ex
            simp only [List.getElem?_map, hx, Option.map_some] at this
            cases hl2 : ls[i]? with
            | none => rw [hl2] at this; cases this
            | some ws => rw [hl2] at this; exact ⟨ws, rfl, Option.some.inj this⟩
          obtain ⟨ws, hws, er⟩ := hws
          obtain ⟨i0, hi0⟩ := rdIns_jump er hz
          have hb3 : SqT K (upd H2 T (.tup [.int (i : Nat), .ref b])) b [tx x.1, .int i0] := by
            rw [hi0] at hb2
            exact hb2
          rw [hi0] at ef
          have ef : farJ xs.length x = decide ((xs.length : Int) < i0) := by rw [ef]; rfl
          refine ifT rfl ⟨_, rfl, b, _, _, _, rfl, rfl, hb3, atI_nat (j := 1) rfl, _, rfl, p, us, rfl, .inr (onT sT (tupAt upd_same)), _, _, rfl, rfl, _, rfl, ?_⟩
          rw [lus, ← ef]
          cases hf : farJ xs.length x with
          | false => exact ifF rfl ⟨sT, next hf, _, _, _, rfl⟩
          | true =>
            have efi : xs.findIdx? (farJ xs.length) = some i := by
              have hi : i < xs.length := (List.getElem?_eq_some_iff.mp hx).1
              rw [List.findIdx?_eq_some_iff_getElem]
              refine ⟨hi, ?_, fun j hj => ?_⟩
              · rw [(List.getElem?_eq_some_iff.mp hx).2]
                exact hf
              · rw [old j _ hj (List.getElem?_eq_getElem (by omega))]
                decide
            rw [efi] at e0
            have e0 : rdPg n ls = .inl (i + 1, 2) := e0
            have hi : i < xs.length := (List.getElem?_eq_some_iff.mp hx).1
            refine ifT rfl ⟨_, rfl, _, _, rfl, rfl, ?_⟩
            exact bl_made (l := i + 1) (k := 2) (by omega) (by decide) fun d hd => q2 _ e0 d _ (s0.trans (sT.trans (same_new hd))) upd_same
      · obtain ⟨sm2, old, y3, y4, y5, rfl⟩ := h2
        have ef : xs.findIdx? (farJ xs.length) = none := by
          rw [List.findIdx?_eq_none_iff]
          intro x hx
          obtain ⟨j, hj, rfl⟩ := List.getElem_of_mem hx
          exact old j _ (by omega) (List.getElem?_eq_getElem hj)
        rw [ef] at e0
        have e0 : rdPg n ls = if 4000 < xs.length then .inl (4001, 1) else .inr xs := e0
        refine ⟨_, rfl, p, us, rfl, .inr (onT sm2 (tupAt upd_same)), _, _, rfl, rfl, _, rfl, ?_⟩
        rw [lus]
        by_cases hm : 4000 < xs.length
        · rw [if_pos hm] at e0
          refine ifT (decide_eq_true (by omega)) ⟨_, _, rfl, rfl, ?_⟩
          exact bl_made (l := 4001) (k := 1) (by decide) (by decide) fun d hd => q2 _ e0 d _ (s0.trans (sm2.trans (same_new hd))) upd_same
        · rw [if_neg hm] at e0
          exact ifF (decide_eq_false (by omega)) ⟨_, rfl, q1 _ e0 _ _ (s0.trans sm2) ⟨p, us, rfl, onT sm2 (tupAt upd_same), eu2.imp fun _ _ z => z.on (Fix.same sm2).tups⟩⟩
end
end RH
set_option Elab.async false
set_option linter.all false
set_option maxRecDepth 100000
set_option maxHeartbeats 2000000
namespace RH
open PySem PySem.Spec PyProof.Rows L2
/-! ### a program written -/
def cod (s : Str) : List Nat := s.cps.toList
theorem S_cod (s : Str) : SX.S (cod s) = s := SX.S_tl s
def numC : Int → List Nat
  | .ofNat n => TL.numL n
  | .negSucc n => 45 :: TL.numL (n + 1)
theorem numC_S (z : Int) : Str.ofString (toString z) = SX.S (numC z) := by
  cases z with
  | ofNat n => exact SX.num_S n
  | negSucc n =>
    refine TL.ext_tl ?_
    show (Str.ofString (toString (Int.negSucc n))).cps.toList = (SX.S (45 :: TL.numL (n + 1))).cps.toList
    rw [signs_ofString]
    show ("-" ++ Nat.repr (n + 1)).toList.map Char.toNat = _
    rw [String.toList_append, Nat.toList_repr, List.map_append]
    simp [TL.numL]
def insParts (i : Ins) : List (List Nat) := cod i.word :: i.num.map numC
def insLine (i : Ins) : List Nat := TL.joinL [32] (insParts i)
def pgText (pg : List Ins) : List Nat := TL.joinL [10] (pg.map insLine)
theorem join_nl (ys : List (List Nat)) : Txt.join ("\n" : Str) (ys.map SX.S) = SX.S (TL.joinL [10] ys) := by
  rw [nl_eq]
  exact SX.join_S _ _
theorem join_sp (ys : List (List Nat)) : Txt.join (" " : Str) (ys.map SX.S) = SX.S (TL.joinL [32] ys) := by
  rw [sp_eq]
  exact SX.join_S _ _
/-- the numbers of an instruction are small -/
def smI (i : Ins) : Prop := ∀ z ∈ i.num, -1000000 ≤ z ∧ z ≤ 1000000
theorem smI_of {n cnt : Nat} {i : Ins} (hn : n ≤ 5) (hc : cnt ≤ 5000) (h : okIns n cnt i) (r : rlI true i) : smI i := by
  intro z hz
  cases i <;> simp only [Ins.num, List.mem_singleton, List.not_mem_nil] at hz <;> first | exact hz.elim | (subst hz; simp only [okIns] at h; omega) | (subst hz; exact r)
theorem log_int {z : Int} (h : -1000000 ≤ z ∧ z ≤ 1000000) : z.natAbs.log2 < 1920 := by
  by_cases e : z.natAbs = 0
  · rw [e]; decide
  · rw [Nat.log2_lt e]
    exact Nat.lt_of_lt_of_le (show z.natAbs < 2 ^ 20 by omega) (Nat.pow_le_pow_right (by decide) (by decide))
theorem numC_len {z : Int} (h : -1000000 ≤ z ∧ z ≤ 1000000) : (numC z).length ≤ 8 := by
  cases z with
  | ofNat n => exact Nat.le_trans (TL.numL_len (k := 7) (by decide) (by simp only [Int.ofNat_eq_natCast] at h; omega)) (by decide)
  | negSucc n => exact Nat.succ_le_succ (TL.numL_len (k := 7) (by decide) (by omega))
/-- the scope of the comprehension that a join at the end takes -/
def retJ (st : Stmt) : Scope := match (defBody st).getLast? with
  | some (.Return (some (.Call _ (.ListComp _ _ sc _ :: _) _ _)) _) => sc
  | _ => defScope st
section
variable {P : Program} {w : World} {K : PySem.W.Frag} {mg : Str → Option Value} {base : Heap}
abbrev rStrA : List V → Hp → VK → Prop := fun xs H Q => (∃ i : Int, xs = [.int i] ∧ i.natAbs.log2 < 1920 ∧ Q (.str (toString i)) H) ∨ ∃ a, xs = [.str a] ∧ Q (.str a) H
theorem call_strA {X : Cx} : CallR X (.type "str") rStrA := CallR.or call_str_int SkE.call_str_str
abbrev rJoinW (K : PySem.W.Frag) : V → List V → Hp → VK → Prop := fun x xs H Q => ∃ a p, ∃ ys : List Str, x = .str a ∧ xs = [.ref p] ∧ (SqL K H p (ys.map V.str) ∨ SqT K H p (ys.map V.str)) ∧ (ys.map (·.length)).sum + ys.length * a.length ≤ 16777216 ∧ Q (.str (Txt.join a ys)) H
abbrev tInsLine (K : PySem.W.Frag) (i j : Nat) : TE := tM1 (rJoinW K) (tC (.str " ")) (tLc (iTup K (tVar i)) (gName j) tYes (tCB rStrA (tCons (tVar j) tNil)) [j])
theorem sum_le {B : Nat} : ∀ (ys : List (List Nat)), (∀ y ∈ ys, y.length ≤ B) → ((ys.map SX.S).map (·.length)).sum ≤ ys.length * B
  | [], _ => by simp
  | y :: ys, h => by
    have ih := sum_le ys fun z hz => h z (List.mem_cons_of_mem _ hz)
    have h1 := h y (List.mem_cons_self ..)
    simp only [List.map_cons, List.sum_cons, List.length_cons, SX.S_len, Nat.add_mul, Nat.one_mul]
    omega
theorem joinL_len {B c : Nat} : ∀ (ys : List (List Nat)), (∀ y ∈ ys, y.length ≤ B) → (TL.joinL [c] ys).length ≤ ys.length * (B + 1)
  | [], _ => by simp [TL.joinL]
  | [y], h => by
    have h1 := h y (List.mem_cons_self ..)
    show y.length ≤ 1 * (B + 1)
    omega
  | y :: z :: ys, h => by
    have ih := joinL_len (c := c) (z :: ys) fun z hz => h z (List.mem_cons_of_mem _ hz)
    have h1 := h y (List.mem_cons_self ..)
    show (y ++ ([c] ++ TL.joinL [c] (z :: ys))).length ≤ _
    simp only [List.length_append, List.length_cons, List.length_nil, Nat.add_mul, Nat.one_mul] at ih ⊢
    omega
def allW : List Str := ["say", "ask", "stop", "put", "zero", "go", "get", "set", "plus", "minus", "touch"]
theorem word_in (i : Ins) : i.word ∈ allW := by
  cases i <;> simp [Ins.word, allW]
theorem part_len {x : Ins} (sm : smI x) : ∀ z ∈ insParts x, z.length ≤ 8 := by
  intro z hz
  rcases List.mem_cons.mp hz with rfl | hz
  · have h : ∀ z ∈ allW, (cod z).length ≤ 8 := by decide +kernel
    exact h _ (word_in x)
  · obtain ⟨i, hi, rfl⟩ := List.mem_map.mp hz
    exact numC_len (sm i hi)
theorem parts_two (x : Ins) : (insParts x).length ≤ 2 := by cases x <;> simp [insParts, Ins.num]
theorem ins_len {x : Ins} (sm : smI x) : (insLine x).length ≤ 18 := by
  have h1 := joinL_len (c := 32) (insParts x) (part_len sm)
  have h2 := parts_two x
  have h3 : (insParts x).length * (8 + 1) ≤ 2 * (8 + 1) := Nat.mul_le_mul_right _ h2
  unfold insLine
  omega
theorem ins_line {K : PySem.W.Frag} {σ : L2.St} {i j : Nat} {v : V} {H : Hp} {x : Ins} {Q : VK} (hv : σ[i]? = some (some v)) (hj : j < σ.length) (r : RIns K H v x) (sm : smI x) (q : ∀ H', Same H H' → Q (tx (insLine x)) H') : tInsLine K i j σ H Q := by
  obtain ⟨a, rfl, hS⟩ := r
  refine ⟨⟨_, rfl⟩, _, hv, a, rfl, ⟨_, hS⟩, fun D hD => ?_⟩
  refine lc_tup (xs := .str x.word :: x.num.map V.int) (fun k H' => Same H H' ∧ H' D = some (.lst (((insParts x).take k).map tx))) ⟨same_new hD, upd_same⟩ (fun k H' _ h' => onT h'.1 hS) (fun k y H' hy h' => ?_) (fun H' h' => ?_)
  · obtain ⟨sm', eD⟩ := h'
    refine ⟨?_, ?_⟩
    · show ((σ.set j none).set j (some y)).set j none = σ.set j none
      rw [List.set_set, List.set_set]
    · have ey : ((wipe σ [j]).set j (some y))[j]? = some (some y) := by
        show ((σ.set j none).set j (some y))[j]? = _
        rw [List.set_set, List.getElem?_set_self hj]
      have fin : ∀ (z : List Nat), (insParts x)[k]? = some z → ∃ acc, H' D = some (.lst acc) ∧ acc.length < sizeLine ∧ Same H (upd H' D (.lst (acc ++ [tx z]))) ∧ (upd H' D (.lst (acc ++ [tx z]))) D = some (.lst (((insParts x).take (k + 1)).map tx)) := fun z hz => by
        refine ⟨_, eD, ?_, fun b o eb => ?_, ?_⟩
        · have h1 : (insParts x).length ≤ 2 := by cases x <;> simp [insParts, Ins.num]
          rw [List.length_map, List.length_take, sizeLine_eq]
          omega
        · rw [upd_ne (ne_of_none eb hD)]
          exact sm' _ _ eb
        · rw [upd_same, List.take_add_one, hz]
          simp
      refine ⟨y, ey, ?_⟩
      cases k with
      | zero =>
        cases hy
        refine .inr ⟨_, rfl, ?_⟩
        rw [← S_cod x.word]
        exact fin _ rfl
      | succ k =>
        have hy : (x.num.map V.int)[k]? = some y := hy
        obtain ⟨z, hz, rfl⟩ := map_at hy
        refine .inl ⟨z, rfl, log_int (sm z (List.mem_of_getElem? hz)), ?_⟩
        rw [numC_S]
        exact fin _ (by show (x.num.map numC)[k]? = _; rw [List.getElem?_map, hz]; rfl)
  · obtain ⟨sm', eD⟩ := h'
    have el : (V.str x.word :: x.num.map V.int).length = (insParts x).length := by simp [insParts]
    rw [el, List.take_length] at eD
    refine ⟨_, D, (insParts x).map SX.S, rfl, rfl, .inl (lstAt (by rw [eD, List.map_map]; rfl)), ?_, ?_⟩
    · have h1 := sum_le (insParts x) (part_len sm)
      have h2 := parts_two x
      have h3 : (insParts x).length * 8 ≤ 2 * 8 := Nat.mul_le_mul_right _ h2
      have h4 : (" " : Str).length = 1 := by decide +kernel
      rw [List.length_map, h4]
      omega
    · rw [join_sp]
      exact q _ sm'
def spWrite (K : PySem.W.Frag) : Sp := fun vs H Q _ => ∃ (n : Nat) (v : V) (pg : List Ins), vs = [.int (n : Int), v] ∧ RPg K H v pg ∧ 2 ≤ n ∧ n ≤ 5 ∧ 1 ≤ pg.length ∧ pg.length ≤ 30 ∧ (∀ i ∈ pg, okIns n pg.length i ∧ rlI true i) ∧ ∀ H', Same H H' → Q (tx (pgText pg)) H'
theorem ok_write {Cn Cg : Addr} (F : Df K mg "write_program" st_write_program ["places", "program"]) (B : Bu mg) (CP : CalX P w K mg base 4 "check_places" (spCheckPlacesX K Cn)) (CG : CalX P w K mg base 6 "check_restless" (spCheckPg2 K Cg 4000 true)) : CalX P w K mg base 7 "write_program" (spWrite K) := by
  refine mkCalX F sc_write_program (fun vs H Q E h => ?_) (fun f cdv A outer s H vs Q E hr h => ?_)
  · obtain ⟨n, v, pg, rfl, _⟩ := h
    rfl
  · obtain ⟨n, v, pg, rfl, hP, n2, n5, p1, p30, ok, q⟩ := h
    refine ⟨_, pss_cons (ps_expr (pcX CP passE hr (pa_cons (pv 0) pa_nil))) (pss_cons (ps_expr (pcX CG passE hr (pa_cons (pv 1) (pa_cons (pv 0) pa_nil))))
      (pss_one (ps_ret (pe_join pe_str (pe_lc (own := [("instruction", 2)]) (g := gName 2) (tt := tYes) rfl sc_write_program.nd (pi_tup (pv 1))
        (blkOk_by (N := ["places", "program", "instruction", "part"]) (sc := defScope st_write_program) (by decide +kernel)) (fun _ _ _ _ _ => pg_name (i := 2) sc_write_program.nd rfl (Or.inl rfl)) (fun _ _ _ _ _ => pts_nil)
        (te := tInsLine K 2 3)
        (fun _ _ _ _ _ => pe_join pe_str (pe_lc (own := [("part", 3)]) (g := gName 3) (tt := tYes) rfl sc_write_program.nd (pi_tup (pv 2))
          (blkOk_by (N := ["places", "program", "instruction", "part"]) (sc := retJ st_write_program) (by decide +kernel)) (fun _ _ _ _ _ => pg_name (i := 3) sc_write_program.nd rfl (Or.inl rfl)) (fun _ _ _ _ _ => pts_nil)
          (fun _ _ _ _ _ => pe_callTy call_strA (by rfl) B.str (by decide +kernel) (pa_cons (pv 3) pa_nil))))))))), ?_⟩
    obtain ⟨a, xs, rfl, hS, hE⟩ := id hP
    have hn : inV2 2 5 (.int (n : Int)) = true := inV2_in (by omega) (by omega)
    refine ⟨_, rfl, _, rfl, .int _, fun _ => ?_, fun e => by rw [hn] at e; cases e⟩
    refine ⟨_, rfl, _, rfl, .ref a, _, (n : Int), rfl, hk_pg hP, fun _ H1 s1 => ?_, fun pl e => by rw [pg_fine p1 (by omega) ok] at e; cases e⟩
    have lx := hE.len
    refine ⟨⟨_, rfl⟩, _, rfl, a, rfl, ⟨_, onT s1 hS⟩, fun D hD => ?_⟩
    refine lc_tup (xs := xs) (fun i H' => Same H1 H' ∧ H' D = some (.lst (((pg.take i).map insLine).map tx))) ⟨same_new hD, upd_same⟩ (fun i H' _ h' => onT (s1.trans h'.1) hS) (fun i x H' hx h' => ?_) (fun H' h' => ?_)
    · obtain ⟨sm, eD⟩ := h'
      obtain ⟨ins, hi, hr⟩ := hE.at hx
      have hlt := (List.getElem?_eq_some_iff.mp hi).1
      have hok := ok ins (List.mem_of_getElem? hi)
      refine ⟨rfl, ins_line rfl (by show 3 < 4; decide) (hr.on (Fix.same (s1.trans sm)).tups) (smI_of n5 (by omega) hok.1 hok.2) fun H2 s2 => ?_⟩
      refine ⟨_, s2 _ _ eD, by rw [List.length_map, List.length_map, List.length_take, sizeLine_eq]; omega, fun b o eb => ?_, ?_⟩
      · rw [upd_ne (ne_of_none eb hD)]
        exact s2 _ _ (sm _ _ eb)
      · rw [upd_same, List.take_add_one, hi]
        simp
    · obtain ⟨sm, eD⟩ := h'
      rw [lx, List.take_length] at eD
      refine ⟨_, D, (pg.map insLine).map SX.S, rfl, rfl, .inl (lstAt (by rw [eD, List.map_map, List.map_map, List.map_map]; rfl)), ?_, ?_⟩
      · have h1 := sum_le (B := 18) (pg.map insLine) (fun y hy => by
          obtain ⟨i, hi, rfl⟩ := List.mem_map.mp hy
          exact ins_len (smI_of n5 (by omega) (ok i hi).1 (ok i hi).2))
        rw [List.length_map] at h1
        have h4 : ("\n" : Str).length = 1 := by decide +kernel
        rw [List.length_map, List.length_map, h4]
        omega
      · rw [join_nl]
        exact q _ (s1.trans sm)
end
end RH
set_option Elab.async false
set_option linter.all false
set_option maxRecDepth 100000
set_option maxHeartbeats 2000000
namespace RH
open PySem PySem.Spec PyProof.Rows L2
/-! ### what is told of a text -/
theorem run_ex {X : Cx} {st : List Stmt} {pins : List (Addr × Obj)} {s : Shared} {σ : L2.St} {H : Hp} {D : Ends} (I : Inv X pins σ H s) (h : ∃ t, PSs X st t ∧ t D σ H) : wpAny (model X.prog X.w) X.A (execs st X.env) (SP X pins D) X.xe s := let ⟨_, ht, hq⟩ := h; ht.run pins s σ H D I hq
def TV (K : PySem.W.Frag) (H : Hp) (v : V) : (Nat × Nat) ⊕ List (List Nat × Option Int) → Prop
  | .inl e => ∃ a, v = .ref a ∧ H a = some (.lst [.int (e.1 : Int), .int (e.2 : Int)])
  | .inr xs => RP K H v xs
/-- what the written part says of BadLine -/
structure BlF (K : PySem.W.Frag) (mg : Str → Option Value) (S C : Addr) : Prop where
  s : mg "ShelfError" = some (.ref S)
  c : mg "BadLine" = some (.ref C)
  ex : ExcC K C
  up : PySem.W.exmOne K (.ref C) (.ref S) = some true
  is : PySem.W.kitOne K (.ref C) (.ref C) = some true
  n1 : PySem.W.findIn K (.ref C) "line" = some none
  n2 : PySem.W.findIn K (.ref C) "word" = some none
def RT (C a : Addr) (cls : Value) (d : Option Addr) : TS := fun D σ H => ∃ (v0 v1 : V) (l k : Nat) (dd : Addr), σ = [some v0, some v1, none, some (.ref a)] ∧ cls = .ref C ∧ d = some dd ∧ H dd = some (.xd [("word", .int (k : Int)), ("line", .int (l : Int))]) ∧
  ∀ H3 t, Same H H3 → H3 t = some (.lst [.int (l : Int), .int (k : Int)]) → D.nx [some v0, some v1, some (.ref t), some (.ref a)] H3
section
variable {P : Program} {w : World} {K : PySem.W.Frag} {mg : Str → Option Value} {base : Heap}
theorem pcS {X : Cx} {k j : Nat} {x : Str} {sp : Sp} {E : L2.St → XK} {p pos : Pos} {e : Expr} {es : List Expr} {t : TA} (c : CalX X.prog X.w X.K X.mg X.base k x sp) (hx : ∀ σ, PassesAt (L2.CX X.prog X.w) X σ (E σ)) (hr : Room j X.A) (ha : PA X (e :: es) t) (hk : k ≤ j := by decide) (hg : Gl X x := by rfl)
    (hdb : (x == ("__debug__" : Str)) = false := by decide) (he : starEach (e :: es) X.env = (false, eval e X.env) :: starEach es X.env := by rfl) (hpl : (backTo pos (starEach es X.env)).any (·.1) = false := by rfl) :
    PE X (.Call (.Name x p) (e :: es) [] pos) (tCallS sp E t) := by
  obtain ⟨f, fd, ps, F, hm, kp, b⟩ := c.ex
  exact pe_callS F (hr.mono hk) hg hm kp b hx ha hdb he hpl
def spTold (K : PySem.W.Frag) : Sp := fun vs H Q _ => ∃ (n : Nat) (t : List Nat), vs = [.int (n : Int), tx t] ∧ 2 ≤ n ∧ n ≤ 5 ∧ t.length ≤ 90000 ∧ (linesIn t).length ≤ 4990 ∧ ∀ H' v, Same H H' → TV K H' v (rdPg n (linesIn t)) → Q v H'
theorem ok_told {S C : Addr} (F : Df K mg "_law_told" st__law_told ["places", "text"]) (B : Bu mg) (T : BlF K mg S C) (CR : CalX P w K mg base 5 "read_program" (spRdPg K C)) : Cal P w K mg base 6 "_law_told" (spTold K) := by
  refine mkCal F sc__law_told (fun vs H Q E h => ?_) (fun f cdv A outer s H vs Q E hr h => ?_)
  · obtain ⟨n, t, rfl, _⟩ := h
    rfl
  · obtain ⟨n, t, rfl, n2, n5, ht, hl, q⟩ := h
    refine ⟨_, pss_cons (ps_try_as (i := 3) (c := .ref S) (tb := fun W => tAsg (tCallS (spRdPg K C) (WE W) (tCons (tVar 0) (tCons (tVar 1) tNil))) (gName 2)) (ts := fun a cls d => RT C a cls d) (Wout := fun _ _ _ _ => False) rfl rfl sc__law_told.nd rfl rfl ⟨rfl, by decide, .inl T.s⟩ takes0
        (fun W pn xe tk _ => by exact pss_one (ps_set (i := 2) sc__law_told.nd rfl (.inl rfl) (pcS CR (fun σ => passAt tk σ) hr (pa_cons (pv 0) (pa_cons (pv 1) pa_nil)))))
        (fun a oe cls d pn hz hf => ⟨fun pins s2 σ H2 D I h2 => ?_⟩))
      (pss_one (ps_ret (pv 2))), ?_⟩
    · obtain ⟨v0, v1, l, k, dd, rfl, rfl, rfl, hd, q2⟩ := h2
      refine run_ex I ⟨_, pss_one (ps_set (i := 2) sc__law_told.nd rfl (.inl rfl) (pe_ifExp (pt_val (pe_callB (call_isY (X := (cxOf CX0 P w K mg base ["places", "text", "found", "e"] "_law_told" (defScope st__law_told) f cdv A outer s H E).nox) (a := a) (pn := pn) hz hf) (by rfl) B.isi (by decide +kernel) (pa_cons (pv 3) (pa_cons (pe_glob (v := .ref C) (by rfl) T.c (by rfl)) pa_nil))))
        (pe_lst (pa_cons (pe_xf (X := (cxOf CX0 P w K mg base ["places", "text", "found", "e"] "_law_told" (defScope st__law_told) f cdv A outer s H E).nox) (a := a) (pn := pn) ⟨T.ex.hg, T.ex.hk, T.ex.hs, T.ex.hd⟩ T.n1 hz hf (pv 3)) (pa_cons (pe_xf (X := (cxOf CX0 P w K mg base ["places", "text", "found", "e"] "_law_told" (defScope st__law_told) f cdv A outer s H E).nox) (a := a) (pn := pn) ⟨T.ex.hg, T.ex.hk, T.ex.hs, T.ex.hd⟩ T.n2 hz hf (pv 3)) pa_nil))) pe_str)), ?_⟩
      refine ⟨_, rfl, C, C, _, rfl, .inr ⟨dd, _, rfl, hd⟩, T.ex, rfl, T.is, _, rfl, ifT rfl ?_⟩
      refine ⟨_, rfl, rfl, rfl, dd, _, _, rfl, hd, rfl, _, rfl, rfl, rfl, dd, _, _, rfl, hd, rfl, by show 2 ≤ sizeLine; decide, fun t1 ht1 => ?_⟩
      exact q2 _ _ (same_new ht1) upd_same
    · refine ⟨_, rfl, _, rfl, n, t, rfl, n2, n5, ht, hl, fun xs er H' v s1 hP => ?_, fun e er d H' s1 ed => ?_⟩
      · exact ⟨_, rfl, q H' v s1 (by rw [er]; exact hP)⟩
      · refine ⟨true, T.up, fun _ a ha => ?_, fun z => by cases z⟩
        refine ⟨_, _, e.1, e.2, d, rfl, rfl, rfl, ed, fun H3 t1 s3 et => ?_⟩
        exact ⟨_, rfl, q H3 _ (s1.trans s3) (by rw [er]; exact ⟨t1, rfl, et⟩)⟩
end
end RH
set_option Elab.async false
set_option linter.all false
set_option maxRecDepth 100000
set_option maxHeartbeats 2000000
namespace RH
open PySem PySem.Spec PyProof.Rows L2
/-! ### _law_number -/
def plain (w : List Nat) : Bool := w.all fun c => decide (c < 256)
def lawFig (w : List Nat) (neg : Bool) : List Nat := if w.head? = some 45 ∧ neg = true then w.tail else w
/-- the law's number: neg, may it be below 0 -/
def lawNum (w : List Nat) (neg : Bool) (most : Nat) : Option Int :=
  let g := lawFig w neg
  if g = [] ∨ figs g = false ∨ 9 < g.length then none
  else if (g ≠ [48] ∧ g.head? = some 48) ∨ w = [45, 48] then none
  else
    let z : Int := if g = w then (valW g : Int) else 0 - (valW g : Int)
    if (if neg = true then -(most : Int) else 0) ≤ z ∧ z ≤ (most : Int) then some z else none
theorem fold_ge : ∀ (r : List Nat) (a : Nat), a * 10 ^ r.length ≤ r.foldl (fun acc c => acc * 10 + (c - 48)) a
  | [], a => by simp
  | c :: r, a => by
    have ih := fold_ge r (a * 10 + (c - 48))
    rw [List.foldl_cons, List.length_cons, Nat.pow_succ]
    refine Nat.le_trans ?_ ih
    rw [Nat.mul_comm (10 ^ r.length) 10, ← Nat.mul_assoc]
    exact Nat.mul_le_mul_right _ (by omega)
theorem val_long {c : Nat} {r : List Nat} (h : 49 ≤ c) (hr : 9 ≤ r.length) : 10 ^ 9 ≤ valW (c :: r) := by
  have h1 := fold_ge r (0 * 10 + (c - 48))
  have h2 : 10 ^ 9 ≤ 10 ^ r.length := Nat.pow_le_pow_right (by decide) hr
  have h3 : 1 * 10 ^ r.length ≤ (0 * 10 + (c - 48)) * 10 ^ r.length := Nat.mul_le_mul_right _ (by omega)
  show 10 ^ 9 ≤ r.foldl (fun acc c => acc * 10 + (c - 48)) (0 * 10 + (c - 48))
  omega
/-- what both tell of the figures -/
theorem told_figs {g : List Nat} {m : Nat} (hm : m < 10 ^ 9) : numTold g m = if g = [] ∨ figs g = false ∨ 9 < g.length then none else if g ≠ [48] ∧ g.head? = some 48 then none else if valW g ≤ m then some (valW g : Int) else none := by
  unfold numTold
  cases g with
  | nil => simp
  | cons c r =>
    cases hf : figs (c :: r) with
    | false => simp
    | true =>
      have hc : 48 ≤ c ∧ c ≤ 57 := by
        have := List.all_eq_true.mp hf c (List.mem_cons_self ..)
        simpa using this
      by_cases h48 : c = 48
      · subst h48
        cases r with
        | nil => simp [valW, NumText.digitsVal]
        | cons d r => simp
      · have e1 : ¬ ((c :: r) = [] ∨ (c :: r).head? = some 48 ∧ 1 < (c :: r).length) := by simp [h48]
        rw [if_neg e1]
        by_cases hl : 9 < (c :: r).length
        · have := val_long (c := c) (r := r) (by omega) (by simp only [List.length_cons] at hl; omega)
          rw [if_neg (show ¬ (true = true ∧ valW (c :: r) ≤ m) from fun h => by have := h.2; omega), if_pos (.inr (.inr hl))]
        · have e2 : ¬ ((c :: r) = [] ∨ true = false ∨ 9 < (c :: r).length) := by
            rintro (h | h | h)
            · cases h
            · cases h
            · exact hl h
          have e3 : ¬ ((c :: r) ≠ [48] ∧ (c :: r).head? = some 48) := by simp [h48]
          by_cases hv : valW (c :: r) ≤ m
          · rw [if_pos ⟨rfl, hv⟩, if_neg e2, if_neg e3, if_pos hv]
          · rw [if_neg (fun h => hv h.2), if_neg e2, if_neg e3, if_neg hv]
theorem lawNum_no {w : List Nat} {m : Nat} (hm : m < 10 ^ 9) : lawNum w false m = numTold w m := by
  rw [told_figs hm]
  have e : lawFig w false = w := if_neg (by simp)
  unfold lawNum
  rw [e]
  dsimp only
  by_cases h1 : w = [] ∨ figs w = false ∨ 9 < w.length
  · rw [if_pos h1, if_pos h1]
  · rw [if_neg h1, if_neg h1]
    have h2 : w ≠ [45, 48] := fun z => h1 (.inr (.inl (by rw [z]; decide)))
    by_cases h3 : w ≠ [48] ∧ w.head? = some 48
    · rw [if_pos (.inl h3), if_pos h3]
    · rw [if_neg (fun h => h.elim h3 h2), if_neg h3]
      simp only [if_true, Bool.false_eq_true, if_false]
      by_cases hv : valW w ≤ m
      · rw [if_pos hv, if_pos (by omega)]
      · rw [if_neg hv, if_neg (by omega)]
theorem lawNum_yes {w : List Nat} {m : Nat} (hm : m < 10 ^ 9) : lawNum w true m = sgnTold w m := by
  unfold sgnTold
  by_cases h45 : w.head? = some 45
  · cases w with
    | nil => cases h45
    | cons c r =>
      cases h45
      have e : lawFig (45 :: r) true = r := if_pos ⟨rfl, rfl⟩
      rw [if_pos (show (45 :: r).head? = some 45 from rfl)]
      show _ = match numTold r m with
        | none => none
        | some i => if i = 0 then none else some (-i)
      rw [told_figs hm]
      unfold lawNum
      rw [e]
      dsimp only
      have hne : r ≠ 45 :: r := fun z => by
        have := congrArg List.length z
        simp at this
      by_cases h1 : r = [] ∨ figs r = false ∨ 9 < r.length
      · rw [if_pos h1, if_pos h1]
      · rw [if_neg h1, if_neg h1]
        by_cases h3 : r ≠ [48] ∧ r.head? = some 48
        · rw [if_pos (.inl h3), if_pos h3]
        · rw [if_neg h3]
          by_cases h0 : r = [48]
          · subst h0
            rw [if_pos (.inr rfl)]
            rw [if_pos (by show valW [48] ≤ m; exact Nat.zero_le _)]
            rfl
          · rw [if_neg (fun h => h.elim h3 (fun z => h0 (by simpa using z)))]
            rw [if_neg hne, if_pos rfl]
            have hv0 : valW r ≠ 0 := by
              cases r with
              | nil => exact absurd (.inl rfl) h1
              | cons d r2 =>
                have hd : 48 ≤ d ∧ d ≤ 57 := by
                  cases hf : figs (d :: r2) with
                  | false => exact absurd (.inr (.inl hf)) h1
                  | true =>
                    have := List.all_eq_true.mp hf d (List.mem_cons_self ..)
                    simpa using this
                have hne48 : d ≠ 48 := fun z => h3 ⟨h0, by rw [z]; rfl⟩
                exact Nat.pos_iff_ne_zero.mp (NumText.digitsVal_pos (by omega))
            by_cases hv : valW r ≤ m
            · rw [if_pos (by omega), if_pos hv]
              show _ = if (valW r : Int) = 0 then none else some (-(valW r : Int))
              rw [if_neg (by omega)]
              congr 1
              omega
            · rw [if_neg (by omega), if_neg hv]
  · rw [if_neg h45, told_figs hm]
    have e : lawFig w true = w := if_neg (fun h => h45 h.1)
    unfold lawNum
    rw [e]
    dsimp only
    by_cases h1 : w = [] ∨ figs w = false ∨ 9 < w.length
    · rw [if_pos h1, if_pos h1]
    · rw [if_neg h1, if_neg h1]
      have h2 : w ≠ [45, 48] := fun z => h1 (.inr (.inl (by rw [z]; decide)))
      by_cases h3 : w ≠ [48] ∧ w.head? = some 48
      · rw [if_pos (.inl h3), if_pos h3]
      · rw [if_neg (fun h => h.elim h3 h2), if_neg h3]
        simp only [if_true]
        by_cases hv : valW w ≤ m
        · rw [if_pos hv, if_pos (by omega)]
        · rw [if_neg hv, if_neg (by omega)]
end RH
set_option Elab.async false
set_option linter.all false
set_option maxRecDepth 100000
set_option maxHeartbeats 2000000
namespace RH
open PySem PySem.Spec PyProof.Rows L2
/-! ### _law_number read -/
theorem plain_mem {w : List Nat} (h : plain w = true) {c : Nat} (hc : c ∈ w) : c < 256 := by
  have := List.all_eq_true.mp h c hc
  simpa using this
def oneS (w : List Nat) : List V := (w.filter fun c => !(decide (48 ≤ c) && decide (c ≤ 57))).map fun c => V.str ⟨#[c]⟩
theorem ones_shaped : ∀ {w : List Nat}, plain w = true → SeqAt.shaped (.list (w.map fun c => PyData.str ⟨#[c]⟩)) = true := by
  intro w h
  have go : ∀ l : List Nat, (∀ c ∈ l, c < 256) → PyData.canLayAll0 (l.map fun c => PyData.str ⟨#[c]⟩) = true ∧ PyData.depthAll (l.map fun c => PyData.str ⟨#[c]⟩) = 0 := by
    intro l
    induction l with
    | nil => intro _; exact ⟨rfl, rfl⟩
    | cons c l ih =>
      intro hc
      obtain ⟨h1, h2⟩ := ih fun d hd => hc d (List.mem_cons_of_mem _ hd)
      have h3 := hc c (List.mem_cons_self ..)
      refine ⟨?_, ?_⟩
      · show (PyData.strOk ⟨#[c]⟩ && _) = true
        rw [h1, Bool.and_true]
        show (#[c].all fun c => decide (c < 0x110000)) = true
        simp
        omega
      · show max 0 _ = 0
        rw [h2]
        rfl
  obtain ⟨h1, h2⟩ := go w fun c hc => plain_mem h hc
  unfold SeqAt.shaped
  show (PyData.canLayAll0 _ && decide (PyData.depthAll _ + 1 ≤ 64)) = true
  rw [h1, h2]
  rfl
theorem cut_to1 (z : List Nat) : cutS (SX.S z) none (some 1) = SX.S (z.take 1) := by rw [C8.cutS_slice, SX.slice_to (by decide)]; rfl
theorem cut_from1 (z : List Nat) : cutS (SX.S z) (some 1) none = SX.S z.tail := by
  rw [C8.cutS_slice, SX.slice_from (by decide)]
  show SX.S (z.drop 1) = _
  rw [List.drop_one]
theorem dash_eq (z : List Nat) : decide (V.str (SX.S (z.take 1)) = V.str "-") = decide (z.head? = some 45) := by
  rw [show ("-" : Str) = SX.S [45] from by decide +kernel]
  refine decide_eq_decide.mpr ⟨fun h => ?_, fun h => ?_⟩
  · injection h with h
    have := SX.S_inj h
    cases z with
    | nil => cases this
    | cons c r => simp at this; simp [this]
  · cases z with
    | nil => cases h
    | cons c r => simp at h; simp [h]
theorem eqv_nil {ds : List PyData} : PyData.eqv (.list ds) (.list []) = ds.isEmpty := by
  cases ds <;> rfl
theorem figs_filter {g : List Nat} : (g.filter fun c => !(decide (48 ≤ c) && decide (c ≤ 57))).isEmpty = figs g := by
  unfold figs
  induction g with
  | nil => rfl
  | cons c r ih =>
    rw [List.filter_cons, List.all_cons]
    cases h : (decide (48 ≤ c) && decide (c ≤ 57)) with
    | true => simpa using ih
    | false => rfl
section
variable {P : Program} {w : World} {K : PySem.W.Frag} {mg : Str → Option Value} {base : Heap}
def spLNum : Sp := fun vs H Q _ => ∃ (w : List Nat) (neg : Bool) (m : Nat), vs = [tx w, .int (if neg = true then -(m : Int) else 0), .int (m : Int)] ∧ 1 ≤ m ∧ m < 10 ^ 9 ∧ w.length ≤ 500 ∧ plain w = true ∧ ∀ H', Same H H' → Q (onI (lawNum w neg m)) H'
theorem ok_lnumber (F : Df K mg "_law_number" st__law_number ["word", "least", "most"]) (B : Bu mg) : Cal P w K mg base 1 "_law_number" spLNum := by
  refine mkCal F sc__law_number (fun vs H Q E h => ?_) (fun f cdv A outer s H vs Q E hr h => ?_)
  · obtain ⟨z, neg, m, rfl, _⟩ := h
    rfl
  · obtain ⟨z, neg, m, rfl, m1, m9, hz, hp, q⟩ := h
    obtain ⟨g, hg⟩ : ∃ g, g = lawFig z neg := ⟨_, rfl⟩
    obtain ⟨lo, hlo⟩ : ∃ lo : Int, lo = (if neg = true then -(m : Int) else 0) := ⟨_, rfl⟩
    obtain ⟨zz, hzz⟩ : ∃ zz : Int, zz = (if g = z then (valW g : Int) else 0 - (valW g : Int)) := ⟨_, rfl⟩
    have ln : lawNum z neg m = if g = [] ∨ figs g = false ∨ 9 < g.length then none else if (g ≠ [48] ∧ g.head? = some 48) ∨ z = [45, 48] then none else if lo ≤ zz ∧ zz ≤ (m : Int) then some zz else none := by
      rw [hzz, hlo, hg]
      rfl
    rw [ln] at q
    rw [← hlo]
    have zl : (SX.S z).length ≤ sizeLine := by rw [SX.S_len, sizeLine_eq]; omega
    have gz : g.length ≤ z.length := by
      rw [hg]
      unfold lawFig
      split
      · rw [List.length_tail]; omega
      · exact Nat.le_refl _
    have gp : plain g = true := by
      rw [hg]
      unfold lawFig
      split
      · refine List.all_eq_true.mpr fun c hc => ?_
        have := plain_mem hp (List.mem_of_mem_tail hc)
        simpa using this
      · exact hp
    have gl : (SX.S g).length ≤ sizeLine := by rw [SX.S_len, sizeLine_eq]; omega
    have eS : ∀ {a b : List Nat}, decide (V.str (SX.S a) = V.str (SX.S b)) = decide (a = b) := fun {a b} => decide_eq_decide.mpr ⟨fun h => by injection h with h; exact SX.S_inj h, fun h => by rw [h]⟩
    refine ⟨_, pss_cons (ps_cut (fun σ H' => H' = H ∧ σ = [some (tx z), some (.int lo), some (.int (m : Int)), some (tx g), none, none]) (ps_set (i := 3) sc__law_number.nd rfl (.inl rfl) (pe_ifExp (PW.pt (pw_and (pt_cmpR op_eq (pe_slice sl_str (pv 0) po_none (po_some pe_int)) pe_str (nomark _)) (pw_and1 (pt_cmpR op_lt (pv 1) pe_int (nomark _))))) (pe_slice sl_str (pv 0) (po_some pe_int) po_none) (pv 0))))
      (pss_cons (ps_cut (fun σ H' => Same H H' ∧ σ = [some (tx z), some (.int lo), some (.int (m : Int)), some (tx g), none, none] ∧ ¬ (g = [] ∨ figs g = false ∨ 9 < g.length)) (ps_if (PW.pt (pw_or (pt_cmpR op_eq (pv 3) pe_str (nomark _)) (pw_or (pt_cmpR (op_neD hr.units) (pe_lc (own := [("sign", 5)]) (g := gName 5) rfl sc__law_number.nd (pi_str (pv 3))
          (blkOk_by (N := ["word", "least", "most", "figures", "number", "sign"]) (sc := defScope st__law_number) (by decide +kernel)) (fun _ _ _ _ _ => pg_name (i := 5) sc__law_number.nd rfl (Or.inl rfl)) (fun _ _ _ _ _ => pts_one (pt_cmpR op_notIn_sign (pv 5) pe_str rfl)) (fun _ _ _ _ _ => pv 5)) (pe_lst pa_nil) (nomark _))
          (pw_or1 (pt_cmpR op_gt (pe_callB call_len_str (by rfl) B.len PySem.boot_len (pa_cons (pv 3) pa_nil)) pe_int (nomark _)))))) (pss_one (ps_ret pe_non)) pss_nil))
      (pss_cons (ps_cut (fun σ H' => Same H H' ∧ σ = [some (tx z), some (.int lo), some (.int (m : Int)), some (tx g), none, none] ∧ ¬ (g = [] ∨ figs g = false ∨ 9 < g.length) ∧ ¬ ((g ≠ [48] ∧ g.head? = some 48) ∨ z = [45, 48])) (ps_if (PW.pt (pw_or (PW.pt (pw_and (pt_cmpR op_ne (pv 3) pe_str (nomark _)) (pw_and1 (pt_cmpR op_eq (pe_ix ix_str (pv 3) pe_int (fun _ _ => rfl)) pe_str (nomark _))))) (pw_or1 (pt_cmpR op_eq (pv 0) pe_str (nomark _))))) (pss_one (ps_ret pe_non)) pss_nil))
      (pss_cons (ps_cut (fun σ H' => Same H H' ∧ σ = [some (tx z), some (.int lo), some (.int (m : Int)), some (tx g), some (.int zz), none] ∧ ¬ (g = [] ∨ figs g = false ∨ 9 < g.length) ∧ ¬ ((g ≠ [48] ∧ g.head? = some 48) ∨ z = [45, 48])) (ps_set (i := 4) sc__law_number.nd rfl (.inl rfl) (pe_ifExp (pt_cmpR op_eq (pv 3) (pv 0) (nomark _)) (pe_callTy call_int_str (by rfl) B.int (by decide +kernel) (pa_cons (pv 3) pa_nil)) (pe_op op_sub pe_int (pe_callTy call_int_str (by rfl) B.int (by decide +kernel) (pa_cons (pv 3) pa_nil))))))
      (pss_one (ps_ret (pe_ifExp (pt_chain op_le op_le (pv 1) (pv 4) (pv 2)) (pv 4) pe_non)))))), ?_⟩
    refine ⟨fun σ1 H1 h1 => ?_, ?_⟩
    rotate_left
    · refine ⟨_, rfl, _, rfl, _, rfl, zl, ?_⟩
      rw [cut_to1]
      refine ⟨rfl, _, rfl, ?_⟩
      show (if decide (V.str (SX.S (z.take 1)) = V.str "-") = true then _ else _)
      rw [dash_eq]
      by_cases hh : z.head? = some 45
      · refine ifT (decide_eq_true hh) ⟨_, rfl, _, _, rfl, rfl, _, rfl, ?_⟩
        cases neg with
        | true =>
          have hl : lo = -(m : Int) := hlo
          refine ifT (decide_eq_true (by omega)) ⟨_, rfl, _, rfl, _, rfl, zl, ?_⟩
          rw [cut_from1]
          have e : g = z.tail := by rw [hg]; exact if_pos ⟨hh, rfl⟩
          exact ⟨rfl, by rw [e]; rfl⟩
        | false =>
          have hl : lo = 0 := hlo
          have e : g = z := by rw [hg]; exact if_neg (by simp)
          exact ifF (decide_eq_false (by omega)) ⟨_, rfl, rfl, by rw [e]; rfl⟩
      · have e : g = z := by rw [hg]; exact if_neg (fun h => hh h.1)
        exact ifF (decide_eq_false hh) (ifF rfl ⟨_, rfl, rfl, by rw [e]; rfl⟩)
    obtain ⟨rfl, rfl⟩ := h1
    refine ⟨fun σ1 H1 h1 => ?_, ?_⟩
    rotate_left
    · refine ⟨_, rfl, rfl, _, rfl, ?_⟩
      show (if decide (V.str (SX.S g) = V.str "") = true then _ else _)
      rw [show ("" : Str) = SX.S [] from by decide +kernel, eS]
      have bad : (g = [] ∨ figs g = false ∨ 9 < g.length) → ∀ H', Same H1 H' → Q .non H' := fun b H' s' => by
        have := q H' s'
        rw [if_pos b] at this
        exact this
      by_cases h0 : g = []
      · exact ifT (decide_eq_true h0) (ifT rfl (bad (.inl h0) _ (Same.refl _)))
      refine ifF (decide_eq_false h0) ?_
      refine ⟨_, rfl, _, rfl, fun D hD => ?_⟩
      refine lc_it walk_str (fun i H' => Same H1 H' ∧ H' D = some (.lst (oneS (g.take i)))) ⟨same_new hD, upd_same⟩ (fun _ _ _ _ => trivial) (fun i x H' H2 hi h' y => ?_) (fun H' h' => ?_)
      · obtain ⟨sm, eD⟩ := h'
        obtain ⟨rfl, c, hc, rfl⟩ := y
        have hc : g[i]? = some c := by simpa using hc
        have tk : oneS (g.take (i + 1)) = oneS (g.take i) ++ oneS [c] := by
          unfold oneS
          rw [List.take_add_one, hc, List.filter_append, List.map_append]
          rfl
        refine ⟨rfl, _, rfl, c, _, rfl, rfl, _, rfl, ?_⟩
        rw [in_figures, tk]
        cases h3 : (decide (48 ≤ c) && decide (c ≤ 57)) with
        | true =>
          refine ifF rfl ⟨sm, ?_⟩
          have : oneS [c] = [] := by unfold oneS; rw [List.filter_cons, h3]; rfl
          rw [this, List.append_nil]
          exact eD
        | false =>
          have e1 : oneS [c] = [.str ⟨#[c]⟩] := by unfold oneS; rw [List.filter_cons, h3]; rfl
          refine ifT rfl ⟨_, rfl, _, eD, ?_, fun b o eb => ?_, ?_⟩
          · unfold oneS
            have := List.length_filter_le (fun c => !(decide (48 ≤ c) && decide (c ≤ 57))) (g.take i)
            rw [List.length_take] at this
            rw [List.length_map, sizeLine_eq]
            omega
          · rw [upd_ne (ne_of_none eb hD)]
            exact sm b o eb
          · rw [upd_same, e1]
      · obtain ⟨sm, eD⟩ := h'
        have e : g.take (SX.S g).cps.size = g := by simp
        rw [e] at eD
        refine ⟨Nat.zero_le _, fun p hp => ?_⟩
        have s2 := sm.trans (same_new (o := .lst []) hp)
        have dall : ∀ {H' : Hp} (l : List Nat), DpAll K H' (l.map fun c => V.str ⟨#[c]⟩) (l.map fun c => PyData.str ⟨#[c]⟩) := by
          intro H' l
          induction l with
          | nil => exact .nil
          | cons c l ih => exact .cons (.str _) ih
        have pf : plain (g.filter fun c => !(decide (48 ≤ c) && decide (c ≤ 57))) = true := List.all_eq_true.mpr fun c hc => by
          have := plain_mem gp (List.mem_filter.mp hc).1
          simpa using this
        refine ⟨.list ((g.filter fun c => !(decide (48 ≤ c) && decide (c ≤ 57))).map fun c => PyData.str ⟨#[c]⟩), .list [], .lst (lstAt (same_new hp _ _ eD)) (dall _), .lst (lstAt upd_same) .nil, ones_shaped pf, by decide +kernel, _, rfl, ?_⟩
        have en : (!PyData.eqv (.list ((g.filter fun c => !(decide (48 ≤ c) && decide (c ≤ 57))).map fun c => PyData.str ⟨#[c]⟩)) (.list [])) = !figs g := by
          rw [eqv_nil, List.isEmpty_map, figs_filter]
        rw [en]
        cases hf : figs g with
        | false => exact ifT rfl (ifT rfl (bad (.inr (.inl hf)) _ s2))
        | true =>
          refine ifF rfl ⟨_, rfl, _, rfl, gl, _, _, rfl, rfl, _, rfl, ?_⟩
          rw [SX.S_len]
          by_cases h9 : 9 < g.length
          · exact ifT (decide_eq_true (by omega)) (bad (.inr (.inr h9)) _ s2)
          · refine ifF (decide_eq_false (by omega)) ⟨s2, rfl, ?_⟩
            rintro (h | h | h)
            · exact h0 h
            · cases h
            · exact h9 h
    obtain ⟨s1, rfl, nb1⟩ := h1
    rw [if_neg nb1] at q
    refine ⟨fun σ1 H1 h1 => ?_, ?_⟩
    rotate_left
    · have q0 : ((g ≠ [48] ∧ g.head? = some 48) ∨ z = [45, 48]) → ∀ H', Same H1 H' → Q .non H' := fun b H' s' => by
        have := q H' (s1.trans s')
        rw [if_pos b] at this
        exact this
      have ed : ∀ {D : Prop} [Decidable D], True := fun {_ _} => trivial
      have e0 : ("0" : Str) = SX.S [48] := by decide +kernel
      have e1 : ("-0" : Str) = SX.S [45, 48] := by decide +kernel
      cases hgc : g with
      | nil => exact absurd (.inl hgc) nb1
      | cons c r =>
        rw [← hgc]
        have hz0 : ∀ {A B : Prop}, (z = [45, 48] → A) → (z ≠ [45, 48] → B) → (if decide (V.str (SX.S z) = V.str "-0") = true then A else B) := fun ha hb => by
          rw [e1, eS]
          by_cases h : z = [45, 48]
          · rw [if_pos (decide_eq_true h)]; exact ha h
          · rw [if_neg (by simpa using h)]; exact hb h
        refine ⟨_, rfl, rfl, _, rfl, ?_⟩
        show (if (!decide (V.str (SX.S g) = V.str "0")) = true then _ else _)
        rw [e0, eS]
        by_cases h48 : g = [48]
        · rw [decide_eq_true h48]
          refine ifF rfl (ifF rfl ⟨_, rfl, rfl, _, rfl, ?_⟩)
          exact hz0 (fun h => q0 (.inr h) _ (Same.refl _)) (fun h => ⟨s1, rfl, nb1, fun b => b.elim (fun b => b.1 h48) h⟩)
        · rw [decide_eq_false h48]
          refine ifT rfl ⟨_, rfl, _, _, c, rfl, rfl, gl, by rw [hgc]; exact at0, rfl, _, rfl, ?_⟩
          have ec : decide (V.str ⟨#[c]⟩ = V.str (SX.S [48])) = decide (c = 48) := by
            rw [show (⟨#[c]⟩ : Str) = SX.S [c] from rfl, eS]
            refine decide_eq_decide.mpr ⟨fun h => by injection h, fun h => by rw [h]⟩
          show (if decide (V.str ⟨#[c]⟩ = V.str "0") = true then _ else _)
          rw [e0, ec]
          by_cases hc : c = 48
          · exact ifT (decide_eq_true hc) (ifT rfl (q0 (.inl ⟨h48, by rw [hgc, hc]; rfl⟩) _ (Same.refl _)))
          · refine ifF (decide_eq_false hc) ⟨_, rfl, rfl, _, rfl, ?_⟩
            exact hz0 (fun h => q0 (.inr h) _ (Same.refl _)) (fun h => ⟨s1, rfl, nb1, fun b => b.elim (fun b => hc (by have := b.2; rw [hgc] at this; injection this)) h⟩)
    obtain ⟨s1, rfl, nb1, nb2⟩ := h1
    rw [if_neg nb2] at q
    refine ⟨fun σ1 H1 h1 => ?_, ?_⟩
    rotate_left
    · have hf : figs g = true := by
        cases e : figs g with
        | true => rfl
        | false => exact absurd (.inr (.inl e)) nb1
      have hne : g ≠ [] := fun e => nb1 (.inl e)
      have h9 : g.length ≤ 9 := by
        have : ¬ 9 < g.length := fun e => nb1 (.inr (.inr e))
        omega
      have it : PySem.intText? (SX.S g) = some ((valW g : Nat) : Int) := SX.int_S hf hne (by omega)
      have gl6 : (SX.S g).length ≤ 640 := by rw [SX.S_len]; omega
      refine ⟨_, rfl, _, rfl, rfl, _, rfl, ?_⟩
      show (if decide (V.str (SX.S g) = V.str (SX.S z)) = true then _ else _)
      rw [eS]
      by_cases hgz : g = z
      · rw [if_pos hgz] at hzz
        exact ifT (decide_eq_true hgz) ⟨_, rfl, _, _, rfl, it, gl6, s1, by rw [hzz]; rfl, nb1, nb2⟩
      · rw [if_neg hgz] at hzz
        exact ifF (decide_eq_false hgz) ⟨_, rfl, _, _, rfl, it, gl6, _, _, rfl, rfl, s1, by rw [hzz]; rfl, nb1, nb2⟩
    obtain ⟨s1, rfl, nb1, nb2⟩ := h1
    refine ⟨_, rfl, _, rfl, _, _, rfl, rfl, _, rfl, ?_⟩
    by_cases h1 : lo ≤ zz
    · refine ifT (decide_eq_true h1) ⟨_, rfl, _, _, rfl, rfl, _, rfl, ?_⟩
      by_cases h2 : zz ≤ (m : Int)
      · rw [if_pos ⟨h1, h2⟩] at q
        exact ifT (decide_eq_true h2) ⟨_, rfl, q _ s1⟩
      · rw [if_neg (fun h => h2 h.2)] at q
        exact ifF (decide_eq_false h2) (q _ s1)
    · rw [if_neg (fun h => h1 h.1)] at q
      exact ifF (decide_eq_false h1) ⟨_, rfl, q _ s1⟩
end
end RH
set_option Elab.async false
set_option linter.all false
set_option maxRecDepth 100000
set_option maxHeartbeats 2000000
namespace RH
open PySem PySem.Spec PyProof.Rows L2
/-! ### _law_read -/
abbrev NR : List Str := ["places", "text", "found", "line", "signs", "words", "bounds", "word", "low", "high", "number", "at"]
theorem ps_cutM {X : Cx} {st : Stmt} {t : TS} (h : PS X st t) : PS X st (fun D σ H => ∃ G : L2.St → Hp → Prop, (∀ σ' H', G σ' H' → D.nx σ' H') ∧ t { D with nx := G } σ H) := by
  refine ⟨fun pins s σ H D I hw => ?_⟩
  obtain ⟨G, hG, hw⟩ := hw
  refine thn (h.run pins s σ H { D with nx := G } I hw) fun fl s1 q => ?_
  cases fl with
  | next =>
    obtain ⟨σ', H', I', q⟩ := q
    exact ⟨σ', H', I', hG _ _ q⟩
  | ret v => exact q
  | brk => exact q
  | cont => exact q
theorem cut_mem (c : Nat) : ∀ (t : List Nat) (acc : List Nat), ∀ w ∈ TL.spl [c] 0 acc t, ∀ x ∈ w, x ∈ acc ∨ x ∈ t
  | [], acc => by
    unfold TL.spl
    intro w hw x hx
    rw [List.mem_singleton.mp hw] at hx
    exact .inl hx
  | y :: t, acc => by
    cases hp : TL.pre [c] (y :: t) with
    | true =>
      rw [TL.spl_hit hp]
      intro w hw x hx
      rcases List.mem_cons.mp hw with rfl | hw
      · exact .inl hx
      · rcases cut_mem c t [] w hw x hx with h | h
        · cases h
        · exact .inr (List.mem_cons_of_mem _ h)
    | false =>
      rw [TL.spl_miss hp]
      intro w hw x hx
      rcases cut_mem c t (acc ++ [y]) w hw x hx with h | h
      · rcases List.mem_append.mp h with h | h
        · exact .inl h
        · exact .inr (by rw [List.mem_singleton.mp h]; exact List.mem_cons_self ..)
      · exact .inr (List.mem_cons_of_mem _ h)
theorem plain_words {t l : List Nat} (hp : plain t = true) (hl : l ∈ TL.spl [10] 0 [] t) : ∀ w ∈ wordsIn l, plain w = true := by
  intro w hw
  unfold wordsIn at hw
  have hw := (List.mem_filter.mp hw).1
  refine List.all_eq_true.mpr fun x hx => ?_
  rcases cut_mem 32 l [] w hw x hx with h | h
  · cases h
  rcases cut_mem 10 t [] l hl x h with h | h
  · cases h
  · simpa using plain_mem hp h
theorem words_shaped : ∀ {ws : List (List Nat)}, (∀ w ∈ ws, plain w = true) → SeqAt.shaped (.list (ws.map fun w => PyData.str (SX.S w))) = true := by
  intro ws h
  have go : ∀ l : List (List Nat), (∀ c ∈ l, plain c = true) → PyData.canLayAll0 (l.map fun w => PyData.str (SX.S w)) = true ∧ PyData.depthAll (l.map fun w => PyData.str (SX.S w)) = 0 := by
    intro l
    induction l with
    | nil => intro _; exact ⟨rfl, rfl⟩
    | cons c l ih =>
      intro hc
      obtain ⟨h1, h2⟩ := ih fun d hd => hc d (List.mem_cons_of_mem _ hd)
      have h3 := hc c (List.mem_cons_self ..)
      refine ⟨?_, ?_⟩
      · show (PyData.strOk (SX.S c) && _) = true
        rw [h1, Bool.and_true]
        show (c.toArray.all fun c => decide (c < 0x110000)) = true
        rw [List.all_toArray]
        refine List.all_eq_true.mpr fun x hx => ?_
        have := plain_mem h3 hx
        simp
        omega
      · show max 0 _ = 0
        rw [h2]
        rfl
  obtain ⟨h1, h2⟩ := go ws h
  unfold SeqAt.shaped
  show (PyData.canLayAll0 _ && decide (PyData.depthAll _ + 1 ≤ 64)) = true
  rw [h1, h2]
  rfl
def acc5 : List Str := ["get", "set", "plus", "minus", "touch"]
/-- the bounds of the number behind a word -/
def rngW (n : Nat) (s : Str) : Option (Bool × Nat) :=
  if s = "put" then some (true, 1000000) else if inZ s jumpZ = true then some (false, 4000) else if inZ s acc5 = true then some (false, n - 1) else none
/-- the dict of bounds -/
def BD (K : PySem.W.Frag) (n : Nat) (d : Addr) (H : Hp) : Prop := ∃ kvs : List (Key × V), H d = some (.dK kvs) ∧ ∀ s : Str, match rngW n s with
  | none => valV kvs (.inr s) = none
  | some (b, m) => ∃ a, valV kvs (.inr s) = some (.ref a) ∧ H a = some (.tup [.int (if b = true then -(m : Int) else 0), .int (m : Int)])
theorem inZ_iff {s : Str} : ∀ {zs : List Str}, inZ s zs = true ↔ s ∈ zs
  | [] => by
    refine ⟨fun h => ?_, fun h => by cases h⟩
    cases h
  | z :: zs => by
    have ih := inZ_iff (s := s) (zs := zs)
    have e : inZ s (z :: zs) = ((z == s) || inZ s zs) := rfl
    rw [e, Bool.or_eq_true, ih, List.mem_cons, beq_iff_eq]
    exact ⟨fun h => h.elim (fun h => .inl h.symm) .inr, fun h => h.elim (fun h => .inl h.symm) .inr⟩
theorem inZ_app {s : Str} {a b : List Str} : inZ s (a ++ b) = (inZ s a || inZ s b) := by
  unfold inZ inV
  rw [List.map_append, List.any_append]
theorem rng_none {n : Nat} {s : Str} (h : rngW n s = none) : inZ s numZ = false := by
  cases e : inZ s numZ with
  | false => rfl
  | true =>
    rw [inZ_iff] at e
    unfold rngW at h
    by_cases h1 : s = "put"
    · rw [if_pos h1] at h; cases h
    rw [if_neg h1] at h
    by_cases h2 : inZ s jumpZ = true
    · rw [if_pos h2] at h; cases h
    rw [if_neg h2] at h
    by_cases h3 : inZ s acc5 = true
    · rw [if_pos h3] at h; cases h
    rw [inZ_iff] at h2 h3
    simp only [numZ, jumpZ, acc5, List.mem_cons, List.not_mem_nil, or_false, not_or] at e h2 h3
    exfalso
    rcases e with e | e | e | e | e | e | e | e
    · exact h3.1 e
    · exact h3.2.1 e
    · exact h3.2.2.1 e
    · exact h3.2.2.2.1 e
    · exact h1 e
    · exact h2.1 e
    · exact h2.2 e
    · exact h3.2.2.2.2 e
theorem rng_some {n : Nat} {s : Str} {x : Bool × Nat} (h : rngW n s = some x) : inZ s numZ = true := by
  rw [inZ_iff]
  unfold rngW at h
  by_cases h1 : s = "put"
  · simp [numZ, h1]
  rw [if_neg h1] at h
  by_cases h2 : inZ s jumpZ = true
  · rw [inZ_iff] at h2
    simp only [jumpZ, List.mem_cons, List.not_mem_nil, or_false] at h2
    rcases h2 with h2 | h2 <;> simp [numZ, h2]
  rw [if_neg h2] at h
  by_cases h3 : inZ s acc5 = true
  · rw [inZ_iff] at h3
    simp only [acc5, List.mem_cons, List.not_mem_nil, or_false] at h3
    rcases h3 with h3 | h3 | h3 | h3 | h3 <;> simp [numZ, h3]
  rw [if_neg h3] at h
  cases h
theorem rng_case {n : Nat} {s : Str} {b : Bool} {m : Nat} (n2 : 2 ≤ n) (n5 : n ≤ 5) (h : rngW n s = some (b, m)) : 1 ≤ m ∧ m < 10 ^ 9 ∧ ((s = "put" ∧ b = true ∧ m = 1000000) ∨ (s ≠ "put" ∧ inZ s jumpZ = true ∧ b = false ∧ m = 4000) ∨ (s ≠ "put" ∧ inZ s jumpZ = false ∧ b = false ∧ m = n - 1)) := by
  unfold rngW at h
  by_cases h1 : s = "put"
  · rw [if_pos h1] at h
    cases h
    exact ⟨by decide, by decide, .inl ⟨h1, rfl, rfl⟩⟩
  rw [if_neg h1] at h
  by_cases h2 : inZ s jumpZ = true
  · rw [if_pos h2] at h
    cases h
    exact ⟨by decide, by decide, .inr (.inl ⟨h1, h2, rfl, rfl⟩)⟩
  rw [if_neg h2] at h
  by_cases h3 : inZ s acc5 = true
  · rw [if_pos h3] at h
    cases h
    exact ⟨by omega, by omega, .inr (.inr ⟨h1, by simpa using h2, rfl, rfl⟩)⟩
  rw [if_neg h3] at h
  cases h
theorem sec_eq {n : Nat} {w u : List Nat} {r : List (List Nat)} {b : Bool} {m : Nat} (n2 : 2 ≤ n) (n5 : n ≤ 5) (h : rngW n (SX.S w) = some (b, m)) : lawNum u b m = secNum n (w :: u :: r) := by
  obtain ⟨_, m9, h⟩ := rng_case n2 n5 h
  show _ = if SX.S w = "put" then sgnTold u 1000000 else if inZ (SX.S w) jumpZ = true then numTold u 4000 else numTold u (n - 1)
  rcases h with ⟨h1, rfl, rfl⟩ | ⟨h1, h2, rfl, rfl⟩ | ⟨h1, h2, rfl, rfl⟩
  · rw [if_pos h1]
    exact lawNum_yes m9
  · rw [if_neg h1, if_pos h2]
    exact lawNum_no m9
  · rw [if_neg h1, if_neg (by rw [h2]; decide)]
    exact lawNum_no m9
theorem BD.on {K : PySem.W.Frag} {n : Nat} {d : Addr} {H H' : Hp} (e : Same H H') (h : BD K n d H) : BD K n d H' := by
  obtain ⟨kvs, ed, look⟩ := h
  refine ⟨kvs, e _ _ ed, fun s => ?_⟩
  have := look s
  cases hr : rngW n s with
  | none => rw [hr] at this; exact this
  | some x =>
    rw [hr] at this
    obtain ⟨a, h1, h2⟩ := this
    exact ⟨a, h1, e _ _ h2⟩
theorem bd_of {K : PySem.W.Frag} {n : Nat} {H : Hp} {d t1 t2 t3 b1 b2 b3 b4 b5 : Addr} (n2 : 2 ≤ n)
    (fd : H d = some (.dK [(.inr "put", .ref t1), (.inr "zero", .ref t2), (.inr "go", .ref t3), (.inr "get", .ref b1), (.inr "set", .ref b2), (.inr "plus", .ref b3), (.inr "minus", .ref b4), (.inr "touch", .ref b5)]))
    (f1 : H t1 = some (.tup [.int (-1000000), .int 1000000])) (f2 : H t2 = some (.tup [.int 0, .int 4000])) (f3 : H t3 = some (.tup [.int 0, .int 4000])) (fa : ∀ a ∈ [b1, b2, b3, b4, b5], H a = some (.tup [.int 0, .int ((n : Int) - 1)])) : BD K n d H := by
  refine ⟨_, fd, fun s => ?_⟩
  have eb : ∀ {a : Addr}, a ∈ [b1, b2, b3, b4, b5] → H a = some (.tup [.int (if false = true then -((n - 1 : Nat) : Int) else 0), .int ((n - 1 : Nat) : Int)]) := fun {a} h => by
    rw [fa a h, show ((n - 1 : Nat) : Int) = (n : Int) - 1 by omega]
    rfl
  by_cases h1 : s = "put"
  · subst h1
    exact ⟨t1, rfl, f1⟩
  by_cases h2 : s = "zero"
  · subst h2
    exact ⟨t2, rfl, f2⟩
  by_cases h3 : s = "go"
  · subst h3
    exact ⟨t3, rfl, f3⟩
  by_cases h4 : s = "get"
  · subst h4
    exact ⟨b1, rfl, eb (by simp)⟩
  by_cases h5 : s = "set"
  · subst h5
    exact ⟨b2, rfl, eb (by simp)⟩
  by_cases h6 : s = "plus"
  · subst h6
    exact ⟨b3, rfl, eb (by simp)⟩
  by_cases h7 : s = "minus"
  · subst h7
    exact ⟨b4, rfl, eb (by simp)⟩
  by_cases h8 : s = "touch"
  · subst h8
    exact ⟨b5, rfl, eb (by simp)⟩
  have e : rngW n s = none := by
    unfold rngW
    rw [if_neg h1, if_neg (by rw [inZ_iff]; simp [jumpZ, h2, h3]), if_neg (by rw [inZ_iff]; simp [acc5, h4, h5, h6, h7, h8])]
  rw [e]
  show valV (κ := Key) _ (Sum.inr s) = none
  have ne : ∀ {z : Str}, s ≠ z → ((.inr z : Key) = .inr s) = False := fun {z} h => eq_false fun e => h (Sum.inr.inj e).symm
  simp only [valV, List.find?_cons, ne h1, ne h2, ne h3, ne h4, ne h5, ne h6, ne h7, ne h8, decide_false, List.find?_nil, Option.map_none]
theorem any_zip {s : Str} : ∀ {l : List Str} {ts : List Addr}, s ∉ l → (((l.zip ts).map fun p => ((.inr p.1 : Key), V.ref p.2)).any fun kv => decide (kv.1 = .inr s)) = false
  | [], _, _ => rfl
  | _ :: _, [], _ => rfl
  | x :: l, a :: ts, h => by
    have h1 : x ≠ s := fun z => h (by rw [z]; exact List.mem_cons_self ..)
    have ih := any_zip (l := l) (ts := ts) fun z => h (List.mem_cons_of_mem _ z)
    rw [List.zip_cons_cons, List.map_cons, List.any_cons, ih, Bool.or_false]
    exact decide_eq_false fun z => h1 (Sum.inr.inj z)
theorem acc_new : ∀ j, (h : j < 5) → (acc5[j]'h) ∉ acc5.take j ∧ (acc5[j]'h) ≠ "put" ∧ (acc5[j]'h) ≠ "zero" ∧ (acc5[j]'h) ≠ "go" := by decide +kernel
theorem acc_new' {j : Nat} {s : Str} (hs : acc5[j]? = some s) : s ∉ acc5.take j ∧ s ≠ "put" ∧ s ≠ "zero" ∧ s ≠ "go" := by
  obtain ⟨hj, rfl⟩ := List.getElem?_eq_some_iff.mp hs
  exact acc_new j hj
/-- what stands before a turn: the lines are at L, the found ones at F -/
structure LS (K : PySem.W.Frag) (n : Nat) (t : List Nat) (H : Hp) (F L i : Nat) (us : List V) (xs : List (List Nat × Option Int)) (H' : Hp) : Prop where
  same : Same H H'
  hF : H F = none
  ne : L ≠ F
  eF : H' F = some (.lst us)
  eL : H' L = some (.lst ((TL.spl [10] 0 [] t).map (V.str ∘ SX.S)))
  each : Each (RI K H') us xs
  pre : ((linesIn t).take i).map (rdIns n) = xs.map .inr
theorem LS.on {K : PySem.W.Frag} {n : Nat} {t : List Nat} {H : Hp} {F L i : Nat} {us : List V} {xs : List (List Nat × Option Int)} {H' H2 : Hp} (e : Same H' H2) (h : LS K n t H F L i us xs H') : LS K n t H F L i us xs H2 :=
  ⟨h.same.trans e, h.hF, h.ne, e _ _ h.eF, e _ _ h.eL, h.each.imp fun _ _ z => z.on (Fix.same e).tups, h.pre⟩
theorem tups_dct {K : PySem.W.Frag} {H : Hp} {d : Addr} {kvs : List (Key × V)} {o : HO} (e : H d = some (.dK kvs)) : Tups K H (upd H d o) := fun a xs hS => by
  rcases hS with (h | ⟨u, h⟩) | h
  · exact .inl (.inl (by rw [upd_ne (fun z => by rw [z, e] at h; cases h)]; exact h))
  · exact .inl (.inr ⟨u, by rw [upd_ne (fun z => by rw [z, e] at h; cases h)]; exact h⟩)
  · exact .inr h
theorem LS.dct {K : PySem.W.Frag} {n : Nat} {t : List Nat} {H : Hp} {F L i : Nat} {us : List V} {xs : List (List Nat × Option Int)} {H' : Hp} (h : LS K n t H F L i us xs H') {d : Addr} {kvs : List (Key × V)} {o : HO} (hd : H d = none) (e : H' d = some (.dK kvs)) : LS K n t H F L i us xs (upd H' d o) :=
  ⟨fun b ob eb => by rw [upd_ne (ne_of_none eb hd)]; exact h.same _ _ eb, h.hF, h.ne, by rw [upd_ne (fun z => by have := h.eF; rw [z, e] at this; cases this)]; exact h.eF, by rw [upd_ne (fun z => by have := h.eL; rw [z, e] at this; cases this)]; exact h.eL, h.each.imp fun _ _ z => z.on (tups_dct e), h.pre⟩
theorem LS.add {K : PySem.W.Frag} {n : Nat} {t : List Nat} {H : Hp} {F L i : Nat} {us : List V} {xs : List (List Nat × Option Int)} {H' : Hp} (h : LS K n t H F L i us xs H') {v : V} {x : List Nat × Option Int} {ws : List (List Nat)} (hv : RI K H' v x) (hw : (linesIn t)[i]? = some ws) (hx : rdIns n ws = .inr x) :
    LS K n t H F L (i + 1) (us ++ [v]) (xs ++ [x]) (upd H' F (.lst (us ++ [v]))) := by
  refine ⟨fun b o e => ?_, h.hF, h.ne, upd_same, by rw [upd_ne h.ne]; exact h.eL, Each.snoc (hv.on (Fix.lst h.eF).tups) (h.each.imp fun _ _ z => z.on (Fix.lst h.eF).tups), ?_⟩
  · rw [upd_ne (ne_of_none e h.hF)]
    exact h.same _ _ e
  · rw [List.take_add_one, hw, Option.toList_some, List.map_append, h.pre, List.map_append, List.map_singleton, List.map_singleton, hx]
section
variable {P : Program} {w : World} {K : PySem.W.Frag} {mg : Str → Option Value} {base : Heap}
def spLRead (K : PySem.W.Frag) : Sp := fun vs H Q _ => ∃ (n : Nat) (t : List Nat), vs = [.int (n : Int), tx t] ∧ 2 ≤ n ∧ n ≤ 5 ∧ t.length ≤ 400 ∧ plain t = true ∧ (linesIn t).length ≤ 300 ∧ ∀ H' v, Same H H' → TV K H' v (rdPg n (linesIn t)) → Q v H'
theorem ok_lread (F : Df K mg "_law_read" st__law_read ["places", "text"]) (B : Bu mg) (CN : Cal P w K mg base 1 "_law_number" spLNum) : Cal P w K mg base 2 "_law_read" (spLRead K) := by
  refine mkCal F sc__law_read (fun vs H Q E h => ?_) (fun f cdv A outer s H vs Q E hr h => ?_)
  · obtain ⟨n, t, rfl, _⟩ := h
    rfl
  · obtain ⟨n, t, rfl, n2, n5, ht, hp, hl, q⟩ := h
    refine ⟨_, (pss_cons (ps_set (i := 2) sc__law_read.nd rfl (.inl rfl) (pe_lst pa_nil)) (pss_cons (ps_for PassesOwn.never rfl (pi_enum (by rfl) B.enumerate (pa_cons (pe_split (pv 1) pe_str) pa_nil)) (pg_tup rfl (pgs_cons (pg_name (i := 3) sc__law_read.nd rfl (.inl rfl)) (pgs_cons (pg_name (i := 4) sc__law_read.nd rfl (.inl rfl)) pgs_nil))) (pss_cons (ps_cutM (ps_setLc (i := 5) (own := [("word", 7)]) (g := gName 7) (te := tVar 7) rfl sc__law_read.nd rfl rfl (sw_true rfl rfl rfl (by decide +kernel)) (pi_list (pe_split (pv 4) pe_str)) (blkOk_by (N := NR) (sc := defScope st__law_read) (by decide +kernel)) (fun _ _ _ _ _ => pg_name (i := 7) sc__law_read.nd rfl (Or.inl rfl)) (fun _ _ _ _ _ => pts_one (pt_cmpR op_ne (pv 7) pe_str (nomark _))) (fun _ _ _ _ _ => pv 7))) (pss_cons (ps_cutM (ps_set (i := 6) sc__law_read.nd rfl (.inl rfl) (pe_disp (pps_cons pe_str (pe_tup (pa_cons (pe_op op_sub pe_int pe_int) (pa_cons pe_int pa_nil))) (pps_cons pe_str (pe_tup (pa_cons pe_int (pa_cons pe_int pa_nil))) (pps_cons pe_str (pe_tup (pa_cons pe_int (pa_cons pe_int pa_nil))) pps_nil))) (by rfl) (by rfl) (fun z => by cases z) (by decide)))) (pss_cons (ps_cutM (ps_for PassesOwn.never rfl (pi_list (pe_lst (pa_cons pe_str (pa_cons pe_str (pa_cons pe_str (pa_cons pe_str (pa_cons pe_str pa_nil))))))) (pg_name (i := 7) sc__law_read.nd rfl (.inl rfl)) (pss_one (ps_dput (hu_of hr) (pv 6) (pv 7) (pe_tup (pa_cons pe_int (pa_cons (pe_op op_sub (pv 0) pe_int) pa_nil))) rfl)))) (pss_cons (ps_cutM (ps_if (PW.pt (pw_or (pt_cmpR (op_eqD hr.units) (pv 5) (pe_lst pa_nil) (nomark _)) (pw_or1 (PW.pt (pw_and (pt_cmp (pc_dnotin (hu_of hr) (pe_ix ix_list (pv 5) pe_int (fun _ _ => rfl)) (pv 6))) (pw_and1 (pt_cmpR (opNotIn K) (pe_ix ix_list (pv 5) pe_int (fun _ _ => rfl)) (pe_lst (pa_cons pe_str (pa_cons pe_str (pa_cons pe_str pa_nil)))) rfl))))))) (pss_one (ps_ret (pe_lst (pa_cons (pe_op op_add (pv 3) pe_int) (pa_cons pe_int pa_nil))))) pss_nil)) (pss_one (ps_if (pt_cmp (pc_din (hu_of hr) (pe_ix ix_list (pv 5) pe_int (fun _ _ => rfl)) (pv 6))) (pss_cons (ps_cutM (ps_asg (pe_dget (hu_of hr) (pv 6) (pe_ix ix_list (pv 5) pe_int (fun _ _ => rfl)) (fun _ _ => rfl)) (pg_tup rfl (pgs_cons (pg_name (i := 8) sc__law_read.nd rfl (.inl rfl)) (pgs_cons (pg_name (i := 9) sc__law_read.nd rfl (.inl rfl)) pgs_nil))))) (pss_cons (ps_cutM (ps_set (i := 10) sc__law_read.nd rfl (.inl rfl) (pe_ifExp (pt_cmpR op_gt (pe_callB (cl_len K) (by rfl) B.len PySem.boot_len (pa_cons (pv 5) pa_nil)) pe_int (nomark _)) (pc CN hr (pa_cons (pe_ix ix_list (pv 5) pe_int (fun _ _ => rfl)) (pa_cons (pv 8) (pa_cons (pv 9) pa_nil)))) pe_non))) (pss_cons (ps_if (pt_cmp (pc_isN (pv 10))) (pss_one (ps_ret (pe_lst (pa_cons (pe_op op_add (pv 3) pe_int) (pa_cons pe_int pa_nil))))) pss_nil) (pss_cons (ps_if (pt_cmpR op_gt (pe_callB (cl_len K) (by rfl) B.len PySem.boot_len (pa_cons (pv 5) pa_nil)) pe_int (nomark _)) (pss_one (ps_ret (pe_lst (pa_cons (pe_op op_add (pv 3) pe_int) (pa_cons pe_int pa_nil))))) pss_nil) (pss_one (ps_expr (pe_bm PySem.F.plainAttrs_list PySem.F.slot_list_append PySem.F.type_list_append mt_append (pv 2) (pa_cons (pe_tup (pa_cons (pe_ix ix_list (pv 5) pe_int (fun _ _ => rfl)) (pa_cons (pv 10) pa_nil))) pa_nil)))))))) (pss_one (ps_if (pt_cmpR op_gt (pe_callB (cl_len K) (by rfl) B.len PySem.boot_len (pa_cons (pv 5) pa_nil)) pe_int (nomark _)) (pss_one (ps_ret (pe_lst (pa_cons (pe_op op_add (pv 3) pe_int) (pa_cons pe_int pa_nil))))) (pss_one (ps_expr (pe_bm PySem.F.plainAttrs_list PySem.F.slot_list_append PySem.F.type_list_append mt_append (pv 2) (pa_cons (pe_tup (pa_cons (pe_ix ix_list (pv 5) pe_int (fun _ _ => rfl)) pa_nil)) pa_nil))))))))))))) (pss_cons (ps_for PassesOwn.never rfl (pi_enum (by rfl) B.enumerate (pa_cons (pv 2) pa_nil)) (pg_tup rfl (pgs_cons (pg_name (i := 11) sc__law_read.nd rfl (.inl rfl)) (pgs_cons (pg_name (i := 7) sc__law_read.nd rfl (.inl rfl)) pgs_nil))) (pss_one (ps_if (PW.pt (pw_and (pt_cmpR (opIn K) (pe_ix (ixT K) (pv 7) pe_int (fun _ _ => rfl)) (pe_lst (pa_cons pe_str (pa_cons pe_str pa_nil))) rfl) (pw_and1 (pt_cmpR op_gt (pe_ix (ixT K) (pv 7) pe_int (fun _ _ => rfl)) (pe_callB (cl_len K) (by rfl) B.len PySem.boot_len (pa_cons (pv 2) pa_nil)) (nomark _))))) (pss_one (ps_ret (pe_lst (pa_cons (pe_op op_add (pv 11) pe_int) (pa_cons pe_int pa_nil))))) pss_nil))) (pss_one (ps_ret (pe_tupleOf (by rfl) B.tuple (pv 2))))))), ?_⟩
    obtain ⟨ls, hls⟩ : ∃ ls, ls = TL.spl [10] 0 [] t := ⟨_, rfl⟩
    have bl := cut_len 10 t []
    rw [← hls] at bl
    have hlen : (linesIn t).length = ls.length := by unfold linesIn; rw [← hls, List.length_map]
    refine ⟨Nat.zero_le _, fun F hF => ?_⟩
    have s0 := same_new (o := .lst []) hF
    refine ⟨_, rfl, ⟨_, rfl⟩, _, _, rfl, rfl, rfl, by rw [sizeLine_eq, SX.S_len]; omega, fun L hL => ?_⟩
    rw [split_nl, List.map_map]
    have sL := same_new (o := .lst ((TL.spl [10] 0 [] t).map (V.str ∘ SX.S))) hL
    have nLF : L ≠ F := fun z => by rw [z, upd_same] at hL; cases hL
    refine ⟨L, _, rfl, lstAt upd_same, ?_⟩
    refine for_it (walk_enum (K := K) (a := L) (xs := (TL.spl [10] 0 [] t).map (V.str ∘ SX.S))) (fun i σ H' => ∃ us xs y3 y4 y5 y6 y7 y8 y9 y10 y11, LS K n t H F L i us xs H' ∧ σ = [some (.int (n : Int)), some (tx t), some (.ref F), y3, y4, y5, y6, y7, y8, y9, y10, y11])
      ⟨[], [], none, none, none, none, none, none, none, none, none, ⟨s0.trans sL, hF, nLF, sL _ _ upd_same, upd_same, .nil, rfl⟩, rfl⟩ (fun i σ H' hi h' => ?_) (fun i x σ H1 H2 hi h' y => ?_) (fun σ H' h' => ?_)
    · obtain ⟨us, xs, _, _, _, _, _, _, _, _, _, h, _⟩ := h'
      exact lstAt h.eL
    · obtain ⟨us, xs, y3, y4, y5, y6, y7, y8, y9, y10, y11, h, rfl⟩ := h'
      obtain ⟨T, x1, x2, rfl, hT, rfl, hx1, hx2⟩ := y
      cases hx1
      obtain ⟨l, hl2, rfl⟩ := map_tx hx2
      rw [← hls] at hl2
      have hws : (linesIn t)[i]? = some (wordsIn l) := by
        unfold linesIn
        rw [← hls, List.getElem?_map, hl2]
        rfl
      have lT := h.on (same_new (o := .tup [.int (i : Nat), tx l]) hT)
      refine ⟨T, _, rfl, tupAt upd_same, rfl, _, _, rfl, _, _, rfl, rfl, ?_⟩
      have ll := bl.2 l (List.mem_of_getElem? hl2)
      simp only [List.length_nil, Nat.zero_add] at ll
      have badG : ∀ {H' : Hp}, LS K n t H F L i us xs H' → ∀ (k : Nat) {H5 : Hp} {p : Addr}, rdIns n (wordsIn l) = .inl k → Same H' H5 → H5 p = some (.lst [.int ((i : Int) + 1), .int (k : Int)]) → Q (.ref p) H5 := fun {H'} g k {H5 p} ek s5 ep => by
        have er : rdPg n (linesIn t) = .inl (i + 1, k) := by
          unfold rdPg
          rw [rdAll_bad ek i 0 hws g.pre, Nat.zero_add]
        exact q _ _ (g.same.trans s5) (by rw [er]; exact ⟨p, rfl, ep⟩)
      refine ⟨fun σ' H' => ∃ a5, LS K n t H F L i us xs H' ∧ H' a5 = some (.lst ((wordsIn l).map tx)) ∧ σ' = [some (.int (n : Int)), some (tx t), some (.ref F), some (.int (i : Int)), some (tx l), some (.ref a5), y6, y7, y8, y9, y10, y11], fun σ' H' g => ?_, ?_⟩
      rotate_left
      · obtain ⟨ws, hws2⟩ : ∃ ws, ws = TL.spl [32] 0 [] l := ⟨_, rfl⟩
        have bw := cut_len 32 l []
        rw [← hws2] at bw
        refine ⟨_, rfl, ⟨_, rfl⟩, _, _, rfl, rfl, rfl, by rw [sizeLine_eq, SX.S_len]; omega, fun L2 hL2 => ⟨L2, rfl, ⟨_, lstAt upd_same⟩, fun D2 hD2 => ?_⟩⟩
        rw [split_sp, List.map_map, ← hws2] at hD2 ⊢
        have s2 := same_new (o := .lst (ws.map (V.str ∘ SX.S))) hL2
        refine lc_list (K := K) (a := L2) (xs := ws.map (V.str ∘ SX.S)) (fun j H2 => Same (upd (upd H1 T (.tup [.int (i : Nat), tx l])) L2 (.lst (ws.map (V.str ∘ SX.S)))) H2 ∧ H2 D2 = some (.lst (((ws.take j).filter fun w => !w.isEmpty).map tx))) ⟨same_new hD2, upd_same⟩ (fun j H2 _ h2 => lstAt (h2.1 _ _ upd_same)) (fun j y H2 hy h2 => ?_) (fun H2 h2 => ?_)
        · obtain ⟨sm2, e2⟩ := h2
          obtain ⟨wd, hw, rfl⟩ := map_tx hy
          have tk : ws.take (j + 1) = ws.take j ++ [wd] := by rw [List.take_add_one, hw]; rfl
          refine ⟨rfl, _, rfl, rfl, _, rfl, ?_⟩
          have en : (!decide (V.str (SX.S wd) = V.str "")) = !wd.isEmpty := by
            rw [show ("" : Str) = SX.S [] from by decide +kernel]
            cases wd with
            | nil => rfl
            | cons c r =>
              rw [decide_eq_false (fun h => by injection h with h; have := SX.S_inj h; cases this)]
              rfl
          show (if (!decide (V.str (SX.S wd) = V.str "")) = true then _ else _)
          rw [en, tk, List.filter_append]
          cases wd with
          | nil => exact ⟨sm2, by rw [e2]; simp⟩
          | cons c r =>
            refine ifT rfl ⟨_, rfl, _, e2, ?_, fun b o eb => ?_, ?_⟩
            · have h1 := List.length_filter_le (fun w : List Nat => !w.isEmpty) (ws.take j)
              have h2 := bw.1
              rw [List.length_map, sizeLine_eq]
              rw [List.length_take] at h1
              omega
            · rw [upd_ne (ne_of_none eb hD2)]
              exact sm2 b o eb
            · rw [upd_same]; simp
        · obtain ⟨sm2, e2⟩ := h2
          rw [List.length_map, List.take_length] at e2
          refine ⟨D2, lT.on (s2.trans sm2), ?_, rfl⟩
          rw [e2]
          unfold wordsIn
          rw [← hws2]
      obtain ⟨a5, g5, e5, rfl⟩ := g
      refine ⟨fun σ' H2 => ∃ d t1 t2 t3, H d = none ∧ LS K n t H F L i us xs H2 ∧ H2 a5 = some (.lst ((wordsIn l).map tx)) ∧ H2 d = some (.dK [(.inr "put", .ref t1), (.inr "zero", .ref t2), (.inr "go", .ref t3)]) ∧ H2 t1 = some (.tup [.int (-1000000), .int 1000000]) ∧ H2 t2 = some (.tup [.int 0, .int 4000]) ∧ H2 t3 = some (.tup [.int 0, .int 4000]) ∧
        σ' = [some (.int (n : Int)), some (tx t), some (.ref F), some (.int (i : Int)), some (tx l), some (.ref a5), some (.ref d), y7, y8, y9, y10, y11], fun σ' H2 g => ?_, fun d hd => ⟨_, _, rfl, rfl, by show 2 ≤ sizeLine; decide, fun t1 ht1 => ⟨by show 2 ≤ sizeLine; decide, fun t2 ht2 => ⟨by show 2 ≤ sizeLine; decide, fun t3 ht3 => ?_⟩⟩⟩⟩
      rotate_left
      · have sd := same_new (o := .dK []) hd
        have h1 := same_new (o := .tup [.int (0 - 1000000), .int 1000000]) ht1
        have h2 := same_new (o := .tup [.int 0, .int 4000]) ht2
        have h3 := same_new (o := .tup [.int 0, .int 4000]) ht3
        have ed := h3 _ _ (h2 _ _ (h1 _ _ upd_same))
        have sx := sd.trans (h1.trans (h2.trans h3))
        have n1 : t1 ≠ d := fun z => by rw [z, upd_same] at ht1; cases ht1
        have n2 : t2 ≠ d := fun z => by rw [z, h1 _ _ upd_same] at ht2; cases ht2
        have n3 : t3 ≠ d := fun z => by rw [z, h2 _ _ (h1 _ _ upd_same)] at ht3; cases ht3
        refine ⟨ed, [(.inr "put", .ref t1), (.inr "zero", .ref t2), (.inr "go", .ref t3)], rfl, by show 3 ≤ 15; decide, ?_⟩
        have em : mergeK [] [((.inr "put" : Key), V.ref t1), (.inr "zero", .ref t2), (.inr "go", .ref t3)] = [(.inr "put", .ref t1), (.inr "zero", .ref t2), (.inr "go", .ref t3)] := rfl
        have sA : ∀ o, Same H' (upd (upd (upd (upd (upd H' d (.dK [])) t1 (.tup [.int (0 - 1000000), .int 1000000])) t2 (.tup [.int 0, .int 4000])) t3 (.tup [.int 0, .int 4000])) d o) := fun o b ob e => by
          rw [upd_ne (ne_of_none e hd)]
          exact sx b ob e
        have hd0 : H d = none := by
          cases e : H d with
          | none => rfl
          | some o => rw [g5.same _ _ e] at hd; cases hd
        refine ⟨d, t1, t2, t3, hd0, g5.on (sA _), sA _ _ _ e5, by rw [em]; exact upd_same, ?_, ?_, ?_, rfl⟩
        · rw [upd_ne n1]
          exact h3 _ _ (h2 _ _ upd_same)
        · rw [upd_ne n2]
          exact h3 _ _ upd_same
        · rw [upd_ne n3]
          exact upd_same
      obtain ⟨d, t1, t2, t3, hd0, g6, e5, ed, et1, et2, et3, rfl⟩ := g
      refine ⟨fun σ' H3 => ∃ y7, LS K n t H F L i us xs H3 ∧ H3 a5 = some (.lst ((wordsIn l).map tx)) ∧ BD K n d H3 ∧
        σ' = [some (.int (n : Int)), some (tx t), some (.ref F), some (.int (i : Int)), some (tx l), some (.ref a5), some (.ref d), y7, y8, y9, y10, y11], fun σ' H3 g => ?_, ?_⟩
      rotate_left
      · refine ⟨by show 5 ≤ sizeLine; decide, fun lw hlw => ⟨lw, rfl, ⟨_, lstAt upd_same⟩, ?_⟩⟩
        have sl := same_new (o := .lst (acc5.map V.str)) hlw
        refine for_list (K := K) (a := lw) (xs := acc5.map V.str) (fun j σ H3 => ∃ (ts : List Addr) (y7 : Option V), ts.length = j ∧ LS K n t H F L i us xs H3 ∧ H3 a5 = some (.lst ((wordsIn l).map tx)) ∧ H3 lw = some (.lst (acc5.map V.str)) ∧
            H3 d = some (.dK ([(.inr "put", .ref t1), (.inr "zero", .ref t2), (.inr "go", .ref t3)] ++ ((acc5.take j).zip ts).map fun p => (.inr p.1, .ref p.2))) ∧ H3 t1 = some (.tup [.int (-1000000), .int 1000000]) ∧ H3 t2 = some (.tup [.int 0, .int 4000]) ∧ H3 t3 = some (.tup [.int 0, .int 4000]) ∧ (∀ a ∈ ts, H3 a = some (.tup [.int 0, .int ((n : Int) - 1)])) ∧
            σ = [some (.int (n : Int)), some (tx t), some (.ref F), some (.int (i : Int)), some (tx l), some (.ref a5), some (.ref d), y7, y8, y9, y10, y11])
          ⟨[], y7, rfl, g6.on sl, sl _ _ e5, upd_same, sl _ _ ed, sl _ _ et1, sl _ _ et2, sl _ _ et3, (by intro a h; cases h), rfl⟩ (fun j σ H3 _ h3 => ?_) (fun j v σ H3 hv h3 => ?_) (fun σ H3 h3 => ?_)
        · obtain ⟨ts, y7, _, _, _, h, _⟩ := h3
          exact lstAt h
        · obtain ⟨ts, y7, hts, g, f5, fl, fd, f1, f2, f3, fa, rfl⟩ := h3
          obtain ⟨s, hs, rfl⟩ : ∃ s, acc5[j]? = some s ∧ v = .str s := by
            rw [List.getElem?_map] at hv
            cases e : acc5[j]? with
            | none => rw [e] at hv; cases hv
            | some s => rw [e] at hv; exact ⟨s, rfl, (Option.some.inj hv).symm⟩
          have hj : j < 5 := (List.getElem?_eq_some_iff.mp hs).1
          obtain ⟨nw, np, nz, ng⟩ := acc_new' hs
          refine ⟨_, rfl, _, _, rfl, rfl, by show 2 ≤ sizeLine; decide, fun tn htn => ?_⟩
          have sn := same_new (o := .tup [.int 0, .int ((n : Int) - 1)]) htn
          have fd2 := sn _ _ fd
          refine ⟨_, rfl, _, rfl, d, _, rfl, DPut.k (k := .inr s) fd2 ?_, ?_⟩
          · rw [List.length_append, List.length_map, List.length_zip, List.length_take, sizeLine_eq]
            show 3 + _ < _
            omega
          have ep : putK ([((.inr "put" : Key), V.ref t1), (.inr "zero", .ref t2), (.inr "go", .ref t3)] ++ ((acc5.take j).zip ts).map fun p => (.inr p.1, .ref p.2)) (.inr s) (.ref tn) = [((.inr "put" : Key), V.ref t1), (.inr "zero", .ref t2), (.inr "go", .ref t3)] ++ ((acc5.take (j + 1)).zip (ts ++ [tn])).map fun p => (.inr p.1, .ref p.2) := by
            unfold putK
            rw [if_neg (by
              rw [List.any_append, any_zip nw, Bool.or_false]
              simp only [List.any_cons, List.any_nil, Bool.or_false, Bool.or_eq_true, decide_eq_true_eq, not_or]
              exact ⟨fun z => np (Sum.inr.inj z).symm, fun z => nz (Sum.inr.inj z).symm, fun z => ng (Sum.inr.inj z).symm⟩)]
            rw [List.take_add_one, hs, Option.toList_some, List.zip_append (by rw [List.length_take, hts]; show min j 5 = j; omega), List.map_append, List.append_assoc]
            rfl
          have keep : ∀ b o kvs, H3 b = some o → o ≠ .dK kvs → True := fun _ _ _ _ _ => trivial
          have nb : ∀ {b : Addr} {o : HO} {o' : HO}, H3 b = some o → (∀ kvs, o ≠ .dK kvs) → (upd (upd H3 tn (.tup [.int 0, .int ((n : Int) - 1)])) d o') b = some o := fun {b o o'} e ne => by
            rw [upd_ne (fun z => by rw [z, fd] at e; exact ne _ (Option.some.inj e).symm)]
            exact sn _ _ e
          refine ⟨ts ++ [tn], some (.str s), by rw [List.length_append, hts]; rfl, (g.on sn).dct hd0 fd2, nb f5 (fun _ z => by cases z), nb fl (fun _ z => by cases z), by rw [upd_same, ep], nb f1 (fun _ z => by cases z), nb f2 (fun _ z => by cases z), nb f3 (fun _ z => by cases z), fun a ha => ?_, rfl⟩
          rcases List.mem_append.mp ha with ha | ha
          · exact nb (fa a ha) (fun _ z => by cases z)
          · rw [List.mem_singleton.mp ha, upd_ne (fun z => by rw [z, fd] at htn; cases htn)]
            exact upd_same
        · obtain ⟨ts, y7, hts, g, f5, fl, fd, f1, f2, f3, fa, rfl⟩ := h3
          refine ⟨y7, g, f5, ?_, rfl⟩
          obtain ⟨b1, b2, b3, b4, b5, rfl⟩ : ∃ b1 b2 b3 b4 b5, ts = [b1, b2, b3, b4, b5] := by
            match ts, hts with
            | [b1, b2, b3, b4, b5], _ => exact ⟨b1, b2, b3, b4, b5, rfl⟩
          exact bd_of (t1 := t1) (t2 := t2) (t3 := t3) (b1 := b1) (b2 := b2) (b3 := b3) (b4 := b4) (b5 := b5) n2 fd f1 f2 f3 fa
      obtain ⟨y7, g7, e5, bd, rfl⟩ := g
      refine ⟨fun σ' H4 => ∃ w r, wordsIn l = w :: r ∧ inZ (SX.S w) (bareZ ++ numZ) = true ∧ LS K n t H F L i us xs H4 ∧ H4 a5 = some (.lst ((wordsIn l).map tx)) ∧ BD K n d H4 ∧
        σ' = [some (.int (n : Int)), some (tx t), some (.ref F), some (.int (i : Int)), some (tx l), some (.ref a5), some (.ref d), y7, y8, y9, y10, y11], fun σ' H4 g => ?_, ?_⟩
      rotate_left
      · have bad := fun (k : Nat) {H5 : Hp} {p : Addr} => badG g7 k (H5 := H5) (p := p)
        have dl : ∀ {H' : Hp} (l : List (List Nat)), DpAll K H' (l.map tx) (l.map fun w => PyData.str (SX.S w)) := by
          intro H' l
          induction l with
          | nil => exact .nil
          | cons c l ih => exact .cons (.str _) ih
        refine ⟨_, rfl, Nat.zero_le _, fun e hE => ?_⟩
        have se := same_new (o := .lst []) hE
        refine ⟨.list ((wordsIn l).map fun w => PyData.str (SX.S w)), .list [], .lst (lstAt (se _ _ e5)) (dl _), .lst (lstAt upd_same) .nil, ?_, by decide +kernel, _, rfl, ?_⟩
        · exact words_shaped (plain_words hp (by rw [← hls]; exact List.mem_of_getElem? hl2))
        rw [eqv_nil, List.isEmpty_map]
        cases ew : wordsIn l with
        | nil =>
          refine ifT rfl (ifT rfl ⟨_, rfl, _, _, rfl, rfl, by show 2 ≤ sizeLine; decide, fun p hp => ?_⟩)
          exact bad 1 (by rw [ew]; rfl) (se.trans (same_new hp)) upd_same
        | cons w r =>
          have e5w : H3 a5 = some (.lst ((w :: r).map tx)) := by rw [← ew]; exact e5
          obtain ⟨kvs, ed3, look⟩ := id bd
          have look := look (SX.S w)
          refine ifF rfl ?_
          refine ⟨_, rfl, a5, _, _, _, rfl, rfl, lstAt (se _ _ e5w), atI_nat (j := 0) rfl, _, rfl, d, _, rfl, DGet.k (k := .inr (SX.S w)) (se _ _ ed3), _, rfl, ?_⟩
          cases hr : rngW n (SX.S w) with
          | some x =>
            rw [hr] at look
            obtain ⟨a0, h1, _⟩ := look
            rw [h1]
            exact ifF rfl (ifF rfl ⟨w, r, rfl, by rw [inZ_app, rng_some hr, Bool.or_true], g7.on se, se _ _ e5w, bd.on se, rfl⟩)
          | none =>
            rw [hr] at look
            have look : valV kvs (.inr (SX.S w)) = none := look
            rw [look]
            refine ifT rfl ⟨_, rfl, a5, _, _, _, rfl, rfl, lstAt (se _ _ e5w), atI_nat (j := 0) rfl, by show 3 ≤ sizeLine; decide, fun p hp => ⟨p, _, rfl, .inl (lstAt upd_same), rfl, by decide, _, rfl, ?_⟩⟩
            have sp := se.trans (same_new (o := .lst [.str "say", .str "ask", .str "stop"]) hp)
            show (if (!inZ (SX.S w) bareZ) = true then _ else _)
            cases hb : inZ (SX.S w) bareZ with
            | true => exact ifF rfl ⟨w, r, rfl, by rw [inZ_app, hb]; rfl, g7.on sp, sp _ _ e5w, bd.on sp, rfl⟩
            | false =>
              refine ifT rfl ⟨_, rfl, _, _, rfl, rfl, by show 2 ≤ sizeLine; decide, fun p2 hp2 => ?_⟩
              exact bad 1 (by rw [ew]; exact if_pos (by rw [inZ_app, hb, rng_none hr]; rfl)) (sp.trans (same_new hp2)) upd_same
      obtain ⟨w, r, ew, hz, g8, e5, bd, rfl⟩ := g
      have pw := plain_words hp (by rw [← hls]; exact List.mem_of_getElem? hl2) (l := l)
      have bad := fun (k : Nat) {H5 : Hp} {p : Addr} => badG g8 k (H5 := H5) (p := p)
      rw [ew] at e5 bad hws pw
      have sml := lines_small (t := t) (ws := w :: r) (List.mem_of_getElem? hws)
      obtain ⟨kvs, ed4, look⟩ := id bd
      have look := look (SX.S w)
      have usl : us.length < sizeLine := by
        have h1 := g8.each.len
        have h2 := congrArg List.length g8.pre
        rw [List.length_map, List.length_map, List.length_take] at h2
        rw [sizeLine_eq]
        omega
      have r0 : rdIns n (w :: r) = if inZ (SX.S w) numZ = true then (match secNum n (w :: r) with
            | none => .inl 2
            | some i => if 2 < (w :: r).length then .inl 3 else .inr (w, some i))
          else if 1 < (w :: r).length then .inl 2 else .inr (w, none) := if_neg (by rw [hz]; decide)
      refine ⟨_, rfl, a5, _, _, _, rfl, rfl, lstAt e5, atI_nat (j := 0) rfl, _, rfl, d, _, rfl, DGet.k (k := .inr (SX.S w)) ed4, _, rfl, ?_⟩
      cases hr : rngW n (SX.S w) with
      | none =>
        rw [hr] at look
        have look : valV kvs (.inr (SX.S w)) = none := look
        rw [look]
        rw [if_neg (by rw [rng_none hr]; decide)] at r0
        refine ifF rfl ⟨_, rfl, a5, _, rfl, .inl (lstAt e5), _, _, rfl, rfl, _, rfl, ?_⟩
        rw [List.length_map]
        by_cases h1 : 1 < (w :: r).length
        · rw [if_pos h1] at r0
          refine ifT (decide_eq_true (by omega)) ⟨_, rfl, _, _, rfl, rfl, by show 2 ≤ sizeLine; decide, fun p hp => ?_⟩
          exact bad 2 r0 (same_new hp) upd_same
        · rw [if_neg h1] at r0
          refine ifF (decide_eq_false (by omega)) ⟨_, rfl, .inl ⟨rfl, _, lstAt g8.eF⟩, _, rfl, a5, _, _, _, rfl, rfl, lstAt e5, atI_nat (j := 0) rfl, by show 1 ≤ sizeLine; decide, fun t0 ht0 => ?_⟩
          have st := same_new (o := .tup [tx w]) ht0
          exact ⟨F, _, _, rfl, rfl, st _ _ g8.eF, usl, _, _, _, _, _, _, _, _, _, _, _, (g8.on st).add ⟨t0, rfl, tupAt upd_same⟩ hws r0, rfl⟩
      | some x =>
        obtain ⟨b, m⟩ := x
        rw [hr] at look
        obtain ⟨a0, h1, h2⟩ := look
        obtain ⟨m1, m9, _⟩ := rng_case n2 n5 hr
        rw [if_pos (rng_some hr)] at r0
        rw [h1]
        refine ifT rfl ?_
        refine ⟨fun σ' H' => H' = H4 ∧ σ' = [some (.int (n : Int)), some (tx t), some (.ref F), some (.int (i : Int)), some (tx l), some (.ref a5), some (.ref d), y7, some (.int (if b = true then -(m : Int) else 0)), some (.int (m : Int)), y10, y11], fun σ' H' g => ?_, ?_⟩
        rotate_left
        · exact ⟨_, rfl, _, rfl, a5, _, _, _, rfl, rfl, lstAt e5, atI_nat (j := 0) rfl, d, _, rfl, by have := DGet.k (k := .inr (SX.S w)) ed4; rw [h1] at this; exact this, a0, _, rfl, tupAt h2, rfl, _, _, rfl, _, _, rfl, rfl, rfl, rfl⟩
        obtain ⟨rfl, rfl⟩ := g
        refine ⟨fun σ' H5 => Same H' H5 ∧ σ' = [some (.int (n : Int)), some (tx t), some (.ref F), some (.int (i : Int)), some (tx l), some (.ref a5), some (.ref d), y7, some (.int (if b = true then -(m : Int) else 0)), some (.int (m : Int)), some (onI (secNum n (w :: r))), y11], fun σ' H5 g => ?_, ?_⟩
        rotate_left
        · refine ⟨_, rfl, a5, _, rfl, .inl (lstAt e5), _, _, rfl, rfl, _, rfl, ?_⟩
          rw [List.length_map]
          cases r with
          | nil => exact ifF rfl ⟨Same.refl _, rfl⟩
          | cons u r2 =>
            refine ifT (decide_eq_true (by show ((1 : Nat) : Int) < ((w :: u :: r2).length : Int); simp only [List.length_cons]; omega)) ⟨_, rfl, a5, _, _, _, rfl, rfl, lstAt e5, atI_nat (j := 1) rfl, _, rfl, _, rfl, u, b, m, rfl, m1, m9, Nat.le_trans (sml.2 u (by simp)) (by omega), pw u (by simp), fun H5 s5 => ?_⟩
            rw [sec_eq (r := r2) n2 n5 hr]
            exact ⟨s5, rfl⟩
        obtain ⟨s5, rfl⟩ := g
        have e55 := s5 _ _ e5
        cases es : secNum n (w :: r) with
        | none =>
          rw [es] at r0
          refine ⟨_, rfl, _, rfl, ifT rfl ⟨_, rfl, _, _, rfl, rfl, by show 2 ≤ sizeLine; decide, fun p hp => ?_⟩⟩
          exact bad 2 r0 (s5.trans (same_new hp)) upd_same
        | some z =>
          rw [es] at r0
          have r0 : rdIns n (w :: r) = if 2 < (w :: r).length then .inl 3 else .inr (w, some z) := r0
          refine ⟨_, rfl, _, rfl, ifF rfl ⟨_, rfl, a5, _, rfl, .inl (lstAt e55), _, _, rfl, rfl, _, rfl, ?_⟩⟩
          rw [List.length_map]
          by_cases h3 : 2 < (w :: r).length
          · rw [if_pos h3] at r0
            refine ifT (decide_eq_true (by omega)) ⟨_, rfl, _, _, rfl, rfl, by show 2 ≤ sizeLine; decide, fun p hp => ?_⟩
            exact bad 3 r0 (s5.trans (same_new hp)) upd_same
          · rw [if_neg h3] at r0
            refine ifF (decide_eq_false (by omega)) ⟨_, rfl, .inl ⟨rfl, _, lstAt (s5 _ _ g8.eF)⟩, _, rfl, a5, _, _, _, rfl, rfl, lstAt e55, atI_nat (j := 0) rfl, _, rfl, by show 2 ≤ sizeLine; decide, fun t0 ht0 => ?_⟩
            have st := same_new (o := .tup [tx w, .int z]) ht0
            exact ⟨F, _, _, rfl, rfl, st _ _ (s5 _ _ g8.eF), usl, _, _, _, _, _, _, _, _, _, _, _, ((g8.on s5).on st).add ⟨t0, rfl, tupAt upd_same⟩ hws r0, rfl⟩
    · obtain ⟨us, xs, y3, y4, y5, y6, y7, y8, y9, y10, y11, h, rfl⟩ := h'
      have ex := h.pre
      rw [List.length_map, ← hls, ← hlen, List.take_length] at ex
      have lx : xs.length = (linesIn t).length := by
        have := congrArg List.length ex
        rw [List.length_map, List.length_map] at this
        exact this.symm
      have e0 : rdPg n (linesIn t) = match xs.findIdx? (farJ xs.length) with
          | some i => .inl (i + 1, 2)
          | none => if 4000 < xs.length then .inl (4001, 1) else .inr xs := by
        unfold rdPg
        rw [rdAll_done 0 ex]
        try rfl
      have lus := h.each.len
      refine ⟨_, rfl, F, us, rfl, lstAt h.eF, ?_⟩
      refine for_it (walk_enum (K := K) (a := F) (xs := us)) (fun j σ H2 => Same H' H2 ∧ (∀ k x, k < j → xs[k]? = some x → farJ xs.length x = false) ∧ ∃ y3 y4 y5 y6 y7 y8 y9 y10 y11, σ = [some (.int (n : Int)), some (tx t), some (.ref F), y3, y4, y5, y6, y7, y8, y9, y10, y11])
        ⟨Same.refl _, fun k x hk => absurd hk (Nat.not_lt_zero _), y3, y4, y5, y6, y7, y8, y9, y10, y11, rfl⟩ (fun j σ H2 _ h2 => lstAt (h2.1 _ _ h.eF)) (fun j x σ H2 H3 hj h2 y => ?_) (fun σ H2 h2 => ?_)
      · obtain ⟨sm2, old, y3, y4, y5, y6, y7, y8, y9, y10, y11, rfl⟩ := h2
        obtain ⟨T, x1, x2, rfl, hT, rfl, hx1, hx2⟩ := y
        cases hx1
        obtain ⟨x, hx, b, rfl, hb⟩ := h.each.at hx2
        have sT : Same H' (upd H2 T (.tup [.int (j : Nat), .ref b])) := sm2.trans (same_new hT)
        have hb2 := onT sT hb
        have next : farJ xs.length x = false → ∀ k x', k < j + 1 → xs[k]? = some x' → farJ xs.length x' = false := fun hf k x' hk e => by
          rcases Nat.lt_succ_iff_lt_or_eq.mp hk with hk | rfl
          · exact old k x' hk e
          · rw [hx] at e
            cases e
            exact hf
        refine ⟨T, _, rfl, tupAt upd_same, rfl, _, _, rfl, _, _, rfl, rfl, ?_⟩
        refine ⟨_, rfl, b, _, _, _, rfl, rfl, hb2, atI_nat (j := 0) rfl, by show 2 ≤ sizeLine; decide, fun p hp => ⟨p, _, rfl, .inl (lstAt upd_same), rfl, by decide, _, rfl, ?_⟩⟩
        have sP := sT.trans (same_new (o := .lst [.str "zero", .str "go"]) hp)
        show (if inZ (SX.S x.1) jumpZ = true then _ else _)
        have ef : farJ xs.length x = (inZ (SX.S x.1) jumpZ && decide ((xs.length : Int) < x.2.getD 0)) := rfl
        cases hz : inZ (SX.S x.1) jumpZ with
        | false =>
          rw [hz] at ef
          exact ifF rfl (ifF rfl ⟨sP, next (by rw [ef]; rfl), _, _, _, _, _, _, _, _, _, rfl⟩)
        | true =>
          rw [hz] at ef
          have hws : ∃ ws, (linesIn t)[j]? = some ws ∧ rdIns n ws = .inr x := by
            have := congrArg (fun l => l[j]?) ex
            simp only [List.getElem?_map, hx, Option.map_some] at this
            cases hl2 : (linesIn t)[j]? with
            | none => rw [hl2] at this; cases this
            | some ws => rw [hl2] at this; exact ⟨ws, rfl, Option.some.inj this⟩
          obtain ⟨ws, hws, er⟩ := hws
          obtain ⟨i0, hi0⟩ := rdIns_jump er hz
          have hb3 := onT sP hb
          rw [hi0] at hb3 ef
          have ef : farJ xs.length x = decide ((xs.length : Int) < i0) := by rw [ef]; rfl
          refine ifT rfl ⟨_, rfl, b, _, _, _, rfl, rfl, hb3, atI_nat (j := 1) rfl, _, rfl, F, us, rfl, .inl (lstAt (sP _ _ h.eF)), _, _, rfl, rfl, _, rfl, ?_⟩
          rw [lus, ← ef]
          cases hf : farJ xs.length x with
          | false => exact ifF rfl ⟨sP, next hf, _, _, _, _, _, _, _, _, _, rfl⟩
          | true =>
            have hj2 : j < xs.length := (List.getElem?_eq_some_iff.mp hx).1
            have efi : xs.findIdx? (farJ xs.length) = some j := by
              rw [List.findIdx?_eq_some_iff_getElem]
              refine ⟨hj2, ?_, fun k hk => ?_⟩
              · rw [(List.getElem?_eq_some_iff.mp hx).2]
                exact hf
              · rw [old k _ hk (List.getElem?_eq_getElem (by omega))]
                decide
            rw [efi] at e0
            have e0 : rdPg n (linesIn t) = .inl (j + 1, 2) := e0
            refine ifT rfl ⟨_, rfl, _, _, rfl, rfl, by show 2 ≤ sizeLine; decide, fun p2 hp2 => ?_⟩
            exact q _ _ (h.same.trans (sP.trans (same_new hp2))) (by rw [e0]; exact ⟨p2, rfl, upd_same⟩)
      · obtain ⟨sm2, old, y3, y4, y5, y6, y7, y8, y9, y10, y11, rfl⟩ := h2
        have ef : xs.findIdx? (farJ xs.length) = none := by
          rw [List.findIdx?_eq_none_iff]
          intro x hx
          obtain ⟨k, hk, rfl⟩ := List.getElem_of_mem hx
          exact old k _ (by omega) (List.getElem?_eq_getElem hk)
        rw [ef] at e0
        have e0 : rdPg n (linesIn t) = if 4000 < xs.length then .inl (4001, 1) else .inr xs := e0
        rw [if_neg (by omega)] at e0
        refine ⟨_, rfl, .inl ⟨F, us, rfl, lstAt (sm2 _ _ h.eF), fun p hp => ?_⟩⟩
        have sp := same_new (o := .tup us) hp
        exact q _ _ (h.same.trans (sm2.trans sp)) (by rw [e0]; exact ⟨p, us, rfl, tupAt upd_same, h.each.imp fun _ _ z => z.on (Fix.same (sm2.trans sp)).tups⟩)
end
end RH
set_option Elab.async false
set_option linter.all false
set_option maxRecDepth 100000
set_option maxHeartbeats 2000000
namespace RH
open PySem PySem.Spec PyProof.Rows L2
/-! ### what is written is read back -/
theorem numL_head : ∀ (k : Nat), 1 ≤ k → ∃ c r, TL.numL k = c :: r ∧ 49 ≤ c := by
  intro k
  induction k using Nat.strongRecOn with
  | ind k ih =>
    intro h
    by_cases h10 : k < 10
    · exact ⟨48 + k, [], TL.numL_lt h10, by omega⟩
    · obtain ⟨c, r, e, hc⟩ := ih (k / 10) (by omega) (by omega)
      rw [TL.numL_step (by omega), e]
      exact ⟨c, r ++ [48 + k % 10], rfl, hc⟩
theorem numL_figs (k : Nat) : figs (TL.numL k) = true := List.all_eq_true.mpr fun c hc => by
  have := TL.numL_digits k c hc
  simp [this]
theorem told_num {k m : Nat} (h : k ≤ m) : numTold (TL.numL k) m = some (k : Int) := by
  unfold numTold
  have e1 : ¬ (TL.numL k = [] ∨ ((TL.numL k).head? = some 48 ∧ 1 < (TL.numL k).length)) := by
    rintro (e | ⟨e1, e2⟩)
    · exact TL.numL_ne k e
    · by_cases h0 : k = 0
      · subst h0
        rw [TL.numL_lt (by decide)] at e2
        simp at e2
      · obtain ⟨c, r, e, hc⟩ := numL_head k (by omega)
        rw [e] at e1
        injection e1 with e1
        omega
  have ev : valW (TL.numL k) = k := TL.numL_val k
  rw [if_neg e1, if_pos ⟨numL_figs k, by rw [ev]; exact h⟩, ev]
theorem sgn_num {z : Int} (h : -1000000 ≤ z ∧ z ≤ 1000000) : sgnTold (numC z) 1000000 = some z := by
  cases z with
  | ofNat k =>
    have hk : k ≤ 1000000 := by have := h.2; simp only [Int.ofNat_eq_natCast] at this; omega
    unfold sgnTold numC
    rw [if_neg (fun e => by
      have hm : 45 ∈ TL.numL k := List.mem_of_mem_head? e
      have := TL.numL_digits k 45 hm
      omega)]
    exact told_num hk
  | negSucc k =>
    have hk : k + 1 ≤ 1000000 := by omega
    show (match numTold (TL.numL (k + 1)) 1000000 with
      | none => none
      | some i => if i = 0 then none else some (-i)) = _
    rw [told_num hk]
    show (if ((k + 1 : Nat) : Int) = 0 then none else some (-((k + 1 : Nat) : Int))) = _
    rw [if_neg (by omega)]
    rfl
theorem words_free : ∀ z ∈ allW, 10 ∉ cod z ∧ 32 ∉ cod z ∧ cod z ≠ [] ∧ plain (cod z) = true := by decide +kernel
theorem numC_free (z : Int) : 10 ∉ numC z ∧ 32 ∉ numC z ∧ numC z ≠ [] ∧ plain (numC z) = true := by
  have h : ∀ k, 10 ∉ TL.numL k ∧ 32 ∉ TL.numL k := fun k => ⟨fun hm => by have := TL.numL_digits k 10 hm; omega, fun hm => by have := TL.numL_digits k 32 hm; omega⟩
  have hp : ∀ k, plain (TL.numL k) = true := fun k => List.all_eq_true.mpr fun c hc => by
    have := TL.numL_digits k c hc
    simp
    omega
  cases z with
  | ofNat k => exact ⟨(h k).1, (h k).2, TL.numL_ne k, hp k⟩
  | negSucc k =>
    refine ⟨?_, ?_, by simp [numC], ?_⟩
    · show 10 ∉ 45 :: TL.numL (k + 1)
      simpa using (h (k + 1)).1
    · show 32 ∉ 45 :: TL.numL (k + 1)
      simpa using (h (k + 1)).2
    · show plain (45 :: TL.numL (k + 1)) = true
      have := hp (k + 1)
      unfold plain at this ⊢
      rw [List.all_cons, this]
      rfl
theorem parts_free (i : Ins) : ∀ z ∈ insParts i, 10 ∉ z ∧ 32 ∉ z ∧ z ≠ [] ∧ plain z = true := by
  intro z hz
  rcases List.mem_cons.mp hz with rfl | hz
  · exact words_free _ (word_in i)
  · obtain ⟨k, _, rfl⟩ := List.mem_map.mp hz
    exact numC_free k
theorem words_of_parts {ps : List (List Nat)} (hne : ps ≠ []) (h : ∀ z ∈ ps, 32 ∉ z ∧ z ≠ []) : wordsIn (TL.joinL [32] ps) = ps := by
  unfold wordsIn
  rw [TL.spl_join hne fun p hp => (h p hp).1, List.filter_eq_self]
  intro p hp
  cases p with
  | nil => exact absurd rfl (h _ hp).2
  | cons c r => rfl
theorem words_ins (i : Ins) : wordsIn (insLine i) = insParts i := words_of_parts (by simp [insParts]) fun z hz => ⟨(parts_free i z hz).2.1, (parts_free i z hz).2.2.1⟩
def insX (i : Ins) : List Nat × Option Int := (cod i.word, i.num.head?)
theorem rd_ins {n cnt : Nat} {i : Ins} (n5 : n ≤ 5) (hc : cnt ≤ 4000) (h : okIns n cnt i) (r : rlI true i) : rdIns n (insParts i) = .inr (insX i) := by
  have go0 : ∀ w : Str, inZ w (bareZ ++ numZ) = true → inZ w numZ = false → rdIns n [cod w] = .inr (cod w, none) := fun w h1 h2 => by
    unfold rdIns
    dsimp only
    rw [S_cod, if_neg (by rw [h1]; decide), if_neg (by rw [h2]; decide), if_neg (by simp)]
  have go1 : ∀ (w : Str) (z : Int) (x : List Nat), inZ w (bareZ ++ numZ) = true → inZ w numZ = true → secNum n [cod w, x] = some z → rdIns n [cod w, x] = .inr (cod w, some z) := fun w z x h1 h2 h3 => by
    unfold rdIns
    dsimp only
    rw [S_cod, if_neg (by rw [h1]; decide), if_pos h2, h3]
    rfl
  have sec : ∀ (w : Str) (x : List Nat), secNum n [cod w, x] = if w = "put" then sgnTold x 1000000 else if inZ w jumpZ = true then numTold x 4000 else numTold x (n - 1) := fun w x => by
    show (if SX.S (cod w) = "put" then _ else if inZ (SX.S (cod w)) jumpZ = true then _ else _) = _
    rw [S_cod]
  cases i with
  | say => exact go0 "say" (by decide +kernel) (by decide +kernel)
  | ask => exact go0 "ask" (by decide +kernel) (by decide +kernel)
  | stop => exact go0 "stop" (by decide +kernel) (by decide +kernel)
  | put c => exact go1 "put" c _ (by decide +kernel) (by decide +kernel) (by rw [sec, if_pos rfl]; exact sgn_num r)
  | zero k => exact go1 "zero" k _ (by decide +kernel) (by decide +kernel) (by rw [sec, if_neg (by decide +kernel), if_pos (by decide +kernel)]; exact told_num (Nat.le_trans h hc))
  | go k => exact go1 "go" k _ (by decide +kernel) (by decide +kernel) (by rw [sec, if_neg (by decide +kernel), if_pos (by decide +kernel)]; exact told_num (Nat.le_trans h hc))
  | get k => exact go1 "get" k _ (by decide +kernel) (by decide +kernel) (by rw [sec, if_neg (by decide +kernel), if_neg (by decide +kernel)]; exact told_num (by have : k < n := h; omega))
  | set k => exact go1 "set" k _ (by decide +kernel) (by decide +kernel) (by rw [sec, if_neg (by decide +kernel), if_neg (by decide +kernel)]; exact told_num (by have : k < n := h; omega))
  | plus k => exact go1 "plus" k _ (by decide +kernel) (by decide +kernel) (by rw [sec, if_neg (by decide +kernel), if_neg (by decide +kernel)]; exact told_num (by have : k < n := h; omega))
  | minus k => exact go1 "minus" k _ (by decide +kernel) (by decide +kernel) (by rw [sec, if_neg (by decide +kernel), if_neg (by decide +kernel)]; exact told_num (by have : k < n := h; omega))
  | touch k => exact go1 "touch" k _ (by decide +kernel) (by decide +kernel) (by rw [sec, if_neg (by decide +kernel), if_neg (by decide +kernel)]; exact told_num (by have : k < n := h; omega))
theorem far_no {n cnt : Nat} {i : Ins} (h : okIns n cnt i) : farJ cnt (insX i) = false := by
  unfold farJ insX
  dsimp only
  rw [S_cod]
  cases i with
  | zero k => have : k ≤ cnt := h; rw [show (Ins.zero k).num.head? = some (k : Int) from rfl]; simp only [Option.getD_some]; rw [decide_eq_false (by omega), Bool.and_false]
  | go k => have : k ≤ cnt := h; rw [show (Ins.go k).num.head? = some (k : Int) from rfl]; simp only [Option.getD_some]; rw [decide_eq_false (by omega), Bool.and_false]
  | _ => rfl
/-- lines whose words are the instructions' parts are read as the program -/
theorem rd_lines {n : Nat} {pg : List Ins} {ls : List (List (List Nat))} (n5 : n ≤ 5) (hl : pg.length ≤ 4000) (ok : ∀ i ∈ pg, okIns n pg.length i ∧ rlI true i) (e : ls = pg.map insParts) : rdPg n ls = .inr (pg.map insX) := by
  have e1 : rdAll n 0 ls = .inr (pg.map insX) := rdAll_done 0 (by
    rw [e, List.map_map, List.map_map]
    exact List.map_congr_left fun i hi => rd_ins n5 hl (ok i hi).1 (ok i hi).2)
  unfold rdPg
  rw [e1]
  dsimp only
  have e2 : (pg.map insX).findIdx? (farJ (pg.map insX).length) = none := by
    rw [List.findIdx?_eq_none_iff, List.length_map]
    intro x hx
    obtain ⟨i, hi, rfl⟩ := List.mem_map.mp hx
    exact far_no (ok i hi).1
  rw [e2]
  dsimp only
  rw [List.length_map, if_neg (by omega)]
theorem lines_join {ys : List (List Nat)} (hne : ys ≠ []) (h : ∀ y ∈ ys, 10 ∉ y) : linesIn (TL.joinL [10] ys) = ys.map wordsIn := by
  unfold linesIn
  rw [TL.spl_join hne h]
theorem joinL_free {c : Nat} {sep : List Nat} (hs : c ∉ sep) : ∀ {ps : List (List Nat)}, (∀ p ∈ ps, c ∉ p) → c ∉ TL.joinL sep ps
  | [], _ => by simp [TL.joinL]
  | [p], h => h p (List.mem_cons_self ..)
  | p :: q :: r, h => by
    have ih := joinL_free hs (ps := q :: r) fun z hz => h z (List.mem_cons_of_mem _ hz)
    show c ∉ p ++ (sep ++ TL.joinL sep (q :: r))
    simp only [List.mem_append, not_or]
    exact ⟨h p (List.mem_cons_self ..), hs, ih⟩
theorem line_free (i : Ins) : 10 ∉ insLine i := joinL_free (by decide) fun p hp => (parts_free i p hp).1
theorem told_pg {n : Nat} {pg : List Ins} (n5 : n ≤ 5) (h1 : 1 ≤ pg.length) (hl : pg.length ≤ 4000) (ok : ∀ i ∈ pg, okIns n pg.length i ∧ rlI true i) : rdPg n (linesIn (pgText pg)) = .inr (pg.map insX) := by
  refine rd_lines n5 hl ok ?_
  unfold pgText
  rw [lines_join (by cases pg; · cases h1
                     · simp) (fun y hy => by obtain ⟨i, _, rfl⟩ := List.mem_map.mp hy; exact line_free i), List.map_map]
  exact List.map_congr_left fun i _ => words_ins i
/-! ### and so is the loose one -/
theorem words_sp (l : List Nat) : wordsIn (32 :: l) = wordsIn l := by
  unfold wordsIn
  rw [TL.spl_hit (show TL.pre [32] (32 :: l) = true by unfold TL.pre; simp)]
  rfl
theorem words_rep (l : List Nat) : ∀ k, wordsIn (List.replicate k 32 ++ l) = wordsIn l
  | 0 => rfl
  | k + 1 => by rw [List.replicate_succ, List.cons_append, words_sp, words_rep l k]
theorem words_cons {p l : List Nat} (h : 32 ∉ p) (hne : p ≠ []) : wordsIn (p ++ 32 :: l) = p :: wordsIn l := by
  unfold wordsIn
  have e : TL.spl [32] 0 [] (p ++ ([32] ++ l)) = ([] ++ p) :: TL.spl [32] 0 [] l := TL.spl_part1 h
  rw [show p ++ 32 :: l = p ++ ([32] ++ l) from rfl, e, List.nil_append, List.filter_cons]
  cases p with
  | nil => exact absurd rfl hne
  | cons c r => rfl
theorem words_nil : wordsIn [] = [] := rfl
theorem words_loose : ∀ {ps : List (List Nat)}, (∀ z ∈ ps, 32 ∉ z ∧ z ≠ []) → wordsIn (TL.joinL [32, 32] ps ++ [32]) = ps
  | [], _ => rfl
  | [p], h => by
    have hp := h p (List.mem_cons_self ..)
    show wordsIn (p ++ 32 :: []) = _
    rw [words_cons hp.1 hp.2, words_nil]
  | p :: q :: r, h => by
    have hp := h p (List.mem_cons_self ..)
    have ih := words_loose (ps := q :: r) fun z hz => h z (List.mem_cons_of_mem _ hz)
    show wordsIn ((p ++ ([32, 32] ++ TL.joinL [32, 32] (q :: r))) ++ [32]) = _
    rw [show (p ++ ([32, 32] ++ TL.joinL [32, 32] (q :: r))) ++ [32] = p ++ 32 :: (32 :: (TL.joinL [32, 32] (q :: r) ++ [32])) by simp, words_cons hp.1 hp.2, words_sp, ih]
/-- a written line made loose -/
def looseLine (k : Nat) (i : Ins) : List Nat := List.replicate k 32 ++ TL.joinL [32, 32] (insParts i) ++ [32]
theorem words_looseL (k : Nat) (i : Ins) : wordsIn (looseLine k i) = insParts i := by
  unfold looseLine
  rw [List.append_assoc, words_rep]
  exact words_loose fun z hz => ⟨(parts_free i z hz).2.1, (parts_free i z hz).2.2.1⟩
theorem loose_free (k : Nat) (i : Ins) : 10 ∉ looseLine k i := by
  unfold looseLine
  simp only [List.mem_append, List.mem_replicate, not_or]
  exact ⟨⟨by simp, joinL_free (by decide) fun p hp => (parts_free i p hp).1⟩, by decide⟩
theorem told_loose {n : Nat} {pg : List Ins} {ks : List Nat} (n5 : n ≤ 5) (h1 : 1 ≤ pg.length) (hk : ks.length = pg.length) (hl : pg.length ≤ 4000) (ok : ∀ i ∈ pg, okIns n pg.length i ∧ rlI true i) :
    rdPg n (linesIn (TL.joinL [10] ((ks.zip pg).map fun p => looseLine p.1 p.2))) = .inr (pg.map insX) := by
  refine rd_lines n5 hl ok ?_
  rw [lines_join (by
    cases pg with
    | nil => cases h1
    | cons i r =>
      cases ks with
      | nil => cases hk
      | cons k ks => simp) (fun y hy => by obtain ⟨p, _, rfl⟩ := List.mem_map.mp hy; exact loose_free _ _), List.map_map]
  have go : ∀ (ks : List Nat) (pg : List Ins), ks.length = pg.length → (ks.zip pg).map (wordsIn ∘ fun p => looseLine p.1 p.2) = pg.map insParts := by
    intro ks
    induction ks with
    | nil => intro pg h; cases pg with
      | nil => rfl
      | cons i r => cases h
    | cons k ks ih => intro pg h; cases pg with
      | nil => cases h
      | cons i r =>
        rw [List.zip_cons_cons, List.map_cons, List.map_cons, ih r (by simpa using h)]
        show wordsIn (looseLine k i) :: _ = _
        rw [words_looseL]
  exact go ks pg hk
end RH
set_option Elab.async false
set_option linter.all false
set_option maxRecDepth 100000
set_option maxHeartbeats 2000000
namespace RH
open PySem PySem.Spec PyProof.Rows L2
/-! ### what is told, as data -/
def xD (x : List Nat × Option Int) : PyData := .tuple (.str (SX.S x.1) :: x.2.toList.map PyData.int)
def tvD : (Nat × Nat) ⊕ List (List Nat × Option Int) → PyData
  | .inl e => .list [.int (e.1 : Int), .int (e.2 : Int)]
  | .inr xs => .tuple (xs.map xD)
theorem RI.dp {K : PySem.W.Frag} {H : Hp} {v : V} {x : List Nat × Option Int} (h : RI K H v x) : Dp K H v (xD x) := by
  obtain ⟨a, rfl, hS⟩ := h
  refine .tup hS (.cons (.str _) ?_)
  cases x.2 with
  | none => exact .nil
  | some i => exact .cons (.int _) .nil
theorem ris_dp {K : PySem.W.Frag} {H : Hp} : ∀ {us : List V} {xs : List (List Nat × Option Int)}, Each (RI K H) us xs → DpAll K H us (xs.map xD)
  | _, _, .nil => .nil
  | _, _, .cons h t => .cons h.dp (ris_dp t)
theorem TV.dp {K : PySem.W.Frag} {H : Hp} {v : V} {r : (Nat × Nat) ⊕ List (List Nat × Option Int)} (h : TV K H v r) : Dp K H v (tvD r) := by
  cases r with
  | inl e =>
    obtain ⟨a, rfl, ha⟩ := h
    exact .lst (lstAt ha) (.cons (.int _) (.cons (.int _) .nil))
  | inr xs =>
    obtain ⟨a, us, rfl, hS, hE⟩ := h
    exact .tup hS (ris_dp hE)
theorem insX_data (i : Ins) : xD (insX i) = i.data := by
  unfold xD insX Ins.data
  dsimp only
  rw [S_cod]
  cases i <;> rfl
theorem RPg.dpX {K : PySem.W.Frag} {H : Hp} {v : V} {pg : List Ins} (h : RPg K H v pg) : Dp K H v (tvD (.inr (pg.map insX))) := by
  obtain ⟨a, xs, rfl, hS, hE⟩ := h
  have e : (pg.map insX).map xD = pg.map Ins.data := by
    rw [List.map_map]
    exact List.map_congr_left fun i _ => insX_data i
  show Dp K H (.ref a) (.tuple ((pg.map insX).map xD))
  rw [e]
  refine .tup hS ?_
  clear hS e
  induction hE with
  | nil => exact .nil
  | cons h _ ih => exact .cons h.dp ih
theorem xD_ok (x : List Nat × Option Int) : okD 1 (xD x) := by
  refine ⟨by cases h : x.2 <;> simp [h], fun d hd => ?_⟩
  rcases List.mem_cons.mp hd with rfl | hd
  · exact True.intro
  · obtain ⟨i, _, rfl⟩ := List.mem_map.mp hd
    exact True.intro
theorem tvD_ok {r : (Nat × Nat) ⊕ List (List Nat × Option Int)} (h : ∀ xs, r = .inr xs → xs.length ≤ 1000) : okD 2 (tvD r) := by
  cases r with
  | inl e =>
    refine ⟨by show 2 ≤ 1000; decide, fun d hd => ?_⟩
    rcases List.mem_cons.mp hd with rfl | hd
    · exact True.intro
    · rcases List.mem_cons.mp hd with rfl | hd
      · exact True.intro
      · cases hd
  | inr xs =>
    refine ⟨by rw [List.length_map]; exact h xs rfl, fun d hd => ?_⟩
    obtain ⟨x, _, rfl⟩ := List.mem_map.mp hd
    exact xD_ok x
/-- as many instructions as lines -/
theorem rdAll_len {n : Nat} : ∀ {ls : List (List (List Nat))} {i : Nat} {xs : List (List Nat × Option Int)}, rdAll n i ls = .inr xs → xs.length = ls.length
  | [], _, _, h => by cases h; rfl
  | ws :: r, i, xs, h => by
    unfold rdAll at h
    split at h
    · cases h
    · split at h
      · cases h
      · rename_i e
        cases h
        rw [List.length_cons, List.length_cons, rdAll_len e]
theorem rdPg_len {n : Nat} {ls : List (List (List Nat))} {xs : List (List Nat × Option Int)} (h : rdPg n ls = .inr xs) : xs.length = ls.length := by
  unfold rdPg at h
  split at h
  · cases h
  · rename_i e
    split at h
    · cases h
    · split at h
      · cases h
      · cases h
        exact rdAll_len e
/-! ### the great text -/
def sayL : List Nat := [115, 97, 121]
theorem say_cod : SX.S sayL = ("say" : Str) := by decide +kernel
theorem great_lines (m : Nat) (h : 1 ≤ m) : linesIn (TL.joinL [10] (List.replicate m sayL)) = List.replicate m [sayL] := by
  rw [lines_join (by cases m; · cases h
                     · simp [List.replicate_succ]) (fun y hy => by rw [List.eq_of_mem_replicate hy]; decide), List.map_replicate]
  congr 1
theorem great_say {n : Nat} : rdIns n [sayL] = .inr (sayL, none) := by
  unfold rdIns
  dsimp only
  rw [say_cod, if_neg (by decide +kernel), if_neg (by decide +kernel)]
  rfl
theorem great_all {n m : Nat} : rdAll n 0 (List.replicate m [sayL]) = .inr (List.replicate m (sayL, none)) := rdAll_done 0 (by rw [List.map_replicate, List.map_replicate, great_say])
theorem great_told {n m : Nat} (h : 1 ≤ m) : rdPg n (linesIn (TL.joinL [10] (List.replicate m sayL))) = if 4000 < m then .inl (4001, 1) else .inr (List.replicate m (sayL, none)) := by
  rw [great_lines m h]
  unfold rdPg
  rw [great_all]
  dsimp only
  have e2 : (List.replicate m ((sayL, none) : List Nat × Option Int)).findIdx? (farJ (List.replicate m ((sayL, none) : List Nat × Option Int)).length) = none := by
    rw [List.findIdx?_eq_none_iff]
    intro x hx
    rw [List.eq_of_mem_replicate hx]
    unfold farJ
    dsimp only
    rw [say_cod]
    rfl
  rw [e2]
  dsimp only
  rw [List.length_replicate]
end RH
set_option Elab.async false
set_option linter.all false
set_option maxRecDepth 100000
set_option maxHeartbeats 2000000
namespace RH
open PySem PySem.Spec PyProof.Rows L2
/-! ### bent texts stay short and plain -/
theorem plain_join {c : Nat} (hc : c < 256) : ∀ {ps : List (List Nat)}, (∀ p ∈ ps, plain p = true) → plain (TL.joinL [c] ps) = true
  | [], _ => rfl
  | [p], h => h p (List.mem_cons_self ..)
  | p :: q :: r, h => by
    have ih := plain_join hc (ps := q :: r) fun z hz => h z (List.mem_cons_of_mem _ hz)
    have hp := h p (List.mem_cons_self ..)
    show plain (p ++ ([c] ++ TL.joinL [c] (q :: r))) = true
    unfold plain at ih hp ⊢
    rw [List.all_append, List.all_append, hp, ih]
    simp [hc]
theorem joinL_sum {c : Nat} : ∀ {ps : List (List Nat)}, (TL.joinL [c] ps).length ≤ (ps.map List.length).sum + ps.length
  | [] => by simp [TL.joinL]
  | [p] => by simp [TL.joinL]
  | p :: q :: r => by
    have ih := joinL_sum (c := c) (ps := q :: r)
    show (p ++ ([c] ++ TL.joinL [c] (q :: r))).length ≤ _
    simp only [List.length_append, List.map_cons, List.sum_cons, List.length_cons, List.length_nil] at ih ⊢
    omega
theorem spl_sum (c : Nat) : ∀ (t acc : List Nat), ((TL.spl [c] 0 acc t).map List.length).sum + (TL.spl [c] 0 acc t).length = acc.length + t.length + 1
  | [], acc => by
    unfold TL.spl
    simp
  | x :: t, acc => by
    cases hp : TL.pre [c] (x :: t) with
    | true =>
      have ih := spl_sum c t []
      rw [TL.spl_hit hp]
      simp only [List.map_cons, List.sum_cons, List.length_cons, List.length_nil] at ih ⊢
      show acc.length + ((TL.spl [c] 0 [] t).map List.length).sum + ((TL.spl [c] 0 [] t).length + 1) = _
      omega
    | false =>
      have ih := spl_sum c t (acc ++ [x])
      rw [TL.spl_miss hp]
      simp only [List.length_append, List.length_cons, List.length_nil] at ih ⊢
      omega
theorem spl_plain {c : Nat} {l : List Nat} (h : plain l = true) : ∀ w ∈ TL.spl [c] 0 [] l, plain w = true := fun w hw => List.all_eq_true.mpr fun x hx => by
  rcases cut_mem c l [] w hw x hx with h1 | h1
  · cases h1
  · simpa using plain_mem h h1
theorem sum_take_drop (ws : List (List Nat)) (s : Nat) : ((ws.take s).map List.length).sum + ((ws.drop s).map List.length).sum = (ws.map List.length).sum := by
  rw [← List.sum_append, ← List.map_append, List.take_append_drop]
/-- the line that a change makes of a line -/
inductive Bent (ws : List (List Nat)) : List (List Nat) → Prop
  | put (s : Nat) {w : List Nat} : w.length ≤ 12 → plain w = true → Bent ws (ws.take s ++ [w] ++ ws.drop s)
  | set (s : Nat) {w : List Nat} : w.length ≤ 12 → plain w = true → Bent ws (ws.take s ++ [w] ++ ws.drop (s + 1))
  | tail : Bent ws (ws.drop 1)
  | nil : Bent ws []
theorem drop_sum (ws : List (List Nat)) (s : Nat) : ((ws.drop s).map List.length).sum ≤ (ws.map List.length).sum := by
  have := sum_take_drop ws s
  omega
theorem Bent.len {l : List Nat} {ns : List (List Nat)} (h : Bent (TL.spl [32] 0 [] l) ns) : (TL.joinL [32] ns).length ≤ l.length + 14 := by
  have h0 := spl_sum 32 l []
  have h1 := joinL_sum (c := 32) (ps := ns)
  generalize TL.spl [32] 0 [] l = ws at h h0
  cases h with
  | put s hw _ =>
    have h2 := sum_take_drop ws s
    simp only [List.map_append, List.sum_append, List.length_append, List.map_cons, List.map_nil, List.sum_cons, List.sum_nil, List.length_cons, List.length_nil, List.length_take, List.length_drop] at h0 h1
    omega
  | set s hw _ =>
    have h2 := sum_take_drop ws s
    have h3 := drop_sum (ws.drop s) 1
    rw [List.drop_drop] at h3
    simp only [List.map_append, List.sum_append, List.length_append, List.map_cons, List.map_nil, List.sum_cons, List.sum_nil, List.length_cons, List.length_nil, List.length_take, List.length_drop] at h0 h1
    omega
  | tail =>
    have h3 := drop_sum ws 1
    simp only [List.length_drop, List.length_nil] at h0 h1
    omega
  | nil =>
    simp only [List.map_nil, List.sum_nil, List.length_nil] at h1
    omega
theorem Bent.plain {l : List Nat} {ns : List (List Nat)} (hl : RH.plain l = true) (h : Bent (TL.spl [32] 0 [] l) ns) : RH.plain (TL.joinL [32] ns) = true := by
  refine plain_join (by decide) fun p hp => ?_
  have hw := spl_plain (c := 32) hl
  generalize TL.spl [32] 0 [] l = ws at h hw
  cases h with
  | put s _ hq =>
    simp only [List.mem_append, List.mem_singleton] at hp
    rcases hp with (hp | rfl) | hp
    · exact hw p (List.mem_of_mem_take hp)
    · exact hq
    · exact hw p (List.mem_of_mem_drop hp)
  | set s _ hq =>
    simp only [List.mem_append, List.mem_singleton] at hp
    rcases hp with (hp | rfl) | hp
    · exact hw p (List.mem_of_mem_take hp)
    · exact hq
    · exact hw p (List.mem_of_mem_drop hp)
  | tail => exact hw p (List.mem_of_mem_drop hp)
  | nil => cases hp
theorem split_at {bent : List (List Nat)} {a : Nat} {l : List Nat} (h : bent[a]? = some l) : bent = bent.take a ++ [l] ++ bent.drop (a + 1) := by
  have h1 : bent.drop a = l :: bent.drop (a + 1) := by
    obtain ⟨hlt, rfl⟩ := List.getElem?_eq_some_iff.mp h
    exact List.drop_eq_getElem_cons hlt
  rw [List.append_assoc, List.singleton_append, ← h1, List.take_append_drop]
theorem bent_sum {bent : List (List Nat)} {a : Nat} {l new : List Nat} (h : bent[a]? = some l) (hn : new.length ≤ l.length + 14) : ((bent.take a ++ [new] ++ bent.drop (a + 1)).map List.length).sum ≤ (bent.map List.length).sum + 14 := by
  have e := congrArg (fun b : List (List Nat) => (b.map List.length).sum) (split_at h)
  simp only [List.map_append, List.sum_append, List.map_cons, List.map_nil, List.sum_cons, List.sum_nil] at e ⊢
  omega
theorem bent_count {bent : List (List Nat)} {a : Nat} {l new : List Nat} (h : bent[a]? = some l) : (bent.take a ++ [new] ++ bent.drop (a + 1)).length = bent.length := by
  have hlt := (List.getElem?_eq_some_iff.mp h).1
  simp only [List.length_append, List.length_take, List.length_drop, List.length_cons, List.length_nil]
  omega
/-- lines that stay within bounds -/
structure BT (bent : List (List Nat)) (m tot : Nat) : Prop where
  many : bent.length = m
  sum : (bent.map List.length).sum ≤ tot
  plain : ∀ y ∈ bent, RH.plain y = true
theorem BT.change {bent : List (List Nat)} {m tot a : Nat} {l : List Nat} {ns : List (List Nat)} (b : BT bent m tot) (h : bent[a]? = some l) (hb : Bent (TL.spl [32] 0 [] l) ns) : BT (bent.take a ++ [TL.joinL [32] ns] ++ bent.drop (a + 1)) m (tot + 14) := by
  refine ⟨by rw [bent_count h]; exact b.many, Nat.le_trans (bent_sum h hb.len) (by have := b.sum; omega), fun y hy => ?_⟩
  simp only [List.mem_append, List.mem_singleton] at hy
  rcases hy with (hy | rfl) | hy
  · exact b.plain y (List.mem_of_mem_take hy)
  · exact hb.plain (b.plain l (List.mem_of_getElem? h))
  · exact b.plain y (List.mem_of_mem_drop hy)
/-- the bent text is within what _law_read asks -/
theorem BT.text {bent : List (List Nat)} {m tot : Nat} (b : BT bent m tot) (h : tot + m ≤ 290) : (TL.joinL [10] bent).length ≤ 290 ∧ RH.plain (TL.joinL [10] bent) = true ∧ (linesIn (TL.joinL [10] bent)).length ≤ 291 := by
  have h1 := joinL_sum (c := 10) (ps := bent)
  have h2 := b.sum
  have h3 := b.many
  have h4 : (TL.joinL [10] bent).length ≤ 290 := by omega
  refine ⟨h4, plain_join (c := 10) (by decide) b.plain, ?_⟩
  unfold linesIn
  rw [List.length_map]
  have := (cut_len 10 (TL.joinL [10] bent) []).1
  omega
/-- the written lines to start with -/
theorem BT.start {pg : List Ins} (sm : ∀ i ∈ pg, smI i) : BT (pg.map insLine) pg.length (18 * pg.length) := by
  refine ⟨List.length_map _, ?_, fun y hy => ?_⟩
  · induction pg with
    | nil => simp
    | cons i r ih =>
      have h1 := ins_len (sm i (List.mem_cons_self ..))
      have h2 := ih fun j hj => sm j (List.mem_cons_of_mem _ hj)
      simp only [List.map_cons, List.sum_cons, List.length_cons] at h2 ⊢
      omega
  · obtain ⟨i, _, rfl⟩ := List.mem_map.mp hy
    exact plain_join (by decide) fun p hp => (parts_free i p hp).2.2.2
end RH
set_option Elab.async false
set_option linter.all false
set_option maxRecDepth 100000
set_option maxHeartbeats 2000000
namespace RH
open PySem PySem.Spec PyProof.Rows L2
/-! ### the law -/
def spLaw (K : PySem.W.Frag) : Sp := fun vs H Q _ => ∃ (a : Addr) (ns : List Int), vs = [.ref a] ∧ Fz K H a (ns.map V.int) ∧ ∀ H', Q (.bl true) H'
theorem okIns_up {n c c' : Nat} {i : Ins} (h : okIns n c i) (e : c ≤ c') : okIns n c' i := by
  cases i <;> first | exact Nat.le_trans h e | exact h
theorem TV.on {K : PySem.W.Frag} {H H' : Hp} (s : Same H H') {v : V} {r : (Nat × Nat) ⊕ List (List Nat × Option Int)} (h : TV K H v r) : TV K H' v r := by
  cases r with
  | inl e =>
    obtain ⟨a, rfl, ha⟩ := h
    exact ⟨a, rfl, s _ _ ha⟩
  | inr xs =>
    obtain ⟨a, us, rfl, hS, hE⟩ := h
    exact ⟨a, us, rfl, onT s hS, hE.imp fun _ _ z => z.on (Same.tups s)⟩
/-- what stands when the program has been drawn -/
structure A18 (K : PySem.W.Frag) (H : Hp) (p : Addr) (n : Nat) (vP : V) (pg : List Ins) : Prop where
  row : Row K H p
  pgr : RPg K H vP pg
  n2 : 2 ≤ n
  n5 : n ≤ 5
  p1 : 1 ≤ pg.length
  p9 : pg.length ≤ 9
  ok : ∀ i ∈ pg, okIns n pg.length i ∧ rlI true i
theorem A18.but {K : PySem.W.Frag} {H H' : Hp} {p : Addr} {n : Nat} {vP : V} {pg : List Ins} (h : A18 K H p n vP pg) (b : But p H H') (r : Row K H' p) : A18 K H' p n vP pg :=
  ⟨r, h.pgr.on (h.row.fix b).tups, h.n2, h.n5, h.p1, h.p9, h.ok⟩
theorem A18.same {K : PySem.W.Frag} {H H' : Hp} {p : Addr} {n : Nat} {vP : V} {pg : List Ins} (h : A18 K H p n vP pg) (s : Same H H') : A18 K H' p n vP pg := h.but (But.same s) (h.row.same s)
/-- and the lines -/
structure B18 (K : PySem.W.Frag) (H : Hp) (p L : Addr) (n : Nat) (vP : V) (pg : List Ins) : Prop extends A18 K H p n vP pg where
  nL : L ≠ p
  el : H L = some (.lst ((pg.map insLine).map tx))
theorem B18.but {K : PySem.W.Frag} {H H' : Hp} {p L : Addr} {n : Nat} {vP : V} {pg : List Ins} (h : B18 K H p L n vP pg) (b : But p H H') (r : Row K H' p) : B18 K H' p L n vP pg :=
  ⟨h.toA18.but b r, h.nL, b _ _ h.el h.nL⟩
theorem B18.same {K : PySem.W.Frag} {H H' : Hp} {p L : Addr} {n : Nat} {vP : V} {pg : List Ins} (h : B18 K H p L n vP pg) (s : Same H H') : B18 K H' p L n vP pg := h.but (But.same s) (h.row.same s)
/-- a word that is put -/
def OW (x : V) : Prop := ∃ w, x = tx w ∧ w.length ≤ 12 ∧ plain w = true
/-- and the odd words -/
structure O18 (K : PySem.W.Frag) (H : Hp) (p L O : Addr) (n : Nat) (vP : V) (pg : List Ins) (os : List V) : Prop extends B18 K H p L n vP pg where
  nO : O ≠ p
  eo : H O = some (.lst os)
  o24 : os.length = 24
  ow : ∀ x ∈ os, OW x
theorem O18.but {K : PySem.W.Frag} {H H' : Hp} {p L O : Addr} {n : Nat} {vP : V} {pg : List Ins} {os : List V} (h : O18 K H p L O n vP pg os) (b : But p H H') (r : Row K H' p) : O18 K H' p L O n vP pg os :=
  ⟨h.toB18.but b r, h.nO, b _ _ h.eo h.nO, h.o24, h.ow⟩
theorem O18.same {K : PySem.W.Frag} {H H' : Hp} {p L O : Addr} {n : Nat} {vP : V} {pg : List Ins} {os : List V} (h : O18 K H p L O n vP pg os) (s : Same H H') : O18 K H' p L O n vP pg os := h.but (But.same s) (h.row.same s)
def litA : List Str := ["get", "say", "stop", "put", "zero", "go", "touch", "Get", "", "0", "00", "1"]
def litB : List Str := ["-1", "-0", "1000001"]
def litC : List Str := ["4000", "4001", "x", "+1", "ask", "1000000", "-1000000", "000000000000"]
theorem lits_ok : ∀ z ∈ litA ++ litB ++ litC, (cod z).length ≤ 12 ∧ plain (cod z) = true := by decide +kernel
theorem ow_lit {z : Str} (h : z ∈ litA ++ litB ++ litC) : OW (.str z) := ⟨cod z, by show V.str z = V.str (SX.S (cod z)); rw [S_cod], lits_ok z h⟩
theorem odd_ow {n : Nat} (h : n ≤ 5) : ∀ x ∈ (litA.map V.str ++ [.str (Str.ofString (toString ((n : Nat) : Int)))] ++ litB.map V.str) ++ litC.map V.str, OW x := by
  intro x hx
  rcases List.mem_append.mp hx with hx | hx
  · rcases List.mem_append.mp hx with hx | hx
    · rcases List.mem_append.mp hx with hx | hx
      · obtain ⟨z, hz, rfl⟩ := List.mem_map.mp hx
        exact ow_lit (List.mem_append_left _ (List.mem_append_left _ hz))
      · rw [List.mem_singleton.mp hx]
        exact ⟨numC (n : Int), by rw [numC_S], Nat.le_trans (numC_len (by omega)) (by decide), (numC_free _).2.2.2⟩
    · obtain ⟨z, hz, rfl⟩ := List.mem_map.mp hx
      exact ow_lit (List.mem_append_left _ (List.mem_append_right _ hz))
  · obtain ⟨z, hz, rfl⟩ := List.mem_map.mp hx
    exact ow_lit (List.mem_append_right _ hz)
/-- the texts that are written are short -/
theorem pg_text {n : Nat} {pg : List Ins} (n5 : n ≤ 5) (p9 : pg.length ≤ 9) (ok : ∀ i ∈ pg, okIns n pg.length i ∧ rlI true i) : (pgText pg).length ≤ 290 ∧ plain (pgText pg) = true ∧ (linesIn (pgText pg)).length ≤ 291 :=
  (BT.start fun i hi => smI_of n5 (by omega) (ok i hi).1 (ok i hi).2).text (by omega)
theorem loose_len {k : Nat} {i : Ins} (hk : k ≤ 2) (sm : smI i) : (looseLine k i).length ≤ 30 := by
  have h1 := parts_two i
  have h2 := part_len sm
  unfold looseLine
  generalize insParts i = ps at h1 h2
  match ps, h1 with
  | [], _ => simp [TL.joinL]; omega
  | [x], _ =>
    have := h2 x (List.mem_cons_self ..)
    simp [TL.joinL]
    omega
  | [x, y], _ =>
    have a := h2 x (List.mem_cons_self ..)
    have b := h2 y (List.mem_cons_of_mem _ (List.mem_cons_self ..))
    simp [TL.joinL]
    omega
theorem Bent.sz {l : List Nat} {ns : List (List Nat)} (h : Bent (TL.spl [32] 0 [] l) ns) : (ns.map List.length).sum + ns.length ≤ l.length + 14 := by
  have h0 := spl_sum 32 l []
  generalize TL.spl [32] 0 [] l = ws at h h0
  cases h with
  | put s hw _ =>
    have h2 := sum_take_drop ws s
    simp only [List.map_append, List.sum_append, List.length_append, List.map_cons, List.map_nil, List.sum_cons, List.sum_nil, List.length_cons, List.length_nil, List.length_take, List.length_drop] at h0 ⊢
    omega
  | set s hw _ =>
    have h2 := sum_take_drop ws s
    have h3 := drop_sum (ws.drop s) 1
    rw [List.drop_drop] at h3
    simp only [List.map_append, List.sum_append, List.length_append, List.map_cons, List.map_nil, List.sum_cons, List.sum_nil, List.length_cons, List.length_nil, List.length_take, List.length_drop] at h0 ⊢
    omega
  | tail =>
    have h3 := drop_sum ws 1
    simp only [List.length_drop, List.length_nil] at h0 ⊢
    omega
  | nil => simp
/-- a list of texts as it stands -/
def LT (H : Hp) (p : Addr) (v : V) (ns : List (List Nat)) : Prop := ∃ D, v = .ref D ∧ D ≠ p ∧ H D = some (.lst (ns.map tx))
theorem LT.but {H H' : Hp} {p : Addr} {v : V} {ns : List (List Nat)} (h : LT H p v ns) (b : But p H H') : LT H' p v ns := let ⟨D, e, n, k⟩ := h; ⟨D, e, n, b _ _ k n⟩
theorem LT.same {H H' : Hp} {p : Addr} {v : V} {ns : List (List Nat)} (h : LT H p v ns) (s : Same H H') : LT H' p v ns := h.but (But.same s)
theorem map_SX (l : List (List Nat)) : (l.map SX.S).map V.str = l.map tx := by rw [List.map_map]; rfl
theorem sum_S (l : List (List Nat)) : ((l.map SX.S).map (·.length)).sum = (l.map List.length).sum := by rw [SX.lens]
theorem great_len (m : Nat) (h : m ≤ 4001) : (TL.joinL [10] (List.replicate m sayL)).length ≤ 16004 := by
  have h1 := joinL_sum (c := 10) (ps := List.replicate m sayL)
  have h2 : ((List.replicate m sayL).map List.length).sum = m * 3 := by rw [List.map_replicate, List.sum_replicate_nat]; rfl
  rw [h2, List.length_replicate] at h1
  omega
theorem none_of {H H' : Hp} {p : Addr} (a : Same H H') (h : H' p = none) : H p = none := by
  cases e : H p with
  | none => rfl
  | some o =>
    rw [a _ _ e] at h
    cases h
theorem cutV_few (xs : List V) (lo hi : Option Int) : (cutV xs lo hi).length ≤ xs.length := by
  unfold cutV
  rw [List.length_take, List.length_drop]
  omega
theorem BT.mono {b : List (List Nat)} {m tot tot' : Nat} (h : BT b m tot) (e : tot ≤ tot') : BT b m tot' := ⟨h.many, Nat.le_trans h.sum e, h.plain⟩
/-- a part, one more, another part -/
theorem cat3 {K : PySem.W.Frag} {σ : L2.St} {H : Hp} {p W : Addr} {i : Nat} {xs : List V} {s t : Nat} {ts tt te : TE} {Q : VK} (G : V → Hp → Prop)
    (hv : σ[i]? = some (some (.ref W))) (eW : H W = some (.lst xs)) (few : xs.length ≤ 1000) (nW : W ≠ p) (np : ∃ o, H p = some o)
    (hs : ∀ H' Q, Q (.int (s : Int)) H' → ts σ H' Q) (ht : ∀ H' Q, Q (.int (t : Int)) H' → tt σ H' Q)
    (hm : ∀ H1 (k : VK), Same H H1 → (∀ v H2, But p H1 H2 → G v H2 → k v H2) → te σ H1 k)
    (hQ : ∀ v H2 H3 D, But p H H2 → G v H2 → Same H2 H3 → H2 D = none → H3 D = some (.lst (xs.take s ++ [v] ++ xs.drop t)) → Q (.ref D) H3) :
    tOp rCat (tOp rCat (tSl (rSlL K) (tVar i) tNoPart (tPart ts)) (tLst (tCons te tNil))) (tSl (rSlL K) (tVar i) (tPart tt) tNoPart) σ H Q := by
  obtain ⟨op, ep⟩ := np
  refine ⟨_, hv, hs _ _ ⟨_, rfl, W, xs, rfl, lstAt eW, fun q1 h1 => ?_⟩⟩
  have s1 := same_new (o := .lst (cutV xs none (some (s : Int)))) h1
  have n1 : q1 ≠ p := fun z => by rw [z, ep] at h1; cases h1
  have f1 := cutV_few xs none (some (s : Int))
  have f2 := cutV_few xs (some (t : Int)) none
  refine hm _ _ s1 fun v H2 b2 g2 => ⟨by show 1 ≤ sizeLine; decide, fun q2 h2 => ?_⟩
  have s2 := same_new (o := .lst [v]) h2
  have e1 := b2 _ _ (upd_same (H := H) (o := .lst (cutV xs none (some (s : Int))))) n1
  refine ⟨q1, q2, _, _, rfl, rfl, s2 _ _ e1, upd_same, ?_, fun q3 h3 => ?_⟩
  · rw [sizeLine_eq]
    show _ + 1 ≤ _
    omega
  have s3 := same_new (o := .lst (cutV xs none (some (s : Int)) ++ [v])) h3
  have eW3 := s3 _ _ (s2 _ _ (b2 _ _ (s1 _ _ eW) nW))
  refine ⟨_, hv, ht _ _ ⟨_, rfl, W, xs, rfl, lstAt eW3, fun q4 h4 => ?_⟩⟩
  have s4 := same_new (o := .lst (cutV xs (some (t : Int)) none)) h4
  refine ⟨q3, q4, _, _, rfl, rfl, s4 _ _ upd_same, upd_same, ?_, fun q5 h5 => ?_⟩
  · rw [sizeLine_eq, List.length_append]
    show _ + 1 + _ ≤ _
    omega
  exact hQ v H2 _ q5 (fun c o e n => b2 c o (s1 _ _ e) n) g2 (((s2.trans s3).trans s4).trans (same_new h5)) (none_of ((s2.trans s3).trans s4) h5) (by rw [upd_same, cut_to, cut_from])
section
variable {P : Program} {w : World} {K : PySem.W.Frag} {mg : Str → Option Value} {base : Heap}
theorem ok_law {f : Addr} {fd : FuncData} (F : Fun K "law" "law" st_law f fd) (B : Bu mg) (CT : Cal P w K mg base 1 "_law_taken" (spTaken K)) (CPk : Cal P w K mg base 2 "_law_pick" (spPick K)) (CPr : Cal P w K mg base 3 "_law_program" (spProgL K))
    (CA : Cal P w K mg base 3 "_law_alike" (spAlike K 2)) (CTo : Cal P w K mg base 6 "_law_told" (spTold K)) (CLR : Cal P w K mg base 2 "_law_read" (spLRead K)) (CW : CalX P w K mg base 7 "write_program" (spWrite K)) : FnOk P w K mg base CX0 9 f fd ["script"] (spLaw K) := by
  refine F.ok sc_law (fun vs H Q E h => ?_) (fun cdv A outer s H vs Q E hr h => ?_)
  · obtain ⟨a, ns, rfl, _⟩ := h
    rfl
  · obtain ⟨a, scr, rfl, hZ, q⟩ := h
    refine ⟨_, PSs.nox (pss_cons (ps_set (i := 1) sc_law.nd rfl (.inr rfl) (pe_lst (pa_cons (pv 0) (pa_cons pe_int (pa_cons pe_int (pa_cons pe_int pa_nil))))))
      (pss_cons (ps_set (i := 2) sc_law.nd rfl (.inl rfl) (pe_op op_add pe_int (pc CT hr (pa_cons (pv 1) (pa_cons pe_int pa_nil)))))
      (pss_cons (ps_cutM (ps_set (i := 3) sc_law.nd rfl (.inl rfl) (pe_op op_catT (pc CPr hr (pa_cons (pv 1) (pa_cons (pv 2) (pa_cons pe_int pa_nil)))) (pe_tup (pa_cons (pe_tup (pa_cons pe_str (pa_cons (pc CT hr (pa_cons (pv 1) (pa_cons (pv 2) pa_nil))) pa_nil))) pa_nil)))))
      (pss_cons (ps_set (i := 4) sc_law.nd rfl (.inl rfl) (pe_lst pa_nil))
      (pss_cons (ps_cutM (ps_for PassesOwn.never rfl (pi_tup (pv 3)) (pg_name (i := 5) sc_law.nd rfl (.inl rfl)) (pss_one (ps_expr (pe_bm PySem.F.plainAttrs_list PySem.F.slot_list_append PySem.F.type_list_append mt_append (pv 4) (pa_cons (pe_join pe_str (pe_lc (own := [("part", 19)]) (g := gName 19) (tt := tYes) rfl sc_law.nd (pi_tup (pv 5)) (blkOk_by (N := ["script", "row", "places", "program", "lines", "word", "text", "loose", "odd", "turn", "bent", "change", "at", "words", "spot", "some", "told", "great", "found", "part", "line"]) (sc := defScope st_law) (by decide +kernel)) (fun _ _ _ _ _ => pg_name (i := 19) sc_law.nd rfl (Or.inl rfl)) (fun _ _ _ _ _ => pts_nil) (fun _ _ _ _ _ => (pe_callTy call_strA (by rfl) B.str (by decide +kernel) (pa_cons (pv 19) pa_nil))))) pa_nil))))))
      (pss_cons (ps_set (i := 6) sc_law.nd rfl (.inl rfl) (pe_join pe_str (pv 4)))
      (pss_cons (ps_cutM (ps_if (pt_not (pt_val (pc CA hr (pa_cons (pcX CW passL hr (pa_cons (pv 2) (pa_cons (pv 3) pa_nil))) (pa_cons (pv 6) pa_nil))))) (pss_one (ps_ret pe_bl)) pss_nil))
      (pss_cons (ps_cutM (ps_if (pt_not (pt_val (pc CA hr (pa_cons (pc CTo hr (pa_cons (pv 2) (pa_cons (pv 6) pa_nil))) (pa_cons (pv 3) pa_nil))))) (pss_one (ps_ret pe_bl)) pss_nil))
      (pss_cons (ps_cutM (ps_set (i := 7) sc_law.nd rfl (.inl rfl) (pe_join pe_str (pe_lc (own := [("line", 20)]) (g := gName 20) (tt := tYes) rfl sc_law.nd (pi_list (pv 4)) (blkOk_by (N := ["script", "row", "places", "program", "lines", "word", "text", "loose", "odd", "turn", "bent", "change", "at", "words", "spot", "some", "told", "great", "found", "part", "line"]) (sc := defScope st_law) (by decide +kernel)) (fun _ _ _ _ _ => pg_name (i := 20) sc_law.nd rfl (Or.inl rfl)) (fun _ _ _ _ _ => pts_nil) (fun _ _ _ _ _ => (pe_op op_add_str (pe_opT op_add_str (pe1_op op_blanks pe1_str (pc CT hr (pa_cons (pv 1) (pa_cons pe_int pa_nil)))) (CwR.pet_replC (pv 20))) pe_str))))))
      (pss_cons (ps_cutM (ps_if (pt_not (pt_val (pc CA hr (pa_cons (pc CTo hr (pa_cons (pv 2) (pa_cons (pv 7) pa_nil))) (pa_cons (pv 3) pa_nil))))) (pss_one (ps_ret pe_bl)) pss_nil))
      (pss_cons (ps_set (i := 8) sc_law.nd rfl (.inl rfl) (pe_lst (pa_cons pe_str (pa_cons pe_str (pa_cons pe_str (pa_cons pe_str (pa_cons pe_str (pa_cons pe_str (pa_cons pe_str (pa_cons pe_str (pa_cons pe_str (pa_cons pe_str (pa_cons pe_str (pa_cons pe_str (pa_cons (pe_callTy call_strA (by rfl) B.str (by decide +kernel) (pa_cons (pv 2) pa_nil)) (pa_cons pe_str (pa_cons pe_str (pa_cons pe_str pa_nil))))))))))))))))))
      (pss_cons (ps_cutM (ps_set (i := 8) sc_law.nd rfl (.inl rfl) (pe_op op_cat (pv 8) (pe_lst (pa_cons pe_str (pa_cons pe_str (pa_cons pe_str (pa_cons pe_str (pa_cons pe_str (pa_cons pe_str (pa_cons pe_str (pa_cons pe_str pa_nil))))))))))))
      (pss_cons (ps_cutM (ps_for PassesOwn.never rfl (pi_range1 (by rfl) B.range (pa_cons pe_int pa_nil)) (pg_name (i := 9) sc_law.nd rfl (.inl rfl)) (pss_cons (ps_set (i := 10) sc_law.nd rfl (.inl rfl) (pe_callTy (cl_listOf K) (by rfl) B.list (by decide +kernel) (pa_cons (pv 4) pa_nil)))
        (pss_cons (ps_cutM (ps_for PassesOwn.never rfl (pi_range1 (by rfl) B.range (pa_cons (pe_op op_add pe_int (pc CT hr (pa_cons (pv 1) (pa_cons pe_int pa_nil)))) pa_nil)) (pg_name (i := 11) sc_law.nd rfl (.inl rfl)) (pss_cons (ps_set (i := 12) sc_law.nd rfl (.inl rfl) (pc CT hr (pa_cons (pv 1) (pa_cons (pe_callB (cl_len K) (by rfl) B.len PySem.boot_len (pa_cons (pv 10) pa_nil)) pa_nil))))
          (pss_cons (ps_set (i := 13) sc_law.nd rfl (.inl rfl) (pe_split (pe_ix (ixL K) (pv 10) (pv 12) (fun _ _ => rfl)) pe_str))
          (pss_cons (ps_cutM (ps_par (i := 14) (j := 5) rfl sc_law.nd rfl rfl (by decide) rfl rfl (pa_cons (pc CT hr (pa_cons (pv 1) (pa_cons (pe_op op_add (pe_callB (cl_len K) (by rfl) B.len PySem.boot_len (pa_cons (pv 13) pa_nil)) pe_int) pa_nil))) (pa_cons (pc CPk hr (pa_cons (pv 1) (pa_cons (pv 8) pa_nil))) pa_nil)) rfl))
          (pss_cons (ps_cutM (ps_set (i := 15) sc_law.nd rfl (.inl rfl) (pe_lst (pa_cons (pe_op op_cat (pe_op op_cat (pe_slice sl_list (pv 13) po_none (po_some (pv 14))) (pe_lst (pa_cons (pv 5) pa_nil))) (pe_slice sl_list (pv 13) (po_some (pv 14)) po_none)) (pa_cons (pe_op op_cat (pe_op op_cat (pe_slice sl_list (pv 13) po_none (po_some (pv 14))) (pe_lst (pa_cons (pv 5) pa_nil))) (pe_slice sl_list (pv 13) (po_some (pe_op op_add (pv 14) pe_int)) po_none)) (pa_cons (pe_slice sl_list (pv 13) (po_some pe_int) po_none) pa_nil))))))
          (pss_cons (ps_cutM (ps_expr (pe_bm PySem.F.plainAttrs_list PySem.F.slot_list_append PySem.F.type_list_append mt_append (pv 15) (pa_cons (pe_lst pa_nil) pa_nil))))
          (pss_one (ps_set (i := 10) sc_law.nd rfl (.inl rfl) (pe_op op_cat (pe_op op_cat (pe_slice sl_list (pv 10) po_none (po_some (pv 12))) (pe_lst (pa_cons (pe_join pe_str (pc CPk hr (pa_cons (pv 1) (pa_cons (pv 15) pa_nil)))) pa_nil))) (pe_slice sl_list (pv 10) (po_some (pe_op op_add (pv 12) pe_int)) po_none)))))))))))
        (pss_cons (ps_set (i := 16) sc_law.nd rfl (.inl rfl) (pe_join pe_str (pv 10)))
        (pss_one (ps_if (pt_not (pt_val (pc CA hr (pa_cons (pc CTo hr (pa_cons (pv 2) (pa_cons (pv 16) pa_nil))) (pa_cons (pc CLR hr (pa_cons (pv 2) (pa_cons (pv 16) pa_nil))) pa_nil))))) (pss_one (ps_ret pe_bl)) pss_nil)))))))
      (pss_cons (ps_cutM (ps_set (i := 17) sc_law.nd rfl (.inl rfl) (pe_join pe_str (pe_op op_rep (pe_lst (pa_cons pe_str pa_nil)) (pe_op op_add pe_int (pc CT hr (pa_cons (pv 1) (pa_cons pe_int pa_nil))))))))
      (pss_cons (ps_cutM (ps_set (i := 18) sc_law.nd rfl (.inl rfl) (pc CTo hr (pa_cons (pv 2) (pa_cons (pv 17) pa_nil)))))
      (pss_one (ps_ret (pe_ifExp (pt_cmpR op_eq (pe_bm PySem.F.plainAttrs_str PySem.F.slot_str_count PySem.F.type_str_count mt_count (pv 17) (pa_cons pe_str pa_nil)) pe_int (nomark _)) (pe_cmpR op_eq (pe_callB (cl_len K) (by rfl) B.len PySem.boot_len (pa_cons (pv 18) pa_nil)) pe_int (nomark _)) (pe_cmpR (op_eqD hr.units) (pv 18) (pe_lst (pa_cons pe_int (pa_cons pe_int pa_nil))) (nomark _)))))))))))))))))))), ?_⟩
    -- row, places
    refine ⟨_, rfl, by show 4 ≤ sizeLine; decide, fun p hp => ?_⟩
    have sp := same_new (o := .lst [.ref a, .int 0, .int 5018, .int 0]) hp
    have hR1 : Row K (upd H p (.lst [.ref a, .int 0, .int 5018, .int 0])) p := ⟨a, scr, 0, 5018, 0, upd_same, hZ.on (Fix.same sp), Int.le_refl _⟩
    generalize (upd H p (.lst [.ref a, .int 0, .int 5018, .int 0])) = H1 at *
    refine ⟨_, rfl, p, 4, rfl, hR1, by decide, by decide, fun k H2 k0 k1 hB2 hR2 => ⟨2, k, rfl, rfl, ?_⟩⟩
    obtain ⟨n, hn⟩ : ∃ n : Nat, 2 + k = (n : Int) := ⟨(2 + k).toNat, by omega⟩
    show gName 2 (V.int (2 + k)) _ _ _
    rw [hn]
    have n2 : 2 ≤ n := by omega
    have n5 : n ≤ 5 := by omega
    clear hR1 hB2 sp hp hZ
    -- program
    refine ⟨fun σ3 H3 => ∃ vP pg, σ3 = [some (.ref a), some (.ref p), some (.int (n : Int)), some vP, none, none, none, none, none, none, none, none, none, none, none, none, none, none, none, none, none] ∧ A18 K H3 p n vP pg, fun σ3 H3 g => ?_, ?_⟩
    rotate_left
    · refine ⟨_, rfl, _, rfl, p, n, 8, rfl, hR2, by omega, n5, by decide, by decide, fun H3 v pg hB3 hR3 hP l1 l8 ok => ?_⟩
      refine ⟨_, rfl, _, rfl, p, (n : Int), rfl, hR3, by omega, by omega, fun kk H4 kk0 kk1 hB4 hR4 => ⟨by show 2 ≤ sizeLine; decide, fun t ht => ⟨by show 1 ≤ sizeLine; decide, fun t2 ht2 => ?_⟩⟩⟩
      obtain ⟨kn, rfl⟩ : ∃ kn : Nat, kk = (kn : Int) := ⟨kk.toNat, by omega⟩
      obtain ⟨b, xs, rfl, hS, hE⟩ := hP
      have f4 := hR3.fix hB4
      have st := same_new (o := .tup [.str "touch", .int (kn : Int)]) ht
      have st2 := same_new (o := .tup [.ref t]) ht2
      have s42 := st.trans st2
      have lx := hE.len
      refine ⟨b, t2, xs, [.ref t], rfl, rfl, onT s42 (f4.tups _ _ hS), tupAt upd_same, ?_, ?_, fun e => (nomatch e), fun _ q hq => ?_⟩
      · intro z
        rw [z] at lx
        simp at lx
        omega
      · rw [sizeLine_eq]
        show _ + 1 ≤ _
        omega
      · have sq := same_new (o := .tup (xs ++ [.ref t])) hq
        refine ⟨.ref q, pg ++ [.touch kn], rfl, (hR4.same s42).same sq, ⟨q, _, rfl, tupAt upd_same, Each.snoc ⟨t, rfl, tupAt (sq _ _ (st2 _ _ upd_same))⟩ (hE.imp fun _ _ z => (z.on f4.tups).on (Same.tups (s42.trans sq)))⟩, n2, n5, ?_, ?_, fun i hi => ?_⟩
        · rw [List.length_append]
          omega
        · rw [List.length_append]
          show _ + 1 ≤ _
          omega
        · rcases List.mem_append.mp hi with hi | hi
          · exact ⟨okIns_up (ok i hi).1 (by rw [List.length_append]; omega), rlI_of (ok i hi).2⟩
          · rw [List.mem_singleton.mp hi]
            exact ⟨by show kn < n; omega, rfl⟩
    clear hn k0 k1 hR2 n2 n5
    obtain ⟨vP, pg, rfl, g⟩ := g
    -- lines
    refine ⟨Nat.zero_le _, fun L hL => ?_⟩
    have sL := same_new (o := .lst []) hL
    have nL : L ≠ p := Ne.symm (g.row.ne hL)
    refine ⟨fun σ4 H4 => ∃ y5, σ4 = [some (.ref a), some (.ref p), some (.int (n : Int)), some vP, some (.ref L), y5, none, none, none, none, none, none, none, none, none, none, none, none, none, none, none] ∧ B18 K H4 p L n vP pg, fun σ4 H4 g4 => ?_, ?_⟩
    rotate_left
    · obtain ⟨b, xs, rfl, hS, hE⟩ := id g.pgr
      refine ⟨_, rfl, b, rfl, ⟨_, onT sL hS⟩, ?_⟩
      refine for_tup (xs := xs) (fun i σ4 H4 => ∃ y5, σ4 = [some (.ref a), some (.ref p), some (.int (n : Int)), some (.ref b), some (.ref L), y5, none, none, none, none, none, none, none, none, none, none, none, none, none, none, none] ∧ Same H3 H4 ∧ H4 L = some (.lst (((pg.take i).map insLine).map tx))) ⟨none, rfl, sL, upd_same⟩ (fun i σ4 H4 _ h' => onT h'.choose_spec.2.1 hS) (fun i x σ4 H4 hx h' => ?_) (fun σ4 H4 h' => ?_)
      · obtain ⟨y5, rfl, sm, eL⟩ := h'
        obtain ⟨ins, hi, hr⟩ := hE.at hx
        have ok := g.ok ins (List.mem_of_getElem? hi)
        refine ⟨_, rfl, .inl ⟨rfl, _, lstAt eL⟩, ins_line (i := 5) (j := 19) rfl (by show 19 < 21; decide) (hr.on (Same.tups sm)) (smI_of g.n5 (by have := g.p9; omega) ok.1 ok.2) fun H5 s5 => ⟨L, _, _, rfl, rfl, s5 _ _ eL, ?_, _, rfl, fun c o ec => ?_, ?_⟩⟩
        · rw [List.length_map, List.length_map, List.length_take, sizeLine_eq]
          have := g.p9
          omega
        · rw [upd_ne (ne_of_none ec hL)]
          exact s5 _ _ (sm _ _ ec)
        · rw [upd_same, List.take_add_one, hi]
          simp
      · obtain ⟨y5, rfl, sm, eL⟩ := h'
        rw [hE.len, List.take_length] at eL
        exact ⟨y5, rfl, g.same sm, nL, eL⟩
    clear g sL nL hL
    obtain ⟨y5, rfl, g4⟩ := g4
    have tl := pg_text g4.n5 g4.p9 g4.ok
    have p1 := g4.p1
    have p9 := g4.p9
    -- text
    refine ⟨⟨_, rfl⟩, _, rfl, _, L, (pg.map insLine).map SX.S, rfl, rfl, .inl (lstAt (by rw [map_SX]; exact g4.el)), ?_, ?_⟩
    · have h1 := (BT.start fun i hi => smI_of g4.n5 (by omega) (g4.ok i hi).1 (g4.ok i hi).2).sum
      have h4 : ("\n" : Str).length = 1 := by decide +kernel
      rw [sum_S, List.length_map, List.length_map, h4]
      omega
    rw [join_nl]
    refine ⟨fun σ6 H6 => σ6 = [some (.ref a), some (.ref p), some (.int (n : Int)), some vP, some (.ref L), y5, some (tx (pgText pg)), none, none, none, none, none, none, none, none, none, none, none, none, none, none] ∧ B18 K H6 p L n vP pg, fun σ6 H6 g6 => ?_, ?_⟩
    rotate_left
    · refine ⟨_, rfl, _, rfl, n, vP, pg, rfl, g4.pgr, g4.n2, g4.n5, g4.p1, by omega, g4.ok, fun H5 s5 => ⟨_, rfl, _, _, .str (SX.S (pgText pg)), rfl, .str _, .str _, True.intro, fun H6 s6 => ⟨_, rfl, ifF rfl ⟨rfl, g4.same (s5.trans s6)⟩⟩⟩⟩
    clear g4
    obtain ⟨rfl, g6⟩ := g6
    -- told
    refine ⟨fun σ7 H7 => σ7 = [some (.ref a), some (.ref p), some (.int (n : Int)), some vP, some (.ref L), y5, some (tx (pgText pg)), none, none, none, none, none, none, none, none, none, none, none, none, none, none] ∧ B18 K H7 p L n vP pg, fun σ7 H7 g7 => ?_, ?_⟩
    rotate_left
    · refine ⟨_, rfl, _, rfl, n, pgText pg, rfl, g6.n2, g6.n5, by omega, by omega, fun H7 v s7 tv => ⟨_, rfl, v, vP, tvD (.inr (pg.map insX)), rfl, ?_, (g6.pgr.on (Same.tups s7)).dpX, tvD_ok (fun xs e => by cases e; rw [List.length_map]; omega), fun H8 s8 => ⟨_, rfl, ifF rfl ⟨rfl, g6.same (s7.trans s8)⟩⟩⟩⟩
      have e := told_pg g6.n5 g6.p1 (by omega) g6.ok
      rw [e] at tv
      exact tv.dp
    clear g6
    obtain ⟨rfl, g7⟩ := g7
    -- loose
    refine ⟨fun σ8 H8 => ∃ tl, σ8 = [some (.ref a), some (.ref p), some (.int (n : Int)), some vP, some (.ref L), y5, some (tx (pgText pg)), some (tx tl), none, none, none, none, none, none, none, none, none, none, none, none, none] ∧ B18 K H8 p L n vP pg ∧ tl.length ≤ 300 ∧ rdPg n (linesIn tl) = .inr (pg.map insX), fun σ8 H8 g8 => ?_, ?_⟩
    rotate_left
    · refine ⟨⟨_, rfl⟩, _, rfl, L, rfl, ⟨_, lstAt g7.el⟩, fun D hD => ?_⟩
      have nD : D ≠ p := Ne.symm (g7.row.ne hD)
      refine lc_list (K := K) (a := L) (xs := (pg.map insLine).map tx) (fun i H8 => But p H7 H8 ∧ Row K H8 p ∧ ∃ ks : List Nat, ks.length = i ∧ (∀ k ∈ ks, k ≤ 2) ∧ H8 D = some (.lst (((ks.zip (pg.take i)).map fun x => looseLine x.1 x.2).map tx))) ⟨But.same (same_new hD), g7.row.same (same_new hD), [], rfl, fun _ z => (nomatch z), upd_same⟩ (fun i H8 _ h' => lstAt (h'.1 _ _ g7.el g7.nL)) (fun i x H8 hx h' => ?_) (fun H8 h' => ?_)
      · obtain ⟨hB, hR, ks, lk, k2, eD⟩ := h'
        obtain ⟨ins, hi, rfl⟩ : ∃ ins, pg[i]? = some ins ∧ x = tx (insLine ins) := by
          rw [List.getElem?_map, List.getElem?_map] at hx
          cases e : pg[i]? with
          | none => rw [e] at hx; cases hx
          | some ins => rw [e] at hx; exact ⟨ins, rfl, (Option.some.inj hx).symm⟩
        have ok := g7.ok ins (List.mem_of_getElem? hi)
        have sm : smI ins := smI_of g7.n5 (by omega) ok.1 ok.2
        have li := ins_len sm
        have hil := (List.getElem?_eq_some_iff.mp hi).1
        refine ⟨rfl, _, rfl, p, 3, rfl, hR, by decide, by decide, fun kk H9 kk0 kk1 hB9 hR9 => ?_⟩
        obtain ⟨kn, rfl⟩ : ∃ kn : Nat, kk = (kn : Int) := ⟨kk.toNat, by omega⟩
        have kn2 : kn ≤ 2 := by omega
        have ll := loose_len kn2 sm
        refine ⟨kn, kn2, rfl, rfl, _, rfl, _, rfl, ?_, ?_⟩
        · rw [SX.S_len, show ("  " : Str).length = 2 from by decide +kernel]
          omega
        rw [show insLine ins = TL.joinL [32] (insParts ins) from rfl, replace_sp (by simp [insParts]) fun z hz => ⟨(parts_free ins z hz).2.1, (parts_free ins z hz).2.2.1⟩]
        unfold looseLine at ll
        rw [List.length_append, List.length_append] at ll
        refine ⟨_, _, rfl, rfl, ?_, ?_⟩
        · rw [SX.S_len, SX.S_len, sizeLine_eq]
          omega
        rw [SX.S_cat]
        refine ⟨_, _, rfl, rfl, ?_, ?_⟩
        · rw [SX.S_len, sizeLine_eq, show (" " : Str).length = 1 from by decide +kernel, List.length_append]
          omega
        rw [sp_eq, SX.S_cat]
        have eD9 := hB9 _ _ eD nD
        refine ⟨_, eD9, ?_, (hB.trans hB9).fresh hD, hR9.lst_upd eD9 (Ne.symm nD), ks ++ [kn], by rw [List.length_append, lk]; rfl, fun z hz => ?_, ?_⟩
        · rw [List.length_map, List.length_map, List.length_zip, List.length_take, sizeLine_eq]
          omega
        · rcases List.mem_append.mp hz with hz | hz
          · exact k2 z hz
          · rw [List.mem_singleton.mp hz]
            exact kn2
        · rw [upd_same, List.take_add_one, hi, Option.toList_some, List.zip_append (by rw [lk, List.length_take]; omega), List.map_append, List.map_append]
          rfl
      · obtain ⟨hB, hR, ks, lk, k2, eD⟩ := h'
        rw [List.length_map, List.length_map] at lk
        rw [List.length_map, List.length_map, List.take_length] at eD
        have b30 : ∀ y ∈ (ks.zip pg).map (fun x => looseLine x.1 x.2), y.length ≤ 30 := fun y hy => by
          obtain ⟨x, hx, rfl⟩ := List.mem_map.mp hy
          have h2 := (List.of_mem_zip hx)
          have ok := g7.ok _ h2.2
          exact loose_len (k2 _ h2.1) (smI_of g7.n5 (by omega) ok.1 ok.2)
        have lz : ((ks.zip pg).map (fun x => looseLine x.1 x.2)).length = pg.length := by
          rw [List.length_map, List.length_zip, lk]
          omega
        have s30 := sum_le _ b30
        have j30 := joinL_len (c := 10) _ b30
        rw [lz] at s30 j30
        refine ⟨_, D, ((ks.zip pg).map fun x => looseLine x.1 x.2).map SX.S, rfl, rfl, .inl (lstAt (by rw [map_SX]; exact eD)), ?_, ?_⟩
        · have h4 : ("\n" : Str).length = 1 := by decide +kernel
          rw [List.length_map, lz, h4]
          omega
        rw [join_nl]
        exact ⟨_, rfl, g7.but hB hR, by omega, told_loose g7.n5 g7.p1 lk (by omega) g7.ok⟩
    clear g7
    obtain ⟨tl2, rfl, g8, tl3, e8⟩ := g8
    refine ⟨fun σ9 H9 => σ9 = [some (.ref a), some (.ref p), some (.int (n : Int)), some vP, some (.ref L), y5, some (tx (pgText pg)), some (tx tl2), none, none, none, none, none, none, none, none, none, none, none, none, none] ∧ B18 K H9 p L n vP pg, fun σ9 H9 g9 => ?_, ?_⟩
    rotate_left
    · have hl : (linesIn tl2).length ≤ 4990 := by
        unfold linesIn
        rw [List.length_map]
        have := (cut_len 10 tl2 []).1
        omega
      refine ⟨_, rfl, _, rfl, n, tl2, rfl, g8.n2, g8.n5, by omega, hl, fun H7 v s7 tv => ⟨_, rfl, v, vP, tvD (.inr (pg.map insX)), rfl, ?_, (g8.pgr.on (Same.tups s7)).dpX, tvD_ok (fun xs e => by cases e; rw [List.length_map]; omega), fun H8 s8 => ⟨_, rfl, ifF rfl ⟨rfl, g8.same (s7.trans s8)⟩⟩⟩⟩
      rw [e8] at tv
      exact tv.dp
    clear g8 tl3 e8
    obtain ⟨rfl, g9⟩ := g9
    -- odd
    refine ⟨_, rfl, .inl ⟨(n : Int), rfl, log_int ⟨by omega, by have := g9.n5; omega⟩, by show 16 ≤ sizeLine; decide, fun O1 hO1 => ?_⟩⟩
    refine ⟨fun σ9 H9 => ∃ O os, σ9 = [some (.ref a), some (.ref p), some (.int (n : Int)), some vP, some (.ref L), y5, some (tx (pgText pg)), some (tx tl2), some (.ref O), none, none, none, none, none, none, none, none, none, none, none, none] ∧ O18 K H9 p L O n vP pg os, fun σO Ho gO => ?_, ?_⟩
    rotate_left
    · have s1 := same_new (o := .lst (litA.map V.str ++ [.str (Str.ofString (toString ((n : Nat) : Int)))] ++ litB.map V.str)) hO1
      have w1 := odd_ow g9.n5
      refine ⟨_, rfl, by show 8 ≤ sizeLine; decide, fun O2 hO2 => ?_⟩
      have s2 := same_new (o := .lst (litC.map V.str)) hO2
      refine ⟨O1, O2, _, _, rfl, rfl, s2 _ _ upd_same, upd_same, by show 16 + 8 ≤ sizeLine; decide, fun O3 hO3 => ?_⟩
      have s3 := same_new (o := .lst ((litA.map V.str ++ [.str (Str.ofString (toString ((n : Nat) : Int)))] ++ litB.map V.str) ++ litC.map V.str)) hO3
      exact ⟨O3, _, rfl, g9.same (s1.trans (s2.trans s3)), Ne.symm ((g9.same (s1.trans s2)).row.ne hO3), upd_same, rfl, w1⟩
    clear hO1 g9
    obtain ⟨O, os, rfl, gO⟩ := gO
    -- turns
    refine ⟨fun σ9 H9 => ∃ y5 y9 y10 y11 y12 y13 y14 y15 y16, σ9 = [some (.ref a), some (.ref p), some (.int (n : Int)), some vP, some (.ref L), y5, some (tx (pgText pg)), some (tx tl2), some (.ref O), y9, y10, y11, y12, y13, y14, y15, y16, none, none, none, none] ∧ O18 K H9 p L O n vP pg os, fun σT HT gT => ?_, ?_⟩
    rotate_left
    · refine ⟨5, rfl, by decide, by decide, ?_⟩
      refine for_range (lo := 0) (n := 5) (fun i σ9 H9 => ∃ y5 y9 y10 y11 y12 y13 y14 y15 y16, σ9 = [some (.ref a), some (.ref p), some (.int (n : Int)), some vP, some (.ref L), y5, some (tx (pgText pg)), some (tx tl2), some (.ref O), y9, y10, y11, y12, y13, y14, y15, y16, none, none, none, none] ∧ O18 K H9 p L O n vP pg os) ⟨y5, none, none, none, none, none, none, none, none, rfl, gO⟩ (fun i σ9 H9 hi h' => ?_) (fun σ9 H9 h' => h')
      clear gO y5
      obtain ⟨y5, y9, y10, y11, y12, y13, y14, y15, y16, rfl, gO⟩ := h'
      refine ⟨_, rfl, L, _, rfl, .inl (lstAt gO.el), fun Bn hBn => ?_⟩
      have gB := gO.same (same_new (o := .lst ((pg.map insLine).map tx)) hBn)
      have nB : Bn ≠ p := Ne.symm (gO.row.ne hBn)
      have eB : (upd H9 Bn (.lst ((pg.map insLine).map tx))) Bn = some (.lst ((pg.map insLine).map tx)) := upd_same
      generalize (upd H9 Bn (.lst ((pg.map insLine).map tx))) = HB at *
      clear hBn gO
      refine ⟨fun σ9 H9 => ∃ Bn bent y5 y11 y12 y13 y14 y15, σ9 = [some (.ref a), some (.ref p), some (.int (n : Int)), some vP, some (.ref L), y5, some (tx (pgText pg)), some (tx tl2), some (.ref O), some (.int (0 + (i : Int))), some (.ref Bn), y11, y12, y13, y14, y15, y16, none, none, none, none] ∧ O18 K H9 p L O n vP pg os ∧ Bn ≠ p ∧ H9 Bn = some (.lst (bent.map tx)) ∧ BT bent pg.length (18 * pg.length + 28), fun σC HC gC => ?_, ?_⟩
      rotate_left
      · refine ⟨_, rfl, p, 2, rfl, gB.row, by decide, by decide, fun k H5 k0 k1 hB5 hR5 => ⟨1, k, rfl, rfl, (1 + k), rfl, by omega, by omega, ?_⟩⟩
        obtain ⟨m, hm⟩ : ∃ m, m = (1 + k).toNat := ⟨_, rfl⟩
        rw [← hm]
        have m2 : m ≤ 2 := by omega
        refine for_range (lo := 0) (n := m) (fun j σ9 H9 => ∃ Bn bent y5 y11 y12 y13 y14 y15, σ9 = [some (.ref a), some (.ref p), some (.int (n : Int)), some vP, some (.ref L), y5, some (tx (pgText pg)), some (tx tl2), some (.ref O), some (.int (0 + (i : Int))), some (.ref Bn), y11, y12, y13, y14, y15, y16, none, none, none, none] ∧ O18 K H9 p L O n vP pg os ∧ Bn ≠ p ∧ H9 Bn = some (.lst (bent.map tx)) ∧ BT bent pg.length (18 * pg.length + 14 * j)) ⟨Bn, pg.map insLine, y5, y11, y12, y13, y14, y15, rfl, gB.but hB5 hR5, nB, hB5 _ _ eB nB, BT.start fun i hi => smI_of gB.n5 (by omega) (gB.ok i hi).1 (gB.ok i hi).2⟩ (fun j σ9 H9 hj h' => ?_) (fun σ9 H9 h' => ?_)
        · clear eB nB gB hB5 hR5
          obtain ⟨Bn, bent, y5, y11, y12, y13, y14, y15, rfl, g, nB, eB, bt⟩ := h'
          have lb := bt.many
          have tot := bt.sum
          -- at
          refine ⟨_, rfl, _, rfl, Bn, _, rfl, .inl (lstAt eB), p, _, rfl, g.row, by rw [List.length_map]; omega, by rw [List.length_map]; omega, fun ka H6 ka0 ka1 hB6 hR6 => ?_⟩
          rw [List.length_map] at ka1
          obtain ⟨an, rfl⟩ : ∃ an : Nat, ka = (an : Int) := ⟨ka.toNat, by omega⟩
          obtain ⟨l, hl⟩ : ∃ l, bent[an]? = some l := ⟨_, List.getElem?_eq_getElem (by omega)⟩
          have g6 := g.but hB6 hR6
          have eB6 := hB6 _ _ eB nB
          have ll : l.length ≤ 18 * pg.length + 14 * j := by
            have h1 := split_at hl
            have h2 := congrArg (fun b : List (List Nat) => (b.map List.length).sum) h1
            simp only [List.map_append, List.sum_append, List.map_cons, List.map_nil, List.sum_cons, List.sum_nil] at h2
            omega
          -- words
          refine ⟨_, rfl, _, rfl, Bn, _, _, _, rfl, rfl, lstAt eB6, atI_nat (by rw [List.getElem?_map, hl]; rfl), ⟨_, rfl⟩, _, _, rfl, rfl, rfl, by rw [SX.S_len, sizeLine_eq]; omega, fun W hW => ?_⟩
          rw [split_sp, map_SX]
          have g7 := g6.same (same_new (o := .lst ((TL.spl [32] 0 [] l).map tx)) hW)
          have eB7 := same_new (o := .lst ((TL.spl [32] 0 [] l).map tx)) hW _ _ eB6
          have nW : W ≠ p := Ne.symm (g6.row.ne hW)
          have eW : (upd H6 W (.lst ((TL.spl [32] 0 [] l).map tx))) W = some (.lst ((TL.spl [32] 0 [] l).map tx)) := upd_same
          generalize (upd H6 W (.lst ((TL.spl [32] 0 [] l).map tx))) = H7 at *
          have lw := (cut_len 32 l []).1
          have hb := fun {ns} (h : Bent (TL.spl [32] 0 [] l) ns) => bt.change hl h
          have hz := fun {ns} (h : Bent (TL.spl [32] 0 [] l) ns) => h.sz
          generalize TL.spl [32] 0 [] l = ws at *
          clear g6 eB6 hB6 hR6 hW eB g ka0 ka1
          -- spot, word
          refine ⟨fun σ9 H9 => ∃ (s : Nat) (w : List Nat), σ9 = [some (.ref a), some (.ref p), some (.int (n : Int)), some vP, some (.ref L), some (tx w), some (tx (pgText pg)), some (tx tl2), some (.ref O), some (.int (0 + (i : Int))), some (.ref Bn), some (.int (0 + (j : Int))), some (.int (an : Int)), some (.ref W), some (.int (s : Int)), y15, y16, none, none, none, none] ∧ O18 K H9 p L O n vP pg os ∧ H9 Bn = some (.lst (bent.map tx)) ∧ H9 W = some (.lst (ws.map tx)) ∧ w.length ≤ 12 ∧ plain w = true, fun σ8 H8 g8 => ?_, ?_⟩
          rotate_left
          · refine ⟨_, rfl, _, rfl, W, _, rfl, .inl (lstAt eW), _, _, rfl, rfl, p, _, rfl, g7.row, by rw [List.length_map]; omega, by rw [List.length_map]; omega, fun ks H8 ks0 ks1 hB8 hR8 => ?_⟩
            have g8 := g7.but hB8 hR8
            refine ⟨_, rfl, _, rfl, p, O, os, rfl, hR8, g8.eo, g8.nO, by rw [g8.o24]; decide, by rw [g8.o24]; decide, fun io x H9 hx hB9 hR9 => ⟨_, _, rfl, ?_⟩⟩
            obtain ⟨w, rfl, w12, wp⟩ := g8.ow x (List.mem_of_getElem? hx)
            obtain ⟨s, rfl⟩ : ∃ s : Nat, ks = (s : Int) := ⟨ks.toNat, by omega⟩
            exact ⟨s, w, rfl, g8.but hB9 hR9, hB9 _ _ (hB8 _ _ eB7 nB) nB, hB9 _ _ (hB8 _ _ eW nW) nW, w12, wp⟩
          clear g7 eB7 eW
          obtain ⟨s, w, rfl, g8, eB8, eW8, w12, wp⟩ := g8
          have few : (ws.map tx).length ≤ 1000 := by rw [List.length_map]; omega
          have dat : ∀ (s t : Nat) (ns : List (List Nat)), ns = ws.take s ++ [w] ++ ws.drop t → (ws.map tx).take s ++ [tx w] ++ (ws.map tx).drop t = ns.map tx := fun s t ns e => by
            rw [e]
            simp only [List.map_append, List.map_take, List.map_drop, List.map_cons, List.map_nil]
          -- some
          refine ⟨fun σ9 H9 => ∃ SM vals, σ9 = [some (.ref a), some (.ref p), some (.int (n : Int)), some vP, some (.ref L), some (tx w), some (tx (pgText pg)), some (tx tl2), some (.ref O), some (.int (0 + (i : Int))), some (.ref Bn), some (.int (0 + (j : Int))), some (.int (an : Int)), some (.ref W), some (.int (s : Int)), some (.ref SM), y16, none, none, none, none] ∧ O18 K H9 p L O n vP pg os ∧ H9 Bn = some (.lst (bent.map tx)) ∧ SM ≠ p ∧ H9 SM = some (.lst vals) ∧ vals.length = 3 ∧ (∀ c us, H8 c = some us → c ≠ SM) ∧ ∀ x ∈ vals, ∃ ns, (∃ D, x = .ref D ∧ D ≠ p ∧ D ≠ SM ∧ H9 D = some (.lst (ns.map tx))) ∧ Bent ws ns, fun σ9 H9 g9 => ?_, ?_⟩
          rotate_left
          · obtain ⟨op, ep⟩ := g8.row.lst
            refine cat3 (s := s) (t := s) (fun v H' => v = tx w ∧ Row K H' p) rfl eW8 few nW ⟨_, ep⟩ (fun _ _ h => ⟨_, rfl, h⟩) (fun _ _ h => ⟨_, rfl, h⟩) (fun H1 k s1 h => ⟨_, rfl, h _ _ (But.refl _ _) ⟨rfl, g8.row.same s1⟩⟩) fun v HA1 HA D1 bA gA sA nA eA => ?_
            obtain ⟨rfl, rA⟩ := gA
            have g9 := (g8.but bA rA).same sA
            have eWA := sA _ _ (bA _ _ eW8 nW)
            have eBA := sA _ _ (bA _ _ eB8 nB)
            obtain ⟨opA, epA⟩ := g9.row.lst
            have nD1 : D1 ≠ p := Ne.symm (rA.ne nA)
            have u1 : ∀ c us, H8 c = some us → c ≠ D1 := fun c us e z => by
              by_cases cp : c = p
              · exact nD1 (z ▸ cp)
              · rw [← z, bA _ _ e cp] at nA
                cases nA
            refine cat3 (s := s) (t := s + 1) (fun v H' => v = tx w ∧ Row K H' p) rfl eWA few nW ⟨_, epA⟩ (fun _ _ h => ⟨_, rfl, h⟩) (fun _ _ h => ⟨_, rfl, _, _, rfl, rfl, h⟩) (fun H1 k s1 h => ⟨_, rfl, h _ _ (But.refl _ _) ⟨rfl, g9.row.same s1⟩⟩) fun v HC1 HC D2 bC gC sC nC eC => ?_
            obtain ⟨rfl, rC⟩ := gC
            have gX := (g9.but bC rC).same sC
            have eWC := sC _ _ (bC _ _ eWA nW)
            have eBC := sC _ _ (bC _ _ eBA nB)
            have e1C := sC _ _ (bC _ _ eA nD1)
            have nD2 : D2 ≠ p := Ne.symm (rC.ne nC)
            refine ⟨_, rfl, 1, rfl, W, _, rfl, lstAt eWC, fun D3 hD3 => ⟨by show 3 ≤ sizeLine; decide, fun SM hSM => ?_⟩⟩
            have sD := same_new (o := .lst (cutV (ws.map tx) (some 1) none)) hD3
            have sM := same_new (o := .lst [.ref D1, .ref D2, .ref D3]) hSM
            have sDM := sD.trans sM
            refine ⟨SM, _, rfl, gX.same sDM, sDM _ _ eBC, Ne.symm ((gX.same sD).row.ne hSM), upd_same, rfl, fun c us e z => ?_, fun x hx => ?_⟩
            · by_cases cp : c = p
              · exact (gX.same sD).row.ne hSM (cp.symm.trans z)
              · have := sD _ _ (sC _ _ (bC _ _ (sA _ _ (bA _ _ e cp)) cp))
                rw [z, hSM] at this
                cases this
            · simp only [List.mem_cons, List.not_mem_nil, or_false] at hx
              have neM : ∀ {D o}, (upd HC D3 (.lst (cutV (ws.map tx) (some 1) none))) D = some o → D ≠ SM := fun e z => by
                rw [z, hSM] at e
                cases e
              rcases hx with rfl | rfl | rfl
              · refine ⟨ws.take s ++ [w] ++ ws.drop s, ⟨D1, rfl, nD1, neM (sD _ _ e1C), ?_⟩, .put s w12 wp⟩
                rw [sDM _ _ e1C, dat s s _ rfl]
              · refine ⟨ws.take s ++ [w] ++ ws.drop (s + 1), ⟨D2, rfl, nD2, neM (sD _ _ eC), ?_⟩, .set s w12 wp⟩
                rw [sDM _ _ eC, dat s (s + 1) _ rfl]
              · refine ⟨ws.drop 1, ⟨D3, rfl, Ne.symm (gX.row.ne hD3), neM upd_same, ?_⟩, .tail⟩
                rw [sM _ _ upd_same, show cutV (ws.map tx) (some 1) none = (ws.map tx).drop 1 from cut_from _ 1, List.map_drop]
          clear eW8 dat few
          obtain ⟨SM, vals, rfl, g9, eB9, nSM, eSM, l3, uSM, hv⟩ := g9
          -- some.append([])
          refine ⟨fun σ9 H9 => ∃ vals, σ9 = [some (.ref a), some (.ref p), some (.int (n : Int)), some vP, some (.ref L), some (tx w), some (tx (pgText pg)), some (tx tl2), some (.ref O), some (.int (0 + (i : Int))), some (.ref Bn), some (.int (0 + (j : Int))), some (.int (an : Int)), some (.ref W), some (.int (s : Int)), some (.ref SM), y16, none, none, none, none] ∧ O18 K H9 p L O n vP pg os ∧ H9 Bn = some (.lst (bent.map tx)) ∧ H9 SM = some (.lst vals) ∧ vals.length = 4 ∧ ∀ x ∈ vals, ∃ ns, (∃ D, x = .ref D ∧ D ≠ p ∧ H9 D = some (.lst (ns.map tx))) ∧ Bent ws ns, fun σX HX gX => ?_, ?_⟩
          rotate_left
          · refine ⟨_, rfl, .inl ⟨rfl, _, lstAt eSM⟩, Nat.zero_le _, fun Em hEm => ⟨SM, _, _, rfl, rfl, same_new hEm _ _ eSM, by rw [l3, sizeLine_eq]; decide, ?_⟩⟩
            have sE := same_new (o := .lst []) hEm
            have gE := g9.same sE
            have nEm : Em ≠ p := Ne.symm (g9.row.ne hEm)
            have nES : Em ≠ SM := fun z => by rw [z, eSM] at hEm; cases hEm
            have kp : ∀ {c : Addr} {o o' : HO}, (upd H9 Em (.lst [])) c = some o → c ≠ SM → (upd (upd H9 Em (.lst [])) SM o') c = some o := fun {c o o'} e z => by
              rw [upd_ne z]
              exact e
            have bS : But SM (upd H9 Em (.lst [])) (upd (upd H9 Em (.lst [])) SM (.lst (vals ++ [.ref Em]))) := fun c o e z => kp e z
            have eS1 := sE _ _ eSM
            refine ⟨vals ++ [.ref Em], rfl, ⟨⟨⟨gE.row.lst_upd eS1 (Ne.symm nSM), gE.pgr.on (Fix.lst eS1).tups, gE.n2, gE.n5, gE.p1, gE.p9, gE.ok⟩, gE.nL, kp gE.el (uSM _ _ g8.el)⟩, gE.nO, kp gE.eo (uSM _ _ g8.eo), gE.o24, gE.ow⟩, kp (sE _ _ eB9) (uSM _ _ eB8), upd_same, by rw [List.length_append, l3]; rfl, fun x hx => ?_⟩
            rcases List.mem_append.mp hx with hx | hx
            · obtain ⟨ns, ⟨D, rfl, n1, n2, e⟩, b⟩ := hv x hx
              exact ⟨ns, ⟨D, rfl, n1, kp (sE _ _ e) n2⟩, b⟩
            · rw [List.mem_singleton.mp hx]
              exact ⟨[], ⟨Em, rfl, nEm, kp upd_same nES⟩, .nil⟩
          clear g9 eB9 eSM l3 uSM hv g8 eB8
          obtain ⟨vals, rfl, gX, eBX, eSX, l4, hv⟩ := gX
          -- bent
          obtain ⟨opX, epX⟩ := gX.row.lst
          refine cat3 (s := an) (t := an + 1) (fun v H' => ∃ ns, v = tx (TL.joinL [32] ns) ∧ Bent ws ns ∧ Row K H' p) rfl eBX (by rw [List.length_map]; omega) nB ⟨_, epX⟩ (fun _ _ h => ⟨_, rfl, h⟩) (fun _ _ h => ⟨_, rfl, _, _, rfl, rfl, h⟩) (fun H1 k s1 h => ⟨⟨_, rfl⟩, _, rfl, _, rfl, p, SM, vals, rfl, gX.row.same s1, s1 _ _ eSX, nSM, by omega, by omega, fun ix x H2 hx hB hR => ?_⟩) fun v HA1 HA D1 bA gA sA nA eA => ?_
          · obtain ⟨ns, ⟨D, rfl, nD, eD⟩, b⟩ := hv x (List.mem_of_getElem? hx)
            have sz := hz b
            refine ⟨_, D, ns.map SX.S, rfl, rfl, .inl (lstAt (by rw [map_SX]; exact hB _ _ (s1 _ _ eD) nD)), ?_, ?_⟩
            · have h4 : (" " : Str).length = 1 := by decide +kernel
              rw [sum_S, List.length_map, h4]
              omega
            rw [join_sp]
            exact h _ _ hB ⟨ns, rfl, b, hR⟩
          · obtain ⟨ns, rfl, b, rA⟩ := gA
            refine ⟨D1, _, _, _, _, _, _, _, rfl, (gX.but bA rA).same sA, Ne.symm (rA.ne nA), ?_, (hb b).mono (by omega)⟩
            rw [eA]
            simp only [List.map_append, List.map_take, List.map_drop, List.map_cons, List.map_nil]
        · obtain ⟨Bn, bent, y5, y11, y12, y13, y14, y15, rfl, g, nB, eB, bt⟩ := h'
          exact ⟨Bn, bent, y5, y11, y12, y13, y14, y15, rfl, g, nB, eB, bt.mono (by omega)⟩
      clear eB nB gB
      obtain ⟨Bn, bent, y5, y11, y12, y13, y14, y15, rfl, g, nB, eB, bt⟩ := gC
      -- told
      have tb := bt.text (by omega)
      have tm := bt.many
      have ts := bt.sum
      refine ⟨⟨_, rfl⟩, _, rfl, _, Bn, bent.map SX.S, rfl, rfl, .inl (lstAt (by rw [map_SX]; exact eB)), ?_, ?_⟩
      · have h4 : ("\n" : Str).length = 1 := by decide +kernel
        rw [sum_S, List.length_map, h4]
        omega
      rw [join_nl]
      refine ⟨_, rfl, _, rfl, n, TL.joinL [10] bent, rfl, g.n2, g.n5, by omega, by omega, fun H7 v s7 tv => ?_⟩
      refine ⟨_, rfl, _, rfl, n, TL.joinL [10] bent, rfl, g.n2, g.n5, by omega, tb.2.1, by omega, fun H8 u s8 tu => ?_⟩
      refine ⟨v, u, _, rfl, (tv.on s8).dp, tu.dp, tvD_ok (fun xs e => by rw [rdPg_len e]; omega), fun H10 s10 => ⟨_, rfl, ifF rfl ?_⟩⟩
      exact ⟨_, _, _, _, _, _, _, _, _, rfl, g.same (s7.trans (s8.trans s10))⟩
    clear gO y5
    obtain ⟨y5, y9, y10, y11, y12, y13, y14, y15, y16, rfl, gT⟩ := gT
    -- great
    refine ⟨fun σ9 H9 => ∃ m, σ9 = [some (.ref a), some (.ref p), some (.int (n : Int)), some vP, some (.ref L), y5, some (tx (pgText pg)), some (tx tl2), some (.ref O), y9, y10, y11, y12, y13, y14, y15, y16, some (tx (TL.joinL [10] (List.replicate m sayL))), none, none, none] ∧ (m = 4000 ∨ m = 4001) ∧ 2 ≤ n ∧ n ≤ 5, fun σG HG gG => ?_, ?_⟩
    rotate_left
    · refine ⟨⟨_, rfl⟩, by show 1 ≤ sizeLine; decide, fun l hl => ?_⟩
      have sl := same_new (o := .lst [.str "say"]) hl
      have nl : l ≠ p := Ne.symm (gT.row.ne hl)
      refine ⟨_, rfl, p, 2, rfl, gT.row.same sl, by decide, by decide, fun k H5 k0 k1 hB5 hR5 => ⟨4000, k, rfl, rfl, l, (4000 + k), _, rfl, rfl, hB5 _ _ upd_same nl, by omega, by omega, ?_, fun q1 hq1 => ?_⟩⟩
      · rw [sizeLine_eq]
        show 1 * _ ≤ _
        omega
      generalize hm : (4000 + k).toNat = m
      have m1 : m = 4000 ∨ m = 4001 := by omega
      rw [rep_flat]
      have e1 : (upd H5 q1 (.lst (List.replicate m (.str "say")))) q1 = some (.lst (List.replicate m (.str "say"))) := upd_same
      refine ⟨_, q1, (List.replicate m sayL).map SX.S, rfl, rfl, .inl (lstAt (by rw [List.map_replicate, List.map_replicate, say_cod]; exact e1)), ?_, ?_⟩
      · have h4 : ("\n" : Str).length = 1 := by decide +kernel
        rw [sum_S, List.length_map, List.length_replicate, h4, List.map_replicate, List.sum_replicate_nat]
        show m * 3 + _ ≤ _
        omega
      rw [join_nl]
      exact ⟨m, rfl, m1, gT.n2, gT.n5⟩
    clear gT
    obtain ⟨m, rfl, m1, n2, n5⟩ := gG
    have gl := great_len m (by omega)
    have gt := great_told (n := n) (m := m) (by omega)
    have gn : (linesIn (TL.joinL [10] (List.replicate m sayL))).length = m := by rw [great_lines m (by omega), List.length_replicate]
    have gc : Txt.count (SX.S (TL.joinL [10] (List.replicate m sayL))) ("\n" : Str) = (m : Int) - 1 := by
      rw [count_nl (by rcases m1 with rfl | rfl <;> simp [List.replicate_succ]) (fun y hy => by rw [List.eq_of_mem_replicate hy]; decide) ?_, List.length_replicate]
      intro z
      have h := congrArg (fun t => (linesIn t).length) z
      simp only [gn] at h
      have h2 : (linesIn []).length = 1 := rfl
      omega
    generalize TL.joinL [10] (List.replicate m sayL) = T at *
    -- found
    refine ⟨fun σ9 H9 => ∃ v, σ9 = [some (.ref a), some (.ref p), some (.int (n : Int)), some vP, some (.ref L), y5, some (tx (pgText pg)), some (tx tl2), some (.ref O), y9, y10, y11, y12, y13, y14, y15, y16, some (tx T), some v, none, none] ∧ TV K H9 v (rdPg n (linesIn T)), fun σG HG gG => ?_, ?_⟩
    rotate_left
    · exact ⟨_, rfl, _, rfl, n, T, rfl, n2, n5, by omega, by omega, fun H5 v s5 tv => ⟨v, rfl, tv⟩⟩
    obtain ⟨v, rfl, tv⟩ := gG
    rw [gt] at tv
    refine ⟨_, rfl, rfl, _, _, rfl, rfl, rfl, _, rfl, ?_⟩
    rw [gc]
    rcases m1 with rfl | rfl
    · refine ifT (by decide) ?_
      rw [if_neg (by decide)] at tv
      obtain ⟨b, us, rfl, hS, hE⟩ := tv
      have lu := hE.len
      rw [List.length_replicate] at lu
      refine ⟨_, rfl, b, _, rfl, .inr hS, ?_⟩
      rw [lu]
      exact ⟨rfl, q _⟩
    · refine ifF (by decide) ?_
      rw [if_pos (by decide)] at tv
      obtain ⟨b, rfl, eb⟩ := tv
      refine ⟨_, rfl, by show 2 ≤ sizeLine; decide, fun l2 hl2 => ?_⟩
      have s2 := same_new (o := .lst [.int 4001, .int 1]) hl2
      exact ⟨_, _, dp_lst (ns := [4001, 1]) (lstAt (s2 _ _ eb)), dp_lst (ns := [4001, 1]) (lstAt upd_same), PySem.W.ke_shaped_ints _, PySem.W.ke_shaped_ints _, by rw [eqv_lst]; exact q _⟩
end
end RH
set_option Elab.async false
set_option linter.all false
set_option maxRecDepth 100000
set_option maxHeartbeats 2000000
set_option Elab.async false
set_option linter.all false
set_option maxRecDepth 100000
set_option maxHeartbeats 2000000
namespace RH
open PySem PySem.Spec PyProof.Rows L2
theorem alike_cases {K : PySem.W.Frag} {H : Hp} {k : Nat} {v u : V} {d : PyData} (hv : Dp K H v d) (hu : Dp K H u d) (hk : okD (k + 1) d) : okD 0 d ∨ ∃ (a b : Addr) (xs ys : List V) (ds : List PyData) (T : String) (bl : Bool), v = .ref a ∧ u = .ref b ∧
    (∀ H', Same H H' → Sq2 K H' a xs T bl) ∧ (∀ H', Same H H' → Sq2 K H' b ys T bl) ∧ DpAll K H xs ds ∧ DpAll K H ys ds ∧ ds.length ≤ 1000 ∧ ∀ d ∈ ds, okD k d := by
  cases hv with
  | non => exact .inl True.intro
  | bl _ => exact .inl True.intro
  | int _ => exact .inl True.intro
  | str _ => exact .inl True.intro
  | @lst a xs ds h1 h2 =>
    cases hu with
    | @lst b ys _ h3 h4 => exact .inr ⟨a, b, xs, ys, ds, "list", true, rfl, rfl, fun _ s => sq2L (s.seq h1), fun _ s => sq2L (s.seq h3), h2, h4, hk.1, hk.2⟩
  | @tup a xs ds h1 h2 =>
    cases hu with
    | @tup b ys _ h3 h4 => exact .inr ⟨a, b, xs, ys, ds, "tuple", false, rfl, rfl, fun _ s => sq2T (onT s h1), fun _ s => sq2T (onT s h3), h2, h4, hk.1, hk.2⟩
section
variable {P : Program} {w : World} {K : PySem.W.Frag} {mg : Str → Option Value} {base : Heap}
theorem ok_alikeS (k : Nat) (F : Df K mg "_law_alike" st__law_alike ["found", "due"]) (B : Bu mg) (C : Cal P w K mg base (k + 1) "_law_alike" (spAlike K k)) : Cal P w K mg base (k + 2) "_law_alike" (spAlike K (k + 1)) := by
  refine mkCal F sc__law_alike (fun vs H Q E h => ?_) (fun f cdv A outer s H vs Q E hr h => ?_)
  · obtain ⟨v, u, d, rfl, _⟩ := h
    rfl
  · obtain ⟨v, u, d, rfl, hv, hu, hk, q⟩ := h
    refine ⟨_, pss_cons (ps_if (pt_val (pe_callB call_isiT (by rfl) B.isi (by decide +kernel) (pa_cons (pv 1) (pa_cons (pe_tup (pa_cons (pe_bltn (v := .ty "tuple") (by rfl) B.tuple (by decide +kernel) rfl) (pa_cons (pe_bltn (v := .ty "list") (by rfl) B.list (by decide +kernel) rfl) pa_nil))) pa_nil))))
        (pss_cons (ps_if (PW.pt (pw_or (pt_not (pt_val (pe_callB call_isiT (by rfl) B.isi (by decide +kernel) (pa_cons (pv 0) (pa_cons (pe_tup (pa_cons (pe_bltn (v := .ty "tuple") (by rfl) B.tuple (by decide +kernel) rfl) (pa_cons (pe_bltn (v := .ty "list") (by rfl) B.list (by decide +kernel) rfl) pa_nil))) pa_nil)))))
            (pw_or1 (pt_cmpR op_ne (pe_callB call_isi (by rfl) B.isi (by decide +kernel) (pa_cons (pv 0) (pa_cons (pe_bltn (v := .ty "list") (by rfl) B.list (by decide +kernel) rfl) pa_nil)))
              (pe_callB call_isi (by rfl) B.isi (by decide +kernel) (pa_cons (pv 1) (pa_cons (pe_bltn (v := .ty "list") (by rfl) B.list (by decide +kernel) rfl) pa_nil))) (nomark _))))) (pss_one (ps_ret pe_bl)) pss_nil)
        (pss_cons (ps_if (pt_cmpR op_ne (pe_callB (cl_len K) (by rfl) B.len PySem.boot_len (pa_cons (pv 0) pa_nil)) (pe_callB (cl_len K) (by rfl) B.len PySem.boot_len (pa_cons (pv 1) pa_nil)) (nomark _)) (pss_one (ps_ret pe_bl)) pss_nil)
        (pss_one (ps_ret (pe_cmpR (op_eqD hr.units) (pe_lc (own := [("k", 2)]) (g := gName 2) rfl sc__law_alike.nd (pi_range1 (by rfl) B.range (pa_cons (pe_callB (cl_len K) (by rfl) B.len PySem.boot_len (pa_cons (pv 1) pa_nil)) pa_nil))
          (blkOk_by (N := ["found", "due", "k"]) (sc := defScope st__law_alike) (by decide +kernel)) (fun _ _ _ _ _ => pg_name (i := 2) sc__law_alike.nd rfl (Or.inl rfl))
          (fun _ _ _ _ _ => pts_one (pt_not (pt_val (pc C hr (pa_cons (pe_ix (ixS K) (pv 0) (pv 2) (fun _ _ => rfl)) (pa_cons (pe_ix (ixS K) (pv 1) (pv 2) (fun _ _ => rfl)) pa_nil)) (hk := Nat.le_refl _))))) (fun _ _ _ _ _ => pv 2)) (pe_lst pa_nil) (nomark _)))))) pss_nil)
      (pss_cons (ps_if (PW.pt (pw_or (pt_cmp (pc_isN (pv 1))) (pw_or1 (pt_val (pe_callB call_isi (by rfl) B.isi (by decide +kernel) (pa_cons (pv 1) (pa_cons (pe_bltn (v := .ty "str") (by rfl) B.str (by decide +kernel) rfl) pa_nil)))))))
        (pss_one (ps_ret (pe_and (pe_cmpR op_eq (pv 0) (pv 1) (nomark _)) (pe_one (pe_cmpR op_eq (pe_callB call_isi (by rfl) B.isi (by decide +kernel) (pa_cons (pv 0) (pa_cons (pe_bltn (v := .ty "str") (by rfl) B.str (by decide +kernel) rfl) pa_nil)))
          (pe_callB call_isi (by rfl) B.isi (by decide +kernel) (pa_cons (pv 1) (pa_cons (pe_bltn (v := .ty "str") (by rfl) B.str (by decide +kernel) rfl) pa_nil))) (nomark _)))))) pss_nil)
      (pss_one (ps_ret (pe_and (pe_callB call_isi (by rfl) B.isi (by decide +kernel) (pa_cons (pv 0) (pa_cons (pe_bltn (v := .ty "int") (by rfl) B.int (by decide +kernel) rfl) pa_nil)))
        (pe_and (pe_cmpR op_eq (pe_callB call_isi (by rfl) B.isi (by decide +kernel) (pa_cons (pv 0) (pa_cons (pe_bltn (v := .ty "bool") (by rfl) B.bool (by decide +kernel) rfl) pa_nil)))
          (pe_callB call_isi (by rfl) B.isi (by decide +kernel) (pa_cons (pv 1) (pa_cons (pe_bltn (v := .ty "bool") (by rfl) B.bool (by decide +kernel) rfl) pa_nil))) (nomark _)) (pe_one (pe_cmpR op_eq (pv 0) (pv 1) (nomark _)))))))), ?_⟩
    rcases alike_cases hv hu hk with hk0 | ⟨a, b, xs, ys, ds, T, bl, rfl, rfl, ha, hb, hx, hy, hl, hd⟩
    · clear hk
      cases hv with
      | non =>
        cases hu
        refine ⟨_, rfl, (by show 2 ≤ sizeLine; decide), fun t ht => ⟨.non, t, _, _, _, false, rfl, upd_same, cls2, .base .non, kit2 (b1 := false) (b2 := false) (by decide +kernel) (by decide +kernel), _, rfl, ifF rfl ?_⟩⟩
        refine ⟨_, rfl, _, rfl, ifT (decide_eq_true rfl) (ifT rfl ?_)⟩
        exact ⟨_, rfl, _, rfl, rfl, _, rfl, ifT (decide_eq_true rfl) ⟨_, rfl, .non, .ty "str", _, _, false, rfl, .ty "str", .base .non, kit_ty (by decide +kernel), _, rfl, .non, .ty "str", _, _, false, rfl, .ty "str", .base .non, kit_ty (by decide +kernel), rfl, q _ (same_new ht)⟩⟩
      | bl b =>
        cases hu
        refine ⟨_, rfl, (by show 2 ≤ sizeLine; decide), fun t ht => ⟨.bl b, t, _, _, _, false, rfl, upd_same, cls2, .base (.bl b), kit2 (b1 := false) (b2 := false) (by decide +kernel) (by decide +kernel), _, rfl, ifF rfl ?_⟩⟩
        refine ⟨_, rfl, _, rfl, ifF (decide_eq_false (fun z => nomatch z)) ⟨_, rfl, .bl b, .ty "str", _, _, false, rfl, .ty "str", .base (.bl b), kit_ty (by decide +kernel), _, rfl, ifF rfl ?_⟩⟩
        refine ⟨_, rfl, .bl b, .ty "int", _, _, true, rfl, .ty "int", .base (.bl b), kit_ty (by decide +kernel), _, rfl, ifT rfl ?_⟩
        refine ⟨_, rfl, .bl b, .ty "bool", _, _, true, rfl, .ty "bool", .base (.bl b), kit_ty (by decide +kernel), _, rfl, .bl b, .ty "bool", _, _, true, rfl, .ty "bool", .base (.bl b), kit_ty (by decide +kernel), rfl, _, rfl, ifT (decide_eq_true rfl) ?_⟩
        refine ⟨_, rfl, _, rfl, rfl, ?_⟩
        rw [decide_eq_true (rfl : V.bl b = V.bl b)]
        exact q _ (same_new ht)
      | int i =>
        cases hu
        refine ⟨_, rfl, (by show 2 ≤ sizeLine; decide), fun t ht => ⟨.int i, t, _, _, _, false, rfl, upd_same, cls2, .base (.int i), kit2 (b1 := false) (b2 := false) (by decide +kernel) (by decide +kernel), _, rfl, ifF rfl ?_⟩⟩
        refine ⟨_, rfl, _, rfl, ifF (decide_eq_false (fun z => nomatch z)) ⟨_, rfl, .int i, .ty "str", _, _, false, rfl, .ty "str", .base (.int i), kit_ty (by decide +kernel), _, rfl, ifF rfl ?_⟩⟩
        refine ⟨_, rfl, .int i, .ty "int", _, _, true, rfl, .ty "int", .base (.int i), kit_ty (by decide +kernel), _, rfl, ifT rfl ?_⟩
        refine ⟨_, rfl, .int i, .ty "bool", _, _, false, rfl, .ty "bool", .base (.int i), kit_ty (by decide +kernel), _, rfl, .int i, .ty "bool", _, _, false, rfl, .ty "bool", .base (.int i), kit_ty (by decide +kernel), rfl, _, rfl, ifT (decide_eq_true rfl) ?_⟩
        refine ⟨_, rfl, _, rfl, rfl, ?_⟩
        rw [decide_eq_true (rfl : V.int i = V.int i)]
        exact q _ (same_new ht)
      | str x =>
        cases hu
        refine ⟨_, rfl, (by show 2 ≤ sizeLine; decide), fun t ht => ⟨.str x, t, _, _, _, false, rfl, upd_same, cls2, .base (.str x), kit2 (b1 := false) (b2 := false) (by decide +kernel) (by decide +kernel), _, rfl, ifF rfl ?_⟩⟩
        refine ⟨_, rfl, _, rfl, ifF (decide_eq_false (fun z => nomatch z)) ⟨_, rfl, .str x, .ty "str", _, _, true, rfl, .ty "str", .base (.str x), kit_ty (by decide +kernel), _, rfl, ifT rfl ?_⟩⟩
        exact ⟨_, rfl, _, rfl, rfl, _, rfl, ifT (decide_eq_true rfl) ⟨_, rfl, .str x, .ty "str", _, _, true, rfl, .ty "str", .base (.str x), kit_ty (by decide +kernel), _, rfl, .str x, .ty "str", _, _, true, rfl, .ty "str", .base (.str x), kit_ty (by decide +kernel), rfl, q _ (same_new ht)⟩⟩
      | lst _ _ => exact hk0.elim
      | tup _ _ => exact hk0.elim
    · have lx : xs.length = ds.length := DpAll.len hx
      have ly : ys.length = ds.length := DpAll.len hy
      refine ⟨_, rfl, (by show 2 ≤ sizeLine; decide), fun t ht => ?_⟩
      have s1 : Same H (upd H t (.tup [.ty "tuple", .ty "list"])) := same_new ht
      have b1 := hb _ s1
      refine ⟨.ref b, t, _, _, _, true, rfl, upd_same, cls2, b1.ty, b1.k1, _, rfl, ifT rfl ?_⟩
      refine ⟨_, rfl, (by show 2 ≤ sizeLine; decide), fun t2 ht2 => ?_⟩
      have s2 := s1.trans (same_new (o := .tup [.ty "tuple", .ty "list"]) ht2)
      have a2 := ha _ s2
      have b2 := hb _ s2
      refine ⟨.ref a, t2, _, _, _, true, rfl, upd_same, cls2, a2.ty, a2.k1, _, rfl, ifF rfl ?_⟩
      refine ⟨_, rfl, .ref a, .ty "list", _, _, bl, rfl, .ty "list", a2.ty, a2.k2, _, rfl, .ref b, .ty "list", _, _, bl, rfl, .ty "list", b2.ty, b2.k2, rfl, _, rfl, ifF (by rw [decide_eq_true (rfl : V.bl bl = V.bl bl)]; rfl) ?_⟩
      refine ⟨_, rfl, a, xs, rfl, a2.sq, _, rfl, b, ys, rfl, b2.sq, rfl, _, rfl, ifF (by rw [lx, ly, decide_eq_true rfl]; rfl) ?_⟩
      refine ⟨_, rfl, b, ys, rfl, b2.sq, _, rfl, by omega, by omega, fun D hD => ?_⟩
      rw [Int.toNat_natCast]
      refine lc_range (lo := 0) (n := ys.length) (fun i H' => Same (upd (upd H t (.tup [.ty "tuple", .ty "list"])) t2 (.tup [.ty "tuple", .ty "list"])) H' ∧ H' D = some (.lst [])) ⟨same_new hD, upd_same⟩ (fun i H' hi h' => ?_) (fun H' h' => ?_)
      · obtain ⟨sm, eD⟩ := h'
        have s3 := s2.trans sm
        obtain ⟨d, hdi⟩ : ∃ d, ds[i]? = some d := ⟨_, List.getElem?_eq_getElem (by omega)⟩
        obtain ⟨x, hxi, hxd⟩ := DpAll.of hx hdi
        obtain ⟨y, hyi, hyd⟩ := DpAll.of hy hdi
        rw [Int.zero_add]
        refine ⟨rfl, _, rfl, _, rfl, ?_⟩
        refine (ha _ s3).ix i x _ hxi ⟨_, rfl, _, rfl, ?_⟩
        refine (hb _ s3).ix i y _ hyi ⟨x, y, d, rfl, Dp.on s3 d x hxd, Dp.on s3 d y hyd, hd d (List.mem_of_getElem? hdi), fun H4 s4 => ⟨_, rfl, ifF rfl ⟨?_, s4 _ _ eD⟩⟩⟩
        exact sm.trans s4
      · obtain ⟨sm, eD⟩ := h'
        refine ⟨Nat.zero_le _, fun z hz => ?_⟩
        refine ⟨_, _, dp_lst (ns := []) (lstAt (same_new hz _ _ eD)), dp_lst (ns := []) (lstAt upd_same), PySem.W.ke_shaped_ints _, PySem.W.ke_shaped_ints _, ?_⟩
        exact q _ (s2.trans (sm.trans (same_new hz)))
end
end RH
set_option Elab.async false
set_option linter.all false
set_option maxRecDepth 100000
set_option maxHeartbeats 2000000
namespace RH
open PySem PySem.Spec PyProof.Rows L2
/-! ### what the top has left -/
theorem df_mk {K : PySem.W.Frag} {h : Heap} {mg : Str → Option Value} (X : K.In h) (G : h.Ns mainGlobals mg) {x : Str} {st : Stmt} {ps : List Str} {f : Addr} {od an : Option Addr} {sl : Array (Option Value)} {oc kV dc pm cd ct : Value}
    (a : PySem.W.nsIn K mainGlobals x = some (some (.ref f))) (l : K.lookup f = some ⟨oc, od, .func (PySem.W.fnOf x x (defArgs st) (defBody st) (defScope st) .none kV dc pm an cd ct), sl⟩) (c : PySem.W.codeIn K cd x = true) (k : PySem.W.keepIn K (.ref f) = true)
    (b : ∀ (kV doc pm : Value) (an : Option Addr) (cdv ct : Value) (us : List Value), us.length = ps.length → bindArgs (PySem.W.fnOf x x (defArgs st) (defBody st) (defScope st) .none kV doc pm an cdv ct) ⟨us, []⟩ = pure (ps.zip us)) : Df K mg x st ps := by
  have F := fun_mk (st := st) l c k
  exact ⟨f, _, F, PySem.W.mg_of X G a, F.binds b⟩
/-- the written part that is meant -/
abbrev kOf {K : PySem.W.Frag} {h : Heap} (_ : K.In h) : PySem.W.Frag := K
theorem const_mk {K : PySem.W.Frag} {h : Heap} {mg : Str → Option Value} (X : K.In h) (G : h.Ns mainGlobals mg) {x : Str} {i : Int} {t : Tok} (a : PySem.W.nsIn K mainGlobals x = some (some (.int i t))) : ∃ t, mg x = some (.int i t) := ⟨t, PySem.W.mg_of X G a⟩
theorem ctup_mk {K : PySem.W.Frag} {h : Heap} {mg : Str → Option Value} (X : K.In h) (G : h.Ns mainGlobals mg) {x : Str} {zs : List Str} {a : Addr} {o : Obj} {its : List Value} {n : Nat} (ha : PySem.W.nsIn K mainGlobals x = some (some (.ref a))) (l : K.lookup a = some o) (c : o.cls = .type "tuple") (d : o.data = .seq its.toArray n) (s : its.length ≤ 100) (v : Vals (zs.map V.str) its) : CTup K mg x zs :=
  ⟨a, o, its.toArray, n, PySem.W.mg_of X G ha, l, c, d, by have : (100 : Nat) ≤ sizeLine := (by rw [sizeLine_eq]; decide +kernel); simpa using Nat.le_trans s this, by simpa using v⟩
theorem constS_mk {K : PySem.W.Frag} {h : Heap} {mg : Str → Option Value} (X : K.In h) (G : h.Ns mainGlobals mg) {x z : Str} {t : Tok} (a : PySem.W.nsIn K mainGlobals x = some (some (.str z t))) : ∃ t, mg x = some (.str z t) := ⟨t, PySem.W.mg_of X G a⟩
/-- the code object's file is the law's -/
def fileV (P : Program) : Option Value → Bool
  | some (Value.str file _) => (P.main.file : Str) == file
  | _ => false
def fileOk (P : Program) (o : Obj) : Bool := match o.data with
  | Data.fields vs => fileV P vs[2]?
  | _ => false
theorem fileOk_ex {P : Program} {K : PySem.W.Frag} {c : Addr} {o : Obj} (l : K.lookup c = some o) (h : fileOk P o = true) : ∃ (ccl : Value) (cdd : Option Addr) (vs : Array Value) (ccs : Array (Option Value)) (file : Str) (tf : Tok), K.lookup c = some ⟨ccl, cdd, .fields vs, ccs⟩ ∧ vs[2]? = some (.str file tf) ∧ ((P.main.file : Str) == file) = true := by
  obtain ⟨a, b, d, e⟩ := o
  unfold fileOk at h
  dsimp only at h
  split at h
  · rename_i vs0 vs
    cases hv : vs[2]? with
    | none =>
      rw [hv] at h
      cases h
    | some u =>
      rw [hv] at h
      cases u <;> first | (cases h; done) | skip
      rename_i file tf
      exact ⟨a, b, vs, e, file, tf, l, hv, h⟩
  · cases h
/-- the errors, as the top has left them -/
theorem errs_mk {K : PySem.W.Frag} {h : Heap} {mg : Str → Option Value} (P : Program) (X : K.In h) (G : h.Ns mainGlobals mg) {S c0 c1 c2 : Addr} (aS : PySem.W.nsIn K mainGlobals "ShelfError" = some (some (.ref S)))
    (a0 : PySem.W.nsIn K mainGlobals "BadProgram" = some (some (.ref c0)))
    (a1 : PySem.W.nsIn K mainGlobals "BadNumber" = some (some (.ref c1)))
    (a2 : PySem.W.nsIn K mainGlobals "BadLine" = some (some (.ref c2)))
    (kp0 : PySem.W.keepIn K (.ref c0) = true) (b0 : PySem.W.subIn K (.ref c0) (.type "BaseException") = some true) (t0 : PySem.W.typeIn K (.ref c0) = some (.type "type"))
    (xg0 : PySem.W.findIn K (.ref c0) "__getattribute__" = some (some (.builtin "BaseException.__getattribute__"))) (xk0 : PySem.W.findIn K (.ref c0) "__getattr__" = some none) (xd0 : PySem.W.hasDictIn K c0 = true) (xa0 : PySem.W.findIn K (.ref c0) "__class__" = some (some (.builtin "object.__class__"))) (xm0 : PySem.W.mroIn K c0 (.type "object") = some true) (es0 : PySem.W.exmOne K (.ref c0) (.ref S) = some true)
    (o0_0 : PySem.W.kitOne K (.ref c0) (.ref c0) = some true)
    (o0_1 : PySem.W.kitOne K (.ref c0) (.ref c1) = some false)
    (o0_2 : PySem.W.kitOne K (.ref c0) (.ref c2) = some false)
    (q1 : PySem.W.excIn K c1 [.type "ValueError", .type "Exception", .type "BaseException", .type "object"] "ValueError.__new__" = true)
    (kp1 : PySem.W.keepIn K (.ref c1) = true) (b1 : PySem.W.subIn K (.ref c1) (.type "BaseException") = some true) (t1 : PySem.W.typeIn K (.ref c1) = some (.type "type"))
    (xg1 : PySem.W.findIn K (.ref c1) "__getattribute__" = some (some (.builtin "BaseException.__getattribute__"))) (xk1 : PySem.W.findIn K (.ref c1) "__getattr__" = some none) (xd1 : PySem.W.hasDictIn K c1 = true) (xa1 : PySem.W.findIn K (.ref c1) "__class__" = some (some (.builtin "object.__class__"))) (xm1 : PySem.W.mroIn K c1 (.type "object") = some true) (es1 : PySem.W.exmOne K (.ref c1) (.ref S) = some true)
    (o1_0 : PySem.W.kitOne K (.ref c1) (.ref c0) = some false)
    (o1_1 : PySem.W.kitOne K (.ref c1) (.ref c1) = some true)
    (o1_2 : PySem.W.kitOne K (.ref c1) (.ref c2) = some false)
    (kp2 : PySem.W.keepIn K (.ref c2) = true) (b2 : PySem.W.subIn K (.ref c2) (.type "BaseException") = some true) (t2 : PySem.W.typeIn K (.ref c2) = some (.type "type"))
    (xg2 : PySem.W.findIn K (.ref c2) "__getattribute__" = some (some (.builtin "BaseException.__getattribute__"))) (xk2 : PySem.W.findIn K (.ref c2) "__getattr__" = some none) (xd2 : PySem.W.hasDictIn K c2 = true) (xa2 : PySem.W.findIn K (.ref c2) "__class__" = some (some (.builtin "object.__class__"))) (xm2 : PySem.W.mroIn K c2 (.type "object") = some true) (es2 : PySem.W.exmOne K (.ref c2) (.ref S) = some true)
    (o2_0 : PySem.W.kitOne K (.ref c2) (.ref c0) = some false)
    (o2_1 : PySem.W.kitOne K (.ref c2) (.ref c1) = some false)
    (o2_2 : PySem.W.kitOne K (.ref c2) (.ref c2) = some true)
    (xn : PySem.W.specialIn K (.builtin "object.__class__") "__get__" = some (some (.builtin "getset_descriptor.__get__"))) (xt : PySem.W.takesIn K (.builtin "object.__class__") = some true)
    {nm0 q0 : Str} {N0 : Addr} {bs0 bm0 : List Value} {sn0 : List Str} {sub0 : List Value} {ab0 : Bool} {col0 : Option Bool} {dd0 : Option Addr} {m0_0 m1_0 m2_0 m3_0 m5_0 : Option Value} {f0 cc0 cda0 : Addr} {oc0 kV0 dc0 pm0 ct0 ccl0 : Value} {od0 an0 cdd0 : Option Addr} {sl0 csl0 : Array (Option Value)} {oo0 : Obj}
    (yL0 : K.lookup c0 = some (excClassObj nm0 q0 c0 N0 bs0 bm0 true sn0 sub0 ab0 col0 dd0 m0_0 m1_0 m2_0 m3_0 m5_0 "ValueError.__new__")) (yR0 : PySem.HandSPX.refsVE bm0 = true) (ysa0 : PySem.W.findIn K (.ref c0) "__setattr__" = some (some (.builtin "object.__setattr__"))) (yno0 : PySem.W.findIn K (.ref c0) "index" = some none)
    (yi0 : PySem.W.findIn K (.ref c0) "__init__" = some (some (.ref f0))) (yt0 : PySem.W.typeIn K (.ref f0) = some (.type "function")) (yl0 : K.lookup f0 = some ⟨oc0, od0, .func (PySem.W.fnX "__init__" "BadProgram.__init__" (defArgs st_e_BadProgram) (defBody st_e_BadProgram) (defScope st_e_BadProgram) [("__class__", cc0)] .none kV0 dc0 pm0 an0 (.ref cda0) ct0), sl0⟩) (yc0 : PySem.W.codeIn K (.ref cda0) "BadProgram.__init__" = true)
    (yo0 : K.lookup cda0 = some oo0) (yf0 : fileOk P oo0 = true) (yk0 : K.lookup cc0 = some ⟨ccl0, cdd0, .cell (some (.ref c0)), csl0⟩) (ym0 : PySem.W.mroIn K c0 (.ref c0) = some true)
    (ys0 : PySem.W.ks_superIn K c0 c0 "__init__" = some (some (.builtin "ValueError.__init__"))) (yv0 : PySem.W.subIn K (.ref c0) (.type "ValueError") = some true)
    {nm2 q2 : Str} {N2 : Addr} {bs2 bm2 : List Value} {sn2 : List Str} {sub2 : List Value} {ab2 : Bool} {col2 : Option Bool} {dd2 : Option Addr} {m0_2 m1_2 m2_2 m3_2 m5_2 : Option Value} {f2 cc2 cda2 : Addr} {oc2 kV2 dc2 pm2 ct2 ccl2 : Value} {od2 an2 cdd2 : Option Addr} {sl2 csl2 : Array (Option Value)} {oo2 : Obj}
    (yL2 : K.lookup c2 = some (excClassObj nm2 q2 c2 N2 bs2 bm2 true sn2 sub2 ab2 col2 dd2 m0_2 m1_2 m2_2 m3_2 m5_2 "ValueError.__new__")) (yR2 : PySem.HandSPX.refsVE bm2 = true) (ysa2 : PySem.W.findIn K (.ref c2) "__setattr__" = some (some (.builtin "object.__setattr__"))) (yno2 : PySem.W.findIn K (.ref c2) "line" = some none) (ynp2 : PySem.W.findIn K (.ref c2) "word" = some none)
    (yi2 : PySem.W.findIn K (.ref c2) "__init__" = some (some (.ref f2))) (yt2 : PySem.W.typeIn K (.ref f2) = some (.type "function")) (yl2 : K.lookup f2 = some ⟨oc2, od2, .func (PySem.W.fnX "__init__" "BadLine.__init__" (defArgs st_e_BadLine) (defBody st_e_BadLine) (defScope st_e_BadLine) [("__class__", cc2)] .none kV2 dc2 pm2 an2 (.ref cda2) ct2), sl2⟩) (yc2 : PySem.W.codeIn K (.ref cda2) "BadLine.__init__" = true)
    (yo2 : K.lookup cda2 = some oo2) (yf2 : fileOk P oo2 = true) (yk2 : K.lookup cc2 = some ⟨ccl2, cdd2, .cell (some (.ref c2)), csl2⟩) (ym2 : PySem.W.mroIn K c2 (.ref c2) = some true)
    (ys2 : PySem.W.ks_superIn K c2 c2 "__init__" = some (some (.builtin "ValueError.__init__"))) (yv2 : PySem.W.subIn K (.ref c2) (.type "ValueError") = some true)
    (ya : PySem.W.nsIn K cStatics "thirdparty.any" = some none) (yg : PySem.W.nsIn K mainGlobals "super" = some none) (yp : (P.main.scope.names.lookup ("super" : Str)).isSome = false)
    : ∃ (S c0 c1 c2 : Addr), (∀ w base, BhX P w K mg base "BadProgram" "index" c0 (spBI "index" c0)) ∧ (ExO K mg "BadNumber" c1) ∧ (∀ w base, BlX P w K mg base c2 (spBL c2)) ∧ (BlF K mg S c2) := by
  have mS := PySem.W.mg_of X G aS
  have m0 := PySem.W.mg_of X G a0
  have m1 := PySem.W.mg_of X G a1
  have m2 := PySem.W.mg_of X G a2
  have x0 : ExcC K c0 := ⟨xg0, xk0, b0, xd0, xa0, xn, xt, xm0⟩
  have x1 : ExcC K c1 := ⟨xg1, xk1, b1, xd1, xa1, xn, xt, xm1⟩
  have x2 : ExcC K c2 := ⟨xg2, xk2, b2, xd2, xa2, xn, xt, xm2⟩
  have ox0 : OexC K c0 := ⟨⟨_, _, _, _, _, _, _, _, _, _, _, _, _, _, _, yL0, yR0⟩, ysa0, b0, t0, kp0⟩
  have M0 : SupC P K mg c0 "BadProgram.__init__" st_e_BadProgram f0 _ cc0 cda0 := ⟨ox0, ⟨_, _, _, _, _, _, _, _, rfl, yl0⟩, yc0, fileOk_ex yo0 yf0, ⟨_, _, _, yk0⟩, ym0, ya, ys0, yv0, PySem.W.mg_none_of X G yg, yp⟩

  have bh0 : ∀ w base, BhX P w K mg base "BadProgram" "index" c0 (spBI "index" c0) := fun w base => ⟨ox0, m0, f0, _, ok_BadProgram M0 yno0, yi0, yt0, .all fun us hl => match us, hl with | [_, _], _ => rfl⟩
  have ox2 : OexC K c2 := ⟨⟨_, _, _, _, _, _, _, _, _, _, _, _, _, _, _, yL2, yR2⟩, ysa2, b2, t2, kp2⟩
  have M2 : SupC P K mg c2 "BadLine.__init__" st_e_BadLine f2 _ cc2 cda2 := ⟨ox2, ⟨_, _, _, _, _, _, _, _, rfl, yl2⟩, yc2, fileOk_ex yo2 yf2, ⟨_, _, _, yk2⟩, ym2, ya, ys2, yv2, PySem.W.mg_none_of X G yg, yp⟩

  have bh2 : ∀ w base, BlX P w K mg base c2 (spBL c2) := fun w base => ⟨ox2, m2, f2, _, ok_BadLine M2 yno2 ynp2, yi2, yt2, .all fun us hl => match us, hl with | [_, _, _], _ => rfl⟩
  have X1 : ExO K mg "BadNumber" c1 := ⟨q1, m1, kp1, b1, t1⟩
  exact ⟨S, c0, c1, c2, bh0, X1, bh2, ⟨mS, m2, x2, es2, o2_2, yno2, ynp2⟩⟩
theorem top {P : Program} {w : World} {K : PySem.W.Frag} {mg : Str → Option Value} {fa : Addr} (hfa : mg "law" = some (.ref fa)) (B : Bu mg) (c_FEWEST_PLACES : ∃ t, mg "FEWEST_PLACES" = some (.int 2 t)) (c_MOST_PLACES : ∃ t, mg "MOST_PLACES" = some (.int 5 t)) (c_MOST_RESTLESS : ∃ t, mg "MOST_RESTLESS" = some (.int 4000 t)) (c_GREATEST : ∃ t, mg "GREATEST" = some (.int 1000000 t)) (t_BARE : CTup K mg "BARE" bareZ) (t_JUMPS : CTup K mg "JUMPS" jumpZ) (t_ACCESSES : CTup K mg "ACCESSES" accZ) (t_NUMBERED : CTup K mg "NUMBERED" numZ) (s_FIGURES : ∃ t, mg "FIGURES" = some (.str "0123456789" t))
    {S c0 c1 c2 : Addr} (b0 : ∀ base, BhX P w K mg base "BadProgram" "index" c0 (spBI "index" c0)) (X1 : ExO K mg "BadNumber" c1) (b2 : ∀ base, BlX P w K mg base c2 (spBL c2)) (bl : BlF K mg S c2)
    (F_is_integer : Df K mg "is_integer" st_is_integer ["value"])
    (F_is_number : Df K mg "is_number" st_is_number ["value", "low", "high"])
    (F_is_row : Df K mg "is_row" st_is_row ["value", "low", "high"])
    (F_is_place : Df K mg "is_place" st_is_place ["value", "places"])
    (F_is_instruction : Df K mg "is_instruction" st_is_instruction ["value", "places", "count", "is_restless"])
    (F_check_number : Df K mg "check_number" st_check_number ["value", "low", "high"])
    (F_check_string : Df K mg "check_string" st_check_string ["text"])
    (F_check_places : Df K mg "check_places" st_check_places ["places"])
    (F_check_program : Df K mg "check_program" st_check_program ["program", "places", "most", "is_restless"])
    (F_check_restless : Df K mg "check_restless" st_check_restless ["program", "places"])
    (F_lines_in : Df K mg "lines_in" st_lines_in ["text"])
    (F_number_told : Df K mg "number_told" st_number_told ["word", "most"])
    (F_signed_number_told : Df K mg "signed_number_told" st_signed_number_told ["word", "most"])
    (F_write_program : Df K mg "write_program" st_write_program ["places", "program"])
    (F_read_program : Df K mg "read_program" st_read_program ["places", "text"])
    (F_read_instruction : Df K mg "read_instruction" st_read_instruction ["places", "line", "words"])
    (F_second_number : Df K mg "second_number" st_second_number ["places", "words"])
    (F__law_taken : Df K mg "_law_taken" st__law_taken ["row", "many"])
    (F__law_pick : Df K mg "_law_pick" st__law_pick ["row", "things"])
    (F__law_program : Df K mg "_law_program" st__law_program ["row", "places", "many"])
    (F__law_alike : Df K mg "_law_alike" st__law_alike ["found", "due"])
    (F__law_told : Df K mg "_law_told" st__law_told ["places", "text"])
    (F__law_number : Df K mg "_law_number" st__law_number ["word", "least", "most"])
    (F__law_read : Df K mg "_law_read" st__law_read ["places", "text"])
    (F_law : Df K mg "law" st_law ["script"])
    : ∃ fd : FuncData, (∀ (s : Shared) (v : Value), BindsTo s fd ⟨[v], []⟩ [("script", v)]) ∧ ∀ base : Heap, FnOk P w K mg base CX0 9 fa fd ["script"] (spLaw K) := by
  obtain ⟨f, fd, F, g, b⟩ := F_law.ex
  have e := hfa.symm.trans g
  cases e
  refine ⟨fd, fun s v => ?_, fun base  => ?_⟩
  · obtain ⟨oc, od, kV, doc, pm, an, cdv, ct, osl, rfl, _⟩ := F.ex
    exact .of_eq rfl
  · have C1 := ok_is_integerW (P := P) (w := w) (K := K) (base := base) F_is_integer B
    have C2 := ok_is_numberW F_is_number C1
    have CR := ok_is_rowW (P := P) (w := w) (K := K) (base := base) F_is_row B
    have C3 := ok_is_placeW F_is_place C2
    have CI := ok_is_insW F_is_instruction B t_BARE t_JUMPS t_ACCESSES c_GREATEST CR C2 C3
    have CPs := ok_check_placesX F_check_places c_FEWEST_PLACES c_MOST_PLACES (ok_check_numberX F_check_number X1 C2)
    have CPg := ok_check_programX F_check_program B (b0 base) CR CI
    have CPr := ok_check_restlessX F_check_restless c_MOST_RESTLESS CPg
    have CS := ok_check_stringG (P := P) (w := w) (K := K) (base := base) F_check_string B
    have CLi := ok_lines_in F_lines_in CS
    have CN := ok_number_told (P := P) (w := w) (K := K) (base := base) F_number_told B s_FIGURES
    have CSN := ok_signed_told F_signed_number_told CN
    have C2N := ok_second_number F_second_number B t_JUMPS c_GREATEST c_MOST_RESTLESS CSN CN
    have CRI := ok_read_instruction F_read_instruction B (b2 base) t_BARE t_NUMBERED C2N
    have CRP := ok_read_program F_read_program B (b2 base) t_JUMPS c_MOST_RESTLESS CPs CLi CRI
    have CW := ok_write F_write_program B CPs CPr
    have CT := ok_taken (P := P) (w := w) (K := K) (base := base) F__law_taken B
    have CPk := ok_pick F__law_pick B CT
    have CLN := ok_lnumber (P := P) (w := w) (K := K) (base := base) F__law_number B
    exact ok_law F B CT CPk (ok_lprogram F__law_program B CT CPk) (ok_alikeS 1 F__law_alike B (ok_alikeS 0 F__law_alike B (ok_alike0 F__law_alike B))) (ok_told F__law_told B bl CRP) (ok_lread F__law_read B CLN) CW
end RH
set_option Elab.async false
set_option linter.all false
open PySem PySem.W PyProof.Rows
set_option maxRecDepth 100000 in
set_option maxHeartbeats 0 in
theorem PySem.Challenge.cw_restlesshelf_k18_whole_texts_holds : PySem.Challenge.rw_restlesshelf_k18_whole_texts.Holds := by
  w_on; o_law; k_head; (case hw => w_witness2)
  k_fill
  refine L2.walk_of (l := PySem.Challenge.rw_restlesshelf_k18_whole_texts) (n := 63) (k := 9) (x := "script") (CX := fun _ => L2.CX0) (sp := fun w => RH.spLaw _) rfl (by decide) rfl ⟨rfl, by decide, by decide⟩ (fun w h Y => PySem.W.kIn_of Y) ?F (fun _ _ a ns hl ho hS => ⟨a, ns, rfl, RH.Fz.of ho hS, fun _ => rfl⟩) (fun _ _ _ _ _ h => h)
  case F =>
    intro w mg fa h KX G hmg
    have B : RH.Bu mg := by
      refine' RH.Bu.mk (PySem.W.mg_none_of KX G ?z0) (PySem.W.mg_none_of KX G ?z1) (PySem.W.mg_none_of KX G ?z2) (PySem.W.mg_none_of KX G ?z3) (PySem.W.mg_none_of KX G ?z4) (PySem.W.mg_none_of KX G ?z5) (PySem.W.mg_none_of KX G ?z6) (PySem.W.mg_none_of KX G ?z7) (PySem.W.mg_none_of KX G ?z8) (PySem.W.mg_none_of KX G ?z9) (PySem.W.mg_none_of KX G ?z10) (PySem.W.mg_none_of KX G ?z11) (PySem.W.mg_none_of KX G ?z12)
      (case z0 => k_is); (case z1 => k_is); (case z2 => k_is); (case z3 => k_is); (case z4 => k_is); (case z5 => k_is); (case z6 => k_is); (case z7 => k_is); (case z8 => k_is); (case z9 => k_is); (case z10 => k_is); (case z11 => k_is); (case z12 => k_is)
    have c_FEWEST_PLACES : ∃ t, mg "FEWEST_PLACES" = some (.int 2 t) := by
      refine' RH.const_mk KX G ?a
      (case a => k_is)
    have c_MOST_PLACES : ∃ t, mg "MOST_PLACES" = some (.int 5 t) := by
      refine' RH.const_mk KX G ?a
      (case a => k_is)
    have c_MOST_RESTLESS : ∃ t, mg "MOST_RESTLESS" = some (.int 4000 t) := by
      refine' RH.const_mk KX G ?a
      (case a => k_is)
    have c_GREATEST : ∃ t, mg "GREATEST" = some (.int 1000000 t) := by
      refine' RH.const_mk KX G ?a
      (case a => k_is)
    have t_BARE : RH.CTup (RH.kOf KX) mg "BARE" RH.bareZ := by
      refine' RH.ctup_mk KX G ?a ?l ?c ?d ?s ?v
      (case a => k_is); (case l => k_is); (case c => exact rfl); (case d => exact rfl); (case v => exact (.cons ⟨_, rfl⟩ (.cons ⟨_, rfl⟩ (.cons ⟨_, rfl⟩ .nil)))); (case s => decide)
    have t_JUMPS : RH.CTup (RH.kOf KX) mg "JUMPS" RH.jumpZ := by
      refine' RH.ctup_mk KX G ?a ?l ?c ?d ?s ?v
      (case a => k_is); (case l => k_is); (case c => exact rfl); (case d => exact rfl); (case v => exact (.cons ⟨_, rfl⟩ (.cons ⟨_, rfl⟩ .nil))); (case s => decide)
    have t_ACCESSES : RH.CTup (RH.kOf KX) mg "ACCESSES" RH.accZ := by
      refine' RH.ctup_mk KX G ?a ?l ?c ?d ?s ?v
      (case a => k_is); (case l => k_is); (case c => exact rfl); (case d => exact rfl); (case v => exact (.cons ⟨_, rfl⟩ (.cons ⟨_, rfl⟩ (.cons ⟨_, rfl⟩ (.cons ⟨_, rfl⟩ .nil))))); (case s => decide)
    have t_NUMBERED : RH.CTup (RH.kOf KX) mg "NUMBERED" RH.numZ := by
      refine' RH.ctup_mk KX G ?a ?l ?c ?d ?s ?v
      (case a => k_is); (case l => k_is); (case c => exact rfl); (case d => exact rfl); (case v => exact (.cons ⟨_, rfl⟩ (.cons ⟨_, rfl⟩ (.cons ⟨_, rfl⟩ (.cons ⟨_, rfl⟩ (.cons ⟨_, rfl⟩ (.cons ⟨_, rfl⟩ (.cons ⟨_, rfl⟩ (.cons ⟨_, rfl⟩ .nil))))))))); (case s => decide)
    have s_FIGURES : ∃ t, mg "FIGURES" = some (.str "0123456789" t) := by
      refine' RH.constS_mk KX G ?a
      (case a => k_is)
    have F_is_integer : RH.Df (RH.kOf KX) mg "is_integer" RH.st_is_integer ["value"] := by
      refine' RH.df_mk KX G ?a ?l ?c ?k (fun _ _ _ _ _ _ us hl => match us, hl with | [_], _ => rfl)
      (case a => k_is); (case l => k_is); (case c => k_is); (case k => k_is)
    have F_is_number : RH.Df (RH.kOf KX) mg "is_number" RH.st_is_number ["value", "low", "high"] := by
      refine' RH.df_mk KX G ?a ?l ?c ?k (fun _ _ _ _ _ _ us hl => match us, hl with | [_, _, _], _ => rfl)
      (case a => k_is); (case l => k_is); (case c => k_is); (case k => k_is)
    have F_is_row : RH.Df (RH.kOf KX) mg "is_row" RH.st_is_row ["value", "low", "high"] := by
      refine' RH.df_mk KX G ?a ?l ?c ?k (fun _ _ _ _ _ _ us hl => match us, hl with | [_, _, _], _ => rfl)
      (case a => k_is); (case l => k_is); (case c => k_is); (case k => k_is)
    have F_is_place : RH.Df (RH.kOf KX) mg "is_place" RH.st_is_place ["value", "places"] := by
      refine' RH.df_mk KX G ?a ?l ?c ?k (fun _ _ _ _ _ _ us hl => match us, hl with | [_, _], _ => rfl)
      (case a => k_is); (case l => k_is); (case c => k_is); (case k => k_is)
    have F_is_instruction : RH.Df (RH.kOf KX) mg "is_instruction" RH.st_is_instruction ["value", "places", "count", "is_restless"] := by
      refine' RH.df_mk KX G ?a ?l ?c ?k (fun _ _ _ _ _ _ us hl => match us, hl with | [_, _, _, _], _ => rfl)
      (case a => k_is); (case l => k_is); (case c => k_is); (case k => k_is)
    have F_check_number : RH.Df (RH.kOf KX) mg "check_number" RH.st_check_number ["value", "low", "high"] := by
      refine' RH.df_mk KX G ?a ?l ?c ?k (fun _ _ _ _ _ _ us hl => match us, hl with | [_, _, _], _ => rfl)
      (case a => k_is); (case l => k_is); (case c => k_is); (case k => k_is)
    have F_check_string : RH.Df (RH.kOf KX) mg "check_string" RH.st_check_string ["text"] := by
      refine' RH.df_mk KX G ?a ?l ?c ?k (fun _ _ _ _ _ _ us hl => match us, hl with | [_], _ => rfl)
      (case a => k_is); (case l => k_is); (case c => k_is); (case k => k_is)
    have F_check_places : RH.Df (RH.kOf KX) mg "check_places" RH.st_check_places ["places"] := by
      refine' RH.df_mk KX G ?a ?l ?c ?k (fun _ _ _ _ _ _ us hl => match us, hl with | [_], _ => rfl)
      (case a => k_is); (case l => k_is); (case c => k_is); (case k => k_is)
    have F_check_program : RH.Df (RH.kOf KX) mg "check_program" RH.st_check_program ["program", "places", "most", "is_restless"] := by
      refine' RH.df_mk KX G ?a ?l ?c ?k (fun _ _ _ _ _ _ us hl => match us, hl with | [_, _, _, _], _ => rfl)
      (case a => k_is); (case l => k_is); (case c => k_is); (case k => k_is)
    have F_check_restless : RH.Df (RH.kOf KX) mg "check_restless" RH.st_check_restless ["program", "places"] := by
      refine' RH.df_mk KX G ?a ?l ?c ?k (fun _ _ _ _ _ _ us hl => match us, hl with | [_, _], _ => rfl)
      (case a => k_is); (case l => k_is); (case c => k_is); (case k => k_is)
    have F_lines_in : RH.Df (RH.kOf KX) mg "lines_in" RH.st_lines_in ["text"] := by
      refine' RH.df_mk KX G ?a ?l ?c ?k (fun _ _ _ _ _ _ us hl => match us, hl with | [_], _ => rfl)
      (case a => k_is); (case l => k_is); (case c => k_is); (case k => k_is)
    have F_number_told : RH.Df (RH.kOf KX) mg "number_told" RH.st_number_told ["word", "most"] := by
      refine' RH.df_mk KX G ?a ?l ?c ?k (fun _ _ _ _ _ _ us hl => match us, hl with | [_, _], _ => rfl)
      (case a => k_is); (case l => k_is); (case c => k_is); (case k => k_is)
    have F_signed_number_told : RH.Df (RH.kOf KX) mg "signed_number_told" RH.st_signed_number_told ["word", "most"] := by
      refine' RH.df_mk KX G ?a ?l ?c ?k (fun _ _ _ _ _ _ us hl => match us, hl with | [_, _], _ => rfl)
      (case a => k_is); (case l => k_is); (case c => k_is); (case k => k_is)
    have F_write_program : RH.Df (RH.kOf KX) mg "write_program" RH.st_write_program ["places", "program"] := by
      refine' RH.df_mk KX G ?a ?l ?c ?k (fun _ _ _ _ _ _ us hl => match us, hl with | [_, _], _ => rfl)
      (case a => k_is); (case l => k_is); (case c => k_is); (case k => k_is)
    have F_read_program : RH.Df (RH.kOf KX) mg "read_program" RH.st_read_program ["places", "text"] := by
      refine' RH.df_mk KX G ?a ?l ?c ?k (fun _ _ _ _ _ _ us hl => match us, hl with | [_, _], _ => rfl)
      (case a => k_is); (case l => k_is); (case c => k_is); (case k => k_is)
    have F_read_instruction : RH.Df (RH.kOf KX) mg "read_instruction" RH.st_read_instruction ["places", "line", "words"] := by
      refine' RH.df_mk KX G ?a ?l ?c ?k (fun _ _ _ _ _ _ us hl => match us, hl with | [_, _, _], _ => rfl)
      (case a => k_is); (case l => k_is); (case c => k_is); (case k => k_is)
    have F_second_number : RH.Df (RH.kOf KX) mg "second_number" RH.st_second_number ["places", "words"] := by
      refine' RH.df_mk KX G ?a ?l ?c ?k (fun _ _ _ _ _ _ us hl => match us, hl with | [_, _], _ => rfl)
      (case a => k_is); (case l => k_is); (case c => k_is); (case k => k_is)
    have F__law_taken : RH.Df (RH.kOf KX) mg "_law_taken" RH.st__law_taken ["row", "many"] := by
      refine' RH.df_mk KX G ?a ?l ?c ?k (fun _ _ _ _ _ _ us hl => match us, hl with | [_, _], _ => rfl)
      (case a => k_is); (case l => k_is); (case c => k_is); (case k => k_is)
    have F__law_pick : RH.Df (RH.kOf KX) mg "_law_pick" RH.st__law_pick ["row", "things"] := by
      refine' RH.df_mk KX G ?a ?l ?c ?k (fun _ _ _ _ _ _ us hl => match us, hl with | [_, _], _ => rfl)
      (case a => k_is); (case l => k_is); (case c => k_is); (case k => k_is)
    have F__law_program : RH.Df (RH.kOf KX) mg "_law_program" RH.st__law_program ["row", "places", "many"] := by
      refine' RH.df_mk KX G ?a ?l ?c ?k (fun _ _ _ _ _ _ us hl => match us, hl with | [_, _, _], _ => rfl)
      (case a => k_is); (case l => k_is); (case c => k_is); (case k => k_is)
    have F__law_alike : RH.Df (RH.kOf KX) mg "_law_alike" RH.st__law_alike ["found", "due"] := by
      refine' RH.df_mk KX G ?a ?l ?c ?k (fun _ _ _ _ _ _ us hl => match us, hl with | [_, _], _ => rfl)
      (case a => k_is); (case l => k_is); (case c => k_is); (case k => k_is)
    have F__law_told : RH.Df (RH.kOf KX) mg "_law_told" RH.st__law_told ["places", "text"] := by
      refine' RH.df_mk KX G ?a ?l ?c ?k (fun _ _ _ _ _ _ us hl => match us, hl with | [_, _], _ => rfl)
      (case a => k_is); (case l => k_is); (case c => k_is); (case k => k_is)
    have F__law_number : RH.Df (RH.kOf KX) mg "_law_number" RH.st__law_number ["word", "least", "most"] := by
      refine' RH.df_mk KX G ?a ?l ?c ?k (fun _ _ _ _ _ _ us hl => match us, hl with | [_, _, _], _ => rfl)
      (case a => k_is); (case l => k_is); (case c => k_is); (case k => k_is)
    have F__law_read : RH.Df (RH.kOf KX) mg "_law_read" RH.st__law_read ["places", "text"] := by
      refine' RH.df_mk KX G ?a ?l ?c ?k (fun _ _ _ _ _ _ us hl => match us, hl with | [_, _], _ => rfl)
      (case a => k_is); (case l => k_is); (case c => k_is); (case k => k_is)
    have F_law : RH.Df (RH.kOf KX) mg "law" RH.st_law ["script"] := by
      refine' RH.df_mk KX G ?a ?l ?c ?k (fun _ _ _ _ _ _ us hl => match us, hl with | [_], _ => rfl)
      (case a => k_is); (case l => k_is); (case c => k_is); (case k => k_is)
    obtain ⟨S, c0, c1, c2, b0, X1, b2, bl⟩ : ∃ (S c0 c1 c2 : PySem.Addr), (∀ w base, RH.BhX (PySem.Challenge.rw_restlesshelf_k18_whole_texts).prog w (RH.kOf KX) mg base "BadProgram" "index" c0 (RH.spBI "index" c0)) ∧ (RH.ExO (RH.kOf KX) mg "BadNumber" c1) ∧ (∀ w base, RH.BlX (PySem.Challenge.rw_restlesshelf_k18_whole_texts).prog w (RH.kOf KX) mg base c2 (RH.spBL c2)) ∧ (RH.BlF (RH.kOf KX) mg S c2) := by
      refine' Exists.elim (RH.errs_mk (PySem.Challenge.rw_restlesshelf_k18_whole_texts).prog KX G ?aS ?a0 ?a1 ?a2 ?kp0 ?b0 ?t0 ?xg0 ?xk0 ?xd0 ?xa0 ?xm0 ?es0 ?o0_0 ?o0_1 ?o0_2 ?q1 ?kp1 ?b1 ?t1 ?xg1 ?xk1 ?xd1 ?xa1 ?xm1 ?es1 ?o1_0 ?o1_1 ?o1_2 ?kp2 ?b2 ?t2 ?xg2 ?xk2 ?xd2 ?xa2 ?xm2 ?es2 ?o2_0 ?o2_1 ?o2_2 ?xn ?xt ?yL0 ?yR0 ?ysa0 ?yno0 ?yi0 ?yt0 ?yl0 ?yc0 ?yo0 ?yf0 ?yk0 ?ym0 ?ys0 ?yv0 ?yL2 ?yR2 ?ysa2 ?yno2 ?ynp2 ?yi2 ?yt2 ?yl2 ?yc2 ?yo2 ?yf2 ?yk2 ?ym2 ?ys2 ?yv2 ?ya ?yg ?yp) (fun C hC => ⟨C, hC⟩)
      (case aS => k_is); (case a0 => k_is); (case a1 => k_is); (case a2 => k_is); (case kp0 => k_is); (case b0 => k_is); (case t0 => k_is); (case xg0 => k_is)
      (case xk0 => k_is); (case xd0 => k_is); (case xa0 => k_is); (case xm0 => k_is); (case es0 => kts_exm); (case o0_0 => kit_is); (case o0_1 => kit_is); (case o0_2 => kit_is)
      (case q1 => k_exc); (case kp1 => k_is); (case b1 => k_is); (case t1 => k_is); (case xg1 => k_is); (case xk1 => k_is); (case xd1 => k_is); (case xa1 => k_is)
      (case xm1 => k_is); (case es1 => kts_exm); (case o1_0 => kit_is); (case o1_1 => kit_is); (case o1_2 => kit_is); (case kp2 => k_is); (case b2 => k_is); (case t2 => k_is)
      (case xg2 => k_is); (case xk2 => k_is); (case xd2 => k_is); (case xa2 => k_is); (case xm2 => k_is); (case es2 => kts_exm); (case o2_0 => kit_is); (case o2_1 => kit_is)
      (case o2_2 => kit_is); (case xn => k_is); (case xt => k_is); (case yL0 => k_is); (case yR0 => first | rfl | decide +kernel | kernel_rfl); (case ysa0 => k_is); (case yno0 => k_is); (case yi0 => k_is)
      (case yt0 => k_is); (case yl0 => k_is); (case yc0 => k_is); (case yo0 => k_is); (case yf0 => first | rfl | decide +kernel | kernel_rfl); (case yk0 => k_is); (case ym0 => k_is); (case ys0 => ks_is)
      (case yv0 => k_is); (case yL2 => k_is); (case yR2 => first | rfl | decide +kernel | kernel_rfl); (case ysa2 => k_is); (case yno2 => k_is); (case ynp2 => k_is); (case yi2 => k_is); (case yt2 => k_is)
      (case yl2 => k_is); (case yc2 => k_is); (case yo2 => k_is); (case yf2 => first | rfl | decide +kernel | kernel_rfl); (case yk2 => k_is); (case ym2 => k_is); (case ys2 => ks_is); (case yv2 => k_is)
      (case ya => k_is); (case yg => k_is); (case yp => first | rfl | decide +kernel | kernel_rfl)
    obtain ⟨fd, hb, hF⟩ := RH.top (P := (PySem.Challenge.rw_restlesshelf_k18_whole_texts).prog) (w := w) hmg B c_FEWEST_PLACES c_MOST_PLACES c_MOST_RESTLESS c_GREATEST t_BARE t_JUMPS t_ACCESSES t_NUMBERED s_FIGURES (b0 w) X1 (b2 w) bl F_is_integer F_is_number F_is_row F_is_place F_is_instruction F_check_number F_check_string F_check_places F_check_program F_check_restless F_lines_in F_number_told F_signed_number_told F_write_program F_read_program F_read_instruction F_second_number F__law_taken F__law_pick F__law_program F__law_alike F__law_told F__law_number F__law_read F_law
    exact ⟨fd, hb, fun base _ _ => hF base⟩
