import PyProof.Rows.All
import Wide.All
import OpenK.AllK
import Wide.FinOn
import HandS.ForMost
import HandS.Exc
import HandS.TryOnly
import HandS.ExcOwn
import HandS.WordsExc
import HandS.IsInst
import HandS.Conv
import HandS.Sort
import HandS.SortInts
import HandS.Zip
import HandS.Zip0
import HandS.Wide
import HandS.Deep
import HandS.Flow
import HandS.Style
import HandS.TupAny
import KE.GoesEnum
import KE.KEqSeq
import KE.KEqDeep
import PyProof.TupleOfSeq
import HandS.Lambda
import HandS.Nested
import HandS.EndTab
import KE.KDictDisplayH
import KE.KDictCopyH
import KE.KIndexOf
import HandS.Dict
import HandS.DictTup
import HandS.TupLen
import HandS.Defaults
import HandS.SortRule
import KE.GoesZip
import HandS.ExcIs
import HandS.RaiseMore
import HandS.FStr
import HandS.Property
import KE.KExcSuper
import HandS.ExcInit
import HandS.ExcField
import HandS.TupMul
import PyProof.FString2
import HandS.Strs
import HandS.SetFor
import HandS.SetBool
import HandS.SetIn
import HandS.More
import KE.KDictSum
import KE.KDflt
import HandS.TryMany
import KE.SortKeyHeap
import HandS.SortKw
import HandS.ExcValue
import KE.DataFind
import HandS.Iter
import HandS.TupSets
import KE.KDictPairs
import PySem.Challenge.RW_restlesshelf_k86_whole_finding
set_option Elab.async false
set_option linter.all false
set_option maxRecDepth 100000
set_option maxHeartbeats 2000000
/-! Two rules more: a walk over enumerate of a tuple, sorted of a tuple of ints. -/
namespace RH
open PySem PySem.Spec PyProof.Rows L2
theorem made_enumB {v : Value} {o : Obj} {H : Heap → Prop} (B : Begins v o H) :
    Meets (Builtin.«enumerate.__new__» ⟨[.type "enumerate", v], []⟩) (fun _ R s => H s.heap ∧
      R (.ok (.ret (.ref (s.heap.push o).objs.size))) { s with heap := (s.heap.push o).push { cls := .type "enumerate", data := .fields #[.none, .bool false, .ref s.heap.objs.size, rawInt 0, .none, .none] } }) :=
  .of_wp fun prog w A R s h => by
    obtain ⟨hp, g, d, tz, oz⟩ := s; obtain ⟨h1, h⟩ := h
    have hsub := sub_enumerate
    have q1 : ∀ {A' : Around} {E : Value → Shared → Prop} {Q : Value → Shared → Prop}, Q (.ref hp.objs.size) ⟨hp.push o, g, d, tz, oz⟩ → wpAny (model prog w) A' (pyIter v) Q E ⟨hp, g, d, tz, oz⟩ :=
      fun q => B.iter prog w _ _ ⟨hp, g, d, tz, oz⟩ _ h1 q
    wp_walk using q1
    refine wpAny_stack_any fun st => wpAny_pure ?_
    split
    · rename_i c _ _ _ _ _
      cases (c == Value.type "enumerate")
      · wp_walk using q1
        exact ⟨_, rfl, h⟩
      · wp_walk using q1
        exact ⟨_, rfl, h⟩
    · wp_walk using q1
      exact ⟨_, rfl, h⟩
section
variable {prog : Program} {w : World} {A : Around} {E : Value → Shared → Prop} {s : Shared}
theorem enum_one {v : Value} {o : Obj} {H : Heap → Prop} {Q : Value → Shared → Prop} (B : Begins v o H) (h1 : H s.heap)
    (h : ∀ h', IsEnum h' (s.heap.objs.size + 1) s.heap.objs.size 0 .none → h'.get? s.heap.objs.size = some o → h'.objs.size = s.heap.objs.size + 2 →
      (∀ b o, s.heap.get? b = some o → h'.get? b = some o) → Q (.ref (s.heap.objs.size + 1)) { s with heap := h' }) :
    wpAny (model prog w) A (call (.type "enumerate") [v]) Q E s := by
  refine callType_new F.called_enumerate (by decide) (F.typeCall_enumerate_1 _) (F.newCall_enumerate_1 _) (fun obj => F.args_object_init_2 obj _) F.entry_enumerate_new
    (made_enumB B) ⟨h1, ?_⟩
  have hZ : (s.heap.push o).objs.size = s.heap.objs.size + 1 := Heap.size_push ..
  show _ ∧ _
  rw [hZ]
  have he : IsEnum ((s.heap.push o).push { cls := .type "enumerate", data := .fields #[.none, .bool false, .ref s.heap.objs.size, rawInt 0, .none, .none] }) (s.heap.objs.size + 1) s.heap.objs.size 0 .none := by
    have := Heap.get?_push_size (s.heap.push o) (o := { cls := .type "enumerate", data := .fields #[.none, .bool false, .ref s.heap.objs.size, rawInt 0, .none, .none] }) rfl
    rw [hZ] at this; exact this
  refine ⟨⟨_, he, rfl⟩, h _ he (Heap.get?_push_of_some _ (Heap.get?_push_size _ B.free)) (by rw [Heap.size_push, hZ]) fun b o x => Heap.get?_push_of_some _ (Heap.get?_push_of_some _ x)⟩
end
/-- the tuple at a, each item with vz number in a new pair -/
def IteT (K : PySem.W.Frag) (a : Addr) : It :=
  ⟨fun i H => ∃ (xs : List V) (x : V), SqT K H a xs ∧ xs[i]? = some x, fun i H v H' => ∃ T x, v = .ref T ∧ H T = none ∧ H' = upd H T (.tup [.int (i : Nat), x]) ∧ ∀ xs, SqT K H a xs → xs[i]? = some x, fun i H => ∃ xs : List V, SqT K H a xs ∧ xs.length ≤ i⟩
theorem ne_enum {h : Heap} {e it a : Addr} {i : Int} {old : Value} {vz : Array Value} (he : IsEnum h e it i old) (p : IsTup h a vz) : e ≠ a := fun z => by
  obtain ⟨o, hO, hC, _⟩ := p
  rw [← z, he] at hO
  cases hO
  exact absurd (Value.type.inj hC) (by decide)
theorem turn_enumT {P : Program} {w : World} {K : PySem.W.Frag} {elts : List Expr} {kk : Nat} {tpos : Pos} (a e it : Addr) :
    Turn P w K (.Tuple elts kk tpos) (IteT K a) [e, it] e (fun i h => (∃ old, IsEnum h e it ((i : Nat) : Int) old) ∧ h.IsTupleIter it a i ∧ e ≠ it ∧ a ≠ it) where
  mem := by simp
  obj := fun i h st b hb => by
    obtain ⟨⟨old, he⟩, ⟨o, hO, hC, hD⟩, _⟩ := st
    have e' : b = e ∨ b = it := by simpa using hb
    rcases e' with z | z
    · rw [z]; exact ⟨_, he, fun v q => nomatch q⟩
    · rw [z]; exact ⟨o, hO, fun v q => by rw [hD] at q; cases q⟩
  keep := fun i h h' st k => let ⟨⟨old, he⟩, hi, nEI⟩ := st; ⟨⟨old, k e (by simp) _ he⟩, hi.at fun o q => k it (by simp) o q, nEI⟩
  item := by
    intro X hP hw hK hC i pins s σ H E I hf st hg
    subst hP hw hK
    obtain ⟨⟨old, he⟩, hIt, nEI, nAI⟩ := st
    obtain ⟨xs, x, hSq, hx⟩ := hg
    obtain ⟨vz, rz, p, hZ⟩ := I.tuple hSq
    obtain ⟨u, hu, ru⟩ := rz.get hx
    have ltE : e < s.heap.objs.size := Heap.lt_size he
    have ltI : it < s.heap.objs.size := by obtain ⟨_, q, _⟩ := hIt; exact Heap.lt_size q
    have hlt : i < vz.toArray.size := by
      have := (List.getElem?_eq_some_iff.mp hu).1
      simpa using this
    refine wpAny_pyNext_enum_itemD (Draws.tuple (show X.A.in1.handled = none from I.ok.hd hC) it a nAI vz.toArray) he ⟨hIt, p⟩ hlt nEI (by
      intro hm
      have e' : e = it ∨ e = a := by simpa using hm
      rcases e' with z | z
      · exact nEI z
      · exact ne_enum he p z) fun x' h' tz hP' hO hit' hT hSz kp => ?_
    have ex : x' = u := by
      have h2 : vz.toArray[i]? = some u := by simpa using hu
      rw [h2] at hP'
      exact (Option.some.inj hP').symm
    subst ex
    refine ⟨_, rfl, wpAny_letOwnedTupleGo_enum (s := { s with heap := h', toks := tz + 1 }) hO fun h'' he' sbu => ?_⟩
    have hT2 : h''.get? s.heap.objs.size = some { cls := .type "tuple", data := .seq #[.int i tz, x'] } := (sbu.2 _ (Nat.ne_of_gt ltE)).trans hT
    have new : ObjOk X.prog X.w (upd H s.heap.objs.size (.tup [.int (i : Nat), x])) h'' s.heap.objs.size (.tup [.int (i : Nat), x]) :=
      ⟨by show 2 ≤ sizeLine; decide, [.int i tz, x'], .cons ⟨_, rfl⟩ (.cons ru .nil), ⟨_, hT2, rfl, _, rfl⟩⟩
    have I1 : Inv X pins σ (upd H s.heap.objs.size (.tup [.int (i : Nat), x])) { s with heap := h'', toks := tz + 1 } :=
      I.turnedNew (ch := [e, it]) (fun b ob hb q => (sbu.2 b (fun z => hb (by simp [z]))).trans (kp b ob (fun z => hb (by simp [z])) (fun z => hb (by simp [z])) q)) hf (Nat.le_refl _) new
    refine ⟨.ref s.heap.objs.size, _, I1, rfl, ⟨_, x, rfl, I.hok.fresh (Nat.le_refl _), rfl, fun ys hy => by rw [I.tuple_inj hy hSq]; exact hx⟩, ⟨⟨x', ?_⟩, hit'.1.at fun o q => (sbu.2 it (Ne.symm nEI)).trans q, nEI, nAI⟩, fun b hb => ?_⟩
    · have e1 : ((i + 1 : Nat) : Int) = (i : Int) + 1 := by omega
      rw [e1]; exact he'
    · have hb' : b < s.heap.objs.size := by
        have e' : b = e ∨ b = it := by simpa using hb
        rcases e' with z | z
        · rw [z]; exact ltE
        · rw [z]; exact ltI
      rw [upd_ne (Nat.ne_of_lt hb')]
      exact (hf b hb).1
  done := by
    intro X hP hw hK hC i pins s σ H E I hf st hg
    subst hP hw hK
    obtain ⟨⟨old, he⟩, hIt, nEI, nAI⟩ := st
    obtain ⟨xs, hSq, hx⟩ := hg
    obtain ⟨vz, rz, p, hZ⟩ := I.tuple hSq
    obtain ⟨f0, f1, f2, f3, f4, f5⟩ := hf it (by simp)
    have hl := rz.length
    have hT : s.TypeIs (.ref e) "enumerate" := ⟨_, he, rfl⟩
    unfold pyNext
    refine wpAny_bind (wpAny_attempt (wpAny_callSpecial?_slot (name := Str.ofString "__next__") hT F.slot_enumerate_next
      (wpAny_call_entry F.slot_enumerate_next hT F.entry_enumerate_next ?_ (F.args_enumerate_next_1 _))))
    show wpAny _ _ (field (.ref e) 2 >>= _) _ _ _
    refine wpAny_bind (wpAny_field he rfl (x := .ref it) rfl ?_)
    refine wpAny_bind (wpAny_nextOf_tuple_end (show X.A.in1.handled = none from I.ok.hd hC) hIt p (by simp; omega) fun h' x he' hx' => ?_)
    obtain ⟨o, hO, hc'⟩ := hx'
    refine wpAny_bind (wpAny_isInstance (T := "StopIteration") (b := true) ⟨o, hO, hc'⟩ isSubtype_stop ?_)
    exact wpAny_pure ⟨rfl, I.turned (t' := s.toks) (fun b o hb q => he' b o hb q) f0 f1 f3 f4 f5⟩
  self := fun A i s Q E st h => let ⟨⟨_, he⟩, _⟩ := st; wpAny_pyIter_enum he h
def iEnumT (K : PySem.W.Frag) (ta : TA) : TI := fun σ H R => ta σ H fun vs H1 => ∃ a xs, vs = [.ref a] ∧ SqT K H1 a xs ∧ R (IteT K a) H1
theorem pi_enumT {X : Cx} {e : Expr} {ta : TA} {p pos tpos : Pos} {elts : List Expr} {kk : Nat} (hg : Gl X "enumerate") (hm : X.mg "enumerate" = none) (ha : PA X [e] ta) (hs : starEach [e] X.env = [(false, eval e X.env)] := by rfl) :
    PI X (.Tuple elts kk tpos) (.Call (.Name "enumerate" p) [e] [] pos) (iEnumT X.K ta) := by
  refine ⟨fun pins s σ H R I h => ?_⟩
  refine Call_ (ld_blt I hg hm boot_enumerate (PyProof.Rows.callWith_type1 (thn (ha.run pos pins s σ H _ I h) fun us s1 ⟨vs, H1, I1, r1, q1⟩ => ?_) hs rfl))
  obtain ⟨a, xs, ex, hSq, q⟩ := q1
  subst ex
  cases r1 with
  | cons r rr =>
    cases rr
    cases r
    obtain ⟨vz, rz, p', hZ⟩ := I1.tuple hSq
    have hal : a < s1.heap.objs.size := by obtain ⟨_, q', _⟩ := id p'; exact Heap.lt_size q'
    refine enum_one (begins_tuple a vz.toArray) p' fun h' he hIt hSz kp => wpAny_pyIter_enum he ?_
    have I2 : Inv X pins σ H1 { s1 with heap := h' } := I1.kept (t' := s1.toks) kp
    refine ⟨s1.heap.objs.size + 1, [s1.heap.objs.size + 1, s1.heap.objs.size], _, _, H1, rfl, I2, turn_enumT a (s1.heap.objs.size + 1) s1.heap.objs.size, ⟨⟨.none, he⟩, ⟨_, hIt, rfl, rfl⟩, Nat.succ_ne_self _, Nat.ne_of_lt hal⟩, fun b hb => ?_, q⟩
    have e' : b = s1.heap.objs.size + 1 ∨ b = s1.heap.objs.size := by simpa using hb
    have hle : s1.heap.objs.size ≤ b := by
      rcases e' with z | z
      · rw [z]; exact Nat.le_add_right _ _
      · rw [z]; exact Nat.le_refl _
    exact I1.fpOk hle (I1.hok.fresh hle)
/-! ### sorted(a tuple of ints) -/
def rSortedTup (K : PySem.W.Frag) : List V → Hp → VK → Prop := fun vs H Q => ∃ (a : Addr) (ns : List Int), vs = [V.ref a] ∧ SqT K H a (ns.map V.int) ∧ ns.length < 64 ∧
  ∀ (ns' : List Int) (p : Addr), ns'.Perm ns → ns'.Pairwise (· ≤ ·) → H p = none → Q (.ref p) (upd H p (.lst (ns'.map V.int)))
section
variable {prog : Program} {w : World} {A : Around} {E : Value → Shared → Prop} {s : Shared}
theorem collect_tup {l : Addr} {vs : List Value} {Q : List Value → Shared → Prop} (hl : IsTup s.heap l vs.toArray)
    (h : Q vs { s with heap := (s.heap.push (seqObj "list" #[] 0)).update s.heap.objs.size (Obj.mapSeq (· ++ vs.toArray)) }) (hSz : vs.length ≤ sizeLine := by size_fits) :
    wpAny (model prog w) A (collect (.ref l)) Q E s := by
  obtain ⟨o, hO, hC, n, hD⟩ := id hl
  unfold collect
  refine wpAny_bind (wpAny_runValue (codeAny_builtin F.entry_proto_collect ?_))
  rw [Around.under_plainId F.plain_proto_collect _]
  show wpAny _ A.in1 (newList [] >>= fun l' => again (.builtin "list.__iadd__" ⟨[l', .ref l], []⟩)) _ _ s
  refine wpAny_bind (wpAny_newList (wpAny_pure ⟨plainId_quiet F.plain_list_iadd _, codeAny_builtin F.entry_list_iadd ?_⟩))
  rw [Around.under_plainId F.plain_list_iadd _]
  show wpAny _ _ (Builtin.List.listExtendWith (.ref s.heap.objs.size) (.ref l) (.ref s.heap.objs.size)) _ _ { s with heap := s.heap.push (seqObj "list" #[] 0) }
  unfold Builtin.List.listExtendWith
  have ho' : (s.heap.push (seqObj "list" #[] 0)).get? l = some o := Heap.get?_push_of_some _ hO
  refine wpAny_bind (wpAny_typeOf (T := "tuple") ⟨o, ho', hC⟩ ?_)
  have hT0 : (Value.type "tuple" == Value.type "tuple") = true := by rfl
  rw [if_pos (by rw [hT0]; simp)]
  refine wpAny_bind (listItems_at ho' hD ?_)
  refine wpAny_bind (listItems_at (xs := #[]) (n := 0) (Heap.get?_push_size _ rfl) rfl ?_)
  rw [if_neg (by simp)]
  refine wpAny_bind (listUpdate_at (xs := #[]) (n := 0) (Heap.get?_push_size _ rfl) rfl ?_ (Nat.zero_le _) (by show (#[] ++ vs.toArray).size ≤ sizeLine + 1; simp only [Array.size_append, List.size_toArray, List.length_nil]; omega))
  refine wpAny_pure ?_
  show wpAny (model prog w) A (do
      let o ← load s.heap.objs.size
      match o.data with
      | .seq xs _ => pure xs.toList
      | _ => unsupported "internal:collect") Q E { s with heap := (s.heap.push (seqObj "list" #[] 0)).update s.heap.objs.size (Obj.mapSeq (· ++ vs.toArray)) }
  refine wpAny_bind (wpAny_load (get?_update_seq (Heap.get?_push_size _ rfl) _) ?_)
  show wpAny _ _ (pure ((#[] : Array Value) ++ vs.toArray).toList) Q E _
  rw [show ((#[] : Array Value) ++ vs.toArray).toList = vs by simp]
  exact wpAny_pure h
theorem sorted_intsT {l : Addr} {vs : List Value} {ns : List Int} {Q : Value → Shared → Prop} (hl : IsTup s.heap l vs.toArray) (hI : IntsAre vs ns) (h64 : vs.length < 64)
    (h : ∀ (out : Array Value) (ns' : List Int), IntsAre out.toList ns' → ns'.Perm ns → ns'.Pairwise (· ≤ ·) → Q (.ref (s.heap.objs.size + 1)) { s with heap := sortedAll s.heap vs out }) :
    wpAny (model prog w) A (call (.builtin "sorted") [.ref l]) Q E s := by
  refine Calls.call_function_entry kind_sorted plain_sorted entry_sorted (args_sorted1 _) ?_
  unfold Builtin.«sorted»
  refine wpAny_bind (m := checkCount "sorted" 1 1 _) (wpAny_pure ?_)
  have hsz0 : vs.length ≤ sizeLine := by
    rw [sizeLine_eq]
    omega
  refine wpAny_bind (collect_tup (hSz := hsz0) hl ?_)
  refine wpAny_bind (wpAny_newList ?_)
  have hSz : ((s.heap.push (seqObj "list" #[] 0)).update s.heap.objs.size (Obj.mapSeq (· ++ vs.toArray))).objs.size = s.heap.objs.size + 1 := by
    rw [Heap.size_update, size_push']
  have hOL : (((s.heap.push (seqObj "list" #[] 0)).update s.heap.objs.size (Obj.mapSeq (· ++ vs.toArray))).push (seqObj "list" vs.toArray 0)).get? (s.heap.objs.size + 1) = some (seqObj "list" vs.toArray 0) := by
    rw [← hSz]; exact Heap.get?_push_size _ rfl
  show wpAny _ _ _ _ _ { s with heap := ((s.heap.push (seqObj "list" #[] 0)).update s.heap.objs.size (Obj.mapSeq (· ++ vs.toArray))).push (seqObj "list" vs.toArray 0) }
  rw [hSz]
  refine wpAny_bind (wpAny_holding (wpAny_call_entry slot_list_sort ⟨_, hOL, rfl⟩ entry_list_sort (list_sort_tree hOL hI h64 fun out ns' a1 a2 a3 => ⟨_, rfl, ?_⟩) (args_list_sort _)))
  exact wpAny_pure ⟨_, rfl, h out ns' a1 a2 a3⟩
end
theorem cr_sortedTup {X : Cx} : CallR X (.builtin "sorted") (rSortedTup X.K) := by
  intro pins s σ H vs us Q I r h
  obtain ⟨a, ns, rfl, hs, h64, q⟩ := h
  obtain ⟨vz, rz, hl, _⟩ := I.tuple hs
  rw [Vals.ref1 r]
  have hi := rz.ints
  refine sorted_intsT hl hi (by rw [hi.length]; exact h64) fun out ns' h1 h2 h3 => ?_
  obtain ⟨ep, he'⟩ := PyProof.Rows.sortedAll_at s.heap vz out
  have hLn : (ns'.map V.int).length ≤ sizeLine := by rw [List.length_map, h2.length_eq]; exact small64 h64
  exact ⟨.ref _, upd H (s.heap.objs.size + 1) (.lst (ns'.map V.int)), I.laid (t' := s.toks) (fun _ _ => PyProof.Rows.sortedAll_old) (Nat.le_succ _) ⟨hLn, out.toList, ep, vals_of_ints h1, he'⟩, rfl, q ns' _ h2 h3 (I.hok.fresh (Nat.le_succ _))⟩
end RH
set_option Elab.async false
set_option linter.all false
set_option maxRecDepth 100000
set_option maxHeartbeats 2000000
/-! Lambdas with parameters and captured names, as values: made, handed to a def of the text, called there. -/
namespace RH
open PySem PySem.Spec PyProof.Rows L2
open LamX (Tabs TabS TabB ExtN CodeO codeO_ne inv_table among_app)
open NdefX (NF CellsAt NScope startF ncx inv_startN codeO_at slotAt Caps cells_of upd_none)
/-- a lambda's words, what it captured, its code object -/
structure LF where
  qual : Str
  params : Arguments
  body : Expr
  scope : Scope
  cl : List (Str × Addr)
  c : Addr
abbrev LF.fd (F : LF) (pm ctv : Value) : FuncData := PySem.W.kla_fn "<lambda>" F.qual F.params F.body F.scope F.cl pm (.ref F.c) ctv
/-- the object at f is this lambda -/
def FnL (f : Addr) (F : LF) : HO := .ext fun h => ∃ (od : Option Addr) (sl : Array (Option Value)) (pm ctv : Value), h.get? f = some (⟨.type "function", od, .func (F.fd pm ctv), sl⟩ : Obj)
theorem fnL_ne {f : Addr} {F : LF} (ps : Array Value) : FnL f F ≠ .tbl ps := fun z => by
  unfold FnL at z
  cases z
/-! ### what a lambda promises -/
/-! ### a def that is handed things that can be called -/
/-- f may be called, from any frame that began at s, H below outer, while live holds -/
structure Callable (P : Program) (w : World) (K : PySem.W.Frag) (mg : Str → Option Value) (base : Heap) (CX : CXT) (k : Nat) (f : Addr) (live : Hp → Prop) (sp : Sp) (outer : List Env) (s : Shared) (H : Hp) : Prop where
  at_ : ∀ (X : Cx), X.prog = P → X.w = w → X.K = K → X.base = base → X.s_0 = s → X.H_0 = H → ∀ pins σ H' s', Inv X pins σ H' s' → live H' → PySem.W.FnAt f s'.heap
  run : ∀ (X : Cx), X.prog = P → X.w = w → X.K = K → X.mg = mg → X.base = base → X.s_0 = s → X.H_0 = H → X.outer = outer → X.ex = [] → Room k X.A → ∀ pins σ H' s' us vs Q E, Inv X pins σ H' s' → live H' → Vals vs us → Passes CX X E → sp vs H' Q E →
    wpAny (model P w) X.A (call (.ref f) us) (EP X pins σ Q) X.xe s'
end RH
set_option Elab.async false
set_option linter.all false
set_option maxRecDepth 100000
set_option maxHeartbeats 2000000
/-! Dicts with tuples for keys: one pair written out, their values; where an int stands in a tuple. -/
set_option Elab.async false
set_option linter.all false
set_option maxRecDepth 100000
set_option maxHeartbeats 2000000
/-! Tuples told by their very object, and dicts whose keys are such tuples of ints. -/
namespace RH
open PySem PySem.Spec PyProof.Rows L2
def keyOf (s : List Int) : List L2.Key := s.map Sum.inl
theorem keyOf_kV (s : List Int) : (keyOf s).map kV = s.map V.int := by
  unfold keyOf
  rw [List.map_map]
  rfl
theorem mapInt_inj : ∀ {s t : List Int}, s.map V.int = t.map V.int → s = t
  | [], [], _ => rfl
  | [], _ :: _, e => by simp at e
  | _ :: _, [], e => by simp at e
  | a :: s, b :: t, e => by
    rw [List.map_cons, List.map_cons] at e
    injection e with e1 e2
    rw [V.int.inj e1, mapInt_inj e2]
theorem keyOf_inj {s t : List Int} (h : keyOf s = keyOf t) : s = t := by
  have e : (keyOf s).map kV = (keyOf t).map kV := by rw [h]
  rw [keyOf_kV, keyOf_kV] at e
  exact mapInt_inj e
/-- b is a tuple of these ints -/
def KX (H : Hp) (b : Addr) (s : List Int) : Prop := Rd H b (.tup (s.map V.int))
/-- the same, and its very object is known, one without a dict -/
def FT (H : Hp) (b : Addr) (s : List Int) : Prop := ∃ ob, H b = some (.frz ob (.tup (s.map V.int))) ∧ ob.dict = none
theorem FT.kx {H : Hp} {b : Addr} {s : List Int} (h : FT H b s) : KX H b s := let ⟨ob, h, _⟩ := h; .inr ⟨ob, h⟩
inductive XS : List (List Int × V) → List Addr → List (List L2.Key × Addr × Value) → Prop
  | nil : XS [] [] []
  | cons {q : List Int × V} {b : Addr} {u : Value} {as : List (List Int × V)} {bs : List Addr} {xs : List (List L2.Key × Addr × Value)} : RelV q.2 u → XS as bs xs → XS (q :: as) (b :: bs) ((keyOf q.1, b, u) :: xs)
inductive KB (H : Hp) : List (List Int × V) → List Addr → Prop
  | nil : KB H [] []
  | cons {q : List Int × V} {b : Addr} {as : List (List Int × V)} {bs : List Addr} : KX H b q.1 → KB H as bs → KB H (q :: as) (b :: bs)
theorem KB.snoc {H : Hp} {q : List Int × V} {b : Addr} (h : KX H b q.1) : ∀ {as : List (List Int × V)} {bs : List Addr}, KB H as bs → KB H (as ++ [q]) (bs ++ [b])
  | _, _, .nil => .cons h .nil
  | _, _, .cons g t => .cons g (t.snoc h)
theorem KB.imp {H H' : Hp} (f : ∀ b s, KX H b s → KX H' b s) : ∀ {as : List (List Int × V)} {bs : List Addr}, KB H as bs → KB H' as bs
  | _, _, .nil => .nil
  | _, _, .cons g t => .cons (f _ _ g) (t.imp f)
theorem XS.len : ∀ {as : List (List Int × V)} {bs : List Addr} {xs : List (List L2.Key × Addr × Value)}, XS as bs xs → xs.length = as.length
  | _, _, _, .nil => rfl
  | _, _, _, .cons _ t => congrArg (· + 1) t.len
theorem XS.snoc {q : List Int × V} {b : Addr} {u : Value} (h : RelV q.2 u) : ∀ {as : List (List Int × V)} {bs : List Addr} {xs : List (List L2.Key × Addr × Value)}, XS as bs xs → XS (as ++ [q]) (bs ++ [b]) (xs ++ [(keyOf q.1, b, u)])
  | _, _, _, .nil => .cons h .nil
  | _, _, _, .cons g t => .cons g (t.snoc h)
theorem atKey_pos {x : List L2.Key × Addr × Value} {xs : List (List L2.Key × Addr × Value)} {k : List L2.Key} (e : x.1 = k) : atKey (x :: xs) k = some x.2 := by simp [atKey, List.find?_cons, e]
theorem atKey_neg {x : List L2.Key × Addr × Value} {xs : List (List L2.Key × Addr × Value)} {k : List L2.Key} (e : ¬ x.1 = k) : atKey (x :: xs) k = atKey xs k := by simp [atKey, List.find?_cons, e]
theorem XS.no {s : List Int} : ∀ {as : List (List Int × V)} {bs : List Addr} {xs : List (List L2.Key × Addr × Value)}, XS as bs xs → s ∉ as.map Prod.fst → atKey xs (keyOf s) = none
  | _, _, _, .nil, _ => rfl
  | _, _, _, .cons g t, h => (atKey_neg fun e => h (by rw [← keyOf_inj e]; exact List.mem_cons_self ..)).trans (t.no fun z => h (List.mem_cons_of_mem _ z))
theorem XS.yes {s : List Int} : ∀ {as : List (List Int × V)} {bs : List Addr} {xs : List (List L2.Key × Addr × Value)}, XS as bs xs → s ∈ as.map Prod.fst → ∃ v p, atKey xs (keyOf s) = some p ∧ (s, v) ∈ as ∧ RelV v p.2
  | _, _, _, .nil, h => by simp at h
  | q :: as, _, _, .cons (u := u) g t, h => by
    by_cases e : q.1 = s
    · subst e
      exact ⟨q.2, _, atKey_pos rfl, List.mem_cons_self .., g⟩
    · rcases List.mem_cons.mp h with z | z
      · exact absurd z.symm e
      · obtain ⟨v, p, h1, h2, h3⟩ := t.yes z
        exact ⟨v, p, (atKey_neg fun z => e (keyOf_inj z)).trans h1, List.mem_cons_of_mem _ h2, h3⟩
theorem key_ofR {P : Program} {w : World} {H : Hp} {h : Heap} {a : Addr} {s : List Int} (ok : HOk P w H h) (e : KX H a s) : (tupleKind (mixKind P w)).is h (keyOf s) a := by
  obtain ⟨_, its, r, o, h1, h2, n, h3⟩ := (show ObjOk P w H h a (.tup (s.map V.int)) from e.ok ok)
  rw [← keyOf_kV] at r
  exact ⟨o, its.toArray, n, h1, h2, h3, by simpa using items_are r⟩
theorem XS.keys {P : Program} {w : World} {H : Hp} {h : Heap} (ok : HOk P w H h) : ∀ {as : List (List Int × V)} {bs : List Addr} {xs : List (List L2.Key × Addr × Value)}, XS as bs xs → KB H as bs → ∀ x ∈ xs, (tupleKind (mixKind P w)).is h x.1 x.2.1
  | _, _, _, .nil, _, x, hx => nomatch hx
  | _, _, _, .cons g t, .cons k r, x, hx => by
    rcases List.mem_cons.mp hx with e | hx
    · subst e
      exact key_ofR ok k
    · exact t.keys ok r x hx
/-- the dict at d: as with its values, bs its keys' tuples -/
abbrev DE (P : Program) (w : World) (as : List (List Int × V)) (bs : List Addr) (d : Addr) : HO := .ext fun h => (d == sysModules) = false ∧ as.length ≤ sizeLine ∧ ∃ xs : List (List L2.Key × Addr × Value), XS as bs xs ∧
  ∃ o es ep, h.get? d = some o ∧ o.ExactDict ∧ o.data = .dict es ep ∧ es.toList = xs.map (entryOfKey (tupleKind (mixKind P w))) ∧ (xs.map (·.1)).Nodup
theorem DE.ok {P : Program} {w : World} {H : Hp} {h : Heap} {as : List (List Int × V)} {bs : List Addr} {d : Addr} {xs : List (List L2.Key × Addr × Value)} (hd : (d == sysModules) = false) (hl : as.length ≤ sizeLine) (hx : XS as bs xs) (dd : h.DictOfH (tupleKind (mixKind P w)) d xs) : ObjOk P w H h d (DE P w as bs d) := by
  obtain ⟨o, es, ep, h1, h2, h3, h4, _, h5⟩ := dd
  refine ⟨⟨hd, hl, xs, hx, o, es, ep, h1, h2, h3, h4, h5⟩, ⟨o, h1⟩, fun h1 h2 ⟨a1, a2, xs, a3, o, es, ep, b1, b2⟩ k => ⟨a1, a2, xs, a3, o, es, ep, k _ b1, b2⟩⟩
/-! ### the rules -/
section
variable {X : Cx} {o i k v value : Expr} {pos pos' tpos : Pos} {td ty tk tv : TE}
/-- tuple(xs) of a list, told by its very object -/
def kTupF (K : PySem.W.Frag) (x : V) (H : Hp) (Q : VK) : Prop := ∃ p xs, x = .ref p ∧ SqL K H p xs ∧ ∀ q ob, H q = none → ob.dict = none → Q (.ref q) (upd H q (.frz ob (.tup xs)))
theorem pe_tupleF {a : Expr} {ta : TE} {p : Pos} (hg : Gl X "tuple") (hm : X.mg "tuple" = none) (ha : PE X a ta) (na : starEach [a] X.env = (false, eval a X.env) :: starEach [] X.env := by rfl) : PE X (.Call (.Name "tuple" p) [a] [] pos) (tThen ta (kTupF X.K)) := by
  refine ⟨fun pins s σ H Q I h => ?_⟩
  refine Call_ (ld_blt I hg hm boot_tuple (PyProof.Rows.callWith_type1 (one_arg ha I h (fun v s2 x H2 I2 r q => ?_) na) na))
  obtain ⟨p, xs, rfl, hs, q⟩ := q
  obtain rfl : v = .ref p := r
  obtain ⟨its, rv, pl, hz⟩ := I2.list hs
  refine call_tuple_list pl.isList (fun h' hk => ?_) (by rw [List.size_toArray, ← rv.length]; exact hz)
  have I3 : Inv X pins σ H2 { s2 with heap := h' } := I2.kept (t' := s2.toks) hk
  have e : (h'.push { cls := .type "tuple", data := .seq its.toArray }).get? h'.objs.size = some { cls := .type "tuple", data := .seq its.toArray } := Heap.get?_push_size _ rfl
  have I4 : Inv X pins σ (upd H2 h'.objs.size (.frz { cls := .type "tuple", data := .seq its.toArray } (.tup xs))) { s2 with heap := h'.push { cls := .type "tuple", data := .seq its.toArray } } :=
    I3.laid (t' := s2.toks) (fun b o e => Heap.get?_push_of_some _ e) (Nat.le_refl _) ⟨e, hz, its, rv, IsTup.new _ _⟩
  exact ⟨.ref h'.objs.size, _, I4, rfl, q _ _ (I3.hok.fresh (Nat.le_refl _)) rfl⟩
/-- t.index(k) -/
def tTIdxF (to te : TE) : TE := fun σ H Q => to σ H fun x H1 => ∃ (p : Addr) (ns : List Int), x = .ref p ∧ FT H1 p ns ∧ te σ H1 fun y H2 => ∃ k : Int, y = .int k ∧ FT H2 p ns ∧ k ∈ ns ∧ Q (.int (ns.idxOf k : Nat)) H2
theorem pe_tidxF {e : Expr} {to te : TE} {apos cpos : Pos} (ho : PE X o to) (he : PE X e te)
    (hbase : attributeBase o "index" X.env (eval o X.env) = eval o X.env := by rfl) (hline : (apos.endLine == cpos.line) = true := by rfl) (htrees : backTo cpos (starEach [e] X.env) = [(false, eval e X.env)] := by rfl) :
    PE X (.Call (.Attribute o "index" apos) [e] [] cpos) (tTIdxF to te) := by
  refine ⟨fun pins s σ H Q I h => ?_⟩
  refine wpAny_Call_method1_late hbase hline htrees (thn (ho.run pins s σ H _ I h) fun v s1 ⟨x, H1, I1, r1, p, ns, ex, ⟨ob, hp, hdn⟩, q1⟩ => ?_)
  subst ex
  obtain rfl : v = Value.ref p := r1
  obtain ⟨g, z, its, rv, hl⟩ := (show ObjOk X.prog X.w H1 s1.heap p (.frz ob (.tup (ns.map V.int))) from I1.hok p _ hp)
  have tI : s1.TypeIs (.ref p) "tuple" := let ⟨o, ho, hc, _⟩ := hl; ⟨o, ho, hc⟩
  refine ⟨"tuple", "tuple.index", PySem.F.plainAttrs_tuple, PySem.F.slot_tuple_index, PySem.F.type_tuple_index, tI, fun b eb => by cases eb; exact ⟨ob, g, hdn⟩, ?_⟩
  refine Calls.callWith_builtin rfl (Calls.evalArgs_plain (Calls.spliced_cons (thn (he.run pins s1 σ H1 _ I1 q1) fun iv s2 ⟨y, H2, I2, ry, k, ey, ⟨ob2, hp2, _⟩, hk, q2⟩ => Calls.spliced_nil ?_)))
  subst ey
  obtain ⟨t, rfl⟩ := (show ∃ t, iv = Value.int k t from ry)
  obtain ⟨_, _, its2, rv2, hl2⟩ := (show ObjOk X.prog X.w H2 s2.heap p (.frz ob2 (.tup (ns.map V.int))) from I2.hok p _ hp2)
  exact PySem.SeqAt.tuple_index_ints hl2 rv2.ints hk ⟨.int (ns.idxOf k : Nat), H2, I2.tok _, ⟨_, rfl⟩, q2⟩
end
end RH
set_option Elab.async false
set_option linter.all false
set_option maxRecDepth 100000
set_option maxHeartbeats 2000000
/-! Sorted lists of tuples of ints, of any length; more rules for dicts whose keys are such tuples. -/
namespace RH
open PySem PySem.Spec PyProof.Rows L2
open SrtO (Swo Srtd Stb SortableO Cmp lt2)
open TS (TupInts intsOf code Bd lex_ints firsts_of)
/-- below 10, by the digits -/
def ltL (s t : List Int) : Bool := decide (code 10 s < code 10 t)
theorem swo_by {α : Type} (f : α → Int) : Swo fun x y : α => decide (f x < f y) := by
  refine ⟨fun x y h => ?_, fun x y z h1 h2 => ?_⟩
  · simp only [decide_eq_true_eq] at h
    simp only [decide_eq_false_iff_not]
    omega
  · simp only [decide_eq_false_iff_not] at *
    omega
theorem ltL_swo : Swo ltL := swo_by (code 10)
/-- each of xs is a tuple of the ints -/
inductive EX (H : Hp) : List V → List (List Int) → Prop
  | nil : EX H [] []
  | cons {b : Addr} {s : List Int} {xs : List V} {ls : List (List Int)} : KX H b s → EX H xs ls → EX H (.ref b :: xs) (s :: ls)
theorem EX.len {H : Hp} : ∀ {xs : List V} {ls : List (List Int)}, EX H xs ls → xs.length = ls.length
  | _, _, .nil => rfl
  | _, _, .cons _ t => congrArg (· + 1) t.len
theorem EX.imp {H H' : Hp} (f : ∀ b s, KX H b s → KX H' b s) : ∀ {xs : List V} {ls : List (List Int)}, EX H xs ls → EX H' xs ls
  | _, _, .nil => .nil
  | _, _, .cons g t => .cons (f _ _ g) (t.imp f)
theorem EX.snoc {H : Hp} {b : Addr} {s : List Int} (h : KX H b s) : ∀ {xs : List V} {ls : List (List Int)}, EX H xs ls → EX H (xs ++ [.ref b]) (ls ++ [s])
  | _, _, .nil => .cons h .nil
  | _, _, .cons g t => .cons g (t.snoc h)
theorem EX.at {H : Hp} : ∀ {xs : List V} {ls : List (List Int)} {i : Nat} {s : List Int}, EX H xs ls → ls[i]? = some s → ∃ b, xs[i]? = some (V.ref b) ∧ KX H b s
  | _, _, _, _, .nil, e => by simp at e
  | _, _, 0, _, .cons h _, e => by
    cases Option.some.inj e
    exact ⟨_, rfl, h⟩
  | _, _, i + 1, _, .cons _ t, e => t.at (i := i) e
theorem EX.of {P : Program} {w : World} {H : Hp} {h : Heap} : ∀ {out : List Value}, (∀ v ∈ out, ∃ b, v = Value.ref b ∧ KX H b (intsOf h v)) → Vals (out.map backV) out ∧ EX H (out.map backV) (out.map (intsOf h))
  | [], _ => ⟨.nil, .nil⟩
  | v :: out, hv => by
    obtain ⟨r, e⟩ := EX.of (P := P) (w := w) (H := H) (h := h) (out := out) fun u hu => hv u (List.mem_cons_of_mem _ hu)
    obtain ⟨b, rfl, k⟩ := hv v (List.mem_cons_self ..)
    exact ⟨.cons rfl r, .cons k e⟩
/-- what sorted makes of tuples of the ints ls -/
def SoT (H : Hp) (ls : List (List Int)) (ys : List V) (ls' : List (List Int)) : Prop := Srtd ltL ls' ∧ Stb ltL ls' ls ∧ EX H ys ls' ∧ ls'.length = ls.length
theorem SoT.one {H H' : Hp} {ls a b : List (List Int)} {ys zs : List V} (h1 : SoT H ls ys a) (h2 : SoT H' ls zs b) : a = b :=
  SrtO.stb_uniq ltL_swo h1.1 h2.1 ⟨h1.2.1.perm.trans h2.2.1.perm.symm, fun x => (h1.2.1.cls x).trans (h2.2.1.cls x).symm⟩
end RH
set_option Elab.async false
set_option linter.all false
set_option maxRecDepth 100000
set_option maxHeartbeats 2000000
namespace RH
open PySem PySem.Spec PyProof.Rows L2
open SrtO (Swo Srtd Stb SortableO Cmp lt2)
open TS (TupInts intsOf code Bd lex_ints firsts_of)
theorem KB.ex {H : Hp} : ∀ {as : List (List Int × V)} {bs : List Addr}, KB H as bs → EX H (bs.map V.ref) (as.map Prod.fst)
  | _, _, .nil => .nil
  | _, _, .cons g t => .cons g t.ex
/-! ### get, in, a new one, [..] = -/
end RH
set_option Elab.async false
set_option linter.all false
set_option maxRecDepth 100000
set_option maxHeartbeats 2000000
/-! Lambdas that a def hands back: the cells that they caught are tracked from then on. -/
namespace RH
open PySem PySem.Spec PyProof.Rows L2
open LamX (Tabs TabS TabB ExtN CodeO codeO_ne)
open NdefX (NF CellsAt NScope startF ncx codeO_at slotAt Caps cells_of)
/-- the cell at c holds v -/
def CellO (c : Addr) (v : V) : HO := .ext fun h => ∃ u, L2.RelV v u ∧ h.IsCell c (some u)
theorem cellO_ne {c : Addr} {v : V} : (∀ y, CellO c v ≠ .own y) ∧ (∀ xs, CellO c v ≠ .tup xs) ∧ (∀ o u, CellO c v ≠ .frz o u) ∧ (∀ ps, CellO c v ≠ .tbl ps) := by
  unfold CellO
  exact ⟨fun _ z => (nomatch z), fun _ z => (nomatch z), fun _ _ z => (nomatch z), fun _ z => (nomatch z)⟩
abbrev CL := List (Addr × V)
/-- f may be called from any place, while it is alive -/
structure CallableA (P : Program) (w : World) (K : PySem.W.Frag) (mg : Str → Option Value) (base : Heap) (CX : CXT) (k : Nat) (f : Addr) (live : Hp → Prop) (sp : Sp) : Prop where
  at_ : ∀ (X : Cx), X.prog = P → X.w = w → X.K = K → X.base = base → ∀ pins σ H' s', Inv X pins σ H' s' → live H' → PySem.W.FnAt f s'.heap
  run : ∀ (X : Cx), X.prog = P → X.w = w → X.K = K → X.mg = mg → X.base = base → Room k X.A → ∀ pins σ H' s' us vs Q E, Inv X pins σ H' s' → live H' → Vals vs us → Passes CX X E → sp vs H' Q E →
    wpAny (model P w) X.A (call (.ref f) us) (EP X pins σ Q) X.xe s'
theorem CallableA.one {P : Program} {w : World} {K : PySem.W.Frag} {mg : Str → Option Value} {base : Heap} {CX : CXT} {k : Nat} {f : Addr} {live : Hp → Prop} {sp : Sp} {outer : List Env} {s : Shared} {H : Hp} (C : CallableA P w K mg base CX k f live sp) : Callable P w K mg base CX k f live sp outer s H :=
  ⟨fun X e1 e2 e3 e4 _ _ => C.at_ X e1 e2 e3 e4, fun X e1 e2 e3 e4 e5 _ _ _ _ hr => C.run X e1 e2 e3 e4 e5 hr⟩
theorem CallableA.imp {P : Program} {w : World} {K : PySem.W.Frag} {mg : Str → Option Value} {base : Heap} {CX : CXT} {k : Nat} {f : Addr} {live live' : Hp → Prop} {sp sp' : Sp} (C : CallableA P w K mg base CX k f live sp) (hl : ∀ H, live' H → live H) (hs : ∀ vs H Q E, live' H → sp' vs H Q E → sp vs H Q E) :
    CallableA P w K mg base CX k f live' sp' :=
  ⟨fun X e1 e2 e3 e4 pins σ H' s' I l => C.at_ X e1 e2 e3 e4 pins σ H' s' I (hl _ l), fun X e1 e2 e3 e4 e5 hr pins σ H' s' us vs Q E I l r hx q => C.run X e1 e2 e3 e4 e5 hr pins σ H' s' us vs Q E I (hl _ l) r hx (hs _ _ _ _ l q)⟩
/-- without the cells, with them -/
def era (l : CL) (H : Hp) : Hp := fun b => match l.lookup b with
  | some _ => none
  | none => H b
def lay (l : CL) (H : Hp) : Hp := fun b => match l.lookup b with
  | some v => some (CellO b v)
  | none => H b
theorem era_in {l : CL} {H : Hp} {b : Addr} {v : V} (e : l.lookup b = some v) : era l H b = none := by
  unfold era
  rw [e]
theorem era_no {l : CL} {H : Hp} {b : Addr} (e : l.lookup b = none) : era l H b = H b := by
  unfold era
  rw [e]
theorem lay_in {l : CL} {H : Hp} {b : Addr} {v : V} (e : l.lookup b = some v) : lay l H b = some (CellO b v) := by
  unfold lay
  rw [e]
theorem lay_no {l : CL} {H : Hp} {b : Addr} (e : l.lookup b = none) : lay l H b = H b := by
  unfold lay
  rw [e]
/-- the cells stand -/
def Stand (l : CL) (H : Hp) : Prop := ∀ b v, l.lookup b = some v → H b = some (CellO b v)
theorem Stand.ext {l : CL} {H H' : Hp} (s : Stand l H) (e : ExtN H H') : Stand l H' := fun b v q => e b _ (s b v q) cellO_ne.2.2.2
theorem Stand.same {l : CL} {H H' : Hp} (s : Stand l H) (e : Same H H') : Stand l H' := fun b v q => e b _ (s b v q)
theorem Stand.cases {l : CL} {H : Hp} (s : Stand l H) {b : Addr} {o : HO} (e : H b = some o) : (∃ v, l.lookup b = some v ∧ o = CellO b v) ∨ (l.lookup b = none ∧ era l H b = some o) := by
  cases q : l.lookup b with
  | some v => exact .inl ⟨v, rfl, Option.some.inj (e.symm.trans (s b v q))⟩
  | none => exact .inr ⟨rfl, (era_no q).trans e⟩
theorem Stand.tup {l : CL} {H : Hp} (s : Stand l H) {b : Addr} {xs : List V} (e : H b = some (.tup xs)) : era l H b = some (.tup xs) := by
  rcases s.cases e with ⟨v, _, z⟩ | ⟨_, z⟩
  · exact absurd z.symm (cellO_ne.2.1 xs)
  · exact z
theorem Stand.frz {l : CL} {H : Hp} (s : Stand l H) {b : Addr} {o : Obj} {u : HO} (e : H b = some (.frz o u)) : era l H b = some (.frz o u) := by
  rcases s.cases e with ⟨v, _, z⟩ | ⟨_, z⟩
  · exact absurd z.symm (cellO_ne.2.2.1 o u)
  · exact z
/-- the heap with the cells goes on as the one without them does -/
theorem Stand.on {l : CL} {H H2 : Hp} (s : Stand l H) (e : Same (era l H) H2) : Same H (RH.lay l H2) := fun b o q => by
  rcases s.cases q with ⟨v, z, rfl⟩ | ⟨z, y⟩
  · exact lay_in z
  · exact (lay_no z).trans (e b o y)
theorem Stand.hok {P : Program} {w : World} {l : CL} {H : Hp} {h : Heap} (s : Stand l H) (k : HOk P w H h) : HOk P w (era l H) h := fun a o e => by
  cases q : l.lookup a with
  | some v =>
    rw [era_in q] at e
    cases e
  | none =>
    rw [era_no q] at e
    refine (k a o e).stay (fun _ _ _ z => z) (fun b z => ?_) fun b xs z => s.tup z
    rcases s.cases z with ⟨v, _, y⟩ | ⟨_, y⟩
    · exact absurd y.symm (cellO_ne.1 a)
    · exact y
/-- the lambda at f stands, with its code and its cells -/
structure LiveK (f : Addr) (F : LF) (l : CL) (H : Hp) : Prop where
  fn : H f = some (FnL f F)
  code : H F.c = some (CodeO F.c F.qual)
  st : Stand l H
theorem LiveK.same {f : Addr} {F : LF} {l : CL} {H H' : Hp} (k : LiveK f F l H) (e : Same H H') : LiveK f F l H' := ⟨e _ _ k.fn, e _ _ k.code, k.st.same e⟩
theorem LiveK.ext {f : Addr} {F : LF} {l : CL} {H H' : Hp} (k : LiveK f F l H) (e : ExtN H H') : LiveK f F l H' := ⟨e _ _ k.fn (fun ps => fnL_ne ps), e _ _ k.code (fun ps => codeO_ne ps), k.st.ext e⟩
/-! ### a body that ends with a return, its names kept -/
end RH
set_option Elab.async false
set_option linter.all false
set_option maxRecDepth 100000
set_option maxHeartbeats 2000000
/-! A walk over zip of a tuple and a list. -/
namespace RH
open PySem PySem.Spec PyProof.Rows L2
/-- the tuple at a with the list at b, item by item in new pairs -/
def ItzM (K : PySem.W.Frag) (a b : Addr) : It :=
  ⟨fun i H => ∃ (xs ys : List V) (x y : V), SqT K H a xs ∧ SqL K H b ys ∧ xs[i]? = some x ∧ ys[i]? = some y,
    fun i H v H' => ∃ T x y, v = .ref T ∧ H T = none ∧ H' = upd H T (.tup [x, y]) ∧ (∀ xs, SqT K H a xs → xs[i]? = some x) ∧ ∀ ys, SqL K H b ys → ys[i]? = some y,
    fun i H => ∃ xs ys : List V, SqT K H a xs ∧ SqL K H b ys ∧ xs.length = ys.length ∧ xs.length = i⟩
abbrev fpz (z TI TO i1 i2 : Addr) : List Addr := [z, TI, TO, i1, i2]
theorem fpz_cases {z TI TO i1 i2 c : Addr} (h : c ∈ fpz z TI TO i1 i2) : c = z ∨ c = TI ∨ c = TO ∨ c = i1 ∨ c = i2 := by simpa using h
theorem turn_zipM {P : Program} {w : World} {K : PySem.W.Frag} {elts : List Expr} {kk : Nat} {tpos : Pos} {a b z TI TO i1 i2 : Addr} (S : ZipSep2 z TI TO i1 i2 [i1, a] [i2, b]) (na : a ≠ i1) (nb : b ≠ i2) :
    Turn P w K (.Tuple elts kk tpos) (ItzM K a b) (fpz z TI TO i1 i2) z (fun i h => IsZip h z TI TO .none ∧ IsTupOf2 h TI (.ref i1) (.ref i2) ∧ (∃ x y, IsTupOf2 h TO x y) ∧ h.IsTupleIter i1 a i ∧ h.IsListIter i2 b i) where
  mem := List.mem_cons_self ..
  obj := fun i h st c hc => by
    obtain ⟨hz, hTI, ⟨x, y, hTO⟩, ⟨o1, e1, c1, d1⟩, ⟨o2, e2, c2, d2⟩⟩ := st
    rcases fpz_cases hc with rfl | rfl | rfl | rfl | rfl
    · exact ⟨_, hz, fun v q => nomatch q⟩
    · exact ⟨_, hTI, fun v q => nomatch q⟩
    · exact ⟨_, hTO, fun v q => nomatch q⟩
    · exact ⟨o1, e1, fun v q => by rw [d1] at q; cases q⟩
    · exact ⟨o2, e2, fun v q => by rw [d2] at q; cases q⟩
  keep := fun i h h' st k => by
    obtain ⟨hz, hTI, ⟨x, y, hTO⟩, j1, j2⟩ := st
    have m : ∀ c, (c = z ∨ c = TI ∨ c = TO ∨ c = i1 ∨ c = i2) → c ∈ fpz z TI TO i1 i2 := fun c q => by simpa using q
    exact ⟨k z (m z (.inl rfl)) _ hz, k TI (m TI (.inr (.inl rfl))) _ hTI, ⟨x, y, k TO (m TO (.inr (.inr (.inl rfl)))) _ hTO⟩,
      j1.at fun o q => k i1 (m i1 (.inr (.inr (.inr (.inl rfl))))) o q, j2.at fun o q => k i2 (m i2 (.inr (.inr (.inr (.inr rfl))))) o q⟩
  item := by
    intro X hP hw hK hc i pins s σ H E I hf st hg
    subst hP hw hK
    obtain ⟨hz, hTI, ⟨x0, y0, hTO⟩, j1, j2⟩ := st
    obtain ⟨xs, ys, x, y, hqx, hqy, hx, hy⟩ := hg
    obtain ⟨va, ra, pa, _⟩ := I.tuple hqx
    obtain ⟨vb, rb, pb, _⟩ := I.list hqy
    obtain ⟨u, hu, ru⟩ := ra.get hx
    obtain ⟨u2, hu2, ru2⟩ := rb.get hy
    have zlt : z < s.heap.objs.size := Heap.lt_size hz
    have hA : X.A.in1.handled = none := I.ok.hd hc
    refine wpAny_pyNext_zipD2_item S (Draws.tuple hA i1 a na va.toArray) (Draws.list hA i2 b nb vb.toArray) hz hTI hTO ⟨j1, pa⟩ ⟨j2, pb.isList⟩ (by simpa using (List.getElem?_eq_some_iff.mp hu).1) (by simpa using (List.getElem?_eq_some_iff.mp hu2).1)
      fun w1 w2 h1 tk y1 y2 g1 g2 g3 g4 g5 g6 g7 => ?_
    have ew1 : w1 = u := Option.some.inj (y1.symm.trans (by simpa using hu))
    have ew2 : w2 = u2 := Option.some.inj (y2.symm.trans (by simpa using hu2))
    subst ew1 ew2
    refine ⟨_, rfl, wpAny_letOwnedTupleGo_zip (s := { s with heap := h1, toks := tk }) g1 fun h2 e2 sb => ?_⟩
    have gT : h2.get? s.heap.objs.size = some { cls := .type "tuple", data := .seq #[w1, w2] } := (sb.2 _ (Nat.ne_of_gt zlt)).trans g5
    have new : ObjOk X.prog X.w (upd H s.heap.objs.size (.tup [x, y])) h2 s.heap.objs.size (.tup [x, y]) := ⟨by show 2 ≤ sizeLine; decide, [w1, w2], .cons ru (.cons ru2 .nil), ⟨_, gT, rfl, _, rfl⟩⟩
    have keep : ∀ c o, c ∉ fpz z TI TO i1 i2 → s.heap.get? c = some o → h2.get? c = some o := fun c o hb q => by
      have n : ∀ d, (d = z ∨ d = TI ∨ d = TO ∨ d = i1 ∨ d = i2) → c ≠ d := fun d hd e => hb (by rw [e]; simpa using hd)
      exact (sb.2 c (n z (.inl rfl))).trans (g7 c o (n z (.inl rfl)) (n TO (.inr (.inr (.inl rfl)))) (n i1 (.inr (.inr (.inr (.inl rfl))))) (n i2 (.inr (.inr (.inr (.inr rfl))))) q)
    have I1 : Inv X pins σ (upd H s.heap.objs.size (.tup [x, y])) { s with heap := h2, toks := tk } := I.turnedNew keep hf (Nat.le_refl _) new
    refine ⟨.ref s.heap.objs.size, _, I1, rfl, ⟨_, x, y, rfl, I.hok.fresh (Nat.le_refl _), rfl, fun l hl => by rw [I.tuple_inj hl hqx]; exact hx, fun l hl => by rw [I.list_inj hl hqy]; exact hy⟩, ⟨e2, ?_, ⟨w1, w2, ?_⟩, ?_, ?_⟩, fun c hcm => ?_⟩
    · exact (sb.2 _ S.TIz).trans (g7 _ _ S.TIz S.TITO S.TIi1 S.TIi2 hTI)
    · exact (sb.2 _ S.TOz).trans g2
    · exact g3.1.at fun o q => (sb.2 _ (Ne.symm S.zi1)).trans q
    · exact g4.1.at fun o q => (sb.2 _ (Ne.symm S.zi2)).trans q
    · have hlt : c < s.heap.objs.size := by
        rcases fpz_cases hcm with rfl | rfl | rfl | rfl | rfl
        · exact zlt
        · exact Heap.lt_size hTI
        · exact Heap.lt_size hTO
        · exact Heap.lt_size j1.choose_spec.1
        · exact Heap.lt_size j2.choose_spec.1
      rw [upd_ne (Nat.ne_of_lt hlt)]
      exact (hf c hcm).1
  done := by
    intro X hP hw hK hc i pins s σ H E I hf st hg
    subst hP hw hK
    obtain ⟨hz, hTI, ⟨x0, y0, hTO⟩, j1, j2⟩ := st
    obtain ⟨xs, ys, hqx, hqy, el, ei⟩ := hg
    obtain ⟨va, ra, pa, _⟩ := I.tuple hqx
    obtain ⟨vb, rb, pb, _⟩ := I.list hqy
    have l1 := ra.length
    have l2 := rb.length
    have hA : X.A.in1.handled = none := I.ok.hd hc
    refine wpAny_pyNext_zipD2_end S (Draws.tuple hA i1 a na va.toArray) (Draws.list hA i2 b nb vb.toArray) hz hTI hTO ⟨j1, pa⟩ ⟨j2, pb.isList⟩ (by rw [List.size_toArray]; omega) (by rw [List.size_toArray]; omega) (.inl (by rw [List.size_toArray]; omega)) fun h1 tk hk => ⟨rfl, I.turnedL (fun c o hb q => ?_) hf⟩
    have n : ∀ d, (d = z ∨ d = TI ∨ d = TO ∨ d = i1 ∨ d = i2) → c ≠ d := fun d hd e => hb (by rw [e]; simpa using hd)
    exact hk c o (n z (.inl rfl)) (n TO (.inr (.inr (.inl rfl)))) (n i1 (.inr (.inr (.inr (.inl rfl))))) (n i2 (.inr (.inr (.inr (.inr rfl))))) q
  self := fun A i s Q E st h => wpAny_pyIter_zip st.1 h
def iZipM (K : PySem.W.Frag) (ta : TA) : TI := fun σ H R => ta σ H fun vs H1 => ∃ a b xs ys, vs = [.ref a, .ref b] ∧ SqT K H1 a xs ∧ SqL K H1 b ys ∧ R (ItzM K a b) H1
theorem pi_zipM {X : Cx} {e e2 : Expr} {ta : TA} {p pos tpos : Pos} {elts : List Expr} {kk : Nat} (hg : Gl X "zip") (hm : X.mg "zip" = none) (ha : PA X [e, e2] ta)
    (hs : starEach [e, e2] X.env = (false, eval e X.env) :: starEach [e2] X.env := by rfl) (hpl : (backTo pos (starEach [e2] X.env)).any (·.1) = false := by rfl) :
    PI X (.Tuple elts kk tpos) (.Call (.Name "zip" p) [e, e2] [] pos) (iZipM X.K ta) := by
  refine ⟨fun pins s σ H R I h => Call_ (ld_blt I hg hm PyProof.Rows.boot_zip (PyProof.Rows.callWith_type1 (thn (ha.run pos pins s σ H _ I h) fun us s1 ⟨vs, H1, I1, r1, q1⟩ => ?_) hs hpl))⟩
  obtain ⟨a, b, xs, ys, rfl, hqx, hqy, q⟩ := q1
  obtain ⟨u1, u2, rfl, e1, e2⟩ : ∃ u1 u2, us = [u1, u2] ∧ L2.RelV (.ref a) u1 ∧ L2.RelV (.ref b) u2 := by
    cases r1 with
    | cons r rr =>
      cases rr with
      | cons r' rr =>
        cases rr
        exact ⟨_, _, rfl, r, r'⟩
  obtain rfl : u1 = Value.ref a := e1
  obtain rfl : u2 = Value.ref b := e2
  obtain ⟨va, ra, pa, _⟩ := I1.tuple hqx
  obtain ⟨vb, rb, pb, _⟩ := I1.list hqy
  have la : a < s1.heap.objs.size := Heap.lt_size pa.choose_spec.1
  have lb : b < s1.heap.objs.size := pb.lt
  refine zip_begins2 (begins_tuple a va.toArray) (begins_list b vb.toArray) pa pb.isList fun h1 hz hTI hTO g1 g2 gs gk => wpAny_pyIter_zip hz ?_
  have I2 : Inv X pins σ H1 { s1 with heap := h1 } := I1.kept (t' := s1.toks) gk
  have S := zip_sep2 (N := s1.heap.objs.size) (fp1 := [a]) (fp2 := [b]) (fun c hc => by rw [List.mem_singleton.mp hc]; exact la) (fun c hc => by rw [List.mem_singleton.mp hc]; exact lb)
  refine ⟨s1.heap.objs.size + 4, _, _, _, H1, rfl, I2, turn_zipM S (Nat.ne_of_lt la) (Nat.ne_of_lt (Nat.lt_succ_of_lt lb)), ⟨hz, hTI, ⟨_, _, hTO⟩, ⟨_, g1, rfl, rfl⟩, ⟨_, g2, rfl, rfl⟩⟩, fun c hc => ?_, q⟩
  have hle : s1.heap.objs.size ≤ c := by
    rcases fpz_cases hc with rfl | rfl | rfl | rfl | rfl
    · exact Nat.le_add_right _ _
    · exact Nat.le_add_right _ _
    · exact Nat.le_add_right _ _
    · exact Nat.le_refl _
    · exact Nat.le_add_right _ _
  exact I1.fpOk hle (I1.hok.fresh hle)
/-- a loop over zip of a tuple and a list of one length -/
theorem for_zipM {K : PySem.W.Frag} {a b : Addr} {xs ys : List V} {g : TG} {tb : TS} {D : Ends} {σ : L2.St} {H : Hp} (hl : xs.length = ys.length) (Pv : Nat → L2.St → Hp → Prop) (h0 : Pv 0 σ H) (hq : ∀ i σ H, Pv i σ H → SqT K H a xs ∧ SqL K H b ys)
    (hs : ∀ (i : Nat) (x y : V) (T : Addr) (σ : L2.St) (H : Hp), xs[i]? = some x → ys[i]? = some y → Pv i σ H → H T = none → g (.ref T) σ (upd H T (.tup [x, y])) fun σ2 H2 => tb { D with nx := Pv (i + 1), ct := Pv (i + 1), bk := D.nx } σ2 H2) (hd : ∀ σ H, Pv xs.length σ H → D.nx σ H) :
    ∃ W : Nat → Nat → L2.St → Hp → Prop, (∃ m, W 0 m σ H) ∧ ∀ i m σ H, W i m σ H →
      ((ItzM K a b).stop i H ∧ D.nx σ H) ∨ ((ItzM K a b).go i H ∧ ∃ N : L2.St → Hp → Prop, (∀ σ' H', N σ' H' → ∃ m', m' < m ∧ W (i + 1) m' σ' H') ∧ ∀ v H', (ItzM K a b).yld i H v H' → g v σ H' fun σ2 H2 => tb { D with nx := N, ct := N, bk := D.nx } σ2 H2) := by
  refine ⟨fun i m σ H => m = xs.length - i ∧ i ≤ xs.length ∧ Pv i σ H, ⟨xs.length, rfl, Nat.zero_le _, h0⟩, fun i m σ H hW => ?_⟩
  obtain ⟨rfl, hi, p⟩ := hW
  obtain ⟨qx, qy⟩ := hq i σ H p
  rcases Nat.lt_or_ge i xs.length with hlt | hge
  · have hx : xs[i]? = some xs[i] := List.getElem?_eq_getElem hlt
    have hy : ys[i]? = some (ys[i]'(by omega)) := List.getElem?_eq_getElem (by omega)
    refine .inr ⟨⟨xs, ys, _, _, qx, qy, hx, hy⟩, Pv (i + 1), fun σ' H' q => ⟨xs.length - (i + 1), by omega, rfl, hlt, q⟩, fun v H' hv => ?_⟩
    obtain ⟨T, x, y, rfl, hT, rfl, fx, fy⟩ := hv
    exact hs i x y T σ H (fx xs qx) (fy ys qy) p hT
  · obtain rfl : i = xs.length := by omega
    exact .inl ⟨⟨xs, ys, qx, qy, hl, rfl⟩, hd σ H p⟩
end RH
set_option Elab.async false
set_option linter.all false
set_option maxRecDepth 100000
set_option maxHeartbeats 2000000
/-! Defs and methods that may raise, lambdas handed back that are called without arguments and may raise, what an except suite asks of its error. -/
namespace RH
open PySem PySem.Spec PyProof.Rows L2
open LamX (Tabs TabS TabB ExtN CodeO codeO_ne)
open NdefX (NF CellsAt NScope startF ncx codeO_at slotAt Caps cells_of)
/-! ### a lambda that was handed back, called without arguments -/
/-! ### what an except suite asks of its error -/
/-! ### list.count of flat things -/
/-- what leaves a def that may raise -/
theorem passE {P : Program} {w : World} {K : PySem.W.Frag} {mg : Str → Option Value} {base : Heap} {N : List Str} {qual : Str} {scope : Scope} {f : Addr} {cd : Value} {A : Around} {outer : List Env} {s : Shared} {H : Hp} {E : XK} :
    Passes (L2.CX P w) (cxOf (L2.CX P w) P w K mg base N qual scope f cd A outer s H E) E := passes_call (W := fun cls d _ H => E cls d H) (takes_of rfl rfl rfl rfl) (fun _ _ _ _ h => h)
theorem takesE {P : Program} {w : World} {K : PySem.W.Frag} {mg : Str → Option Value} {base : Heap} {N : List Str} {qual : Str} {scope : Scope} {f : Addr} {cd : Value} {A : Around} {outer : List Env} {s : Shared} {H : Hp} {E : XK} :
    Takes (cxOf (L2.CX P w) P w K mg base N qual scope f cd A outer s H E) (fun cls d _ H => E cls d H) := takes_of rfl rfl rfl rfl
end RH
set_option Elab.async false
set_option linter.all false
set_option maxRecDepth 100000
set_option maxHeartbeats 4000000
/-! own errors whose __init__ asks super().__init__ first -/
namespace L2
open PySem PySem.Calls PySem.Spec PyProof.Rows PySem.W
open NdefX (NScope NF CellsAt startF ncx envF inv_startN)
section
variable {X : Cx} {pins : List (Addr × Obj)} {σ : St} {H : Hp} {s : Shared} {a C u : Addr} {E : Value → Shared → Prop} {A : Around}
/-- the bound ValueError.__init__ is called: nothing of it is told -/
theorem call_mw {us : List Value} {Q : Value → Shared → Prop} (T : OexC X.K C) (I : Inv X pins σ H s) (hu : s.heap.get? u = some (kxs_mw "ValueError.__init__" a)) (e : H a = some (exo a C none)) (hl : us.length ≤ sizeLine) (h : ∀ s', Inv X pins σ H s' → Q .none s') :
    wpAny (model X.prog X.w) A (call (.ref u) us) Q E s := by
  obtain ⟨nm, q, N, bs, bm, sn, sub, ab, col, dd, k0, k1, k2, k3, k5, hC, hbm⟩ := T.cls
  obtain ⟨t1, ho⟩ := exo_at I.hok e
  obtain ⟨hp, g, d, t, os⟩ := s
  refine wpAny_call (codeAny_of_tree ?_)
  show wpAny _ A.in1 (callAny (.ref u) ⟨us, []⟩) _ _ _
  simp only [callAny]
  refine wpAny_bind (wpAny_load hu ?_)
  simp only [kxs_mw, show (Value.type "method-wrapper" == Value.type "method" || Value.type "method-wrapper" == Value.type "builtin_function_or_method" || Value.type "method-wrapper" == Value.type "method-wrapper") = true by decide, if_true]
  refine KFB.if_so (by decide) ?_
  refine wpAny_bind (check_bound_init PySem.F.excBase_ValueError.toExcCallFacts (I.kIn _ _ hC) ho rfl ?_)
  refine wpAny_bind (wpAny_pure (wpAny_pure ?_))
  refine ⟨plainId_quiet PySem.F.excBase_ValueError.init.plain _, codeAny_builtin PySem.F.excBase_ValueError.initEntry ?_⟩
  refine exc_init_tree (cls := .ref C) (t0 := t1) (dv := none) (c2 := .none) (c3 := .none) (b4 := .bool false) ho hl fun h' k hx _ => ?_
  have J := I.write (t' := t) (x := a) (e := a) (o := exo a C none) (by rw [e]; exact True.intro) (.inl rfl) k ⟨_, hx⟩ (exo_ok hx)
  have eu : upd H a (exo a C none) = H := by
    funext b
    by_cases hb : b = a
    · rw [hb, upd_same, e]
    · rw [upd_ne hb]
  rw [eu] at J
  exact h _ J
end
theorem mw_args {M : Model} {i : String} {a u : Addr} {s : Shared} {A : Around} {E : Value → Shared → Prop} {pos : Pos} {env : Env} {e : Expr} {es : List Expr} {Q : Value → Shared → Prop}
    (h : wpAny M A (spliced (backTo pos (starEach (e :: es) env))) (fun vs s₁ => KxsAt i u a s₁.heap ∧ wpAny M A (call (.ref u) vs) Q E s₁) E s)
    (he : starEach (e :: es) env = (false, eval e env) :: starEach es env) (hp : (backTo pos (starEach es env)).any (·.1) = false) : wpAny M A (callWith pos (.ref u) [] (backTo pos (starEach (e :: es) env)) []) Q E s := by
  rw [he] at h ⊢
  exact kxs_callWith (i := i) (x := a) (by show (false || (backTo pos (starEach es env)).any (·.1)) = false; rw [hp]; rfl) (evalArgs_plain h)
/-- the class C with an own __init__ that asks super().__init__ first -/
structure SupC (P : Program) (K : Frag) (mg : Str → Option Value) (C : Addr) (qual : Str) (st : Stmt) (f : Addr) (fd : FuncData) (cc cda : Addr) : Prop where
  t : OexC K C
  ex : ∃ (oc : Value) (od : Option Addr) (kV doc pm : Value) (an : Option Addr) (ct : Value) (osl : Array (Option Value)), fd = fnX "__init__" qual (defArgs st) (defBody st) (defScope st) [("__class__", cc)] .none kV doc pm an (.ref cda) ct ∧ K.lookup f = some ⟨oc, od, .func fd, osl⟩
  code : codeIn K (.ref cda) qual = true
  rec_ : ∃ (ccl : Value) (cdd : Option Addr) (vs : Array Value) (ccs : Array (Option Value)) (file : Str) (tf : Tok), K.lookup cda = some ⟨ccl, cdd, .fields vs, ccs⟩ ∧ vs[2]? = some (.str file tf) ∧ ((P.main.file : Str) == file) = true
  cell : ∃ (cl : Value) (cld : Option Addr) (csl : Array (Option Value)), K.lookup cc = some ⟨cl, cld, .cell (some (.ref C)), csl⟩
  mro : mroIn K C (.ref C) = some true
  any : nsIn K cStatics "thirdparty.any" = some none
  sup : ks_superIn K C C "__init__" = some (some (.builtin "ValueError.__init__"))
  ve : subIn K (.ref C) (.type "ValueError") = some true
  gs : mg "super" = none
  top : (P.main.scope.names.lookup ("super" : Str)).isSome = false
def supF (qual : Str) (st : Stmt) (cc cda : Addr) : NF := ⟨"__init__", qual, defArgs st, defBody st, defScope st, [("__class__", cc)], cda⟩
section
variable {P : Program} {w : World} {K : Frag} {mg : Str → Option Value} {base : Heap}
theorem fn_super {pl : Env → Sem Bool} {CX : CXT} {N ps : List Str} {k : Nat} {sp : Sp} {C f cc cda : Addr} {fd : FuncData} {qual self : Str} {st : Stmt} {rest : List Stmt} {e : Expr} {es : List Expr} {p0 p1 p2 p3 p4 : Pos} {ar : Arg} (M : SupC P K mg C qual st f fd cc cda) (S : NScope N ps ["__class__"] (defScope st))
    (hps : ps[0]? = some self) (har : ((defArgs st).posonlyargs ++ (defArgs st).args).head? = some ar) (hse : ar.arg = self) (hks : (defScope st).names.lookup ("super" : Str) = some .globalImplicit)
    (hb0 : defBody st = .Expr (.Call (.Attribute (.Call (.Name "super" p0) [] [] p1) "__init__" p2) (e :: es) [] p3) p4 :: rest) (len : ∀ vs H Q E, sp vs H Q E → vs.length = ps.length)
    (hbody : ∀ (A : Around) (outer : List Env) (s : Shared) (H : Hp) (vs : List V) (Q : VK) (E : XK), Room k (A.deeper (envF (supF qual st cc cda) f s.heap.objs.size)) → sp vs H Q E →
      ∃ (a : Addr) (ta : TA) (t : TS), vs[0]? = some (.ref a) ∧ H a = some (exo a C none) ∧ PA (ncx CX P w K mg base N (supF qual st cc cda) f A outer s H E) (e :: es) ta ∧ PSs (ncx CX P w K mg base N (supF qual st cc cda) f A outer s H E) rest t ∧
        ta (startF N vs [some (.ref C)]) H (fun us H1 => us.length ≤ 1000 ∧ H1 a = some (exo a C none) ∧ t { nx := fun _ H' => Q .non H', rt := Q } (startF N vs [some (.ref C)]) H1))
    (he : ∀ env, starEach (e :: es) env = (false, eval e env) :: starEach es env := by intro _; rfl) (hpl : ∀ env, (backTo p3 (starEach es env)).any (·.1) = false := by intro _; rfl)
    (hev : ∀ env : Env, eval (.Call (.Attribute (.Call (.Name "super" p0) [] [] p1) "__init__" p2) (e :: es) [] p3) env = (do
      let ov ← attributeBase (.Call (.Name "super" p0) [] [] p1) "__init__" env (eval (.Call (.Name "super" p0) [] [] p1) env)
      standAt p2.atName
      let (f, first) ← holding [ov] (getMethod ov "__init__" (pl env))
      callWith p3 f first (backTo p3 (starEach (e :: es) env)) []) := by intro _; rfl)
    (hsw : ∀ env, swapsWith (.Call (.Attribute (.Call (.Name "super" p0) [] [] p1) "__init__" p2) (e :: es) [] p3) none p4.line env = pure false := by intro _; rfl) :
    FnOk P w K mg base CX (k + 1) f fd ps sp := by
  obtain ⟨oc, od, kV, doc, pm, an, ct, osl, efd, lk⟩ := M.ex
  obtain ⟨ccl, cdd, fvs, ccs, file, tf, hcode, hvs, hfile⟩ := M.rec_
  obtain ⟨cl, cld, csl, hcell⟩ := M.cell
  obtain ⟨nm, qn, Nn, bs, bm, sn, sub, ab, col, dd, k0, k1, k2, k3, k5, hC, hbm⟩ := M.t.cls
  subst efd
  refine ⟨len, fun A outer s H args us vs Q E hr e0 hb r hsp => ?_⟩
  have hl := len _ _ _ _ hsp
  have KX : K.In s.heap := e0.mod.kin.keeps fun b o e => (e0.bs b o e).1
  have lim : s.heap.NoLimit := e0.mod.nolimit.keeps fun b o e => (e0.bs b o e).1
  have kH : ∀ b o, K.lookup b = some o → H b = none := fun b o e => (e0.bs b o (e0.mod.kin _ _ e)).2
  have hkc : (defScope st).names.lookup ("__class__" : Str) = some .free := S.frk _ (List.mem_singleton.mpr rfl)
  have CA : CellsAt (supF qual st cc cda).cl ["__class__"] [some (.ref C)] s.heap H := by
    have one : ∀ y c, ([("__class__", cc)] : List (Str × Addr)).lookup y = some c → y = ("__class__" : Str) ∧ c = cc := fun y c e => by
      have := PySem.mem_of_lookup e
      obtain ⟨rfl, rfl⟩ := Prod.mk.inj (List.mem_singleton.mp this)
      exact ⟨rfl, rfl⟩
    have ic : s.heap.IsCell cc (some (.ref C)) := ⟨_, KX _ _ hcell, rfl⟩
    refine ⟨rfl, fun y c e => ?_, fun x y c e1 e2 => (one x c e1).1.trans (one y c e2).1.symm, fun i y hi => ?_⟩
    · obtain ⟨_, rfl⟩ := one y c e
      exact ⟨kH _ _ hcell, _, ic⟩
    · match i, hi with
      | 0, hi =>
        cases Option.some.inj hi
        refine ⟨cc, by show ([("__class__", cc)] : List (Str × Addr)).lookup ("__class__" : Str) = some cc; rw [List.lookup_cons]; simp, fun v hv => ?_⟩
        cases Option.some.inj (Option.some.inj hv)
        exact ⟨_, rfl, ic⟩
      | i + 1, hi => simp at hi
  refine ks_codeAny_call_defAt (body := defBody st) (binds := ps.zip us) hr.depth (KX _ _ lk) rfl lim (codeRec_of KX M.code) rfl hb S.nocell (fun ⟨n, _⟩ hy => S.par n (List.of_mem_zip hy).1) (fun h₁ hns kp => ?_) S.co S.gen S.kind
  show _root_.PySem.wpAt _ (A.deeper (envF (supF qual st cc cda) f s.heap.objs.size)) (.func (defBody st) (envF (supF qual st cc cda) f s.heap.objs.size)) (execs (defBody st) (envF (supF qual st cc cda) f s.heap.objs.size)) _ _ _
  obtain ⟨a, ta, t, hv0, ha0, hA, ht, hT⟩ := hbody A outer s H vs Q E (hr.deeper _) hsp
  have I : Inv (ncx CX P w K mg base N (supF qual st cc cda) f A outer s H E) [] (startF N vs [some (.ref C)]) H { s with heap := h₁, toks := s.toks + (ps.zip us).length } := inv_startN S hr.hd e0 hl r CA hns kp
  have hx := r.get hv0
  obtain ⟨ux, hux, rx⟩ := hx
  obtain rfl : ux = Value.ref a := rx
  have ndP : ps.Nodup := by
    have q := S.nd.sublist (List.take_sublist (ps.length + (["__class__"] : List Str).length) N)
    rw [S.pre] at q
    exact (List.nodup_append.mp q).1
  have hself : (ps.zip us).reverse.lookup self = some (Value.ref a) := NdefX.zip_look ndP hps hux
  have hka : (defScope st).names.lookup self = some .local := S.par self (List.mem_of_getElem? hps)
  have K1 : K.In h₁ := KX.keeps kp
  have hD1 := K1 _ _ hC
  obtain ⟨t1, hxo⟩ := exo_at I.hok ha0
  have hcl : clsIn K C = some { name := nm, bases := bs, mro := .ref C :: bm, ns := Nn, qualname := qn, hasDict := true, slotNames := sn, subclasses := sub, abstract := ab, collection := col, hasDel := false } := by unfold clsIn; rw [hC] <;> rfl
  have hsup := M.sup
  unfold ks_superIn at hsup
  rw [hcl, Option.bind_some] at hsup
  have IA : InstAt h₁ a { cls := .ref C, dict := none, data := .fields #[.ref t1, .none, .none, .none, .bool false, .none] } C none := ⟨hxo, rfl, rfl, trivial⟩
  rw [hb0]
  refine ks_wpAt_execs_cons (ks_wpAt_Expr_any (ks_wpAt_MethodCall ?_ (hev _)) I.quiet (hsw _))
  refine ks_wpAt_super_base (env := envF (supF qual st cc cda) f s.heap.objs.size) hks hkc (by decide) rfl (K1 _ _ lk) rfl har rfl (K1 _ _ hcode) rfl hvs hfile M.top ?_
  obtain ⟨mb, h1, h2⟩ := I.mod.blt
  refine ks_loadName_global S.kind hks (loadGlobal_builtin (I.mod.glob.keeps I.bk) M.gs (h1.keeps I.bk) ((h2 "super" (by decide)).trans (by first | boot_by_name | rfl | kernel_rfl)) ⟨rfl, ?_⟩)
  refine wpAny_loadName_free S.kind hkc (by show ([("__class__", cc)] : List (Str × Addr)).lookup ("__class__" : Str) = some cc; rw [List.lookup_cons]; simp) ⟨_, K1 _ _ hcell, rfl⟩ ?_
  rw [hse]
  refine wpAny_loadName_local S.kind hka hns hself ?_
  refine ks_wpAny_isType_cls hD1 rfl ⟨rfl, ?_⟩
  refine ks_wpAny_call_super hD1 rfl hxo rfl (fun c z => nomatch z) (looks_mroIn K1 M.mro) (fun h2 eso k2 => ?_)
  have I1 := I.kept (t' := s.toks + (ps.zip us).length) k2
  have K2 : K.In h2 := K1.keeps k2
  have IA2 : InstAt h2 a { cls := .ref C, dict := none, data := .fields #[.ref t1, .none, .none, .none, .bool false, .none] } C none := ⟨k2 _ _ hxo, rfl, rfl, trivial⟩
  have hI : Looks (model P w) h2 (isInstance (.ref a) (.type "ValueError")) true := IA2.type.andThen (looks_subIn K2 M.ve)
  refine kxs_getMethod kxs_ValueError eso (looks_opaque K2 M.any) (l₀ := .ref C :: bm) ?_ rfl K2 hsup hI (ks_ne K1 IA hcl) (by decide) ?_
  · exact fun A Q E s k q => wpAny_bind ((looks_clsIn K2 hcl) A _ E s k (wpAny_pure q))
  have k3 : ∀ b o, h2.get? b = some o → (h2.push (kxs_mw "ValueError.__init__" a)).get? b = some o := fun b o e => Heap.get?_push_of_some _ e
  have I2 := I1.kept (t' := s.toks + (ps.zip us).length + 1) k3
  have hu : (h2.push (kxs_mw "ValueError.__init__" a)).get? h2.objs.size = some (kxs_mw "ValueError.__init__" a) := Heap.get?_push_at rfl rfl
  have I3 : Inv (ncx CX P w K mg base N (supF qual st cc cda) f A outer s H E) [(h2.objs.size, kxs_mw "ValueError.__init__" a)] (startF N vs [some (.ref C)]) H _ := I2.pins_of fun p hp => by
    rw [List.mem_singleton.mp hp]
    exact ⟨hu, I1.hok.fresh (Nat.le_refl _), (Nat.ne_of_lt I1.lt).symm, I1.nofs (Nat.le_refl _), fun v z => nomatch z⟩
  refine mw_args (i := "ValueError.__init__") (a := a) ?_ (he _) (hpl _)
  refine thn (hA.run p3 [(h2.objs.size, kxs_mw "ValueError.__init__" a)] _ (startF N vs [some (.ref C)]) H _ I3 hT) fun us1 s1 ⟨vs1, H1, J, r1, hl1, ha1, q1⟩ => ?_
  have hu1 : s1.heap.get? h2.objs.size = some (kxs_mw "ValueError.__init__" a) := (J.pin _ (List.mem_append_right _ (List.mem_singleton.mpr rfl))).1
  refine ⟨hu1, call_mw M.t J hu1 ha1 (by rw [← Paired.length r1, sizeLine_eq]; omega) fun s2 J2 => ?_⟩
  have J3 : Inv (ncx CX P w K mg base N (supF qual st cc cda) f A outer s H E) [] (startF N vs [some (.ref C)]) H1 s2 := J2.pins_of fun p hp => absurd hp (by simp)
  refine wpAt_of_wpAny (wpAny_mono (ht.run [] s2 (startF N vs [some (.ref C)]) H1 _ J3 q1) (fun fl s' hs => ?_) fun e s' hs => hs)
  have fin : ∀ {σ' : L2.St} {H' : Hp} {v : V} {u : Value}, Inv (ncx CX P w K mg base N (supF qual st cc cda) f A outer s H E) [] σ' H' s' → L2.RelV v u → Q v H' → CE outer P w H s Q u s' :=
    fun {σ' H' v u} J rv q => ⟨v, H', J.os, J.bare, J.base, J.hok, rv, q⟩
  cases fl with
  | ret u =>
    obtain ⟨v, σ', H', J, rv, q⟩ := hs
    exact fin J rv q
  | next =>
    obtain ⟨σ', H', J, q⟩ := hs
    exact fin (v := V.non) (u := Value.none) J rfl q
  | brk =>
    obtain ⟨_, _, _, q⟩ := hs
    exact False.elim q
  | cont =>
    obtain ⟨_, _, _, q⟩ := hs
    exact False.elim q
end
end L2
/-! ### isinstance of an error with a dict -/
namespace PySem.W
open PySem PySem.Spec PySem.Calls PyProof.Rows
end PySem.W
namespace L2
open PySem PySem.Spec PyProof.Rows
/-! ### f-strings with None -/
def tFmtN (te : TE) : TE := fun σ H Q => te σ H fun x H1 => (x = .non ∧ Q (.str "None") H1) ∨ ∃ i : Int, x = .int i ∧ i.natAbs.log2 < 1920 ∧ Q (.str (toString i)) H1
theorem pe_fmtN {X : Cx} {e : Expr} {te : TE} {pos : Pos} (he : PE X e te) : PE X (.FormattedValue e (-1) none pos) (tFmtN te) := by
  refine ⟨fun pins s σ H Q I h => ?_⟩
  refine wpAny_FormattedValue_plain (thn (he.run pins s σ H _ I h) fun v s1 hv => ?_)
  obtain ⟨x, H1, I1, r1, q⟩ := hv
  rcases q with ⟨rfl, q⟩ | ⟨i, rfl, hz, q⟩
  · obtain rfl : v = Value.none := r1
    exact wpAny_formatField_none ⟨.str "None", H1, I1.tok _, ⟨_, rfl⟩, q⟩
  · obtain ⟨t, rfl⟩ := r1
    exact wpAny_formatField_int hz ⟨.str (toString i), H1, I1.tok _, ⟨_, rfl⟩, q⟩
end L2
set_option Elab.async false
set_option linter.all false
set_option maxRecDepth 100000
set_option maxHeartbeats 2000000
/-! Sets of ints, made of a list, of a display, of a comprehension; the tuple of a dict's keys. -/
namespace RH
open PySem PySem.Spec PyProof.Rows L2
/-! ### the tuple of a dict's keys -/
/-! ### a set display of two ints -/
/-! ### set(xs) of a list of ints -/
section
variable {M : Program} {w : World} {A : Around} {E : Value → Shared → Prop} {s : Shared}
/-- what a new set is -/
abbrev bare (w : World) : Obj := { cls := .type "set", dict := none, data := .set #[] 0 (.fresh 0 0 (!w.params.followText "set-order")) }
theorem bare_get (h : Heap) (w : World) : (h.push (bare w)).get? h.objs.size = some (bare w) := Heap.get?_push_size _ rfl
set_option maxHeartbeats 3200000 in
theorem setL_call {l : Addr} {cells : Array Value} (ns : List Int) {Q : Value → Shared → Prop} (free : A.handled = none) (isl : s.heap.IsList l cells) (nums : IntsAre cells.toList ns) (room : ns.length + 1 < scanBound)
    (fin : ∀ (h2 : Heap) (k2 c : Nat), SetR w h2 s.heap.objs.size (fun j => decide (j ∈ ns)) c → c ≤ ns.length → (∀ b o, s.heap.get? b = some o → h2.get? b = some o) → Q (.ref s.heap.objs.size) { s with heap := h2, toks := k2 }) :
    wpAny (model M w) A (call (.type "set") [.ref l]) Q E s := by
  have many : cells.size = ns.length := by
    have z := nums.length
    rwa [Array.length_toList] at z
  obtain ⟨c, tl, hmro⟩ := F.called_set.mro
  have y1 := F.called_set.made
  have y2 := F.called_set.sub
  refine wpAny_call (codeAny_of_tree ?_)
  show wpAny _ _ (callAny (.type "set") _) _ _ _
  refine wpAny_pure ⟨Code.quiet_builtin _ (by decide +kernel), codeAny_builtin F.entry_type_call ?_⟩
  rw [Around.under_plain (weight_type_call_type "set" [.ref l] []) rfl]
  have y3 := F.called_set.notType
  have y4 := F.called_set.canCreate
  have y5 := F.typeCall_set_1 (.ref l)
  repeat (any_goals (first | assumption | wp_step))
  refine codeAny_mono (code_set_led1 (.ref l) (E := E) (Q₁ := fun obj s1 => obj = .ref s.heap.objs.size ∧ s1 = { s with heap := s.heap.push (bare w) }) ⟨rfl, rfl⟩) fun r s1 got => ?_
  cases r with
  | error e => exact got
  | ok fl =>
    cases fl with
    | ret obj =>
      obtain ⟨rfl, rfl⟩ := got
      have there := bare_get s.heap w
      have kind : Shared.TypeIs { s with heap := s.heap.push (bare w) } (.ref s.heap.objs.size) "set" := ⟨_, there, rfl⟩
      have y6 := F.called_set.init.lookup
      have y7 := F.called_set.init.bind (.ref s.heap.objs.size)
      repeat (any_goals (first | assumption | wp_step))
      refine codeAny_mono (codeAny_call_builtin (R := wants (fun r s2 => r = .none ∧ ∃ h2 k2 c, s2 = { s with heap := h2, toks := k2 } ∧ SetR w h2 s.heap.objs.size (fun j => decide (j ∈ ns)) c ∧ c ≤ ns.length ∧
          (∀ b o, s.heap.get? b = some o → h2.get? b = some o)) E) F.called_set.init.plain F.entry_set_init (check_set_init_1 kind ?_)) fun r2 s2 got2 => ?_
      · obtain ⟨⟨ocls, odict, odata, oslots⟩, hol, hcl, nl, hdl⟩ := isl
        simp only at hcl hdl
        subst hcl; subst hdl
        have hol2 : (s.heap.push (bare w)).get? l = some { cls := .type "list", dict := odict, data := .seq cells nl, slots := oslots } := Heap.get?_push_of_some _ hol
        have y8 := F.sub_list_set
        have y9 := F.sub_list_frozenset
        have y10 : (Value.type "list" == Value.type "dict") = false := by decide
        have isl2 : (s.heap.push (bare w)).IsList l cells := ⟨_, hol2, rfl, nl, rfl⟩
        unfold Builtin.«set.__init__» noKeywords Builtin.Frozenset.updateFrom
        generalize hPI : pyIter = PI
        wp_walk
        subst hPI
        refine wpAny_pyIter_list isl2 (wpAny_bind (wpAny_runValue ?_))
        have below : l < s.heap.objs.size := Heap.lt_size hol
        have free3 : A.in1.in1.in1.handled = none := by simp [free]
        have other : l ≠ (s.heap.push (bare w)).objs.size := fun z => by
          rw [Heap.size_push] at z
          exact Nat.lt_irrefl _ (Nat.lt_trans (z ▸ below) (Nat.lt_succ_self _))
        have apart : s.heap.objs.size ∉ [(s.heap.push (bare w)).objs.size, l] := by
          rw [Heap.size_push, List.mem_cons, List.mem_singleton]
          rintro (z | z)
          · exact absurd z (Nat.ne_of_lt (Nat.lt_succ_self _))
          · exact Nat.lt_irrefl _ (z ▸ below)
        have vals : ∀ (i : Nat) (v : Value), cells[i]? = some v → ∃ k t, ns[i]? = some k ∧ v = .int k t := fun i v hv => by
          have lt : i < ns.length := by rw [← many]; exact (Array.getElem?_eq_some_iff.mp hv).1
          obtain ⟨t, e⟩ := IntsAre.int_at nums i v (by rw [Array.getElem?_toList]; exact hv)
          exact ⟨ns[i], t, List.getElem?_eq_getElem lt, by rw [e, List.getD_eq_getElem?_getD, List.getElem?_eq_getElem lt] <;> rfl⟩
        refine set_update_ints ((Walks.list free3 _ l other cells).toS) s.heap.objs.size apart ns many room vals (cells.size - 0) 0 _ (by omega) (Nat.zero_le _)
          ⟨⟨_, Heap.get?_push_size _ rfl, rfl, rfl⟩, (isl2.push _)⟩ ⟨0, Nat.le_refl 0, setR_new_at (Heap.get?_push_of_some _ there)⟩ fun s3 c3 mv few R => ?_
        obtain ⟨h3, g3, d3, k3, o3⟩ := s3
        obtain rfl : g3 = s.gens := mv.gens
        obtain rfl : d3 = s.drawn := mv.drawn
        obtain rfl : o3 = s.os := mv.os
        show wpAny _ _ _ _ _ _
        refine wpAny_pure ?_
        show wpAny _ _ (ret Value.none) _ _ _
        rw [many] at few
        refine wpAny_pure ⟨rfl, h3, k3, c3, rfl, R, few, fun b o e => mv.heap b o ?_ (Heap.get?_push_of_some _ (Heap.get?_push_of_some _ e))⟩
        have lt := Heap.lt_size e
        rw [List.mem_cons, List.mem_singleton, Heap.size_push]
        rintro (z | z)
        · exact Nat.lt_irrefl _ (z ▸ lt)
        · exact Nat.lt_irrefl _ (Nat.lt_trans (z ▸ lt) (Nat.lt_succ_self _))
      · cases r2 with
        | error e => exact got2
        | ok fl2 =>
          cases fl2 with
          | ret r =>
            obtain ⟨rfl, h2, k2, c2, rfl, R, few, keep⟩ := got2
            repeat (any_goals (first | assumption | wp_step))
            exact fin _ _ _ R few keep
          | _ => exact got2.elim
    | _ => exact got.elim
end
def rSetL (K : PySem.W.Frag) (w : World) : List V → Hp → VK → Prop := fun xs H Q => ∃ (l : Addr) (ns : List Int), xs = [.ref l] ∧ SqL K H l (ns.map V.int) ∧ ns.length ≤ 1000 ∧ ∀ D n, H D = none → n ≤ ns.length → Q (.ref D) (upd H D (SetO w D (fun j => decide (j ∈ ns)) n))
theorem call_setL {X : Cx} (hc : X.calm = true) : CallR X (.type "set") (rSetL X.K X.w) := by
  intro pins s σ H xs us Q I r h
  obtain ⟨l, ns, rfl, hl, few, q⟩ := h
  rw [Vals.ref1 r]
  obtain ⟨its, rv, pl, hz⟩ := I.list hl
  refine setL_call (w := X.w) ns (I.ok.hd hc) pl.isList (by simpa using intsAre_of rv) (by unfold scanBound; omega) fun h2 k2 c R le keep => ?_
  exact ⟨.ref s.heap.objs.size, _, I.laid (t' := k2) keep (Nat.le_refl _) (setO_new R), rfl, q _ c (I.hok.fresh (Nat.le_refl _)) le⟩
end RH
set_option Elab.async false
set_option linter.all false
set_option maxRecDepth 100000
set_option maxHeartbeats 2000000
/-! A set comprehension whose members are ints. -/
namespace RH
open PySem PySem.Spec PyProof.Rows L2
/-- what a turn of the comprehension leaves: x is added -/
def addTurn (w : World) (D : Addr) (Nx : Hp → Prop) : VK := fun y H => ∃ (c : Int) (S : Int → Bool) (n : Nat), y = .int c ∧ H D = some (SetO w D S n) ∧ n + 1 < scanBound ∧ Nx (upd H D (SetO w D (fun j => S j || decide (j = c)) (if S c = true then n else n + 1)))
def tScI (w : World) (wi : TI) (g : TG) (tt : TT) (te : TE) (vs : List Nat) : TE := fun σ H Q => wi σ H fun J H1 => ∀ D, H1 D = none → ∃ W : Nat → Nat → Hp → Prop, (∃ m, W 0 m (upd H1 D (SetO w D (fun _ => false) 0))) ∧ ∀ i m H, W i m H →
  (J.stop i H ∧ Q (.ref D) H) ∨ (J.go i H ∧ ∃ Nx : Hp → Prop, (∀ H', Nx H' → ∃ m', m' < m ∧ W (i + 1) m' H') ∧ ∀ x H', J.yld i H x H' → g x (wipe σ vs) H' fun σ2 H2 => wipe σ2 vs = wipe σ vs ∧ tt σ2 H2 fun b H3 =>
    if b = true then te σ2 H3 (addTurn w D Nx) else Nx H3)
section
variable {X : Cx} {elt tg iter : Expr} {ifs : List Expr} {scope : Scope} {own : List (PySem.Str × Nat)} {wi : TI} {g : TG} {tt : TT} {te : TE}
theorem addI_call {pins : List (Addr × Obj)} {σ : L2.St} {H : Hp} {s : Shared} {E : Value → Shared → Prop} {D : Addr} {S : Int → Bool} {n : Nat} {k : Int} {tk : Tok} {Q : Value → Shared → Prop} (I : Inv X pins σ H s) (hD : H D = some (SetO X.w D S n)) (room : n + 1 < scanBound)
    (fin : ∀ s2, Inv X pins σ (upd H D (SetO X.w D (fun j => S j || decide (j = k)) (if S k = true then n else n + 1))) s2 → Q .none s2) : wpAny (model X.prog X.w) X.A (call (.builtin "set.add") [.ref D, .int k tk]) Q E s := by
  refine setR_add (setO_get I hD) room fun h2 sb new => ?_
  obtain ⟨o, _, _, _, ho, _⟩ := id new
  exact fin _ (I.write (e := D) (t' := s.toks + 1) (by rw [hD]; trivial) (.inl rfl) (fun b u ne hu => (sb.2 b ne).trans hu) ⟨o, ho⟩ (setO_new new))
theorem scI_run {pins : List (Addr × Obj)} {s : Shared} {σ : L2.St} {H : Hp} {Q : VK} {pos pos' : Pos} {use : Option (Value → Sem Unit)} {Qf : Value → Shared → Prop}
    (calm : X.calm = true) (nd : X.N.Nodup) (I : Inv X pins σ H s) (iw : PI X tg iter wi) (blk : BlkOk X.N X.env.scope scope own)
    (pgs : ∀ (s : Shared) (H : Hp) (C : Addr) (cl : List (PySem.Str × Addr)) (fp : List Addr), PG (X.blk s H scope (compEnvC scope cl C X.env) fp) tg g) (pts : ∀ (s : Shared) (H : Hp) (C : Addr) (cl : List (PySem.Str × Addr)) (fp : List Addr), PTs (X.blk s H scope (compEnvC scope cl C X.env) fp) ifs tt)
    (pes : ∀ (s : Shared) (H : Hp) (C : Addr) (cl : List (PySem.Str × Addr)) (fp : List Addr), PE (X.blk s H scope (compEnvC scope cl C X.env) fp) elt te) (nof : ∀ x, foldedSetIterable iter X.env x = pure x) (h : tScI X.w wi g tt te (own.map (·.2)) σ H Q)
    (back : ∀ D C s' m H', Inv X pins σ H' s' → Q (.ref D) H' → s'.heap.Ns C m → FpOk X pins H' C → compPost (model X.prog X.w) X.A X.xe use Qf (.ref D) C (.ok .next) s') :
    wpAny (model X.prog X.w) X.A (comprehension (.SetComp elt [⟨tg, iter, ifs, 0⟩] scope pos) scope X.env pos' (newSet (.type "set")) false (eval iter X.env) use) Qf X.xe s := by
  have cells : ∀ y ∈ scope.names, y.2 = .free → ∃ c, X.env.cells.lookup y.1 = some c := fun y hy e => (blk.free y hy e).elim (fun k => I.ok.has _ (.inl k)) (fun k => I.ok.has _ (.inr k))
  refine wpAny_comprehension_free (use := use) rfl nof (closure_ok cells) blk.kind (fun y hy e => by rw [blk.uniq y hy, e]) (thn (iw.run pins s σ H _ I h) fun _ s1 one => thn one fun _ s2 two => ?_)
  obtain ⟨it, fp, tn, J, H2, rfl, I2, T, st2, f2, q⟩ := two
  refine PpSet.newSet_ok (newEnv_comp ?_)
  generalize eD : s2.heap.objs.size = D
  have freshD : H2 D = none := I2.hok.fresh (Nat.le_of_eq eD)
  obtain ⟨W, ⟨m0, w0⟩, turn⟩ := q D freshD
  generalize e3 : ({ s2 with heap := s2.heap.push { cls := .type "set", dict := none, data := .set #[] 0 (.fresh 0 0 (!X.w.params.followText "set-order")) } } : Shared) = s3
  have heap3 : s3.heap = s2.heap.push (bare X.w) := by rw [← e3]
  have I3 : Inv X pins σ (upd H2 D (SetO X.w D (fun _ => false) 0)) s3 := by
    rw [← e3]
    refine I2.laid (t' := s2.toks) (fun b o e => Heap.get?_push_of_some _ e) (Nat.le_of_eq eD) ?_
    rw [← eD]
    exact setO_new (setR_fresh X.w)
  have f3 : ∀ b ∈ fp, FpOk X pins (upd H2 D (SetO X.w D (fun _ => false) 0)) b ∧ b < s3.heap.objs.size := fun b hb => by
    obtain ⟨o, e, _⟩ := T.obj _ _ st2 b hb
    have lt := Heap.lt_size e
    refine ⟨⟨?_, (f2 b hb).2⟩, by rw [heap3, Heap.size_push]; exact Nat.lt_succ_of_lt lt⟩
    rw [upd_ne (fun z => Nat.lt_irrefl _ ((z.trans eD.symm) ▸ lt))]
    exact (f2 b hb).1
  have I4 := block_start I3 blk nd f3
  generalize upd H2 D (SetO X.w D (fun _ => false) 0) = H3 at I3 I4 w0 f3
  have pg := pgs s3 H3 s3.heap.objs.size (cellsFrom (s3.heap.objs.size + 1) scope.names (cloFrom X.env.cells scope.names [])) fp
  have pt := pts s3 H3 s3.heap.objs.size (cellsFrom (s3.heap.objs.size + 1) scope.names (cloFrom X.env.cells scope.names [])) fp
  have pe := pes s3 H3 s3.heap.objs.size (cellsFrom (s3.heap.objs.size + 1) scope.names (cloFrom X.env.cells scope.names [])) fp
  have st3 : tn 0 s3.heap := T.keep _ _ _ st2 fun b _ o e => by rw [heap3]; exact Heap.get?_push_of_some _ e
  have none3 : ∀ b ∈ fp, H3 b = none := fun b hb => (f3 b hb).1.1
  show codeAny _ _ (.compStart (.SetComp elt [⟨tg, iter, ifs, 0⟩] scope pos) 0 (.ref it) (.ref D) (compEnvC scope (cellsFrom (s3.heap.objs.size + 1) scope.names (cloFrom X.env.cells scope.names [])) s3.heap.objs.size X.env)) (compPost (model X.prog X.w) X.A X.xe use Qf (.ref D) s3.heap.objs.size) { s3 with heap := pushCells (s3.heap.push { cls := .type "dict", data := .dict #[] }) scope.names }
  generalize ee : compEnvC scope (cellsFrom (s3.heap.objs.size + 1) scope.names (cloFrom X.env.cells scope.names [])) s3.heap.objs.size X.env = ce at I4 pg pt pe ⊢
  have loc : ce.locals = s3.heap.objs.size := by
    subst ee
    rfl
  generalize e4 : ({ s3 with heap := pushCells (s3.heap.push { cls := .type "dict", data := .dict #[] }) scope.names } : Shared) = s4 at I4 ⊢
  have st4 : tn 0 s4.heap := T.keep _ _ _ st3 fun b _ o e => by rw [← e4]; exact pushCells_keeps _ _ _ _ (Heap.get?_push_of_some _ e)
  have quiet : ∀ {σ' : L2.St} {H' : Hp} {s' : Shared}, Inv (X.blk s3 H3 scope ce fp) [] σ' H' s' → (∀ b ∈ fp, H' b = none) → ∀ b ∈ fp, FpOk (X.blk s3 H3 scope ce fp) [] H' b := fun I' hn b hb =>
    ⟨hn b hb, (I'.ok.exf b hb).1, I'.ok.exfs b hb, .inl hb, fun x c e => (I'.ok.exf b hb).2 x c e, fun p hp => absurd (show p ∈ ([] : List (Addr × Obj)) ++ [] from hp) (by simp)⟩
  have loop : codeAny (model X.prog X.w) X.A (.compLoop (.SetComp elt [⟨tg, iter, ifs, 0⟩] scope pos) 0 (.ref it) (.ref D) ce) (compPost (model X.prog X.w) X.A X.xe use Qf (.ref D) s3.heap.objs.size) s4 := by
    refine PpSet.compLoopS_any (fun n s' => ∃ i H', Inv (X.blk s3 H3 scope ce fp) [] (wipe σ (own.map (·.2))) H' s' ∧ tn i s'.heap ∧ (∀ b ∈ fp, H' b = none) ∧ W i n H') ?_ m0 ⟨0, H3, I4, st4, none3, w0⟩
    rintro n s5 ⟨i, H5, I5, st5, n5, w5⟩
    rcases turn i n H5 w5 with ⟨stop, last⟩ | ⟨go, Nx, next, step⟩
    · refine thnF (T.done (X.blk s3 H3 scope ce fp) rfl rfl rfl calm i [] s5 _ H5 (fun _ _ => False) I5 (quiet I5 n5) st5 stop) fun r s6 ⟨er, I6⟩ => ?_
      subst er
      have out : Inv X pins σ H5 s6 := I3.call' (ch := fp) I6.os I6.base I6.hok I6.bare fun b hb => ⟨(f3 b hb).1.2.2.2.1, (f3 b hb).1.2.1, (f3 b hb).1.2.2.2.2.1, (f3 b hb).1.2.2.2.2.2⟩
      have free : H5 s3.heap.objs.size = none := loc ▸ (show H5 ce.locals = none from I6.free)
      obtain ⟨m, ns, _⟩ := I6.loc
      have ns : s6.heap.Ns ce.locals m := ns
      exact back D s3.heap.objs.size s6 m H5 out last (loc ▸ ns) (I3.fpOk (Nat.le_refl _) free)
    · refine thnF (T.item (X.blk s3 H3 scope ce fp) rfl rfl rfl calm i [] s5 _ H5 (fun _ _ => False) I5 (quiet I5 n5) st5 go) fun r s6 ⟨u, er, six⟩ => ?_
      subst er
      refine thnF six fun _ s7 ⟨x, H7, I7, r7, y7, st7, n7⟩ => ?_
      refine thnF (pg.run _ s7 _ H7 x u _ (I7.pinned (quiet I7 n7) (T.obj _ _ st7)) r7 (step x H7 y7)) fun _ s8 ⟨σ8, H8, I8, same8, q8⟩ => ?_
      refine thnF (pt.run _ s8 σ8 H8 _ I8 q8) fun b s9 ⟨H9, I9, q9⟩ => ?_
      have ends : ∀ {s' : Shared} {H' : Hp}, Inv (X.blk s3 H3 scope ce fp) ([] ++ pinsAt fp s7.heap) σ8 H' s' → Nx H' → ∃ m, m < n ∧ ∃ i H', Inv (X.blk s3 H3 scope ce fp) [] (wipe σ (own.map (·.2))) H' s' ∧ tn i s'.heap ∧ (∀ b ∈ fp, H' b = none) ∧ W i m H' := fun {s' H'} I' nx => by
        obtain ⟨m', lt, w'⟩ := next H' nx
        have held : ∀ b ∈ fp, ∀ o, s7.heap.get? b = some o → s'.heap.get? b = some o ∧ H' b = none := fun b hb o e =>
          (fun z => ⟨z.1, z.2.1⟩) (I'.pin (b, o) (List.mem_append_right _ (List.mem_append_right _ (mem_pinsAt hb e))))
        refine ⟨m', lt, i + 1, H', (I'.unpinned (pins := [])).weak (by rw [← same8, wipe_length]) (fun j v e => ?_), T.keep _ _ _ st7 fun b hb o e => (held b hb o e).1, fun b hb => ?_, w'⟩
        · rw [← same8] at e
          exact (wipe_some e).1
        · obtain ⟨o, e, _⟩ := T.obj _ _ st7 b hb
          exact (held b hb o e).2
      cases b with
      | false =>
        simp only [Bool.false_eq_true, if_false] at q9 ⊢
        exact ends I9 q9
      | true =>
        simp only [if_true] at q9 ⊢
        refine thnF (pe.run _ s9 σ8 H9 _ I9 q9) fun z s10 ⟨yv, H10, I10, r10, c, S0, n0, ey, at10, room, nx⟩ => ?_
        subst ey
        obtain ⟨tk, rfl⟩ := r10
        exact addI_call (X := X.blk s3 H3 scope ce fp) I10 at10 room fun s11 I11 => ends I11 nx
  exact PpSet.codeAny_compStart_set loop (T.self X.A 0 _ _ _ st4 loop)
theorem pe_scI {pos : Pos} (calm : X.calm = true) (nd : X.N.Nodup) (iw : PI X tg iter wi) (blk : BlkOk X.N X.env.scope scope own)
    (pgs : ∀ (s : Shared) (H : Hp) (C : Addr) (cl : List (PySem.Str × Addr)) (fp : List Addr), PG (X.blk s H scope (compEnvC scope cl C X.env) fp) tg g) (pts : ∀ (s : Shared) (H : Hp) (C : Addr) (cl : List (PySem.Str × Addr)) (fp : List Addr), PTs (X.blk s H scope (compEnvC scope cl C X.env) fp) ifs tt)
    (pes : ∀ (s : Shared) (H : Hp) (C : Addr) (cl : List (PySem.Str × Addr)) (fp : List Addr), PE (X.blk s H scope (compEnvC scope cl C X.env) fp) elt te) (nof : ∀ x, foldedSetIterable iter X.env x = pure x := by intro _; rfl) :
    PE X (.SetComp elt [⟨tg, iter, ifs, 0⟩] scope pos) (tScI X.w wi g tt te (own.map (·.2))) := by
  refine ⟨fun pins s σ H Q I h => ?_⟩
  rw [PpSet.eval_SetComp]
  refine scI_run calm nd I iw blk pgs pts pes nof h fun D C s' m H' I' q ns f => ⟨m, ns, fun h2 sb => ?_⟩
  obtain ⟨f0, f1, _, f3, f4, f5⟩ := f
  exact ⟨.ref D, H', I'.turned (t' := s'.toks) (fun b o ne e => (sb.2 b ne).trans e) f0 f1 f3 f4 f5, rfl, q⟩
end
/-! ### tuple(range(..)), told by its very object -/
def tTupRgF (te : L2.St → Hp → (Int → Int → Hp → Prop) → Prop) : TE := fun σ H Q => te σ H fun a b H1 => RgOk a b ∧ ∀ q ob, H1 q = none → ob.dict = none → Q (.ref q) (upd H1 q (.frz ob (.tup (rgV a b))))
theorem pe_tupRgF {X : Cx} {e : Expr} {te : L2.St → Hp → (Int → Int → Hp → Prop) → Prop} {p pos : Pos} (calm : X.calm = true) (gl : Gl X "tuple") (nm : X.mg "tuple" = none) (he : PRg X e te) (na : starEach [e] X.env = (false, eval e X.env) :: starEach [] X.env := by rfl) : PE X (.Call (.Name "tuple" p) [e] [] pos) (tTupRgF te) := by
  refine ⟨fun pins s σ H Q I h => ?_⟩
  refine Call_ (ld_blt I gl nm boot_tuple (PyProof.Rows.callWith_type1 (args_cons (thn (he pins s σ H _ I h) fun x s1 ⟨r, a, b, t, u, v, H1, ex, isr, I1, okr, q⟩ => args_nil ?_) na) na))
  subst ex
  obtain ⟨c1, c2, c3, c4, c5⟩ := okr
  refine call_tuple_range (n := (b - a).toNat) (I1.ok.hd calm) isr (small_one c1 c2 c3 c4) (rangeSize_nat a b) c5 fun h2 k2 out keep items => ?_
  have I2 : Inv X pins σ H1 { s1 with heap := h2, toks := k2 } := I1.kept keep
  have at2 : (h2.push { cls := .type "tuple", data := .seq out }).get? h2.objs.size = some { cls := .type "tuple", data := .seq out } := Heap.get?_push_size _ rfl
  have I3 : Inv X pins σ (upd H1 h2.objs.size (.frz { cls := .type "tuple", data := .seq out } (.tup (rgV a b)))) { s1 with heap := h2.push { cls := .type "tuple", data := .seq out }, toks := k2 } :=
    I2.laid (t' := k2) (fun c o ec => Heap.get?_push_of_some _ ec) (Nat.le_refl _) ⟨at2, by rw [rgV_length, sizeLine_eq]; omega, out.toList, vals_rg items, by rw [Array.toArray_toList]; exact IsTup.new _ _⟩
  exact ⟨.ref h2.objs.size, _, I3, rfl, q _ _ (I2.hok.fresh (Nat.le_refl _)) rfl⟩
end RH
set_option Elab.async false
set_option linter.all false
set_option maxRecDepth 100000
set_option maxHeartbeats 2000000
/-! Lambdas with a default, as values that a def of the text calls without arguments, and that may raise. -/
set_option Elab.async false
set_option linter.all false
set_option maxRecDepth 100000
set_option maxHeartbeats 2000000
/-! try with several except clauses, each with a name. -/
namespace RH
open PySem PySem.Spec PyProof.Rows L2
/-- an error of class cls that has come to the try of X, at the heap h -/
structure Caught (X : Cx) (pins : List (Addr × Obj)) (a : Addr) (cls : Value) (d : Option Addr) (σ : L2.St) (H : Hp) (s : Shared) : Prop where
  ex : ∃ (B : Heap) (sI : Shared), Inv X pins σ H sI ∧ (∀ b o, sI.heap.get? b = some o → b ∉ frs X.stack → B.get? b = some o) ∧ sI.heap.UpToSlots s.heap ∧ HandSPX.FlyingZ B (X.env :: X.outer) a (Zc cls d) s.heap ∧ s.os = sI.os ∧ AllBare s.gens
  na : H a = none
section
variable {X : Cx} {pins : List (Addr × Obj)} {a : Addr} {cls : Value} {d : Option Addr} {σ : L2.St} {H : Hp} {s : Shared}
/-- no clause takes it -/
theorem Caught.on {W : WX} {D : Ends} (c : Caught X pins a cls d σ H s) (hs : X.stack = X.env :: X.outer) (hf : X.env.frame = some X.env.locals) (tk : Takes X W) (w : W cls d σ H) : wpAny (model X.prog X.w) X.A (handleBy (.ref a) X.env []) (SP X pins D) X.xe s := by
  obtain ⟨B, sI, I, nb, up, fl, os, ag⟩ := c.ex
  refine wpAny_handleBy_nil ?_
  obtain ⟨_, _, _, oe, vs, T, oT, ts, at_, z, dat, one, _⟩ := id fl
  unfold PySem.passOn
  refine wpAny_bind (wpAny_field at_ dat one ?_)
  rw [if_neg (by simp : ¬ ((Value.ref T == Value.none) = true)), hf]
  have out : wpAny (model X.prog X.w) X.A (setFlight (.ref a) (some X.env.locals)) (fun _ s4 => wpAny (model X.prog X.w) X.A (throw (.ref a) : Sem Flow) (SP X pins D) X.xe s4) X.xe s :=
    HandSPX.setFlight_upZ fl fun h4 hh up4 => wpAny_throw (tk _ _ ⟨a, B, sI, pins, σ, H, cls, d, rfl, I, nb, up.trans up4, .inr (.inr (hs ▸ hh)), c.na, os, ag, w⟩)
  first
    | exact wpAny_bind (wpAny_pure (wpAny_bind out))
    | exact wpAny_bind out
end
end RH
set_option Elab.async false
set_option linter.all false
set_option maxRecDepth 100000
set_option maxHeartbeats 2000000
/-! sorted(range(n), key=f) and sorted(xs, key=f), f a lambda that may see names of the def; tuple.count. -/
namespace RH
open PySem PySem.Spec PyProof.Rows L2
/-! ### keys that stay -/
section
variable {K : PySem.W.Frag} {H H' : Hp}
theorem rdUp (e : Same H H') {b : Addr} {o : HO} (r : Rd H b o) : Rd H' b o := r.elim (fun z => .inl (e _ _ z)) fun ⟨ob, z⟩ => .inr ⟨ob, e _ _ z⟩
theorem keyUp (e : Same H H') {v : V} {d : PyData} (h : Dp K H v d) : Dp K H' v d :=
  Dp.rec (motive_1 := fun v d _ => Dp K H' v d) (motive_2 := fun vs ds _ => DpAll K H' vs ds) .non .bl .int .str (fun hs _ t => .lst (hs.imp_left (rdUp e)) t) (fun hs _ t => .tup (hs.imp_left (rdUp e)) t) .nil (fun _ _ a b => .cons a b) h
end
/-- the keys made so far: for each value a V, and its data -/
inductive KeysOk (K : PySem.W.Frag) (H : Hp) : List Value → List PyData → Prop
  | nil : KeysOk K H [] []
  | cons {u : Value} {us : List Value} {d : PyData} {ds : List PyData} (v : V) : RelV v u → Dp K H v d → KeysOk K H us ds → KeysOk K H (u :: us) (d :: ds)
section
variable {K : PySem.W.Frag} {H H' : Hp} {us : List Value} {ds : List PyData}
theorem KeysOk.up (e : Same H H') (k : KeysOk K H us ds) : KeysOk K H' us ds := by
  induction k with
  | nil => exact .nil
  | cons v r h _ ih => exact .cons v r (keyUp e h) ih
theorem KeysOk.more {u : Value} {d : PyData} {v : V} (k : KeysOk K H us ds) (r : RelV v u) (h : Dp K H v d) : KeysOk K H (us ++ [u]) (ds ++ [d]) := by
  induction k with
  | nil => exact .cons v r h .nil
  | cons v' r' h' _ ih => exact .cons v' r' h' ih
theorem KeysOk.size (k : KeysOk K H us ds) : us.length = ds.length := by
  induction k with
  | nil => rfl
  | cons _ _ _ _ ih => rw [List.length_cons, List.length_cons, ih]
end
/-! ### list.sort(key=f) over a list of our own -/
section
variable {X : Cx} {A : Around} {pins : List (Addr × Obj)} {σ : L2.St} {H : Hp} {a kS f : Addr} {xs : List V} {kd : V → PyData} {e1 : Nat}
/-- while the keys are made: the list is empty, the keys so far are kept beside -/
structure Making (X : Cx) (pins : List (Addr × Obj)) (σ : L2.St) (H : Hp) (a kS : Addr) (e1 : Nat) (ds : List PyData) (H' : Hp) (ks : Array Value) (e : Nat) (s : Shared) : Prop where
  inv : Inv X pins σ H' s
  same : Same H H'
  na : H' a = none
  nk : H' kS = none
  la : s.heap.get? a = some (seqObj "list" #[] e1)
  lk : s.heap.get? kS = some (seqObj "list" ks e)
  ok : KeysOk X.K H' ks.toList ds
theorem Making.push {ds : List PyData} {H' : Hp} {ks : Array Value} {e : Nat} {s : Shared} {w : Value} {v : V} {d : PyData} (M : Making X pins σ H a kS e1 ds H' ks e s) (fk : FpOk X pins H kS) (hka : kS ≠ a) (rv : RelV v w) (dv : Dp X.K H' v d) :
    ∃ e', Making X pins σ H a kS e1 (ds ++ [d]) H' (ks.push w) e' { s with heap := s.heap.update kS (Obj.mapSeq (·.push w)) } := by
  have apart := Heap.SameBut.update s.heap kS (Obj.mapSeq (·.push w))
  refine ⟨_, M.inv.turned (t' := s.toks) (it := kS) (fun b o hb z => (apart.2 b hb).trans z) M.nk fk.2.1 fk.2.2.2.1 fk.2.2.2.2.1 fk.2.2.2.2.2, M.same, M.na, M.nk, (apart.2 a hka.symm).trans M.la, get?_update_seq M.lk (·.push w), ?_⟩
  rw [Array.toList_push]
  exact M.ok.more rv dv
end
/-! ### sorted(.., key=f) -/
/-! ### ranges of one bound, tuple.count -/
end RH
set_option Elab.async false
set_option linter.all false
set_option maxRecDepth 100000
set_option maxHeartbeats 2000000
/-! t[::-1] of a tuple; list(range(a, b, -1)). -/
namespace RH
open PySem PySem.Spec PyProof.Rows L2
section
variable {prog : Program} {w : World} {A : Around} {E : Value → Shared → Prop} {s : Shared}
theorem back_places (n : Nat) : Builtin.Slice.slicePlaces ((n : Int) - 1) (-1) (-1) = n := by
  unfold Builtin.Slice.slicePlaces
  rw [if_neg (by decide)]
  by_cases h : (n : Int) - 1 > -1
  · rw [if_pos h]
    have e : ((n : Int) - 1 - -1 - 1) / - -1 = (n : Int) - 1 := by
      rw [show - -1 = (1 : Int) from rfl, Int.ediv_one]
      omega
    rw [e]
    omega
  · rw [if_neg h]
    have : n = 0 := by omega
    subst this
    rfl
theorem back_pick (xs : Array Value) : ((List.range xs.size).filterMap fun k : Nat => xs[((xs.size : Int) - 1 + (k : Int) * -1).toNat]?).toArray = xs.toList.reverse.toArray := by
  refine congrArg List.toArray ?_
  have e : ∀ k ∈ List.range xs.size, xs[((xs.size : Int) - 1 + (k : Int) * -1).toNat]? = some (xs.toList.reverse.getD k .none) := fun k hk => by
    have hk := List.mem_range.mp hk
    rw [show ((xs.size : Int) - 1 + (k : Int) * -1).toNat = xs.size - 1 - k by omega, List.getD_eq_getElem?_getD, List.getElem?_reverse (by rw [Array.length_toList]; exact hk), Array.length_toList, Array.getElem?_toList, Array.getElem?_eq_getElem (by omega)]
    rfl
  have e2 : ∀ l : List Nat, (∀ k ∈ l, xs[((xs.size : Int) - 1 + (k : Int) * -1).toNat]? = some (xs.toList.reverse.getD k .none)) → l.filterMap (fun k : Nat => xs[((xs.size : Int) - 1 + (k : Int) * -1).toNat]?) = l.map fun k => xs.toList.reverse.getD k .none := fun l h => by
    induction l with
    | nil => rfl
    | cons k l ih => rw [List.filterMap_cons, h k (List.mem_cons_self ..), List.map_cons, ih fun j hj => h j (List.mem_cons_of_mem _ hj)]
  rw [e2 _ e]
  refine List.ext_getElem (by rw [List.length_map, List.length_range, List.length_reverse, Array.length_toList]) fun i h1 h2 => ?_
  rw [List.getElem_map, List.getElem_range, List.getD_eq_getElem?_getD, List.getElem?_eq_getElem h2]
  rfl
/-- what a slice with the step -1 alone comes to -/
theorem back_applied {sl : Addr} {n : Nat} {t : Tok} {Q : Int × Int × Nat → Shared → Prop} (hs : s.heap.IsSliceOf sl .none .none (.int (-1) t)) (h : Q ((n : Int) - 1, -1, n) s) : wpAny (model prog w) A (Builtin.Slice.sliceApplied (.ref sl) (pure (n : Int))) Q E s := by
  obtain ⟨os, hos, hcs, hds⟩ := id hs
  unfold Builtin.Slice.sliceApplied Builtin.Slice.sliceFields
  refine wpAny_bind (wpAny_bind (wpAny_field hos hds (x := .none) rfl (wpAny_bind (wpAny_field hos hds (x := .none) rfl (wpAny_bind (wpAny_field hos hds (x := .int (-1) t) rfl (wpAny_pure ?_)))))))
  refine wpAny_bind (HT.slicePart_ (.int (-1) t) ?_)
  show wpAny _ _ (if ((-1 : Int) == 0) = true then _ else _) _ _ s
  rw [if_neg (by decide)]
  refine wpAny_bind (HT.slicePart_ .none (wpAny_bind (HT.slicePart_ .none (wpAny_bind (wpAny_pure ?_)))))
  have e : Builtin.Slice.sliceAdjust none none (-1) (n : Int) = ((n : Int) - 1, -1) := rfl
  show wpAny _ _ (match Builtin.Slice.sliceAdjust none none (-1) (n : Int) with | (lo, hi) => pure (lo, (-1 : Int), Builtin.Slice.slicePlaces lo hi (-1))) _ _ s
  rw [e]
  show wpAny _ _ (pure ((n : Int) - 1, (-1 : Int), Builtin.Slice.slicePlaces ((n : Int) - 1) (-1) (-1))) _ _ s
  rw [back_places]
  exact wpAny_pure h
theorem item_back {t sl : Addr} {tk : Tok} {its : List Value} {Q : Value → Shared → Prop} (ht : IsTup s.heap t its.toArray) (hs : s.heap.IsSliceOf sl .none .none (.int (-1) tk)) (hz : its.length ≤ sizeLine)
    (h : Q (.ref s.heap.objs.size) { s with heap := s.heap.push { cls := .type "tuple", data := .seq its.reverse.toArray } }) : wpAny (model prog w) A (getItem (.ref t) (.ref sl)) Q E s := by
  obtain ⟨os, hos, hcs, hds⟩ := id hs
  have hTs : s.TypeIs (.ref sl) "slice" := ⟨os, hos, hcs⟩
  have room : sizeOk (.seq its.reverse.toArray) := by
    show its.reverse.toArray.size ≤ sizeLine
    rw [List.size_toArray, List.length_reverse]
    exact hz
  unfold getItem
  try with_reducible refine wpAny_holding ?_
  first | refine wpAny_bind (wpAny_pure ?_) | skip
  refine wpAny_bind (wpAny_sequenceKey ht.typeIs (by decide) ?_)
  refine wpAny_bind (wpAny_callSpecial?_slot (name := Str.ofString "__getitem__") ht.typeIs PyProof.Rows.slot_tuple_getitem
    (wpAny_call_entry PyProof.Rows.slot_tuple_getitem ht.typeIs entry_tuple_getitem ?_ (args_tuple_getitem _ _)))
  show wpAny _ _ (Builtin.Tuple.tupleItemsOf (.ref t) >>= _) _ _ s
  refine wpAny_bind (tupleItemsOf_ ht ?_)
  refine wpAny_bind (wpAny_typeOf hTs ?_)
  rw [if_pos (by decide)]
  refine wpAny_bind (back_applied hs ?_)
  have hno : ¬ (((its.toArray.size : Int) - 1 == 0 && (-1 : Int) == 1 && its.toArray.size == its.toArray.size) = true) := by
    rw [show ((-1 : Int) == 1) = false from rfl, Bool.and_false, Bool.false_and]
    exact Bool.false_ne_true
  show wpAny _ _ (if ((its.toArray.size : Int) - 1 == 0 && (-1 : Int) == 1 && its.toArray.size == its.toArray.size) = true then _ else _) _ _ s
  rw [if_neg hno, back_pick, List.toList_toArray]
  first
    | exact wpAny_bind (m := Builtin.Tuple.tupleExact _) (wpAny_newObj_type (wpAny_pure ⟨_, rfl, wpAny_pure h⟩) room)
    | exact wpAny_bind (m := Builtin.Tuple.tupleExact _) (wpAny_newObj_type (wpAny_bind (wpAny_pure (wpAny_pure ⟨_, rfl, wpAny_pure h⟩))) room)
    | exact wpAny_bind (wpAny_bind (m := Builtin.Tuple.tupleExact _) (wpAny_newObj_type (wpAny_pure (wpAny_pure ⟨_, rfl, wpAny_pure h⟩)) room))
    | exact wpAny_bind (wpAny_bind (m := Builtin.Tuple.tupleExact _) (wpAny_newObj_type (wpAny_pure ⟨_, rfl, wpAny_pure h⟩) room))
end
/-- t[::-1] -/
def tBack (K : PySem.W.Frag) (te : TE) : TE := fun σ H Q => te σ H fun x H1 => ∃ a xs, x = .ref a ∧ SqT K H1 a xs ∧ ∀ p, H1 p = none → Q (.ref p) (upd H1 p (.tup xs.reverse))
section
variable {X : Cx}
theorem pe_back {e : Expr} {te : TE} {k : Nat} {p1 p2 p3 pos : Pos} (K : PySem.W.Frag) (he : PE X e te) (hK : X.K = K := by rfl) : PE X (.Subscript e (.Slice none none (some (.UnaryOp .USub (.Constant (.int 1) k p1) p2)) p3) pos) (tBack K te) := by
  subst hK
  have step : PO X (some (.UnaryOp .USub (.Constant (.int 1) k p1) p2)) (tPart (tUn (rU fun i => .int (-i)) (tC (.int 1)))) := po_some (pe_un un_neg pe_int)
  refine ⟨fun pins s σ H Q I h => Subscript_ (thn (he.run pins s σ H _ I h) fun v s1 ⟨x, H1, I1, r1, a, xs, ex, hx, q⟩ => ?_)⟩
  subst ex
  obtain rfl : v = Value.ref a := r1
  refine wpAny_Slice (thn (po_none.run pins s1 σ H1 (fun o H2 => o = none ∧ H2 = H1) I1 ⟨rfl, rfl⟩) fun vl s2 ⟨l, H2, I2, pl, el, e2⟩ => ?_)
  subst el e2
  refine thn (po_none.run pins s2 σ H2 (fun o H3 => o = none ∧ H3 = H2) I2 ⟨rfl, rfl⟩) fun vu s3 ⟨u, H3, I3, pu, eu, e3⟩ => ?_
  subst eu e3
  refine thn (step.run pins s3 σ H3 (fun o H4 => o = some (-1) ∧ H4 = H3) I3 ⟨1, rfl, -1, rfl, rfl, rfl⟩) fun vs s4 ⟨o, H4, I4, ps, eo, e4⟩ => ?_
  subst eo e4
  cases pl
  cases pu
  cases ps with
  | int _ tk =>
    have I5 : Inv X pins σ H4 { s4 with heap := s4.heap.push { cls := .type "slice", data := .fields #[.none, .none, .int (-1) tk] } } := I4.kept (t' := s4.toks) fun b ob q => Heap.get?_push_of_some _ q
    obtain ⟨its, r, ht, hz⟩ := I5.tuple hx
    show wpAny (model X.prog X.w) X.A (subscriptTail e (.Slice none none (some (.UnaryOp .USub (.Constant (.int 1) k p1) p2)) p3) (.ref a) (.ref s4.heap.objs.size)) (EP X pins σ Q) X.xe { s4 with heap := s4.heap.push { cls := .type "slice", data := .fields #[.none, .none, .int (-1) tk] } }
    refine tail_any (ops := [.ref a, .ref s4.heap.objs.size]) ht.typeIs PyProof.Rows.slot_tuple_getitem.lookup ?_ (by with_unfolding_all rfl)
    refine item_back ht (Heap.IsSliceOf.new _ _ _ _) (by rw [← r.length]; exact hz) ?_
    refine ⟨.ref _, _, I5.laid (t' := s4.toks) (o := .tup xs.reverse) (fun b ob q => Heap.get?_push_of_some _ q) (Nat.le_refl _) ?_, rfl, q _ (I5.hok.fresh (Nat.le_refl _))⟩
    exact ⟨by rw [List.length_reverse]; exact hz, _, r.reverse, IsTup.new _ _⟩
end
end RH
set_option Elab.async false
set_option linter.all false
set_option maxRecDepth 100000
/-! FiExt: dict(t) of a tuple of pairs that is told by its very object. -/
namespace RH
open PySem PySem.Spec PyProof.Rows L2
section
variable {X : Cx}
/-- pairs at addresses, their keys and values as the machine has them -/
theorem pairs_val {pins : List (Addr × Obj)} {σ : L2.St} {H : Hp} {s : Shared} (I : Inv X pins σ H s) {ps : List Addr} {kvs : List (Key × V)} (h : Paired (fun p kv => SqT X.K H p [kV kv.1, kv.2]) ps kvs) :
    ∃ (prs : List (Key × Value)) (vv : List (Value × Value)), KV kvs prs ∧ prs.length = ps.length ∧ vv.length = ps.length ∧
      ∀ (j : Nat) (k v : Value), vv[j]? = some (k, v) → ∃ (b : Addr) (key : Key), ps[j]? = some b ∧ prs[j]? = some (key, v) ∧ IsTup s.heap b #[k, v] ∧ (mixKind X.prog X.w).is key k = true := by
  induction h with
  | nil => exact ⟨[], [], .nil, rfl, rfl, fun j k v e => by simp at e⟩
  | @cons p kv l₁ l₂ h _ ih =>
    obtain ⟨prs, vv, r, e1, e2, hp⟩ := ih
    obtain ⟨its, rv, ht, _⟩ := I.tuple h
    obtain ⟨u, y, rfl, ru, ry⟩ := vals2 rv
    refine ⟨(kv.1, y) :: prs, (u, y) :: vv, .cons ⟨rfl, ry⟩ r, by rw [List.length_cons, List.length_cons, e1], by rw [List.length_cons, List.length_cons, e2], fun j k v e => ?_⟩
    match j with
    | 0 =>
      cases (Option.some.inj e : (u, y) = (k, v))
      exact ⟨p, kv.1, rfl, rfl, ht, kV_is ru⟩
    | j + 1 =>
      obtain ⟨b, key, h1, h2, h3⟩ := hp j k v (by simpa using e)
      exact ⟨b, key, by simpa using h1, by simpa using h2, h3⟩
/-- dict(t) of a tuple of pairs -/
def rDictT (K : PySem.W.Frag) : List V → Hp → VK → Prop := fun xs H Q => ∃ (a : Addr) (ob : Obj) (ps : List Addr) (kvs : List (Key × V)), xs = [.ref a] ∧ H a = some (.frz ob (.tup (ps.map V.ref))) ∧ ob.dict = none ∧ Paired (fun p kv => SqT K H p [kV kv.1, kv.2]) ps kvs ∧
  ∀ p, H p = none → Q (.ref p) (upd H p (.dK (mergeK [] kvs)))
theorem call_dictT (hc : X.calm = true) : CallR X (.type "dict") (rDictT X.K) := by
  intro pins s σ H xs us Q I r q
  obtain ⟨a, ob, ps, kvs, rfl, hq, hob, hp, q⟩ := q
  obtain ⟨u, rfl, rx⟩ := vals1 r
  cases rx
  obtain ⟨g, z, its, rv, hl⟩ := (show ObjOk X.prog X.w H s.heap a (.frz ob (.tup (ps.map V.ref))) from I.hok a _ hq)
  obtain rfl := refs_at rv
  rw [List.length_map] at z
  obtain ⟨prs, vv, rel, e1, e2, hv⟩ := pairs_val I hp
  have plain : PlainSeq "tuple" s.heap a (ps.map Value.ref).toArray := by
    obtain ⟨o, ho, hc, n, hd⟩ := hl
    have e : o = ob := by
      rw [g] at ho
      exact (Option.some.inj ho).symm
    subst e
    exact ⟨o, n, ho, hc, hob, hd⟩
  have items : PairItems s.heap (ps.map Value.ref).toArray (fun j => ps.getD j a) vv := by
    refine ⟨by simp [e2], fun j k v e => ?_⟩
    obtain ⟨b, key, h1, _, h3, _⟩ := hv j k v e
    have eb : ps.getD j a = b := by rw [List.getD_eq_getElem?_getD, h1]; rfl
    exact ⟨by simp [h1, eb], .inl (by show s.heap.IsTuple (ps.getD j a) _; rw [eb]; exact h3)⟩
  refine PySem.call_dict_pairs (knd := mixKind X.prog X.w) (kvs := prs) (PairArg.tuple a (ps.map Value.ref).toArray (fun j => ps.getD j a) vv) (I.ok.hd hc) ⟨plain, items⟩ ⟨by rw [e1, e2], fun i k v e => ?_⟩ (by rw [e2]; exact z) fun h' tk hd' k => ?_
  · obtain ⟨b, key, _, h2, _, h4⟩ := hv i k v e
    exact ⟨key, h2, h4⟩
  · have away := beq_eq_false_iff_ne.mpr (Nat.ne_of_gt I.big)
    have few : (mergeK [] kvs).length ≤ sizeLine := by
      have h1 := length_mergeK kvs []
      have h2 := rel.length
      rw [List.length_nil] at h1
      omega
    have kept := fun b o e => k b o (fun z => nomatch z) e
    have new : ObjOk X.prog X.w (upd H s.heap.objs.size (.dK (mergeK [] kvs))) h' s.heap.objs.size (.dK (mergeK [] kvs)) := ⟨few, away, merged [] prs, KV.merge rel .nil, hd'⟩
    exact ⟨.ref s.heap.objs.size, _, I.laid (t' := tk) kept (Nat.le_refl _) new, rfl, q _ (I.hok.fresh (Nat.le_refl _))⟩
end
end RH
set_option Elab.async false
set_option linter.all false
set_option maxRecDepth 100000
set_option maxHeartbeats 2000000
namespace RH
open PySem PySem.Spec PyProof.Rows L2
def topS (i : Nat) : Stmt := PySem.Challenge.pw_restlesshelf_k86_whole_finding.main.body.getD i (.Pass ⟨0, 0, 0, 0⟩)
abbrev st_e_BadHabit : Stmt := inClass (topS 2) 0
theorem sc_e_BadHabit : NdefX.NScope ["self", "place", "__class__"] ["self", "place"] ["__class__"] (defScope st_e_BadHabit) := NdefX.nscope_by (by decide +kernel)
abbrev st_is_integer : Stmt := topS 11
theorem sc_is_integer : FnScope ["value"] ["value"] (defScope st_is_integer) :=
  ⟨rfl, rfl, rfl, by decide +kernel, rfl, by decide +kernel, by decide +kernel⟩
abbrev st_is_number : Stmt := topS 12
theorem sc_is_number : FnScope ["value", "low", "high"] ["value", "low", "high"] (defScope st_is_number) :=
  ⟨rfl, rfl, rfl, by decide +kernel, rfl, by decide +kernel, by decide +kernel⟩
abbrev st_is_row : Stmt := topS 13
theorem sc_is_row : FnScope ["value", "low", "high"] ["value", "low", "high"] (defScope st_is_row) :=
  ⟨rfl, rfl, rfl, by decide +kernel, rfl, by decide +kernel, by decide +kernel⟩
abbrev st_is_place : Stmt := topS 14
theorem sc_is_place : FnScope ["value", "places"] ["value", "places"] (defScope st_is_place) :=
  ⟨rfl, rfl, rfl, by decide +kernel, rfl, by decide +kernel, by decide +kernel⟩
abbrev st_are_places : Stmt := topS 15
theorem sc_are_places : FnScope ["value", "places", "place"] ["value", "places"] (defScope st_are_places) :=
  ⟨rfl, rfl, rfl, by decide +kernel, rfl, by decide +kernel, by decide +kernel⟩
abbrev st_is_rising : Stmt := topS 16
theorem sc_is_rising : FnScope ["row", "one", "other"] ["row"] (defScope st_is_rising) :=
  ⟨rfl, rfl, rfl, by decide +kernel, rfl, by decide +kernel, by decide +kernel⟩
abbrev st_is_layout : Stmt := topS 17
theorem sc_is_layout : FnScope ["value", "places"] ["value", "places"] (defScope st_is_layout) :=
  ⟨rfl, rfl, rfl, by decide +kernel, rfl, by decide +kernel, by decide +kernel⟩
abbrev st_is_word : Stmt := topS 18
theorem sc_is_word : FnScope ["value", "places"] ["value", "places"] (defScope st_is_word) :=
  ⟨rfl, rfl, rfl, by decide +kernel, rfl, by decide +kernel, by decide +kernel⟩
abbrev st_check_habit : Stmt := topS 19
theorem sc_check_habit : FnScope ["habit", "place", "moves"] ["habit"] (defScope st_check_habit) :=
  ⟨rfl, rfl, rfl, by decide +kernel, rfl, by decide +kernel, by decide +kernel⟩
abbrev st_check_layouts : Stmt := topS 20
theorem sc_check_layouts : FnScope ["layouts", "places", "layout"] ["layouts", "places"] (defScope st_check_layouts) :=
  ⟨rfl, rfl, rfl, by decide +kernel, rfl, by decide +kernel, by decide +kernel⟩
abbrev st_check_name : Stmt := topS 21
theorem sc_check_name : FnScope ["name", "places"] ["name", "places"] (defScope st_check_name) :=
  ⟨rfl, rfl, rfl, by decide +kernel, rfl, by decide +kernel, by decide +kernel⟩
abbrev st_check_word : Stmt := topS 22
theorem sc_check_word : FnScope ["word", "places"] ["word", "places"] (defScope st_check_word) :=
  ⟨rfl, rfl, rfl, by decide +kernel, rfl, by decide +kernel, by decide +kernel⟩
abbrev st_places_of_habit : Stmt := topS 24
theorem sc_places_of_habit : FnScope ["habit"] ["habit"] (defScope st_places_of_habit) :=
  ⟨rfl, rfl, rfl, by decide +kernel, rfl, by decide +kernel, by decide +kernel⟩
abbrev st_move : Stmt := topS 25
theorem sc_move : FnScope ["habit", "layout", "place", "moves", "stood"] ["habit", "layout", "place"] (defScope st_move) :=
  ⟨rfl, rfl, rfl, by decide +kernel, rfl, by decide +kernel, by decide +kernel⟩
abbrev st_move_along : Stmt := topS 26
theorem sc_move_along : FnScope ["habit", "layout", "word", "place"] ["habit", "layout", "word"] (defScope st_move_along) :=
  ⟨rfl, rfl, rfl, by decide +kernel, rfl, by decide +kernel, by decide +kernel⟩
abbrev st_may_stand : Stmt := topS 29
theorem sc_may_stand : FnScope ["habit", "layouts", "name", "word", "layout"] ["habit", "layouts", "name", "word"] (defScope st_may_stand) :=
  ⟨rfl, rfl, rfl, by decide +kernel, rfl, by decide +kernel, by decide +kernel⟩
abbrev st_least_looks : Stmt := topS 30
theorem sc_least_looks : FnScope ["habit", "layouts", "name"] ["habit", "layouts", "name"] (defScope st_least_looks) :=
  ⟨rfl, rfl, rfl, by decide +kernel, rfl, by decide +kernel, by decide +kernel⟩
abbrev st_tells : Stmt := topS 31
theorem sc_tells : FnScope ["habit", "layouts", "name", "value"] ["habit", "layouts", "name", "value"] (defScope st_tells) :=
  ⟨rfl, rfl, rfl, by decide +kernel, rfl, by decide +kernel, by decide +kernel⟩
abbrev st_check_sought : Stmt := topS 32
theorem sc_check_sought : FnScope ["habit", "layouts", "name"] ["habit", "layouts", "name"] (defScope st_check_sought) :=
  ⟨rfl, rfl, rfl, by decide +kernel, rfl, by decide +kernel, by decide +kernel⟩
abbrev st_sought_in : Stmt := topS 33
theorem sc_sought_in : FnScope ["layout", "name"] ["layout", "name"] (defScope st_sought_in) :=
  ⟨rfl, rfl, rfl, by decide +kernel, rfl, by decide +kernel, by decide +kernel⟩
abbrev st_is_known : Stmt := topS 34
theorem sc_is_known : FnScope ["layouts", "name", "layout"] ["layouts", "name"] (defScope st_is_known) :=
  ⟨rfl, rfl, rfl, by decide +kernel, rfl, by decide +kernel, by decide +kernel⟩
abbrev st_parts_shown : Stmt := topS 35
theorem sc_parts_shown : FnScope ["habit", "layouts", "place", "parts", "book", "left", "layout"] ["habit", "layouts", "place"] (defScope st_parts_shown) :=
  ⟨rfl, rfl, rfl, by decide +kernel, rfl, by decide +kernel, by decide +kernel⟩
abbrev st_least_looks_for : Stmt := topS 36
theorem sc_least_looks_for : FnScope ["habit", "layouts", "name", "best", "place", "parts", "told", "depth", "book", "left", "_", "least"] ["habit", "layouts", "name"] (defScope st_least_looks_for) :=
  ⟨rfl, rfl, rfl, by decide +kernel, rfl, by decide +kernel, by decide +kernel⟩
abbrev st_is_telling : Stmt := topS 37
theorem sc_is_telling : FnScope ["habit", "layouts", "name", "value", "looks_left", "parts", "told", "book", "left"] ["habit", "layouts", "name", "value", "looks_left"] (defScope st_is_telling) :=
  ⟨rfl, rfl, rfl, by decide +kernel, rfl, by decide +kernel, by decide +kernel⟩
abbrev st_is_answer : Stmt := topS 38
theorem sc_is_answer : FnScope ["value", "name", "places"] ["value", "name", "places"] (defScope st_is_answer) :=
  ⟨rfl, rfl, rfl, by decide +kernel, rfl, by decide +kernel, by decide +kernel⟩
abbrev st__law_taken : Stmt := topS 40
theorem sc__law_taken : FnScope ["row", "many", "found", "cell"] ["row", "many"] (defScope st__law_taken) :=
  ⟨rfl, rfl, rfl, by decide +kernel, rfl, by decide +kernel, by decide +kernel⟩
abbrev st__law_pick : Stmt := topS 41
theorem sc__law_pick : FnScope ["row", "things"] ["row", "things"] (defScope st__law_pick) :=
  ⟨rfl, rfl, rfl, by decide +kernel, rfl, by decide +kernel, by decide +kernel⟩
abbrev st__law_alike : Stmt := topS 42
theorem sc__law_alike : FnScope ["found", "due", "k"] ["found", "due"] (defScope st__law_alike) :=
  ⟨rfl, rfl, rfl, by decide +kernel, rfl, by decide +kernel, by decide +kernel⟩
abbrev st__law_is : Stmt := topS 43
theorem sc__law_is : FnScope ["found", "due"] ["found", "due"] (defScope st__law_is) :=
  ⟨rfl, rfl, rfl, by decide +kernel, rfl, by decide +kernel, by decide +kernel⟩
abbrev st__law_permutation : Stmt := topS 44
theorem sc__law_permutation : FnScope ["row", "many", "left", "found", "turn"] ["row", "many"] (defScope st__law_permutation) :=
  ⟨rfl, rfl, rfl, by decide +kernel, rfl, by decide +kernel, by decide +kernel⟩
abbrev st__law_habit : Stmt := topS 45
theorem sc__law_habit : FnScope ["row", "many", "found", "place", "way"] ["row", "many"] (defScope st__law_habit) :=
  ⟨rfl, rfl, rfl, by decide +kernel, rfl, by decide +kernel, by decide +kernel⟩
abbrev st__law_touch : Stmt := topS 46
theorem sc__law_touch : FnScope ["habit", "layout", "place", "stands"] ["habit", "layout", "place"] (defScope st__law_touch) :=
  ⟨rfl, rfl, rfl, by decide +kernel, rfl, by decide +kernel, by decide +kernel⟩
abbrev st__law_some : Stmt := topS 47
theorem sc__law_some : FnScope ["row", "many", "found", "turn"] ["row", "many"] (defScope st__law_some) :=
  ⟨rfl, rfl, rfl, by decide +kernel, rfl, by decide +kernel, by decide +kernel⟩
abbrev st__law_parted : Stmt := topS 48
theorem sc__law_parted : FnScope ["habit", "layouts", "place", "found", "layout", "book"] ["habit", "layouts", "place"] (defScope st__law_parted) :=
  ⟨rfl, rfl, rfl, by decide +kernel, rfl, by decide +kernel, by decide +kernel⟩
abbrev st__law_end : Stmt := topS 49
theorem sc__law_end : FnScope ["layouts", "name", "ends", "layout"] ["layouts", "name"] (defScope st__law_end) :=
  ⟨rfl, rfl, rfl, by decide +kernel, rfl, by decide +kernel, by decide +kernel⟩
abbrev st__law_tree : Stmt := topS 50
theorem sc__law_tree : FnScope ["habit", "layouts", "name", "end", "best", "place", "parts", "told", "depth", "book", "own"] ["habit", "layouts", "name"] (defScope st__law_tree) :=
  ⟨rfl, rfl, rfl, by decide +kernel, rfl, by decide +kernel, by decide +kernel⟩
abbrev st__law_follow : Stmt := topS 51
theorem sc__law_follow : FnScope ["habit", "layout", "tree", "name", "most", "turn", "book"] ["habit", "layout", "tree", "name", "most"] (defScope st__law_follow) :=
  ⟨rfl, rfl, rfl, by decide +kernel, rfl, by decide +kernel, by decide +kernel⟩
abbrev st__law_told : Stmt := topS 52
theorem sc__law_told : FnScope ["habit", "layouts", "name", "value", "many", "end", "parts", "one", "part"] ["habit", "layouts", "name", "value"] (defScope st__law_told) :=
  ⟨rfl, rfl, rfl, by decide +kernel, rfl, by decide +kernel, by decide +kernel⟩
abbrev st_law : Stmt := topS 53
theorem sc_law : FnScope ["script", "row", "many", "habit", "layouts", "name", "told", "word", "book", "places", "layout", "place", "odd", "ends", "value", "e", "turn"] ["script"] (defScope st_law) :=
  ⟨rfl, rfl, rfl, by decide +kernel, rfl, by decide +kernel, by decide +kernel⟩
/-! ### what the top has written -/
/-- the def x of the text stands in the module under its name -/
structure Df (K : PySem.W.Frag) (mg : Str → Option Value) (x : Str) (st : Stmt) (ps : List Str) : Prop where
  ex : ∃ (f : Addr) (fd : FuncData), Fun K x x st f fd ∧ mg x = some (.ref f) ∧ Binds K fd ps []
/-- names of the interpreter that the module leaves alone -/
structure Bu (mg : Str → Option Value) : Prop where
  isi : mg "isinstance" = none
  int : mg "int" = none
  bool : mg "bool" = none
  str : mg "str" = none
  tuple : mg "tuple" = none
  list : mg "list" = none
  len : mg "len" = none
  all : mg "all" = none
  zip : mg "zip" = none
  range : mg "range" = none
  sorted : mg "sorted" = none
  enumerate : mg "enumerate" = none
  max : mg "max" = none
section
variable {P : Program} {w : World} {K : PySem.W.Frag} {mg : Str → Option Value} {base : Heap}
/-- a def that may be called by its name -/
structure Cal (P : Program) (w : World) (K : PySem.W.Frag) (mg : Str → Option Value) (base : Heap) (k : Nat) (x : Str) (sp : Sp) : Prop where
  ex : ∃ (f : Addr) (fd : FuncData) (ps : List Str), FnOk P w K mg base CX0 k f fd ps sp ∧ mg x = some (.ref f) ∧ PySem.W.keepIn K (.ref f) = true ∧ Binds K fd ps []
theorem mkCal {x : Str} {st : Stmt} {N ps : List Str} {k : Nat} {sp : Sp} (F : Df K mg x st ps) (S : FnScope N ps (defScope st)) (len : ∀ vs H Q E, sp vs H Q E → vs.length = ps.length)
    (hbody : ∀ (f : Addr) (cdv : Value) (A : Around) (outer : List Env) (s : Shared) (H : Hp) (vs : List V) (Q : VK) (E : XK), Room k (A.deeper (envOfC x (defScope st) s.heap.objs.size f cdv)) → sp vs H Q E →
      ∃ t, PSs (cxOf CX0 P w K mg base N x (defScope st) f cdv A outer s H E).nox (defBody st) t ∧ t { nx := fun _ H' => Q .non H', rt := Q } (start N vs) H) : Cal P w K mg base (k + 1) x sp := by
  obtain ⟨f, fd, F, g, b⟩ := F.ex
  exact ⟨f, fd, ps, F.ok S len (hbody f), g, F.kp, b⟩
theorem Cal.imp {k : Nat} {x : Str} {sp sp' : Sp} (c : Cal P w K mg base k x sp) (h : ∀ vs H Q E, sp' vs H Q E → sp vs H Q E) : Cal P w K mg base k x sp' := by
  obtain ⟨f, fd, ps, F, g, kp, b⟩ := c.ex
  exact ⟨f, fd, ps, F.imp h, g, kp, b⟩
end
theorem pc {X : Cx} {k j : Nat} {x : Str} {sp : Sp} {p pos : Pos} {e : Expr} {es : List Expr} {t : TA} (c : Cal X.prog X.w X.K X.mg X.base k x sp) (hr : Room j X.A) (ha : PA X (e :: es) t) (hk : k ≤ j := by decide) (hg : Gl X x := by rfl)
    (hdb : (x == ("__debug__" : Str)) = false := by decide) (he : starEach (e :: es) X.env = (false, eval e X.env) :: starEach es X.env := by rfl) (hpl : (backTo pos (starEach es X.env)).any (·.1) = false := by rfl) :
    PE X (.Call (.Name x p) (e :: es) [] pos) (tCall sp [] E0 t) := by
  obtain ⟨f, fd, ps, F, hm, kp, b⟩ := c.ex
  exact pe_call F (hr.mono hk) hg hm kp b .nil pass0 ha hdb he hpl
/-- a statement that is never come to -/
theorem ps_no {X : Cx} {st : Stmt} : PS X st (fun _ _ _ => False) := ⟨fun _ _ _ _ _ _ h => h.elim⟩
/-! ### heaps, tuples of ints, and of such -/
theorem same_new {H : Hp} {p : Addr} {o : HO} (h : H p = none) : Same H (upd H p o) := fun b x e => by
  rw [upd_ne (ne_of_none e h)]
  exact e
theorem seqT {K : PySem.W.Frag} {H H' : Hp} {a : Addr} {xs : List V} (e : ∀ o, H a = some o → H' a = some o) (h : SqT K H a xs) : SqT K H' a xs := by
  rcases h with (h | ⟨o, h⟩) | h
  · exact .inl (.inl (e _ h))
  · exact .inl (.inr ⟨o, e _ h⟩)
  · exact .inr h
theorem onT {K : PySem.W.Frag} {H H' : Hp} {a : Addr} {xs : List V} (e : Same H H') (h : SqT K H a xs) : SqT K H' a xs := seqT (fun o => e a o) h
theorem tupAt {K : PySem.W.Frag} {H : Hp} {a : Addr} {xs : List V} (h : H a = some (.tup xs)) : SqT K H a xs := .inl (.inl h)
theorem lstAt {K : PySem.W.Frag} {H : Hp} {a : Addr} {xs : List V} (h : H a = some (.lst xs)) : SqL K H a xs := .inl (.inl h)
/-- a tuple's type -/
theorem ty_tup {K : PySem.W.Frag} {H : Hp} {a : Addr} {xs : List V} (h : SqT K H a xs) : TyX K H (.ref a) (.type "tuple") := by
  rcases h with (h | ⟨o, h⟩) | ⟨o, its, n, h, c, _⟩
  · exact .base (.tup h)
  · exact .fTuple h
  · exact .kTuple h c
/-- each by each -/
inductive Each {α : Type} (R : V → α → Prop) : List V → List α → Prop
  | nil : Each R [] []
  | cons {v : V} {d : α} {vs : List V} {ds : List α} : R v d → Each R vs ds → Each R (v :: vs) (d :: ds)
theorem Each.len {α : Type} {R : V → α → Prop} : ∀ {vs : List V} {ds : List α}, Each R vs ds → vs.length = ds.length
  | _, _, .nil => rfl
  | _, _, .cons _ t => congrArg (· + 1) t.len
theorem Each.imp {α : Type} {R R' : V → α → Prop} (f : ∀ v d, R v d → R' v d) : ∀ {vs : List V} {ds : List α}, Each R vs ds → Each R' vs ds
  | _, _, .nil => .nil
  | _, _, .cons h t => .cons (f _ _ h) (t.imp f)
theorem Each.at {α : Type} {R : V → α → Prop} : ∀ {vs : List V} {ds : List α} {i : Nat} {v : V}, Each R vs ds → vs[i]? = some v → ∃ d, ds[i]? = some d ∧ R v d
  | _, _, _, _, .nil, e => by simp at e
  | _, _, 0, _, .cons h _, e => by
    have e' := Option.some.inj e
    subst e'
    exact ⟨_, rfl, h⟩
  | _, _, i + 1, _, .cons _ t, e => t.at (i := i) e
theorem Each.of {α : Type} {R : V → α → Prop} : ∀ {vs : List V} {ds : List α} {i : Nat} {d : α}, Each R vs ds → ds[i]? = some d → ∃ v, vs[i]? = some v ∧ R v d
  | _, _, _, _, .nil, e => by simp at e
  | _, _, 0, _, .cons h _, e => by
    have e' := Option.some.inj e
    subst e'
    exact ⟨_, rfl, h⟩
  | _, _, i + 1, _, .cons _ t, e => t.of (i := i) e
theorem Each.snoc {α : Type} {R : V → α → Prop} {v : V} {d : α} (h : R v d) : ∀ {vs : List V} {ds : List α}, Each R vs ds → Each R (vs ++ [v]) (ds ++ [d])
  | _, _, .nil => .cons h .nil
  | _, _, .cons g t => .cons g (t.snoc h)
/-- a tuple of ints -/
def TI (K : PySem.W.Frag) (H : Hp) (v : V) (ns : List Int) : Prop := ∃ a, v = .ref a ∧ SqT K H a (ns.map V.int)
/-- a tuple of such -/
def TII (K : PySem.W.Frag) (H : Hp) (v : V) (nss : List (List Int)) : Prop := ∃ a vs, v = .ref a ∧ SqT K H a vs ∧ Each (TI K H) vs nss
def THs (K : PySem.W.Frag) (H : Hp) (v : V) (hs : List (List (List Int))) : Prop := ∃ a vs, v = .ref a ∧ SqT K H a vs ∧ Each (TII K H) vs hs
/-- all tuples stand -/
def Tups (K : PySem.W.Frag) (H H' : Hp) : Prop := ∀ a xs, SqT K H a xs → SqT K H' a xs
theorem Same.tups {K : PySem.W.Frag} {H H' : Hp} (e : Same H H') : Tups K H H' := fun _ _ h => onT e h
theorem TI.on {K : PySem.W.Frag} {H H' : Hp} {v : V} {ns : List Int} (e : Tups K H H') (h : TI K H v ns) : TI K H' v ns := let ⟨a, h1, h2⟩ := h; ⟨a, h1, e _ _ h2⟩
theorem TII.on {K : PySem.W.Frag} {H H' : Hp} {v : V} {nss : List (List Int)} (e : Tups K H H') (h : TII K H v nss) : TII K H' v nss := let ⟨a, vs, h1, h2, h3⟩ := h; ⟨a, vs, h1, e _ _ h2, h3.imp fun _ _ z => z.on e⟩
theorem THs.on {K : PySem.W.Frag} {H H' : Hp} {v : V} {hs : List (List (List Int))} (e : Tups K H H') (h : THs K H v hs) : THs K H' v hs := let ⟨a, vs, h1, h2, h3⟩ := h; ⟨a, vs, h1, e _ _ h2, h3.imp fun _ _ z => z.on e⟩
theorem map_at {ns : List Int} {i : Nat} {x : V} (h : (ns.map V.int)[i]? = some x) : ∃ n, ns[i]? = some n ∧ x = .int n := by
  rw [List.getElem?_map] at h
  cases e : ns[i]? with
  | none =>
    rw [e] at h
    cases h
  | some n =>
    rw [e] at h
    exact ⟨n, rfl, (Option.some.inj h).symm⟩
theorem at_map {ns : List Int} {i : Nat} {n : Int} (h : ns[i]? = some n) : (ns.map V.int)[i]? = some (.int n) := by
  rw [List.getElem?_map, h]
  rfl
theorem all_snoc {α : Type} (f : α → Bool) {l : List α} {i : Nat} {x : α} (h : l[i]? = some x) : (l.take (i + 1)).map f = (l.take i).map f ++ [f x] := by
  rw [List.take_add_one, h, List.map_append]
  rfl
/-! ### lists of ints, compared -/
theorem dpAll_ints {K : PySem.W.Frag} {H : Hp} : ∀ ns : List Int, DpAll K H (ns.map V.int) (ns.map PyData.int)
  | [] => .nil
  | n :: ns => .cons (.int n) (dpAll_ints ns)
theorem dp_lst {K : PySem.W.Frag} {H : Hp} {a : Addr} {ns : List Int} (h : SqL K H a (ns.map V.int)) : Dp K H (.ref a) (.list (ns.map PyData.int)) := .lst h (dpAll_ints ns)
theorem dp_tup {K : PySem.W.Frag} {H : Hp} {a : Addr} {ns : List Int} (h : SqT K H a (ns.map V.int)) : Dp K H (.ref a) (.tuple (ns.map PyData.int)) := .tup h (dpAll_ints ns)
theorem eqv_lst (ns ms : List Int) : PyData.eqv (.list (ns.map PyData.int)) (.list (ms.map PyData.int)) = decide (ns = ms) := by
  rw [PyData.eqv]
  exact PySem.W.ked_eqvAll ns ms
def rg (n : Nat) : List Int := (List.range n).map fun i : Nat => (i : Int)
theorem rgV_rg (n : Nat) : rgV 0 (n : Int) = (rg n).map V.int := by
  unfold rgV rg
  rw [List.map_map, Int.sub_zero, Int.toNat_natCast]
  refine List.map_congr_left fun i _ => ?_
  show V.int (0 + (i : Int)) = V.int (i : Int)
  rw [Int.zero_add]
theorem rg_len (n : Nat) : (rg n).length = n := by
  unfold rg
  rw [List.length_map, List.length_range]
theorem rg_mem {n : Nat} {x : Int} : x ∈ rg n ↔ 0 ≤ x ∧ x < n := by
  unfold rg
  rw [List.mem_map]
  constructor
  · rintro ⟨i, h, rfl⟩
    have := List.mem_range.mp h
    omega
  · rintro ⟨h1, h2⟩
    exact ⟨x.toNat, List.mem_range.mpr (by omega), by omega⟩
theorem rg_at {n i : Nat} (h : i < n) : (rg n)[i]? = some (i : Int) := by
  unfold rg
  rw [List.getElem?_map, List.getElem?_range h]
  rfl
/-! ### walks over enumerate and zip of tuples -/
section
variable {K : PySem.W.Frag} {a b : Addr} {xs ys : List V}
theorem for_enumT {g : TG} {tb : TS} {D : Ends} {σ : L2.St} {H : Hp} (Pv : Nat → L2.St → Hp → Prop) (h0 : Pv 0 σ H) (hl : ∀ i σ H, Pv i σ H → SqT K H a xs)
    (hs : ∀ i x T σ H, xs[i]? = some x → Pv i σ H → H T = none → g (.ref T) σ (upd H T (.tup [.int (i : Nat), x])) fun σ2 H2 => tb { D with nx := Pv (i + 1), ct := Pv (i + 1), bk := D.nx } σ2 H2) (hd : ∀ σ H, Pv xs.length σ H → D.nx σ H) :
    ∃ W : Nat → Nat → L2.St → Hp → Prop, (∃ m, W 0 m σ H) ∧ ∀ i m σ H, W i m σ H →
      ((IteT K a).stop i H ∧ D.nx σ H) ∨ ((IteT K a).go i H ∧ ∃ N : L2.St → Hp → Prop, (∀ σ' H', N σ' H' → ∃ m', m' < m ∧ W (i + 1) m' σ' H') ∧ ∀ x H', (IteT K a).yld i H x H' → g x σ H' fun σ2 H2 => tb { D with nx := N, ct := N, bk := D.nx } σ2 H2) := by
  refine ⟨fun i m σ H => m = xs.length - i ∧ i ≤ xs.length ∧ Pv i σ H, ⟨xs.length, rfl, Nat.zero_le _, h0⟩, ?_⟩
  rintro i m σ H ⟨rfl, hi, p⟩
  have q := hl i σ H p
  by_cases hlt : i < xs.length
  · have hx : xs[i]? = some xs[i] := List.getElem?_eq_getElem hlt
    refine .inr ⟨⟨xs, _, q, hx⟩, Pv (i + 1), fun σ' H' p' => ⟨xs.length - (i + 1), by omega, rfl, hlt, p'⟩, fun v H' y => ?_⟩
    obtain ⟨T, x', rfl, hT, rfl, f1⟩ := y
    exact hs i x' T σ H (f1 xs q) p hT
  · have e : i = xs.length := by omega
    subst e
    exact .inl ⟨⟨xs, q, Nat.le_refl _⟩, hd σ H p⟩
theorem lc_zipT {g : TG} {tt : TT} {te : TE} {vs : List Nat} {σ : L2.St} {H1 : Hp} {D : Addr} {Qd : Hp → Prop} (n : Nat) (hn : n = min xs.length ys.length) (Pv : Nat → Hp → Prop) (h0 : Pv 0 (upd H1 D (.lst []))) (hl : ∀ i H, Pv i H → SqT K H a xs ∧ SqT K H b ys)
    (hs : ∀ i x z T H, xs[i]? = some x → ys[i]? = some z → Pv i H → H T = none → g (.ref T) (wipe σ vs) (upd H T (.tup [x, z])) fun σ2 H2 => wipe σ2 vs = wipe σ vs ∧ tt σ2 H2 fun k H3 =>
      if k = true then te σ2 H3 fun y H4 => ∃ acc, H4 D = some (.lst acc) ∧ acc.length < sizeLine ∧ Pv (i + 1) (upd H4 D (.lst (acc ++ [y]))) else Pv (i + 1) H3) (hd : ∀ H, Pv n H → Qd H) :
    ∃ W : Nat → Nat → Hp → Prop, (∃ m, W 0 m (upd H1 D (.lst []))) ∧ ∀ i m H, W i m H →
      ((RZ.ItzT K a b).stop i H ∧ Qd H) ∨ ((RZ.ItzT K a b).go i H ∧ ∃ Nx : Hp → Prop, (∀ H', Nx H' → ∃ m', m' < m ∧ W (i + 1) m' H') ∧ ∀ x H', (RZ.ItzT K a b).yld i H x H' → g x (wipe σ vs) H' fun σ2 H2 => wipe σ2 vs = wipe σ vs ∧ tt σ2 H2 fun k H3 =>
        if k = true then te σ2 H3 fun y H4 => ∃ acc, H4 D = some (.lst acc) ∧ acc.length < sizeLine ∧ Nx (upd H4 D (.lst (acc ++ [y]))) else Nx H3) := by
  refine ⟨fun i m H => m = n - i ∧ i ≤ n ∧ Pv i H, ⟨n, rfl, Nat.zero_le _, h0⟩, ?_⟩
  rintro i m H ⟨rfl, hi, p⟩
  obtain ⟨q1, q2⟩ := hl i H p
  by_cases hlt : i < n
  · have hx : xs[i]? = some xs[i] := List.getElem?_eq_getElem (by omega)
    have hy : ys[i]? = some ys[i] := List.getElem?_eq_getElem (by omega)
    refine .inr ⟨⟨xs, ys, _, _, q1, q2, hx, hy⟩, Pv (i + 1), fun H' p' => ⟨n - (i + 1), by omega, rfl, hlt, p'⟩, fun v H' y => ?_⟩
    obtain ⟨T, x', z', rfl, hT, rfl, f1, f2⟩ := y
    exact hs i x' z' T H (f1 xs q1) (f2 ys q2) p hT
  · have e : i = n := by omega
    subst e
    exact .inl ⟨⟨xs, ys, q1, q2, by omega⟩, hd H p⟩
end
end RH
set_option Elab.async false
set_option linter.all false
set_option maxRecDepth 100000
set_option maxHeartbeats 2000000
set_option Elab.async false
set_option linter.all false
set_option maxRecDepth 100000
set_option maxHeartbeats 2000000
namespace RH
open PySem PySem.Spec PyProof.Rows L2
section
variable {P : Program} {w : World} {K : PySem.W.Frag} {mg : Str → Option Value} {base : Heap}
/-- all are places -/
def inP (p : Int) (ns : List Int) : Bool := ns.all fun i => decide (0 ≤ i) && decide (i ≤ p - 1)
end
end RH
set_option Elab.async false
set_option linter.all false
set_option maxRecDepth 100000
set_option maxHeartbeats 2000000
namespace RH
open PySem PySem.Spec PyProof.Rows L2
/-! ### slices and constants -/
theorem cut_from (xs : List V) (k : Nat) : cutV xs (some (k : Int)) none = xs.drop k := by
  unfold cutV
  rw [HT.sIx_nat, HT.sIx_none]
  rcases Nat.le_total k xs.length with h | h
  · rw [Nat.min_eq_left h]
    exact List.take_of_length_le (by rw [List.length_drop]; exact Nat.le_refl _)
  · rw [Nat.min_eq_right h, Nat.sub_self, List.take_zero, List.drop_eq_nil_of_le h]
/-- t[k:], k written -/
theorem slT_from {K : PySem.W.Frag} {H : Hp} {a : Addr} {xs : List V} {Q : VK} (z : Int) (k : Nat) (hz : z = (k : Int)) (h : SqT K H a xs) (q : ∀ b H2, Same H H2 → SqT K H2 b (xs.drop k) → Q (.ref b) H2) : rSlA K (.ref a) (some z) none H Q := by
  subst hz
  refine ⟨a, xs, rfl, h, fun hf => q a H (Same.refl H) ?_, fun _ p hp => q p _ (same_new hp) (tupAt (by rw [upd_same, cut_from]))⟩
  have e := hf.1
  rw [HT.sIx_nat] at e
  rcases Nat.le_total k xs.length with h' | h'
  · rw [Nat.min_eq_left h'] at e
    rw [e, List.drop_zero]
    exact h
  · rw [Nat.min_eq_right h'] at e
    have e2 : xs = [] := List.eq_nil_of_length_eq_zero e
    subst e2
    rw [List.drop_nil]
    exact h
/-- a number that the module keeps -/
theorem pk {X : Cx} {x : Str} {i : Int} {pos : Pos} (h : ∃ t, X.mg x = some (.int i t)) (hg : Gl X x := by rfl) (hn : x ≠ "__name__" := by decide) (hd : (x == ("__debug__" : Str)) = false := by decide) : PE X (.Name x pos) (tC (.int i)) := by
  obtain ⟨t, h⟩ := h
  exact pe_glob (v := .int i) hg h ⟨_, rfl⟩ hd
/-! ### rules within a comprehension: the written part is told -/
def rLenK (K : PySem.W.Frag) : List V → Hp → VK → Prop := fun xs H Q => ∃ p ys, xs = [.ref p] ∧ (SqL K H p ys ∨ SqT K H p ys) ∧ Q (.int ys.length) H
theorem cl_len {X : Cx} (K : PySem.W.Frag) (h : X.K = K := by rfl) : CallR X (.builtin "len") (rLenK K) := by
  subst h
  exact call_len_seq
theorem ixT {X : Cx} (K : PySem.W.Frag) (h : X.K = K := by rfl) : IxR X (rIxT K) := by
  subst h
  exact ix_tup
theorem ixL {X : Cx} (K : PySem.W.Frag) (h : X.K = K := by rfl) : IxR X (rIxL K) := by
  subst h
  exact ix_list
/-! ### rising, a layout, a habit -/
def isLay (p : Nat) (ns : List Int) : Bool := ns.isPerm (rg p)
def isHab (nss : List (List Int)) : Bool := decide (2 ≤ nss.length) && decide (nss.length ≤ 5) && nss.all (isLay nss.length)
theorem rg_le (p : Nat) : (rg p).Pairwise (· ≤ ·) := by
  unfold rg
  rw [List.pairwise_map]
  exact (List.pairwise_lt_range (n := p)).imp fun h => by omega
end RH
set_option Elab.async false
set_option linter.all false
set_option maxRecDepth 100000
set_option maxHeartbeats 2000000
namespace RH
open PySem PySem.Spec PyProof.Rows L2
/-! ### the mathematics of marks -/
theorem ifT {c : Bool} {A B : Prop} (hc : c = true) (h : A) : if c = true then A else B := by
  rw [if_pos hc]
  exact h
theorem ifF {c : Bool} {A B : Prop} (hc : c = false) (h : B) : if c = true then A else B := by
  rw [hc, if_neg Bool.false_ne_true]
  exact h
/-- a habit of n places -/
structure Hb (n : Nat) (h : List (List Int)) : Prop where
  len : h.length = n
  perm : ∀ ns ∈ h, ns.Perm (rg n)
  lo : 2 ≤ n
  hi : n ≤ 5
theorem Hb.is {n : Nat} {h : List (List Int)} (q : Hb n h) : isHab h = true := by
  unfold isHab
  simp only [Bool.and_eq_true, decide_eq_true_eq, List.all_eq_true]
  refine ⟨⟨by have := q.len; have := q.lo; omega, by have := q.len; have := q.hi; omega⟩, fun ns hm => ?_⟩
  unfold isLay
  rw [q.len, List.isPerm_iff]
  exact q.perm ns hm
theorem Hb.short {n : Nat} {h : List (List Int)} (q : Hb n h) {ns : List Int} (hm : ns ∈ h) : ns.length = n := by
  rw [(q.perm ns hm).length_eq, rg_len]
def mv (h : List (List Int)) (t s : Int) : Int := (h.getD t.toNat []).getD s.toNat 0
theorem Hb.at {n : Nat} {h : List (List Int)} (q : Hb n h) {t s : Int} (t0 : 0 ≤ t) (t1 : t < n) (s0 : 0 ≤ s) (s1 : s < n) :
    ∃ ns, h[t.toNat]? = some ns ∧ ns[s.toNat]? = some (mv h t s) ∧ 0 ≤ mv h t s ∧ mv h t s < n := by
  have h1 : t.toNat < h.length := by rw [q.len]; omega
  have e1 : h[t.toNat]? = some h[t.toNat] := List.getElem?_eq_getElem h1
  have hm : h[t.toNat] ∈ h := List.getElem_mem h1
  have h2 : s.toNat < h[t.toNat].length := by rw [q.short hm]; omega
  have e2 : h[t.toNat][s.toNat]? = some h[t.toNat][s.toNat] := List.getElem?_eq_getElem h2
  have e4 : h.getD t.toNat [] = h[t.toNat] := by
    rw [List.getD_eq_getElem?_getD, e1]
    rfl
  have e3 : mv h t s = h[t.toNat][s.toNat] := by
    unfold mv
    rw [e4, List.getD_eq_getElem?_getD, e2]
    rfl
  have h4 := rg_mem.mp ((q.perm _ hm).mem_iff.mp (List.getElem_mem h2))
  rw [← e3] at h4
  exact ⟨_, e1, by rw [e3]; exact e2, h4⟩
def InR (n : Nat) (i : Int) : Prop := 0 ≤ i ∧ i < n
theorem take_more {α : Type} {l : List α} {i : Nat} {x : α} (h : l[i]? = some x) : l.take (i + 1) = l.take i ++ [x] := by
  rw [List.take_add_one, h]
  rfl
/-- an item of an int's place -/
theorem at_int {α : Type} {xs : List α} {z : Int} {v : α} (h0 : 0 ≤ z) (h : xs[z.toNat]? = some v) : atI xs z = some v := by
  have e : z = ((z.toNat : Nat) : Int) := by omega
  rw [e]
  exact atI_nat h
end RH
set_option Elab.async false
set_option linter.all false
set_option maxRecDepth 100000
set_option maxHeartbeats 2000000
namespace RH
open PySem PySem.Spec PyProof.Rows L2
theorem ix2 {K : PySem.W.Frag} {H : Hp} {xs : List V} {h : List (List Int)} {n : Nat} (hE : Each (TI K H) xs h) (q : Hb n h) {t s : Int} (ht : InR n t) (hs : InR n s) :
    ∃ (a' : Addr) (ns : List Int), atI xs t = some (.ref a') ∧ SqT K H a' (ns.map V.int) ∧ atI (ns.map V.int) s = some (.int (mv h t s)) := by
  obtain ⟨ns, e1, e2, _⟩ := q.at ht.1 ht.2 hs.1 hs.2
  obtain ⟨v, e3, a', rfl, hS⟩ := hE.of e1
  exact ⟨a', ns, at_int ht.1 e3, hS, at_int hs.1 (at_map e2)⟩
theorem V_int (a b : Int) : decide (V.int a = V.int b) = decide (a = b) := by
  rw [Bool.eq_iff_iff, decide_eq_true_iff, decide_eq_true_iff]
  exact ⟨fun h => V.int.inj h, fun h => by rw [h]⟩
end RH
set_option Elab.async false
set_option linter.all false
set_option maxRecDepth 100000
set_option maxHeartbeats 2000000
namespace RH
open PySem PySem.Spec PyProof.Rows L2
/-! ### the law's own row of draws -/
/-- all but what stands at p is as it was -/
def But (p : Addr) (H H' : Hp) : Prop := ∀ b o, H b = some o → b ≠ p → H' b = some o
theorem But.refl (p : Addr) (H : Hp) : But p H H := fun _ _ e _ => e
theorem But.trans {p : Addr} {H H1 H2 : Hp} (a : But p H H1) (b : But p H1 H2) : But p H H2 := fun c o e n => b c o (a c o e n) n
theorem But.same {p : Addr} {H H1 : Hp} (a : Same H H1) : But p H H1 := fun c o e _ => a c o e
theorem But.upd {p : Addr} {H H1 : Hp} {o : HO} (a : But p H H1) : But p H (upd H1 p o) := fun c u e n => by
  rw [upd_ne n]
  exact a c u e n
/-- all that is no list is as it was -/
def Fix (H H' : Hp) : Prop := ∀ b o, H b = some o → (∀ xs, o ≠ .lst xs) → H' b = some o
theorem Fix.refl (H : Hp) : Fix H H := fun _ _ e _ => e
theorem Fix.trans {H H1 H2 : Hp} (a : Fix H H1) (b : Fix H1 H2) : Fix H H2 := fun c o e n => b c o (a c o e n) n
theorem Fix.same {H H1 : Hp} (a : Same H H1) : Fix H H1 := fun c o e _ => a c o e
theorem Fix.lst {H : Hp} {p : Addr} {xs : List V} {o : HO} (h : H p = some (.lst xs)) : Fix H (L2.upd H p o) := fun b u e n => by
  by_cases z : b = p
  · subst z
    rw [h] at e
    cases e
    exact absurd rfl (n _)
  · rw [upd_ne z]
    exact e
theorem Fix.tups {K : PySem.W.Frag} {H H' : Hp} (b : Fix H H') : Tups K H H' := fun a xs hS => by
  rcases hS with (hS | ⟨u, hS⟩) | hS
  · exact .inl (.inl (b _ _ hS (fun _ z => nomatch z)))
  · exact .inl (.inr ⟨u, b _ _ hS (fun _ z => nomatch z)⟩)
  · exact .inr hS
theorem But.fix {H H' : Hp} {p : Addr} {xs : List V} (h : H p = some (.lst xs)) (b : But p H H') : Fix H H' := fun c o e n => b c o e fun z => by
  subst z
  rw [h] at e
  cases e
  exact n _ rfl
/-- a list that never changes -/
def Fz (K : PySem.W.Frag) (H : Hp) (a : Addr) (xs : List V) : Prop := (∃ o, H a = some (.frz o (.lst xs))) ∨ ∀ H', SqL K H' a xs
theorem Fz.seq {K : PySem.W.Frag} {H : Hp} {a : Addr} {xs : List V} (h : Fz K H a xs) : SqL K H a xs := by
  rcases h with ⟨o, h⟩ | h
  · exact .inl (.inr ⟨o, h⟩)
  · exact h H
theorem Fz.on {K : PySem.W.Frag} {H H' : Hp} {a : Addr} {xs : List V} (f : Fix H H') (h : Fz K H a xs) : Fz K H' a xs := by
  rcases h with ⟨o, h⟩ | h
  · exact .inl ⟨o, f _ _ h (fun _ z => nomatch z)⟩
  · exact .inr h
theorem Fz.of {K : PySem.W.Frag} {H : Hp} {a : Addr} {xs : List V} (o : Only H) (h : SqL K H a xs) : Fz K H a xs := by
  rcases h with (h | h) | h
  · rcases o a with e | ⟨u, ys, e⟩
    · rw [e] at h
      cases h
    · rw [e] at h
      cases h
  · exact .inl h
  · exact .inr fun H' => .inr h
/-- row: the script, how many of it are taken, the running number, what is left of a great one -/
structure RowA (K : PySem.W.Frag) (H : Hp) (p a : Addr) (ns : List Int) (i r c : Int) : Prop where
  at_ : H p = some (.lst [.ref a, .int i, .int r, .int c])
  fz : Fz K H a (ns.map V.int)
  pos : 0 ≤ i
theorem RowA.scr {K : PySem.W.Frag} {H : Hp} {p a : Addr} {ns : List Int} {i r c : Int} (h : RowA K H p a ns i r c) : SqL K H a (ns.map V.int) := h.fz.seq
def Row (K : PySem.W.Frag) (H : Hp) (p : Addr) : Prop := ∃ a ns i r c, RowA K H p a ns i r c
theorem RowA.put {K : PySem.W.Frag} {H : Hp} {p a : Addr} {ns : List Int} {i r c i' r' c' : Int} (h : RowA K H p a ns i r c) (hi : 0 ≤ i') :
    RowA K (upd H p (.lst [.ref a, .int i', .int r', .int c'])) p a ns i' r' c' :=
  ⟨upd_same, h.fz.on (Fix.lst h.at_), hi⟩
theorem RowA.row {K : PySem.W.Frag} {H : Hp} {p a : Addr} {ns : List Int} {i r c : Int} (h : RowA K H p a ns i r c) : Row K H p := ⟨_, _, _, _, _, h⟩
theorem Row.lst {K : PySem.W.Frag} {H : Hp} {p : Addr} (h : Row K H p) : ∃ xs, H p = some (.lst xs) := by
  obtain ⟨a, ns, i, r, c, h⟩ := h
  exact ⟨_, h.at_⟩
theorem Row.fix {K : PySem.W.Frag} {H H' : Hp} {p : Addr} (h : Row K H p) (b : But p H H') : Fix H H' := by
  obtain ⟨xs, e⟩ := h.lst
  exact But.fix e b
theorem Row.on {K : PySem.W.Frag} {H H' : Hp} {p : Addr} (h : Row K H p) (f : Fix H H') (e : H' p = H p) : Row K H' p := by
  obtain ⟨a, ns, i, r, c, h⟩ := h
  exact ⟨a, ns, i, r, c, e.trans h.at_, h.fz.on f, h.pos⟩
theorem Row.same {K : PySem.W.Frag} {H H' : Hp} {p : Addr} (h : Row K H p) (s : Same H H') : Row K H' p := by
  obtain ⟨xs, e⟩ := h.lst
  exact h.on (Fix.same s) ((s _ _ e).trans e.symm)
/-- another list is written -/
theorem Row.lst_upd {K : PySem.W.Frag} {H : Hp} {p q : Addr} {xs : List V} {o : HO} (h : Row K H p) (e : H q = some (.lst xs)) (n : p ≠ q) : Row K (upd H q o) p := h.on (Fix.lst e) (upd_ne n)
/-- a new object -/
theorem Row.new {K : PySem.W.Frag} {H : Hp} {p q : Addr} {o : HO} (h : Row K H p) (e : H q = none) : Row K (upd H q o) p := h.same (same_new e)
theorem Row.ne {K : PySem.W.Frag} {H : Hp} {p q : Addr} (h : Row K H p) (e : H q = none) : p ≠ q := by
  obtain ⟨xs, e'⟩ := h.lst
  exact ne_of_none e' e
section
variable {P : Program} {w : World} {K : PySem.W.Frag} {mg : Str → Option Value} {base : Heap}
def spTaken (K : PySem.W.Frag) : Sp := fun vs H Q _ => ∃ (p : Addr) (m : Int), vs = [.ref p, .int m] ∧ Row K H p ∧ 0 < m ∧ m < 1048576 ∧ ∀ k H', 0 ≤ k → k < m → But p H H' → Row K H' p → Q (.int k) H'
theorem ok_taken (F : Df K mg "_law_taken" st__law_taken ["row", "many"]) (B : Bu mg) : Cal P w K mg base 1 "_law_taken" (spTaken K) := by
  refine mkCal F sc__law_taken (fun vs H Q E h => ?_) (fun f cdv A outer s H vs Q E hr h => ?_)
  · obtain ⟨p, m, rfl, _⟩ := h
    rfl
  · obtain ⟨p, m, rfl, ⟨a, ns, i, r, c, hR⟩, m0, m1, q⟩ := h
    refine ⟨_, pss_cons (ps_if (pt_cmpR op_gt (pe_ix ix_list (pv 0) pe_int (fun _ _ => rfl)) pe_int (nomark _))
        (pss_cons (ps_set (i := 2) sc__law_taken.nd rfl (.inl rfl) (pe_op op_mod (pe_callTy call_int1 (by rfl) B.int (by decide +kernel) (pa_cons (pe_ix ix_list (pv 0) pe_int (fun _ _ => rfl)) pa_nil)) (pv 1)))
        (pss_cons (ps_asg (pe_op op_fdiv (pe_ix ix_list (pv 0) pe_int (fun _ _ => rfl)) (pv 1)) (pg_sub (pv 0) pe_int set_list))
        (pss_one (ps_ret (pv 2))))) pss_nil)
      (pss_cons (ps_asg (pe_op op_add (pe_ix ix_list (pv 0) pe_int (fun _ _ => rfl)) pe_int) (pg_sub (pv 0) pe_int set_list))
      (pss_cons (ps_if (pt_cmpR op_gt (pe_ix ix_list (pv 0) pe_int (fun _ _ => rfl)) (pe_callB (cl_len K) (by rfl) B.len PySem.boot_len (pa_cons (pe_ix ix_list (pv 0) pe_int (fun _ _ => rfl)) pa_nil)) (nomark _))
        (pss_cons (ps_asg (pe_op op_mod (pe_callTy call_int1 (by rfl) B.int (by decide +kernel) (pa_cons (pe_op op_add (pe_op op_mul (pe_ix ix_list (pv 0) pe_int (fun _ _ => rfl)) pe_int) pe_int) pa_nil)) pe_int) (pg_sub (pv 0) pe_int set_list))
        (pss_one (ps_ret (pe_op op_mod (pe_callTy call_int1 (by rfl) B.int (by decide +kernel) (pa_cons (pe_op op_fdiv (pe_ix ix_list (pv 0) pe_int (fun _ _ => rfl)) pe_int) pa_nil)) (pv 1))))) pss_nil)
      (pss_cons (ps_set (i := 3) sc__law_taken.nd rfl (.inl rfl) (pe_ix ix_list (pe_ix ix_list (pv 0) pe_int (fun _ _ => rfl)) (pe_op op_sub (pe_ix ix_list (pv 0) pe_int (fun _ _ => rfl)) pe_int) (fun _ _ => rfl)))
      (pss_cons (ps_asg (pe_op op_mod (pe_callTy call_int1 (by rfl) B.int (by decide +kernel) (pa_cons (pe_op op_add (pe_op op_add (pe_op op_mul (pe_ix ix_list (pv 0) pe_int (fun _ _ => rfl)) pe_int) (pv 3)) pe_int) pa_nil)) pe_int) (pg_sub (pv 0) pe_int set_list))
      (pss_cons (ps_if (pt_cmpR op_ge (pv 3) (pe_op op_pow pe_int pe_int) (nomark _))
        (pss_one (ps_asg (pe_op op_fdiv (pv 3) (pv 1)) (pg_sub (pv 0) pe_int set_list))) pss_nil)
      (pss_one (ps_ret (pe_op op_mod (pe_callTy call_int1 (by rfl) B.int (by decide +kernel) (pa_cons (pv 3) pa_nil)) (pv 1))))))))), ?_⟩
    have L := hR.at_
    refine ⟨_, rfl, p, _, 3, .int c, rfl, rfl, lstAt L, rfl, c, 0, rfl, rfl, _, rfl, ite2 (fun e => ?_) (fun e => ?_)⟩
    · refine ⟨_, rfl, p, _, 3, .int c, rfl, rfl, lstAt L, rfl, .inl ⟨c, rfl, _, rfl, c, m, rfl, rfl, m0, ?_⟩⟩
      refine ⟨_, rfl, p, _, 3, .int c, rfl, rfl, lstAt L, rfl, _, rfl, c, m, rfl, rfl, ⟨m0, by omega⟩, _, rfl, p, _, 3, 3, rfl, rfl, L, rfl, ?_⟩
      exact ⟨_, rfl, q (c % m) _ (Int.emod_nonneg _ (by omega)) (Int.emod_lt_of_pos _ m0) (But.upd (But.refl p H)) (hR.put hR.pos).row⟩
    · refine ⟨_, rfl, p, _, 1, .int i, rfl, rfl, lstAt L, rfl, i, 1, rfl, rfl, _, rfl, p, _, 1, 1, rfl, rfl, L, rfl, ?_⟩
      have R1 : RowA K (upd H p (.lst [.ref a, .int (i + 1), .int r, .int c])) p a ns (i + 1) r c := hR.put (by have := hR.pos; omega)
      have L1 := R1.at_
      refine ⟨_, rfl, p, _, 1, .int (i + 1), rfl, rfl, lstAt L1, rfl, _, rfl, p, _, 0, .ref a, rfl, rfl, lstAt L1, rfl, a, _, rfl, .inl R1.scr, _, _, rfl, rfl, _, rfl, ite2 (fun e1 => ?_) (fun e1 => ?_)⟩
      · refine ⟨_, rfl, p, _, 2, .int r, rfl, rfl, lstAt L1, rfl, r, 48271, rfl, rfl, .inr ⟨by decide, by decide⟩, _, 11, rfl, rfl, .inl ⟨_, rfl, _, _, rfl, rfl, (by show (0 : Int) < 2147483647; decide), _, rfl, p, _, 2, 2, rfl, rfl, L1, rfl, ?_⟩⟩
        have R2 : RowA K (upd (upd H p (.lst [.ref a, .int (i + 1), .int r, .int c])) p (.lst [.ref a, .int (i + 1), .int ((r * 48271 + 11) % 2147483647), .int c])) p a ns (i + 1) ((r * 48271 + 11) % 2147483647) c := R1.put R1.pos
        refine ⟨_, rfl, p, _, 2, _, rfl, rfl, lstAt R2.at_, rfl, _, 7, rfl, rfl, ⟨by decide, by decide⟩, .inl ⟨_, rfl, _, rfl, _, m, rfl, rfl, m0, ?_⟩⟩
        exact q _ _ (Int.emod_nonneg _ (by omega)) (Int.emod_lt_of_pos _ m0) (But.upd (But.upd (But.refl p H))) R2.row
      · have hi : i < (ns.length : Int) := by
          rw [List.length_map] at e1
          have e9 : i + 1 ≤ (ns.length : Int) := by simpa using e1
          omega
        have hi0 := hR.pos
        obtain ⟨z, hz⟩ : ∃ z, ns[i.toNat]? = some z := ⟨ns[i.toNat]'(by omega), List.getElem?_eq_getElem (by omega)⟩
        refine ⟨_, rfl, p, _, 0, .ref a, rfl, rfl, lstAt L1, rfl, _, rfl, p, _, 1, .int (i + 1), rfl, rfl, lstAt L1, rfl, _, 1, rfl, rfl, a, _, i + 1 - 1, .int z, rfl, rfl, R1.scr, at_int (by omega) (at_map (by rw [show (i + 1 - 1).toNat = i.toNat by omega]; exact hz)), ?_⟩
        refine ⟨_, rfl, p, _, 2, .int r, rfl, rfl, lstAt L1, rfl, r, 48271, rfl, rfl, .inr ⟨by decide, by decide⟩, _, rfl, _, z, rfl, rfl, _, 11, rfl, rfl, .inl ⟨_, rfl, _, _, rfl, rfl, (by show (0 : Int) < 2147483647; decide), _, rfl, p, _, 2, 2, rfl, rfl, L1, rfl, ?_⟩⟩
        have R2 : RowA K (upd (upd H p (.lst [.ref a, .int (i + 1), .int r, .int c])) p (.lst [.ref a, .int (i + 1), .int ((r * 48271 + z + 11) % 2147483647), .int c])) p a ns (i + 1) ((r * 48271 + z + 11) % 2147483647) c := R1.put R1.pos
        refine ⟨_, rfl, 10, 18, rfl, rfl, ⟨by decide, by decide, by decide⟩, z, _, rfl, rfl, _, rfl, ite2 (fun e2 => ?_) (fun e2 => ?_)⟩
        · refine ⟨_, rfl, _, rfl, z, m, rfl, rfl, ⟨m0, by omega⟩, _, rfl, p, _, 3, 3, rfl, rfl, R2.at_, rfl, ?_⟩
          refine ⟨_, rfl, .inl ⟨z, rfl, _, rfl, z, m, rfl, rfl, m0, ?_⟩⟩
          exact q _ _ (Int.emod_nonneg _ (by omega)) (Int.emod_lt_of_pos _ m0) (But.upd (But.upd (But.upd (But.refl p H)))) (R2.put R2.pos).row
        · refine ⟨_, rfl, .inl ⟨z, rfl, _, rfl, z, m, rfl, rfl, m0, ?_⟩⟩
          exact q _ _ (Int.emod_nonneg _ (by omega)) (Int.emod_lt_of_pos _ m0) (But.upd (But.upd (But.refl p H))) R2.row
end
end RH
set_option Elab.async false
set_option linter.all false
set_option maxRecDepth 100000
set_option maxHeartbeats 2000000
namespace RH
open PySem PySem.Spec PyProof.Rows L2
theorem ix_nat {n : Nat} {k : Int} (h0 : 0 ≤ k) (h1 : k < n) : seqIndex? k n = some k.toNat := by
  unfold seqIndex?
  have e : (if k < 0 then k + (n : Int) else k) = k := if_neg (by omega)
  simp only [e]
  rw [if_pos]
  simp [h0, h1]
theorem But.fresh {p l : Addr} {H H1 : Hp} {o : HO} (a : But p H H1) (e : H l = none) : But p H (L2.upd H1 l o) := fun c u h n => by
  rw [upd_ne (ne_of_none h e)]
  exact a c u h n
theorem map_erase (ns : List Int) (k : Nat) : (ns.map V.int).eraseIdx k = (ns.eraseIdx k).map V.int := by
  induction ns generalizing k with
  | nil => rfl
  | cons n ns ih =>
    cases k with
    | zero => rfl
    | succ k =>
      show V.int n :: (ns.map V.int).eraseIdx k = V.int n :: (ns.eraseIdx k).map V.int
      rw [ih]
theorem perm_erase : ∀ {ls : List Int} {k : Nat} {y : Int}, ls[k]? = some y → ls.Perm (y :: ls.eraseIdx k)
  | [], k, y, h => by simp at h
  | a :: ls, 0, y, h => by
    have e : a = y := Option.some.inj h
    subst e
    exact List.Perm.refl _
  | a :: ls, k + 1, y, h => by
    have ih := perm_erase (ls := ls) (k := k) (y := y) h
    exact (ih.cons a).trans (List.Perm.swap ..)
section
variable {P : Program} {w : World} {K : PySem.W.Frag} {mg : Str → Option Value} {base : Heap}
def spPick (K : PySem.W.Frag) : Sp := fun vs H Q _ => ∃ (p l : Addr) (xs : List V), vs = [.ref p, .ref l] ∧ Row K H p ∧ H l = some (.lst xs) ∧ l ≠ p ∧ 0 < xs.length ∧ xs.length ≤ 1000 ∧
  ∀ (i : Nat) x H', xs[i]? = some x → But p H H' → Row K H' p → Q x H'
theorem ok_pick (F : Df K mg "_law_pick" st__law_pick ["row", "things"]) (B : Bu mg) (CT : Cal P w K mg base 1 "_law_taken" (spTaken K)) : Cal P w K mg base 2 "_law_pick" (spPick K) := by
  refine mkCal F sc__law_pick (fun vs H Q E h => ?_) (fun f cdv A outer s H vs Q E hr h => ?_)
  · obtain ⟨p, l, xs, rfl, _⟩ := h
    rfl
  · obtain ⟨p, l, xs, rfl, hR, hl, hlp, l0, l1, q⟩ := h
    refine ⟨_, pss_one (ps_ret (pe_ix ix_list (pv 1) (pc CT hr (pa_cons (pv 0) (pa_cons (pe_callB (cl_len K) (by rfl) B.len PySem.boot_len (pa_cons (pv 1) pa_nil)) pa_nil))) (fun _ _ => rfl))), ?_⟩
    refine ⟨_, rfl, _, rfl, _, rfl, l, xs, rfl, .inl (lstAt hl), p, xs.length, rfl, hR, by omega, by omega, fun k H' k0 k1 hB hR' => ?_⟩
    have hk : k.toNat < xs.length := by omega
    exact ⟨l, xs, k, _, rfl, rfl, lstAt (hB _ _ hl hlp), at_int k0 (List.getElem?_eq_getElem hk), q _ _ H' (List.getElem?_eq_getElem hk) hB hR'⟩
end
end RH
set_option Elab.async false
set_option linter.all false
set_option maxRecDepth 100000
set_option maxHeartbeats 2000000
namespace RH
open PySem PySem.Spec PyProof.Rows L2
/-! ### _law_alike of equal data -/
theorem Dp.on {K : PySem.W.Frag} {H H' : Hp} (s : Same H H') : ∀ (d : PyData) (v : V), Dp K H v d → Dp K H' v d
  | d, v, h => by
    refine Dp.rec (motive_1 := fun v d _ => Dp K H' v d) (motive_2 := fun vs ds _ => DpAll K H' vs ds) .non .bl .int .str ?_ ?_ .nil ?_ h
    · intro a xs ds h1 _ h2
      exact .lst (s.seq h1) h2
    · intro a xs ds h1 _ h2
      exact .tup (onT s h1) h2
    · intro v vs d ds _ _ h1 h2
      exact .cons h1 h2
theorem DpAll.len {K : PySem.W.Frag} {H : Hp} : ∀ {vs : List V} {ds : List PyData}, DpAll K H vs ds → vs.length = ds.length
  | _, _, .nil => rfl
  | _, _, .cons _ t => congrArg (· + 1) (DpAll.len t)
theorem DpAll.of {K : PySem.W.Frag} {H : Hp} : ∀ {vs : List V} {ds : List PyData} {i : Nat} {d : PyData}, DpAll K H vs ds → ds[i]? = some d → ∃ v, vs[i]? = some v ∧ Dp K H v d
  | _, _, _, _, .nil, e => by simp at e
  | _, _, 0, _, .cons h _, e => by
    have e' := Option.some.inj e
    subst e'
    exact ⟨_, rfl, h⟩
  | _, _, i + 1, _, .cons _ t, e => DpAll.of (i := i) t e
def okD : Nat → PyData → Prop
  | 0, .none => True
  | 0, .bool _ => True
  | 0, .int _ => True
  | 0, .str _ => True
  | 0, _ => False
  | _ + 1, .none => True
  | _ + 1, .bool _ => True
  | _ + 1, .int _ => True
  | _ + 1, .str _ => True
  | k + 1, .list ds => ds.length ≤ 1000 ∧ ∀ d ∈ ds, okD k d
  | k + 1, .tuple ds => ds.length ≤ 1000 ∧ ∀ d ∈ ds, okD k d
  | _ + 1, .dict _ => False
theorem kit2 {K : PySem.W.Frag} {t : String} {b1 b2 : Bool} (h1 : kitB t "tuple" = some b1) (h2 : kitB t "list" = some b2) : PySem.W.kitAny K (.type t) [.type "tuple", .type "list"] = some (b1 || b2) := by
  cases b1 with
  | true => exact kitAny_cons (kit_ty h1) (fun z => nomatch z) (fun _ => rfl)
  | false =>
    cases b2 with
    | true => exact kitAny_cons (kit_ty h1) (fun _ => kitAny_cons (kit_ty h2) (fun z => nomatch z) (fun _ => rfl)) (fun z => nomatch z)
    | false => exact kitAny_cons (kit_ty h1) (fun _ => kitAny_cons (kit_ty h2) (fun _ => kitAny_nil) (fun z => nomatch z)) (fun z => nomatch z)
theorem cls2 : Paired ClsV [V.ty "tuple", V.ty "list"] [Value.type "tuple", Value.type "list"] := .cons (.ty _) (.cons (.ty _) .nil)
theorem ixS {X : Cx} (K : PySem.W.Frag) (h : X.K = K := by rfl) : IxR X (rIx K) := by
  subst h
  exact ix_seq
/-- a list or a tuple -/
structure Sq2 (K : PySem.W.Frag) (H : Hp) (a : Addr) (xs : List V) (T : String) (b : Bool) : Prop where
  ty : TyX K H (.ref a) (.type T)
  sq : SqL K H a xs ∨ SqT K H a xs
  k1 : PySem.W.kitAny K (.type T) [.type "tuple", .type "list"] = some true
  k2 : PySem.W.kitOne K (.type T) (.type "list") = some b
  ix : ∀ (i : Nat) (x : V) (Q : VK), xs[i]? = some x → Q x H → rIx K (.ref a) (.int (i : Int)) H Q
theorem sq2T {K : PySem.W.Frag} {H : Hp} {a : Addr} {xs : List V} (h : SqT K H a xs) : Sq2 K H a xs "tuple" false :=
  ⟨ty_tup h, .inr h, kit2 (b1 := true) (b2 := false) (by decide +kernel) (by decide +kernel), kit_ty (by decide +kernel), fun i x Q e q => .inr (.inl ⟨a, xs, i, x, rfl, rfl, h, atI_nat e, q⟩)⟩
theorem ty_lst {K : PySem.W.Frag} {H : Hp} {a : Addr} {xs : List V} (h : SqL K H a xs) : TyX K H (.ref a) (.type "list") := by
  rcases h with (h | ⟨o, h⟩) | ⟨o, vz, n, h, c, _⟩
  · exact .base (.lst h)
  · exact .base (.frz h)
  · exact .kList h c
theorem sq2L {K : PySem.W.Frag} {H : Hp} {a : Addr} {xs : List V} (h : SqL K H a xs) : Sq2 K H a xs "list" true :=
  ⟨ty_lst h, .inl h, kit2 (b1 := false) (b2 := true) (by decide +kernel) (by decide +kernel), kit_ty (by decide +kernel), fun i x Q e q => .inl ⟨a, xs, i, x, rfl, rfl, h, atI_nat e, q⟩⟩
theorem pss_no {X : Cx} {sts : List Stmt} : PSs X sts (fun _ _ _ => False) := ⟨fun _ _ _ _ _ _ h => h.elim⟩
section
variable {P : Program} {w : World} {K : PySem.W.Frag} {mg : Str → Option Value} {base : Heap}
def spAlike (K : PySem.W.Frag) (k : Nat) : Sp := fun vs H Q _ => ∃ (v u : V) (d : PyData), vs = [v, u] ∧ Dp K H v d ∧ Dp K H u d ∧ okD k d ∧ ∀ H', Same H H' → Q (.bl true) H'
theorem ok_alike0 (F : Df K mg "_law_alike" st__law_alike ["found", "due"]) (B : Bu mg) : Cal P w K mg base 1 "_law_alike" (spAlike K 0) := by
  refine mkCal F sc__law_alike (fun vs H Q E h => ?_) (fun f cdv A outer s H vs Q E hr h => ?_)
  · obtain ⟨v, u, d, rfl, _⟩ := h
    rfl
  · obtain ⟨v, u, d, rfl, hv, hu, hk, q⟩ := h
    refine ⟨_, pss_cons (ps_if (pt_val (pe_callB call_isiT (by rfl) B.isi (by decide +kernel) (pa_cons (pv 1) (pa_cons (pe_tup (pa_cons (pe_bltn (v := .ty "tuple") (by rfl) B.tuple (by decide +kernel) rfl) (pa_cons (pe_bltn (v := .ty "list") (by rfl) B.list (by decide +kernel) rfl) pa_nil))) pa_nil)))) pss_no pss_nil)
      (pss_cons (ps_if (PW.pt (pw_or (pt_cmp (pc_isN (pv 1))) (pw_or1 (pt_val (pe_callB call_isi (by rfl) B.isi (by decide +kernel) (pa_cons (pv 1) (pa_cons (pe_bltn (v := .ty "str") (by rfl) B.str (by decide +kernel) rfl) pa_nil)))))))
        (pss_one (ps_ret (pe_and (pe_cmpR op_eq (pv 0) (pv 1) (nomark _)) (pe_one (pe_cmpR op_eq (pe_callB call_isi (by rfl) B.isi (by decide +kernel) (pa_cons (pv 0) (pa_cons (pe_bltn (v := .ty "str") (by rfl) B.str (by decide +kernel) rfl) pa_nil)))
          (pe_callB call_isi (by rfl) B.isi (by decide +kernel) (pa_cons (pv 1) (pa_cons (pe_bltn (v := .ty "str") (by rfl) B.str (by decide +kernel) rfl) pa_nil))) (nomark _)))))) pss_nil)
      (pss_one (ps_ret (pe_and (pe_callB call_isi (by rfl) B.isi (by decide +kernel) (pa_cons (pv 0) (pa_cons (pe_bltn (v := .ty "int") (by rfl) B.int (by decide +kernel) rfl) pa_nil)))
        (pe_and (pe_cmpR op_eq (pe_callB call_isi (by rfl) B.isi (by decide +kernel) (pa_cons (pv 0) (pa_cons (pe_bltn (v := .ty "bool") (by rfl) B.bool (by decide +kernel) rfl) pa_nil)))
          (pe_callB call_isi (by rfl) B.isi (by decide +kernel) (pa_cons (pv 1) (pa_cons (pe_bltn (v := .ty "bool") (by rfl) B.bool (by decide +kernel) rfl) pa_nil))) (nomark _)) (pe_one (pe_cmpR op_eq (pv 0) (pv 1) (nomark _)))))))), ?_⟩
    cases hv with
    | non =>
      cases hu
      refine ⟨_, rfl, (by show 2 ≤ sizeLine; decide), fun t ht => ⟨.non, t, _, _, _, false, rfl, upd_same, cls2, .base .non, kit2 (b1 := false) (b2 := false) (by decide +kernel) (by decide +kernel), _, rfl, ifF rfl ?_⟩⟩
      refine ⟨_, rfl, _, rfl, ifT (decide_eq_true rfl) (ifT rfl ?_)⟩
      exact ⟨_, rfl, _, rfl, rfl, _, rfl, ifT (decide_eq_true rfl) ⟨_, rfl, .non, .ty "str", _, _, false, rfl, .ty "str", .base .non, kit_ty (by decide +kernel), _, rfl, .non, .ty "str", _, _, false, rfl, .ty "str", .base .non, kit_ty (by decide +kernel), rfl, q _ (same_new ht)⟩⟩
    | bl b =>
      cases hu
      refine ⟨_, rfl, (by show 2 ≤ sizeLine; decide), fun t ht => ⟨.bl b, t, _, _, _, false, rfl, upd_same, cls2, .base (.bl b), kit2 (b1 := false) (b2 := false) (by decide +kernel) (by decide +kernel), _, rfl, ifF rfl ?_⟩⟩
      refine ⟨_, rfl, _, rfl, ifF (decide_eq_false (fun z => nomatch z)) ⟨_, rfl, .bl b, .ty "str", _, _, false, rfl, .ty "str", .base (.bl b), kit_ty (by decide +kernel), _, rfl, ifF rfl ?_⟩⟩
      refine ⟨_, rfl, .bl b, .ty "int", _, _, true, rfl, .ty "int", .base (.bl b), kit_ty (by decide +kernel), _, rfl, ifT rfl ?_⟩
      refine ⟨_, rfl, .bl b, .ty "bool", _, _, true, rfl, .ty "bool", .base (.bl b), kit_ty (by decide +kernel), _, rfl, .bl b, .ty "bool", _, _, true, rfl, .ty "bool", .base (.bl b), kit_ty (by decide +kernel), rfl, _, rfl, ifT (decide_eq_true rfl) ?_⟩
      refine ⟨_, rfl, _, rfl, rfl, ?_⟩
      rw [decide_eq_true (rfl : V.bl b = V.bl b)]
      exact q _ (same_new ht)
    | int i =>
      cases hu
      refine ⟨_, rfl, (by show 2 ≤ sizeLine; decide), fun t ht => ⟨.int i, t, _, _, _, false, rfl, upd_same, cls2, .base (.int i), kit2 (b1 := false) (b2 := false) (by decide +kernel) (by decide +kernel), _, rfl, ifF rfl ?_⟩⟩
      refine ⟨_, rfl, _, rfl, ifF (decide_eq_false (fun z => nomatch z)) ⟨_, rfl, .int i, .ty "str", _, _, false, rfl, .ty "str", .base (.int i), kit_ty (by decide +kernel), _, rfl, ifF rfl ?_⟩⟩
      refine ⟨_, rfl, .int i, .ty "int", _, _, true, rfl, .ty "int", .base (.int i), kit_ty (by decide +kernel), _, rfl, ifT rfl ?_⟩
      refine ⟨_, rfl, .int i, .ty "bool", _, _, false, rfl, .ty "bool", .base (.int i), kit_ty (by decide +kernel), _, rfl, .int i, .ty "bool", _, _, false, rfl, .ty "bool", .base (.int i), kit_ty (by decide +kernel), rfl, _, rfl, ifT (decide_eq_true rfl) ?_⟩
      refine ⟨_, rfl, _, rfl, rfl, ?_⟩
      rw [decide_eq_true (rfl : V.int i = V.int i)]
      exact q _ (same_new ht)
    | str x =>
      cases hu
      refine ⟨_, rfl, (by show 2 ≤ sizeLine; decide), fun t ht => ⟨.str x, t, _, _, _, false, rfl, upd_same, cls2, .base (.str x), kit2 (b1 := false) (b2 := false) (by decide +kernel) (by decide +kernel), _, rfl, ifF rfl ?_⟩⟩
      refine ⟨_, rfl, _, rfl, ifF (decide_eq_false (fun z => nomatch z)) ⟨_, rfl, .str x, .ty "str", _, _, true, rfl, .ty "str", .base (.str x), kit_ty (by decide +kernel), _, rfl, ifT rfl ?_⟩⟩
      exact ⟨_, rfl, _, rfl, rfl, _, rfl, ifT (decide_eq_true rfl) ⟨_, rfl, .str x, .ty "str", _, _, true, rfl, .ty "str", .base (.str x), kit_ty (by decide +kernel), _, rfl, .str x, .ty "str", _, _, true, rfl, .ty "str", .base (.str x), kit_ty (by decide +kernel), rfl, q _ (same_new ht)⟩⟩
    | lst _ _ => exact hk.elim
    | tup _ _ => exact hk.elim
end
end RH
set_option Elab.async false
set_option linter.all false
set_option maxRecDepth 100000
set_option maxHeartbeats 2000000
namespace RH
open PySem PySem.Spec PyProof.Rows L2
theorem alike_cases {K : PySem.W.Frag} {H : Hp} {k : Nat} {v u : V} {d : PyData} (hv : Dp K H v d) (hu : Dp K H u d) (hk : okD (k + 1) d) : okD 0 d ∨ ∃ (a b : Addr) (xs ys : List V) (ds : List PyData) (T : String) (bl : Bool), v = .ref a ∧ u = .ref b ∧
    (∀ H', Same H H' → Sq2 K H' a xs T bl) ∧ (∀ H', Same H H' → Sq2 K H' b ys T bl) ∧ DpAll K H xs ds ∧ DpAll K H ys ds ∧ ds.length ≤ 1000 ∧ ∀ d ∈ ds, okD k d := by
  cases hv with
  | non => exact .inl True.intro
  | bl _ => exact .inl True.intro
  | int _ => exact .inl True.intro
  | str _ => exact .inl True.intro
  | @lst a xs ds h1 h2 =>
    cases hu with
    | @lst b ys _ h3 h4 => exact .inr ⟨a, b, xs, ys, ds, "list", true, rfl, rfl, fun _ s => sq2L (s.seq h1), fun _ s => sq2L (s.seq h3), h2, h4, hk.1, hk.2⟩
  | @tup a xs ds h1 h2 =>
    cases hu with
    | @tup b ys _ h3 h4 => exact .inr ⟨a, b, xs, ys, ds, "tuple", false, rfl, rfl, fun _ s => sq2T (onT s h1), fun _ s => sq2T (onT s h3), h2, h4, hk.1, hk.2⟩
section
variable {P : Program} {w : World} {K : PySem.W.Frag} {mg : Str → Option Value} {base : Heap}
theorem ok_alikeS (k : Nat) (F : Df K mg "_law_alike" st__law_alike ["found", "due"]) (B : Bu mg) (C : Cal P w K mg base (k + 1) "_law_alike" (spAlike K k)) : Cal P w K mg base (k + 2) "_law_alike" (spAlike K (k + 1)) := by
  refine mkCal F sc__law_alike (fun vs H Q E h => ?_) (fun f cdv A outer s H vs Q E hr h => ?_)
  · obtain ⟨v, u, d, rfl, _⟩ := h
    rfl
  · obtain ⟨v, u, d, rfl, hv, hu, hk, q⟩ := h
    refine ⟨_, pss_cons (ps_if (pt_val (pe_callB call_isiT (by rfl) B.isi (by decide +kernel) (pa_cons (pv 1) (pa_cons (pe_tup (pa_cons (pe_bltn (v := .ty "tuple") (by rfl) B.tuple (by decide +kernel) rfl) (pa_cons (pe_bltn (v := .ty "list") (by rfl) B.list (by decide +kernel) rfl) pa_nil))) pa_nil))))
        (pss_cons (ps_if (PW.pt (pw_or (pt_not (pt_val (pe_callB call_isiT (by rfl) B.isi (by decide +kernel) (pa_cons (pv 0) (pa_cons (pe_tup (pa_cons (pe_bltn (v := .ty "tuple") (by rfl) B.tuple (by decide +kernel) rfl) (pa_cons (pe_bltn (v := .ty "list") (by rfl) B.list (by decide +kernel) rfl) pa_nil))) pa_nil)))))
            (pw_or1 (pt_cmpR op_ne (pe_callB call_isi (by rfl) B.isi (by decide +kernel) (pa_cons (pv 0) (pa_cons (pe_bltn (v := .ty "list") (by rfl) B.list (by decide +kernel) rfl) pa_nil)))
              (pe_callB call_isi (by rfl) B.isi (by decide +kernel) (pa_cons (pv 1) (pa_cons (pe_bltn (v := .ty "list") (by rfl) B.list (by decide +kernel) rfl) pa_nil))) (nomark _))))) (pss_one (ps_ret pe_bl)) pss_nil)
        (pss_cons (ps_if (pt_cmpR op_ne (pe_callB (cl_len K) (by rfl) B.len PySem.boot_len (pa_cons (pv 0) pa_nil)) (pe_callB (cl_len K) (by rfl) B.len PySem.boot_len (pa_cons (pv 1) pa_nil)) (nomark _)) (pss_one (ps_ret pe_bl)) pss_nil)
        (pss_one (ps_ret (pe_cmpR (op_eqD hr.units) (pe_lc (own := [("k", 2)]) (g := gName 2) rfl sc__law_alike.nd (pi_range1 (by rfl) B.range (pa_cons (pe_callB (cl_len K) (by rfl) B.len PySem.boot_len (pa_cons (pv 1) pa_nil)) pa_nil))
          (blkOk_by (N := ["found", "due", "k"]) (sc := defScope st__law_alike) (by decide +kernel)) (fun _ _ _ _ _ => pg_name (i := 2) sc__law_alike.nd rfl (Or.inl rfl))
          (fun _ _ _ _ _ => pts_one (pt_not (pt_val (pc C hr (pa_cons (pe_ix (ixS K) (pv 0) (pv 2) (fun _ _ => rfl)) (pa_cons (pe_ix (ixS K) (pv 1) (pv 2) (fun _ _ => rfl)) pa_nil)) (hk := Nat.le_refl _))))) (fun _ _ _ _ _ => pv 2)) (pe_lst pa_nil) (nomark _)))))) pss_nil)
      (pss_cons (ps_if (PW.pt (pw_or (pt_cmp (pc_isN (pv 1))) (pw_or1 (pt_val (pe_callB call_isi (by rfl) B.isi (by decide +kernel) (pa_cons (pv 1) (pa_cons (pe_bltn (v := .ty "str") (by rfl) B.str (by decide +kernel) rfl) pa_nil)))))))
        (pss_one (ps_ret (pe_and (pe_cmpR op_eq (pv 0) (pv 1) (nomark _)) (pe_one (pe_cmpR op_eq (pe_callB call_isi (by rfl) B.isi (by decide +kernel) (pa_cons (pv 0) (pa_cons (pe_bltn (v := .ty "str") (by rfl) B.str (by decide +kernel) rfl) pa_nil)))
          (pe_callB call_isi (by rfl) B.isi (by decide +kernel) (pa_cons (pv 1) (pa_cons (pe_bltn (v := .ty "str") (by rfl) B.str (by decide +kernel) rfl) pa_nil))) (nomark _)))))) pss_nil)
      (pss_one (ps_ret (pe_and (pe_callB call_isi (by rfl) B.isi (by decide +kernel) (pa_cons (pv 0) (pa_cons (pe_bltn (v := .ty "int") (by rfl) B.int (by decide +kernel) rfl) pa_nil)))
        (pe_and (pe_cmpR op_eq (pe_callB call_isi (by rfl) B.isi (by decide +kernel) (pa_cons (pv 0) (pa_cons (pe_bltn (v := .ty "bool") (by rfl) B.bool (by decide +kernel) rfl) pa_nil)))
          (pe_callB call_isi (by rfl) B.isi (by decide +kernel) (pa_cons (pv 1) (pa_cons (pe_bltn (v := .ty "bool") (by rfl) B.bool (by decide +kernel) rfl) pa_nil))) (nomark _)) (pe_one (pe_cmpR op_eq (pv 0) (pv 1) (nomark _)))))))), ?_⟩
    rcases alike_cases hv hu hk with hk0 | ⟨a, b, xs, ys, ds, T, bl, rfl, rfl, ha, hb, hx, hy, hl, hd⟩
    · clear hk
      cases hv with
      | non =>
        cases hu
        refine ⟨_, rfl, (by show 2 ≤ sizeLine; decide), fun t ht => ⟨.non, t, _, _, _, false, rfl, upd_same, cls2, .base .non, kit2 (b1 := false) (b2 := false) (by decide +kernel) (by decide +kernel), _, rfl, ifF rfl ?_⟩⟩
        refine ⟨_, rfl, _, rfl, ifT (decide_eq_true rfl) (ifT rfl ?_)⟩
        exact ⟨_, rfl, _, rfl, rfl, _, rfl, ifT (decide_eq_true rfl) ⟨_, rfl, .non, .ty "str", _, _, false, rfl, .ty "str", .base .non, kit_ty (by decide +kernel), _, rfl, .non, .ty "str", _, _, false, rfl, .ty "str", .base .non, kit_ty (by decide +kernel), rfl, q _ (same_new ht)⟩⟩
      | bl b =>
        cases hu
        refine ⟨_, rfl, (by show 2 ≤ sizeLine; decide), fun t ht => ⟨.bl b, t, _, _, _, false, rfl, upd_same, cls2, .base (.bl b), kit2 (b1 := false) (b2 := false) (by decide +kernel) (by decide +kernel), _, rfl, ifF rfl ?_⟩⟩
        refine ⟨_, rfl, _, rfl, ifF (decide_eq_false (fun z => nomatch z)) ⟨_, rfl, .bl b, .ty "str", _, _, false, rfl, .ty "str", .base (.bl b), kit_ty (by decide +kernel), _, rfl, ifF rfl ?_⟩⟩
        refine ⟨_, rfl, .bl b, .ty "int", _, _, true, rfl, .ty "int", .base (.bl b), kit_ty (by decide +kernel), _, rfl, ifT rfl ?_⟩
        refine ⟨_, rfl, .bl b, .ty "bool", _, _, true, rfl, .ty "bool", .base (.bl b), kit_ty (by decide +kernel), _, rfl, .bl b, .ty "bool", _, _, true, rfl, .ty "bool", .base (.bl b), kit_ty (by decide +kernel), rfl, _, rfl, ifT (decide_eq_true rfl) ?_⟩
        refine ⟨_, rfl, _, rfl, rfl, ?_⟩
        rw [decide_eq_true (rfl : V.bl b = V.bl b)]
        exact q _ (same_new ht)
      | int i =>
        cases hu
        refine ⟨_, rfl, (by show 2 ≤ sizeLine; decide), fun t ht => ⟨.int i, t, _, _, _, false, rfl, upd_same, cls2, .base (.int i), kit2 (b1 := false) (b2 := false) (by decide +kernel) (by decide +kernel), _, rfl, ifF rfl ?_⟩⟩
        refine ⟨_, rfl, _, rfl, ifF (decide_eq_false (fun z => nomatch z)) ⟨_, rfl, .int i, .ty "str", _, _, false, rfl, .ty "str", .base (.int i), kit_ty (by decide +kernel), _, rfl, ifF rfl ?_⟩⟩
        refine ⟨_, rfl, .int i, .ty "int", _, _, true, rfl, .ty "int", .base (.int i), kit_ty (by decide +kernel), _, rfl, ifT rfl ?_⟩
        refine ⟨_, rfl, .int i, .ty "bool", _, _, false, rfl, .ty "bool", .base (.int i), kit_ty (by decide +kernel), _, rfl, .int i, .ty "bool", _, _, false, rfl, .ty "bool", .base (.int i), kit_ty (by decide +kernel), rfl, _, rfl, ifT (decide_eq_true rfl) ?_⟩
        refine ⟨_, rfl, _, rfl, rfl, ?_⟩
        rw [decide_eq_true (rfl : V.int i = V.int i)]
        exact q _ (same_new ht)
      | str x =>
        cases hu
        refine ⟨_, rfl, (by show 2 ≤ sizeLine; decide), fun t ht => ⟨.str x, t, _, _, _, false, rfl, upd_same, cls2, .base (.str x), kit2 (b1 := false) (b2 := false) (by decide +kernel) (by decide +kernel), _, rfl, ifF rfl ?_⟩⟩
        refine ⟨_, rfl, _, rfl, ifF (decide_eq_false (fun z => nomatch z)) ⟨_, rfl, .str x, .ty "str", _, _, true, rfl, .ty "str", .base (.str x), kit_ty (by decide +kernel), _, rfl, ifT rfl ?_⟩⟩
        exact ⟨_, rfl, _, rfl, rfl, _, rfl, ifT (decide_eq_true rfl) ⟨_, rfl, .str x, .ty "str", _, _, true, rfl, .ty "str", .base (.str x), kit_ty (by decide +kernel), _, rfl, .str x, .ty "str", _, _, true, rfl, .ty "str", .base (.str x), kit_ty (by decide +kernel), rfl, q _ (same_new ht)⟩⟩
      | lst _ _ => exact hk0.elim
      | tup _ _ => exact hk0.elim
    · have lx : xs.length = ds.length := DpAll.len hx
      have ly : ys.length = ds.length := DpAll.len hy
      refine ⟨_, rfl, (by show 2 ≤ sizeLine; decide), fun t ht => ?_⟩
      have s1 : Same H (upd H t (.tup [.ty "tuple", .ty "list"])) := same_new ht
      have b1 := hb _ s1
      refine ⟨.ref b, t, _, _, _, true, rfl, upd_same, cls2, b1.ty, b1.k1, _, rfl, ifT rfl ?_⟩
      refine ⟨_, rfl, (by show 2 ≤ sizeLine; decide), fun t2 ht2 => ?_⟩
      have s2 := s1.trans (same_new (o := .tup [.ty "tuple", .ty "list"]) ht2)
      have a2 := ha _ s2
      have b2 := hb _ s2
      refine ⟨.ref a, t2, _, _, _, true, rfl, upd_same, cls2, a2.ty, a2.k1, _, rfl, ifF rfl ?_⟩
      refine ⟨_, rfl, .ref a, .ty "list", _, _, bl, rfl, .ty "list", a2.ty, a2.k2, _, rfl, .ref b, .ty "list", _, _, bl, rfl, .ty "list", b2.ty, b2.k2, rfl, _, rfl, ifF (by rw [decide_eq_true (rfl : V.bl bl = V.bl bl)]; rfl) ?_⟩
      refine ⟨_, rfl, a, xs, rfl, a2.sq, _, rfl, b, ys, rfl, b2.sq, rfl, _, rfl, ifF (by rw [lx, ly, decide_eq_true rfl]; rfl) ?_⟩
      refine ⟨_, rfl, b, ys, rfl, b2.sq, _, rfl, by omega, by omega, fun D hD => ?_⟩
      rw [Int.toNat_natCast]
      refine lc_range (lo := 0) (n := ys.length) (fun i H' => Same (upd (upd H t (.tup [.ty "tuple", .ty "list"])) t2 (.tup [.ty "tuple", .ty "list"])) H' ∧ H' D = some (.lst [])) ⟨same_new hD, upd_same⟩ (fun i H' hi h' => ?_) (fun H' h' => ?_)
      · obtain ⟨sm, eD⟩ := h'
        have s3 := s2.trans sm
        obtain ⟨d, hdi⟩ : ∃ d, ds[i]? = some d := ⟨_, List.getElem?_eq_getElem (by omega)⟩
        obtain ⟨x, hxi, hxd⟩ := DpAll.of hx hdi
        obtain ⟨y, hyi, hyd⟩ := DpAll.of hy hdi
        rw [Int.zero_add]
        refine ⟨rfl, _, rfl, _, rfl, ?_⟩
        refine (ha _ s3).ix i x _ hxi ⟨_, rfl, _, rfl, ?_⟩
        refine (hb _ s3).ix i y _ hyi ⟨x, y, d, rfl, Dp.on s3 d x hxd, Dp.on s3 d y hyd, hd d (List.mem_of_getElem? hdi), fun H4 s4 => ⟨_, rfl, ifF rfl ⟨?_, s4 _ _ eD⟩⟩⟩
        exact sm.trans s4
      · obtain ⟨sm, eD⟩ := h'
        refine ⟨Nat.zero_le _, fun z hz => ?_⟩
        refine ⟨_, _, dp_lst (ns := []) (lstAt (same_new hz _ _ eD)), dp_lst (ns := []) (lstAt upd_same), PySem.W.ke_shaped_ints _, PySem.W.ke_shaped_ints _, ?_⟩
        exact q _ (s2.trans (sm.trans (same_new hz)))
end
end RH
set_option Elab.async false
set_option linter.all false
set_option maxRecDepth 100000
set_option maxHeartbeats 2000000
namespace RH
open PySem PySem.Spec PyProof.Rows L2
/-! ### words, what they touch, and what a loss does -/
theorem rg_nd (n : Nat) : (rg n).Nodup := by
  unfold rg
  exact List.Pairwise.map _ (fun a b (e : a ≠ b) => fun z => e (by omega)) List.nodup_range
theorem idx_at {l : List Int} (nd : l.Nodup) {i : Nat} {x : Int} (h : l[i]? = some x) : l.idxOf x = i := by
  obtain ⟨hi, e⟩ := List.getElem?_eq_some_iff.mp h
  subst e
  exact nd.idxOf_getElem i hi
theorem perm_nd {n : Nat} {l : List Int} (h : l.Perm (rg n)) : l.Nodup := h.nodup_iff.mpr (rg_nd n)
theorem perm_len {n : Nat} {l : List Int} (h : l.Perm (rg n)) : l.length = n := by rw [h.length_eq, rg_len]
theorem perm_in {n : Nat} {l : List Int} (h : l.Perm (rg n)) {x : Int} (hx : x ∈ l) : InR n x := rg_mem.mp (h.mem_iff.mp hx)
theorem perm_mem {n : Nat} {l : List Int} (h : l.Perm (rg n)) {x : Int} (hx : InR n x) : x ∈ l := h.mem_iff.mpr (rg_mem.mpr hx)
def stp (h : List (List Int)) (p : Int) (L : List Int) : List Int := L.map (mv h p)
def mvs (h : List (List Int)) (L ws : List Int) : List Int := ws.foldl (fun L p => stp h p L) L
theorem mvs_app (h : List (List Int)) (L ws us : List Int) : mvs h L (ws ++ us) = mvs h (mvs h L ws) us := List.foldl_append ..
theorem mvs_snoc (h : List (List Int)) (L ws : List Int) (p : Int) : mvs h L (ws ++ [p]) = stp h p (mvs h L ws) := mvs_app h L ws [p]
theorem mvs_more {h : List (List Int)} {L ws : List Int} {i : Nat} {p : Int} (e : ws[i]? = some p) : mvs h L (ws.take (i + 1)) = stp h p (mvs h L (ws.take i)) := by
  rw [take_more e, mvs_snoc]
/-- the row of a place -/
theorem Hb.row {n : Nat} {h : List (List Int)} (q : Hb n h) {p : Int} (hp : InR n p) : h.getD p.toNat [] ∈ h := by
  have h1 : p.toNat < h.length := by rw [q.len]; have := hp.1; have := hp.2; omega
  rw [List.getD_eq_getElem?_getD, List.getElem?_eq_getElem h1]
  exact List.getElem_mem h1
theorem Hb.row_eq {n : Nat} {h : List (List Int)} (q : Hb n h) {p : Int} (hp : InR n p) : (rg n).map (mv h p) = h.getD p.toNat [] := by
  have hl := q.short (q.row hp)
  refine List.ext_getElem? fun i => ?_
  rw [List.getElem?_map]
  by_cases hi : i < n
  · rw [rg_at hi]
    show some (mv h p (i : Int)) = _
    unfold mv
    rw [Int.toNat_natCast, List.getD_eq_getElem?_getD (l := h.getD p.toNat []), List.getElem?_eq_getElem (by omega : i < (h.getD p.toNat []).length)]
    rfl
  · rw [List.getElem?_eq_none (by rw [rg_len]; omega), List.getElem?_eq_none (by omega)]
    rfl
theorem Hb.stp_perm {n : Nat} {h : List (List Int)} (q : Hb n h) {p : Int} (hp : InR n p) {L : List Int} (hL : L.Perm (rg n)) : (stp h p L).Perm (rg n) := by
  have h1 : (stp h p L).Perm ((rg n).map (mv h p)) := hL.map _
  rw [q.row_eq hp] at h1
  exact h1.trans (q.perm _ (q.row hp))
theorem Hb.mvs_perm {n : Nat} {h : List (List Int)} (q : Hb n h) : ∀ {ws L : List Int}, (∀ t ∈ ws, InR n t) → L.Perm (rg n) → (mvs h L ws).Perm (rg n)
  | [], _, _, hL => hL
  | p :: ws, L, hw, hL => q.mvs_perm (ws := ws) (L := stp h p L) (fun t ht => hw t (List.mem_cons_of_mem _ ht)) (q.stp_perm (hw p (List.mem_cons_self ..)) hL)
theorem Hb.mv_inj {n : Nat} {h : List (List Int)} (q : Hb n h) {p x y : Int} (hp : InR n p) (hx : InR n x) (hy : InR n y) (e : mv h p x = mv h p y) : x = y := by
  have nd := perm_nd (q.perm _ (q.row hp))
  have at_ : ∀ z, InR n z → (h.getD p.toNat [])[z.toNat]? = some (mv h p z) := fun z hz => by
    rw [← q.row_eq hp, List.getElem?_map, rg_at (by have := hz.1; have := hz.2; omega)]
    show some (mv h p ((z.toNat : Nat) : Int)) = _
    rw [Int.toNat_of_nonneg hz.1]
  have e1 := idx_at nd (at_ x hx)
  have e2 := idx_at nd (at_ y hy)
  rw [e, e2] at e1
  have := hx.1
  have := hy.1
  omega
end RH
set_option Elab.async false
set_option linter.all false
set_option maxRecDepth 100000
set_option maxHeartbeats 2000000
namespace RH
open PySem PySem.Spec PyProof.Rows L2
def sF (n pl : Nat) : List Int := ((rg n).set pl ((pl - 1 : Nat) : Int)).set (pl - 1) (pl : Int)
/-- the permutations found so far -/
def HI (K : PySem.W.Frag) (p g : Addr) (H : Hp) (n i : Nat) (H' : Hp) : Prop := ∃ (xs : List V) (hs : List (List Int)), But p H H' ∧ Row K H' p ∧ H' g = some (.lst xs) ∧ Each (TI K H') xs hs ∧ hs.length = i ∧ ∀ ns ∈ hs, ns.Perm (rg n)
theorem HI.step {K : PySem.W.Frag} {p g : Addr} {H H1 H5 : Hp} {n i : Nat} (h : HI K p g H n i H1) (hg : H g = none) (hpg : p ≠ g) (b : But p H1 H5) (r : Row K H5 p) :
    ∃ xs, H5 g = some (.lst xs) ∧ xs.length = i ∧ ∀ (q : Addr) (ns : List Int) (H6 : Hp), Same H5 H6 → SqT K H6 q (ns.map V.int) → ns.Perm (rg n) → HI K p g H n (i + 1) (upd H6 g (.lst (xs ++ [.ref q]))) := by
  obtain ⟨xs, hs, hB, hR, e, hE, hl, hp⟩ := h
  have e5 := b _ _ e (Ne.symm hpg)
  refine ⟨xs, e5, hE.len.trans hl, fun q ns H6 s6 hq hpm => ⟨xs ++ [.ref q], hs ++ [ns], ?_, ?_, upd_same, ?_, ?_, ?_⟩⟩
  · exact ((hB.trans b).trans (But.same s6)).fresh hg
  · exact (r.same s6).lst_upd (s6 _ _ e5) hpg
  · have f1 : Fix H1 (upd H6 g (.lst (xs ++ [.ref q]))) := (hR.fix b).trans ((Fix.same s6).trans (Fix.lst (s6 _ _ e5)))
    exact Each.snoc ⟨q, rfl, Fix.tups (Fix.lst (s6 _ _ e5)) _ _ hq⟩ (hE.imp fun _ _ z => z.on f1.tups)
  · rw [List.length_append, hl]
    rfl
  · intro ns' hm
    rcases List.mem_append.mp hm with h1 | h1
    · exact hp _ h1
    · rw [List.mem_singleton.mp h1]
      exact hpm
end RH
set_option Elab.async false
set_option linter.all false
set_option maxRecDepth 100000
set_option maxHeartbeats 2000000
namespace RH
open PySem PySem.Spec PyProof.Rows L2
/-! ### the checks of one shelf, a touch -/
section
variable {P : Program} {w : World} {K : PySem.W.Frag} {mg : Str → Option Value} {base : Heap}
theorem lay_yes {n : Nat} {L : List Int} (h : L.Perm (rg n)) : isLay n L = true := by
  unfold isLay
  exact List.isPerm_iff.mpr h
def spPlacesOf (K : PySem.W.Frag) : Sp := fun vs H Q _ => ∃ (v : V) (h : List (List Int)) (n : Nat), vs = [v] ∧ TII K H v h ∧ Hb n h ∧ ∀ q, H q = none → Q (.ref q) (upd H q (.tup ((rg n).map V.int)))
theorem ok_places_of (F : Df K mg "places_of_habit" st_places_of_habit ["habit"]) (B : Bu mg) : Cal P w K mg base 1 "places_of_habit" (spPlacesOf K) := by
  refine mkCal F sc_places_of_habit (fun vs H Q E h => ?_) (fun f cdv A outer s H vs Q E hr h => ?_)
  · obtain ⟨v, h, n, rfl, _⟩ := h
    rfl
  · obtain ⟨v, h, n, rfl, ⟨a, xs, rfl, hS, hE⟩, hb, q⟩ := h
    have hxl : xs.length = n := hE.len.trans hb.len
    have n5 := hb.hi
    refine ⟨_, pss_one (ps_ret (pe_tupRg rfl (by rfl) B.tuple (prg_1 (by rfl) B.range (pe_callB (cl_len K) (by rfl) B.len PySem.boot_len (pa_cons (pv 0) pa_nil))))), ?_⟩
    refine ⟨_, rfl, a, xs, rfl, .inr hS, (xs.length : Int), rfl, ?_⟩
    rw [hxl]
    refine ⟨⟨by omega, by omega, by omega, by omega, by omega⟩, fun t ht => ?_⟩
    rw [rgV_rg]
    exact q t ht
def spMove (K : PySem.W.Frag) : Sp := fun vs H Q _ => ∃ (v : V) (h : List (List Int)) (n : Nat) (a : Addr) (L : List Int) (p : Int), vs = [v, .ref a, .int p] ∧ TII K H v h ∧ Hb n h ∧ SqT K H a (L.map V.int) ∧ (∀ i ∈ L, InR n i) ∧ L.length ≤ 1000 ∧ InR n p ∧
  ∀ H' q, Same H H' → H q = none → FT H' q (stp h p L) → Q (.ref q) H'
theorem ok_move (F : Df K mg "move" st_move ["habit", "layout", "place"]) (B : Bu mg) : Cal P w K mg base 1 "move" (spMove K) := by
  refine mkCal F sc_move (fun vs H Q E h => ?_) (fun f cdv A outer s H vs Q E hr h => ?_)
  · obtain ⟨v, h, n, a, L, p, rfl, _⟩ := h
    rfl
  · obtain ⟨v, h, n, a, L, p, rfl, ⟨ah, xs, rfl, hS, hE⟩, hb, hL, hin, hlen, hp, q⟩ := h
    refine ⟨_, pss_cons (ps_set (i := 3) sc_move.nd rfl (.inr rfl) (pe_ix ix_tup (pv 0) (pv 2) (fun _ _ => rfl)))
      (pss_one (ps_ret (pe_tupleF (by rfl) B.tuple (pe_lc (own := [("stood", 4)]) (g := gName 4) (tt := tYes) rfl sc_move.nd (pi_tup (pv 1)) (blkOk_by (N := ["habit", "layout", "place", "moves", "stood"]) (sc := defScope st_move) (by decide +kernel))
        (fun _ _ _ _ _ => pg_name (i := 4) sc_move.nd rfl (Or.inl rfl)) (fun _ _ _ _ _ => pts_nil) (fun _ _ _ _ _ => pe_ix (ixT K) (pv 3) (pv 4) (fun _ _ => rfl)))))), ?_⟩
    obtain ⟨a1, ns1, e1, s1, _⟩ := ix2 hE hb hp hp
    refine ⟨_, rfl, _, rfl, ah, xs, p, _, rfl, rfl, hS, e1, ?_⟩
    refine ⟨_, rfl, a, rfl, ⟨_, hL⟩, fun D hD => ?_⟩
    refine lc_tup (xs := L.map V.int) (fun i H' => Same H H' ∧ H' D = some (.lst (((L.take i).map (mv h p)).map V.int))) ⟨same_new hD, upd_same⟩ (fun i H' _ h' => onT h'.1 hL) (fun i x H' hx h' => ?_) (fun H' h' => ?_)
    · obtain ⟨st, hst, rfl⟩ := map_at hx
      obtain ⟨sm, eD⟩ := h'
      obtain ⟨a2, ns2, e2, s2, e3⟩ := ix2 hE hb hp (hin st (List.mem_of_getElem? hst))
      rw [e1] at e2
      cases e2
      refine ⟨rfl, _, rfl, _, rfl, a1, _, st, _, rfl, rfl, onT sm s2, e3, _, eD, ?_, ?_, ?_⟩
      · rw [List.length_map, List.length_map, List.length_take]
        exact small1000 (by omega)
      · intro b o e
        rw [upd_ne (ne_of_none e hD)]
        exact sm b o e
      · rw [upd_same, take_more hst, List.map_append, List.map_append]
        rfl
    · obtain ⟨sm, eD⟩ := h'
      rw [List.length_map, List.take_length] at eD
      refine ⟨D, _, rfl, lstAt eD, fun t ob ht hob => q _ t (sm.trans (same_new ht)) ?_ ⟨ob, upd_same, hob⟩⟩
      cases e : H t with
      | none => rfl
      | some o =>
        rw [sm _ _ e] at ht
        cases ht
end
end RH
set_option Elab.async false
set_option linter.all false
set_option maxRecDepth 100000
set_option maxHeartbeats 2000000
namespace RH
open PySem PySem.Spec PyProof.Rows L2
/-! ### what the program tells of words -/
theorem sameU {H H' : Hp} {p : Addr} {o : HO} (a : Same H H') (h : H p = none) : Same H (upd H' p o) := fun b u e => by
  rw [upd_ne (ne_of_none e h)]
  exact a b u e
theorem none_of {H H' : Hp} {p : Addr} (a : Same H H') (h : H' p = none) : H p = none := by
  cases e : H p with
  | none => rfl
  | some o =>
    rw [a _ _ e] at h
    cases h
theorem FT.same {H H' : Hp} {b : Addr} {s : List Int} (e : Same H H') (h : FT H b s) : FT H' b s := let ⟨ob, h1, h2⟩ := h; ⟨ob, e _ _ h1, h2⟩
theorem FT.fix {H H' : Hp} {b : Addr} {s : List Int} (f : Fix H H') (h : FT H b s) : FT H' b s := let ⟨ob, h1, h2⟩ := h; ⟨ob, f _ _ h1 (fun xs z => nomatch z), h2⟩
theorem FT.sq {K : PySem.W.Frag} {H : Hp} {b : Addr} {s : List Int} (h : FT H b s) : SqT K H b (s.map V.int) := .inl h.kx
theorem shaped_tup (ns : List Int) : SeqAt.shaped (.tuple (ns.map PyData.int)) = true := by
  simp [SeqAt.shaped, PyData.canLay0, PyData.depth, PySem.W.ke_canLayAll0, PySem.W.ke_depthAll]
theorem opEqD {X : Cx} (K : PySem.W.Frag) (hu : X.A.units + 64 < cLine) (h : X.K = K := by rfl) : OpR X (compareOp .Eq) (rEqD K) := by
  subst h
  exact op_eqD hu
section
variable {P : Program} {w : World} {K : PySem.W.Frag} {mg : Str → Option Value} {base : Heap}
/-- a habit, a layout and a word of n places -/
structure HLW (K : PySem.W.Frag) (H : Hp) (v : V) (h : List (List Int)) (n : Nat) (a : Addr) (L : List Int) (wv : V) (ws : List Int) : Prop where
  hT : TII K H v h
  hb : Hb n h
  fL : FT H a L
  hL : L.Perm (rg n)
  hW : TI K H wv ws
  hw : ∀ t ∈ ws, InR n t
  len : ws.length ≤ 400
theorem HLW.same {K : PySem.W.Frag} {H H' : Hp} {v : V} {h : List (List Int)} {n : Nat} {a : Addr} {L : List Int} {wv : V} {ws : List Int} (g : HLW K H v h n a L wv ws) (s : Same H H') : HLW K H' v h n a L wv ws :=
  ⟨g.hT.on (Same.tups s), g.hb, g.fL.same s, g.hL, g.hW.on (Same.tups s), g.hw, g.len⟩
theorem HLW.fix {K : PySem.W.Frag} {H H' : Hp} {v : V} {h : List (List Int)} {n : Nat} {a : Addr} {L : List Int} {wv : V} {ws : List Int} (g : HLW K H v h n a L wv ws) (s : Fix H H') : HLW K H' v h n a L wv ws :=
  ⟨g.hT.on s.tups, g.hb, g.fL.fix s, g.hL, g.hW.on s.tups, g.hw, g.len⟩
def spMoveAlong (K : PySem.W.Frag) : Sp := fun vs H Q _ => ∃ (v : V) (h : List (List Int)) (n : Nat) (a : Addr) (L : List Int) (wv : V) (ws : List Int), vs = [v, .ref a, wv] ∧ HLW K H v h n a L wv ws ∧ ∀ H' q, Same H H' → FT H' q (mvs h L ws) → Q (.ref q) H'
theorem ok_move_along (F : Df K mg "move_along" st_move_along ["habit", "layout", "word"]) (CM : Cal P w K mg base 1 "move" (spMove K)) : Cal P w K mg base 2 "move_along" (spMoveAlong K) := by
  refine mkCal F sc_move_along (fun vs H Q E h => ?_) (fun f cdv A outer s H vs Q E hr h => ?_)
  · obtain ⟨v, h, n, a, L, wv, ws, rfl, _⟩ := h
    rfl
  · obtain ⟨v, h, n, a, L, wv, ws, rfl, g, q⟩ := h
    obtain ⟨aw, rfl, hW⟩ := id g.hW
    refine ⟨_, pss_cons (ps_for PassesOwn.never rfl (pi_tup (pv 2)) (pg_name (i := 3) sc_move_along.nd rfl (.inl rfl)) (pss_one (ps_set (i := 1) sc_move_along.nd rfl (.inl rfl) (pc CM hr (pa_cons (pv 0) (pa_cons (pv 1) (pa_cons (pv 3) pa_nil)))))))
      (pss_one (ps_ret (pv 1))), ?_⟩
    refine ⟨_, rfl, aw, rfl, ⟨_, hW⟩, ?_⟩
    refine for_tup (xs := ws.map V.int) (fun i σ H' => Same H H' ∧ ∃ q1 y, σ = [some v, some (.ref q1), some (.ref aw), y] ∧ FT H' q1 (mvs h L (ws.take i))) ⟨Same.refl H, a, none, rfl, g.fL⟩ (fun i σ H' _ h' => onT h'.1 hW) (fun i x σ H' hx h' => ?_) (fun σ H' h' => ?_)
    · obtain ⟨t, ht, rfl⟩ := map_at hx
      obtain ⟨sm, q1, y, rfl, f1⟩ := h'
      have hp1 := g.hb.mvs_perm (ws := ws.take i) (fun u hu => g.hw u (List.mem_of_mem_take hu)) g.hL
      have n5 := g.hb.hi
      refine ⟨_, rfl, _, rfl, _, rfl, v, h, n, q1, _, t, rfl, (g.same sm).hT, g.hb, f1.sq, fun u hu => perm_in hp1 hu, by rw [perm_len hp1]; omega, g.hw t (List.mem_of_getElem? ht), fun H2 q2 s2 _ f2 => ⟨sm.trans s2, q2, _, rfl, ?_⟩⟩
      rw [mvs_more ht]
      exact f2
    · obtain ⟨sm, q1, y, rfl, f1⟩ := h'
      rw [List.length_map, List.take_length] at f1
      exact ⟨_, rfl, q H' q1 sm f1⟩
end
end RH
set_option Elab.async false
set_option linter.all false
set_option maxRecDepth 100000
set_option maxHeartbeats 2000000
namespace RH
open PySem PySem.Spec PyProof.Rows L2
/-! ### the law's own touches and books -/
theorem catT_ok {K : PySem.W.Frag} {H : Hp} {a b : Addr} {xs ys : List V} {Q : VK} (ha : SqT K H a xs) (hb : SqT K H b ys) (hl : xs.length + ys.length ≤ 1000) (q : ∀ r H', Same H H' → SqT K H' r (xs ++ ys) → Q (.ref r) H') : rCatA K (.ref a) (.ref b) H Q := by
  refine ⟨a, b, xs, ys, rfl, rfl, ha, hb, Nat.le_of_lt (small1000 hl), fun e => ?_, fun _ e => ?_, fun _ _ p hp => q p _ (same_new hp) (tupAt upd_same)⟩
  · subst e
    exact q b H (Same.refl H) hb
  · subst e
    exact q a H (Same.refl H) (by rw [List.append_nil]; exact ha)
section
variable {P : Program} {w : World} {K : PySem.W.Frag} {mg : Str → Option Value} {base : Heap}
theorem ok_ltouch (F : Df K mg "_law_touch" st__law_touch ["habit", "layout", "place"]) (B : Bu mg) : Cal P w K mg base 1 "_law_touch" (spMove K) := by
  refine mkCal F sc__law_touch (fun vs H Q E h => ?_) (fun f cdv A outer s H vs Q E hr h => ?_)
  · obtain ⟨v, h, n, a, L, p, rfl, _⟩ := h
    rfl
  · obtain ⟨v, h, n, a, L, p, rfl, ⟨ah, xs, rfl, hS, hE⟩, hb, hL, hin, hlen, hp, q⟩ := h
    refine ⟨_, pss_one (ps_ret (pe_tupleF (by rfl) B.tuple (pe_lc (own := [("stands", 3)]) (g := gName 3) (tt := tYes) rfl sc__law_touch.nd (pi_tup (pv 1)) (blkOk_by (N := ["habit", "layout", "place", "stands"]) (sc := defScope st__law_touch) (by decide +kernel))
        (fun _ _ _ _ _ => pg_name (i := 3) sc__law_touch.nd rfl (Or.inl rfl)) (fun _ _ _ _ _ => pts_nil) (fun _ _ _ _ _ => pe_ix (ixT K) (pe_ix (ixT K) (pv 0) (pv 2) (fun _ _ => rfl)) (pv 3) (fun _ _ => rfl))))), ?_⟩
    refine ⟨_, rfl, a, rfl, ⟨_, hL⟩, fun D hD => ?_⟩
    refine lc_tup (xs := L.map V.int) (fun i H' => Same H H' ∧ H' D = some (.lst (((L.take i).map (mv h p)).map V.int))) ⟨same_new hD, upd_same⟩ (fun i H' _ h' => onT h'.1 hL) (fun i x H' hx h' => ?_) (fun H' h' => ?_)
    · obtain ⟨st, hst, rfl⟩ := map_at hx
      obtain ⟨sm, eD⟩ := h'
      obtain ⟨a2, ns2, e2, s2, e3⟩ := ix2 hE hb hp (hin st (List.mem_of_getElem? hst))
      refine ⟨rfl, _, rfl, _, rfl, ah, xs, p, _, rfl, rfl, onT sm hS, e2, _, rfl, a2, _, st, _, rfl, rfl, onT sm s2, e3, _, eD, ?_, ?_, ?_⟩
      · rw [List.length_map, List.length_map, List.length_take]
        exact small1000 (by omega)
      · exact sameU sm hD
      · rw [upd_same, take_more hst, List.map_append, List.map_append]
        rfl
    · obtain ⟨sm, eD⟩ := h'
      rw [List.length_map, List.take_length] at eD
      exact ⟨D, _, rfl, lstAt eD, fun t ob ht hob => q _ t (sm.trans (same_new ht)) (none_of sm ht) ⟨ob, upd_same, hob⟩⟩
end
end RH
set_option Elab.async false
set_option linter.all false
set_option maxRecDepth 100000
set_option maxHeartbeats 2000000
namespace RH
open PySem PySem.Spec PyProof.Rows L2
/-! ### a search level by level, with words -/
abbrev SW := List Int × List Int
def exq (h : List (List Int)) (n : Nat) (q : SW) : List SW := (rg n).map fun p => (stp h p q.1, q.2 ++ [p])
def exl (h : List (List Int)) (n : Nat) (l : List SW) : List SW := l.flatMap (exq h n)
/-- those that are new: in no state of F, nor ahead -/
def ddS (F : List (List Int)) (acc : List SW) (q : SW) : List SW := if q.1 ∈ F ∨ q.1 ∈ acc.map Prod.fst then acc else acc ++ [q]
def dd (F : List (List Int)) (l : List SW) : List SW := l.foldl (ddS F) []
/-- what is found, and the level, behind k levels -/
def bf (h : List (List Int)) (n : Nat) (L : List Int) : Nat → List SW × List SW
  | 0 => ([(L, [])], [(L, [])])
  | k + 1 => ((bf h n L k).1 ++ dd ((bf h n L k).1.map Prod.fst) (exl h n (bf h n L k).2), dd ((bf h n L k).1.map Prod.fst) (exl h n (bf h n L k).2))
def fd (h : List (List Int)) (n : Nat) (L : List Int) (k : Nat) : List SW := (bf h n L k).1
def lst (h : List (List Int)) (n : Nat) (L : List Int) : Nat → List SW
  | 0 => [(L, [])]
  | k + 1 => dd [] (exl h n (lst h n L k))
/-! ### layouts are few, and touches lead back -/
theorem nd_len {α : Type} [DecidableEq α] : ∀ {l m : List α}, l.Nodup → (∀ x ∈ l, x ∈ m) → l.length ≤ m.length
  | [], _, _, _ => Nat.zero_le _
  | a :: l, m, nd, hs => by
    rw [List.nodup_cons] at nd
    have ha := hs a (List.mem_cons_self ..)
    have := nd_len (l := l) (m := m.erase a) nd.2 fun x hx => (List.mem_erase_of_ne (fun e => nd.1 (by rw [← e]; exact hx))).mpr (hs x (List.mem_cons_of_mem _ hx))
    rw [List.length_erase_of_mem ha] at this
    have hm := List.length_pos_of_mem ha
    rw [List.length_cons]
    omega
/-! ### within a level -/
def insE (a : Int) : List Int → List (List Int)
  | [] => [[a]]
  | b :: l => (a :: b :: l) :: (insE a l).map (b :: ·)
def prm : List Int → List (List Int)
  | [] => [[]]
  | a :: l => (prm l).flatMap (insE a)
theorem insE_perm {a : Int} : ∀ {l s : List Int}, s ∈ insE a l → s.Perm (a :: l)
  | [], s, h => by
    rw [List.mem_singleton.mp h]
  | b :: l, s, h => by
    rcases List.mem_cons.mp h with rfl | h
    · exact List.Perm.refl _
    · obtain ⟨t, ht, rfl⟩ := List.mem_map.mp h
      exact ((insE_perm ht).cons b).trans (List.Perm.swap ..)
theorem mem_insE {a : Int} : ∀ (s1 s2 : List Int), s1 ++ a :: s2 ∈ insE a (s1 ++ s2)
  | [], [] => List.mem_singleton.mpr rfl
  | [], b :: l => List.mem_cons_self ..
  | b :: s1, s2 => List.mem_cons_of_mem _ (List.mem_map.mpr ⟨_, mem_insE s1 s2, rfl⟩)
theorem mem_prm : ∀ {l s : List Int}, s ∈ prm l ↔ s.Perm l
  | [], s => by
    constructor
    · intro h
      rw [List.mem_singleton.mp h]
    · intro h
      rw [List.perm_nil.mp h]
      exact List.mem_singleton.mpr rfl
  | a :: l, s => by
    constructor
    · intro h
      obtain ⟨t, ht, hs⟩ := List.mem_flatMap.mp h
      exact (insE_perm hs).trans ((mem_prm.mp ht).cons a)
    · intro h
      have ha : a ∈ s := h.mem_iff.mpr (List.mem_cons_self ..)
      obtain ⟨s1, s2, rfl⟩ := List.append_of_mem ha
      have h2 : (s1 ++ s2).Perm l := (List.perm_middle.symm.trans h).cons_inv
      exact List.mem_flatMap.mpr ⟨_, mem_prm.mpr h2, mem_insE s1 s2⟩
theorem prm_few : ∀ n, n < 6 → (prm (rg n)).length ≤ 120 := by decide +kernel
section
variable {h : List (List Int)} {n : Nat} {L : List Int}
theorem few {l : List SW} (n5 : n ≤ 5) (nd : (l.map Prod.fst).Nodup) (hp : ∀ x ∈ l, x.1.Perm (rg n)) : l.length ≤ 120 := by
  have := nd_len nd (m := prm (rg n)) fun s hs => by
    obtain ⟨x, hx, rfl⟩ := List.mem_map.mp hs
    exact mem_prm.mpr (hp x hx)
  rw [List.length_map] at this
  exact Nat.le_trans this (prm_few n (by omega))
end
end RH
set_option Elab.async false
set_option linter.all false
set_option maxRecDepth 100000
set_option maxHeartbeats 2000000
set_option Elab.async false
set_option linter.all false
set_option maxRecDepth 100000
set_option maxHeartbeats 2000000
set_option Elab.async false
set_option linter.all false
set_option maxRecDepth 100000
set_option maxHeartbeats 2000000
namespace RH
open PySem PySem.Spec PyProof.Rows L2
/-! ### defs that may raise; checks of values of many kinds -/
structure CalX (P : Program) (w : World) (K : PySem.W.Frag) (mg : Str → Option Value) (base : Heap) (k : Nat) (x : Str) (sp : Sp) : Prop where
  ex : ∃ (f : Addr) (fd : FuncData) (ps : List Str), FnOk P w K mg base (L2.CX P w) k f fd ps sp ∧ mg x = some (.ref f) ∧ PySem.W.keepIn K (.ref f) = true ∧ Binds K fd ps []
/-- an own error without an __init__ -/
structure ExO (K : PySem.W.Frag) (mg : Str → Option Value) (x : Str) (C : Addr) : Prop where
  q : PySem.W.excIn K C [.type "ValueError", .type "Exception", .type "BaseException", .type "object"] "ValueError.__new__" = true
  g : mg x = some (.ref C)
  k : PySem.W.keepIn K (.ref C) = true
  b : PySem.W.subIn K (.ref C) (.type "BaseException") = some true
  t : PySem.W.typeIn K (.ref C) = some (.type "type")
section
variable {P : Program} {w : World} {K : PySem.W.Frag} {mg : Str → Option Value} {base : Heap}
theorem mkCalX {x : Str} {st : Stmt} {N ps : List Str} {k : Nat} {sp : Sp} (F : Df K mg x st ps) (S : FnScope N ps (defScope st)) (len : ∀ vs H Q E, sp vs H Q E → vs.length = ps.length)
    (hbody : ∀ (f : Addr) (cdv : Value) (A : Around) (outer : List Env) (s : Shared) (H : Hp) (vs : List V) (Q : VK) (E : XK), Room k (A.deeper (envOfC x (defScope st) s.heap.objs.size f cdv)) → sp vs H Q E →
      ∃ t, PSs (cxOf (L2.CX P w) P w K mg base N x (defScope st) f cdv A outer s H E) (defBody st) t ∧ t { nx := fun _ H' => Q .non H', rt := Q } (start N vs) H) : CalX P w K mg base (k + 1) x sp := by
  obtain ⟨f, fd, F, g, b⟩ := F.ex
  exact ⟨f, fd, ps, F.okX S len (hbody f), g, F.kp, b⟩
end
theorem pcX {X : Cx} {k j : Nat} {x : Str} {sp : Sp} {E : XK} {p pos : Pos} {e : Expr} {es : List Expr} {t : TA} (c : CalX X.prog X.w X.K X.mg X.base k x sp) (hx : Passes (L2.CX X.prog X.w) X E) (hr : Room j X.A) (ha : PA X (e :: es) t) (hk : k ≤ j := by decide) (hg : Gl X x := by rfl)
    (hdb : (x == ("__debug__" : Str)) = false := by decide) (he : starEach (e :: es) X.env = (false, eval e X.env) :: starEach es X.env := by rfl) (hpl : (backTo pos (starEach es X.env)).any (·.1) = false := by rfl) :
    PE X (.Call (.Name x p) (e :: es) [] pos) (tCall sp [] E t) := by
  obtain ⟨f, fd, ps, F, hm, kp, b⟩ := c.ex
  exact pe_call F (hr.mono hk) hg hm kp b .nil hx ha hdb he hpl
/-- a value of any kind -/
inductive Sw (K : PySem.W.Frag) (H : Hp) : V → Prop
  | int (i : Int) : Sw K H (.int i)
  | bl (b : Bool) : Sw K H (.bl b)
  | non : Sw K H .non
  | str (s : Str) : Sw K H (.str s)
  | tup {a : Addr} {xs : List V} : SqT K H a xs → Sw K H (.ref a)
  | lst {a : Addr} {xs : List V} : SqL K H a xs → Sw K H (.ref a)
def isI : V → Bool
  | .int _ => true
  | _ => false
def inV2 (lo hi : Int) : V → Bool
  | .int i => decide (lo ≤ i) && decide (i ≤ hi)
  | _ => false
theorem few_log {n : Nat} (h : n ≤ 5) : ((n : Nat) : Int).natAbs.log2 < 1920 := by
  have : n = 0 ∨ n = 1 ∨ n = 2 ∨ n = 3 ∨ n = 4 ∨ n = 5 := by omega
  rcases this with rfl | rfl | rfl | rfl | rfl | rfl <;> decide +kernel
section
variable {P : Program} {w : World} {K : PySem.W.Frag} {mg : Str → Option Value} {base : Heap}
theorem Sw.on {H H' : Hp} {v : V} (e : Same H H') (h : Sw K H v) : Sw K H' v := by
  cases h with
  | int i => exact .int i
  | bl b => exact .bl b
  | non => exact .non
  | str s => exact .str s
  | tup h => exact .tup (onT e h)
  | lst h => exact .lst (e.seq h)
def spIsIntegerW (K : PySem.W.Frag) : Sp := fun vs H Q _ => ∃ v, vs = [v] ∧ Sw K H v ∧ Q (.bl (isI v)) H
theorem ok_is_integerW (F : Df K mg "is_integer" st_is_integer ["value"]) (B : Bu mg) : Cal P w K mg base 1 "is_integer" (spIsIntegerW K) := by
  refine mkCal F sc_is_integer (fun vs H Q E h => ?_) (fun f cdv A outer s H vs Q E hr h => ?_)
  · obtain ⟨v, rfl, _⟩ := h
    rfl
  · obtain ⟨v, rfl, hv, q⟩ := h
    refine ⟨_, pss_one (ps_ret (pe_and (pe_callB call_isi (by rfl) B.isi (by decide +kernel) (pa_cons (pv 0) (pa_cons (pe_bltn (v := .ty "int") (by rfl) B.int (by decide +kernel) rfl) pa_nil)))
      (pe_one (pe_not (pe_callB call_isi (by rfl) B.isi (by decide +kernel) (pa_cons (pv 0) (pa_cons (pe_bltn (v := .ty "bool") (by rfl) B.bool (by decide +kernel) rfl) pa_nil))))))), ?_⟩
    cases hv with
    | int i => exact ⟨_, rfl, .int i, .ty "int", _, _, true, rfl, .ty "int", .base (.int i), kit_ty (by decide +kernel), true, rfl, _, rfl, .int i, .ty "bool", _, _, false, rfl, .ty "bool", .base (.int i), kit_ty (by decide +kernel), false, rfl, q⟩
    | bl b => exact ⟨_, rfl, .bl b, .ty "int", _, _, true, rfl, .ty "int", .base (.bl b), kit_ty (by decide +kernel), true, rfl, _, rfl, .bl b, .ty "bool", _, _, true, rfl, .ty "bool", .base (.bl b), kit_ty (by decide +kernel), true, rfl, q⟩
    | non => exact ⟨_, rfl, .non, .ty "int", _, _, false, rfl, .ty "int", .base .non, kit_ty (by decide +kernel), false, rfl, q⟩
    | str z => exact ⟨_, rfl, .str z, .ty "int", _, _, false, rfl, .ty "int", .base (.str z), kit_ty (by decide +kernel), false, rfl, q⟩
    | @tup a xs h => exact ⟨_, rfl, .ref a, .ty "int", _, _, false, rfl, .ty "int", ty_tup h, kit_ty (by decide +kernel), false, rfl, q⟩
    | @lst a xs h => exact ⟨_, rfl, .ref a, .ty "int", _, _, false, rfl, .ty "int", ty_lst h, kit_ty (by decide +kernel), false, rfl, q⟩
def spIsNumberW (K : PySem.W.Frag) : Sp := fun vs H Q _ => ∃ (v : V) (lo hi : Int), vs = [v, .int lo, .int hi] ∧ Sw K H v ∧ Q (.bl (inV2 lo hi v)) H
theorem inV2_no {lo hi : Int} {v : V} (h : isI v = false) : inV2 lo hi v = false := by
  cases v <;> first | rfl | (cases h)
theorem isI_yes {v : V} (h : isI v = true) : ∃ i, v = .int i := by
  cases v <;> first | exact ⟨_, rfl⟩ | (cases h)
theorem ok_is_numberW (F : Df K mg "is_number" st_is_number ["value", "low", "high"]) (C1 : Cal P w K mg base 1 "is_integer" (spIsIntegerW K)) : Cal P w K mg base 2 "is_number" (spIsNumberW K) := by
  refine mkCal F sc_is_number (fun vs H Q E h => ?_) (fun f cdv A outer s H vs Q E hr h => ?_)
  · obtain ⟨v, lo, hi, rfl, _⟩ := h
    rfl
  · obtain ⟨v, lo, hi, rfl, hv, q⟩ := h
    refine ⟨_, pss_one (ps_ret (pe_and (pc C1 hr (pa_cons (pv 0) pa_nil)) (pe_one (pe_chain op_le op_le (pv 1) (pv 0) (pv 2))))), ?_⟩
    refine ⟨_, rfl, v, rfl, hv, ?_⟩
    cases ei : isI v with
    | true =>
      obtain ⟨i, rfl⟩ := isI_yes ei
      refine ⟨true, rfl, _, rfl, _, rfl, lo, i, rfl, rfl, _, rfl, ite2 (fun e => ?_) (fun e => ?_)⟩
      · refine ⟨_, rfl, i, hi, rfl, rfl, ?_⟩
        have q : Q (.bl (decide (lo ≤ i) && decide (i ≤ hi))) H := q
        rw [e, Bool.true_and] at q
        exact q
      · have e' : decide (lo ≤ i) = false := by simpa using e
        have q : Q (.bl (decide (lo ≤ i) && decide (i ≤ hi))) H := q
        rw [e', Bool.false_and] at q
        exact q
    | false =>
      rw [inV2_no ei] at q
      exact ⟨false, rfl, q⟩
def spIsPlaceW (K : PySem.W.Frag) : Sp := fun vs H Q _ => ∃ (v : V) (p : Int), vs = [v, .int p] ∧ Sw K H v ∧ Q (.bl (inV2 0 (p - 1) v)) H
theorem ok_is_placeW (F : Df K mg "is_place" st_is_place ["value", "places"]) (C2 : Cal P w K mg base 2 "is_number" (spIsNumberW K)) : Cal P w K mg base 3 "is_place" (spIsPlaceW K) := by
  refine mkCal F sc_is_place (fun vs H Q E h => ?_) (fun f cdv A outer s H vs Q E hr h => ?_)
  · obtain ⟨v, p, rfl, _⟩ := h
    rfl
  · obtain ⟨v, p, rfl, hv, q⟩ := h
    refine ⟨_, pss_one (ps_ret (pc C2 hr (pa_cons (pv 0) (pa_cons pe_int (pa_cons (pe_op op_sub (pv 1) pe_int) pa_nil))))), ?_⟩
    exact ⟨_, rfl, _, rfl, p, 1, rfl, rfl, v, 0, p - 1, rfl, hv, q⟩
end
end RH
set_option Elab.async false
set_option linter.all false
set_option maxRecDepth 100000
set_option maxHeartbeats 2000000
namespace RH
open PySem PySem.Spec PyProof.Rows L2
open NdefX (NScope NF CellsAt startF ncx envF)
/-! ### errors that keep something -/
/-- a class of errors that can be made -/
structure BhX (P : Program) (w : World) (K : PySem.W.Frag) (mg : Str → Option Value) (base : Heap) (cls fld : Str) (C : Addr) (sp : Sp) : Prop where
  t : OexC K C
  g : mg cls = some (.ref C)
  f : ∃ (f : Addr) (fd : FuncData), FnOk P w K mg base CX0 1 f fd ["self", fld] sp ∧ PySem.W.findIn K (.ref C) "__init__" = some (some (.ref f)) ∧ PySem.W.typeIn K (.ref f) = some (.type "function") ∧ Binds K fd ["self", fld] []
/-- what an error keeps: none, or a small number -/
def plV (v : V) : Prop := v = .non ∨ ∃ i : Nat, i < 16 ∧ v = .int (i : Int)
def spBI (fld : Str) (C : Addr) : Sp := fun vs H Q _ => ∃ (a : Addr) (v : V), vs = [.ref a, v] ∧ plV v ∧ H a = some (exo a C none) ∧ ∀ d, H d = none → d ≠ a → Q .non (upd (upd H d (exd d [(fld, v)])) a (exo a C (some d)))
theorem few_of {i : Nat} (h : i < 16) : i = 0 ∨ i = 1 ∨ i = 2 ∨ i = 3 ∨ i = 4 ∨ i = 5 ∨ i = 6 ∨ i = 7 ∨ i = 8 ∨ i = 9 ∨ i = 10 ∨ i = 11 ∨ i = 12 ∨ i = 13 ∨ i = 14 ∨ i = 15 := by omega
theorem fmt_few {i : Nat} (h : i < 16) : ((i : Nat) : Int).natAbs.log2 < 1920 := by
  rcases few_of h with rfl | rfl | rfl | rfl | rfl | rfl | rfl | rfl | rfl | rfl | rfl | rfl | rfl | rfl | rfl | rfl <;> decide +kernel
/-- an error that keeps pl comes -/
def bhE (C : Addr) (fn : Str) (pl : V) (H : Hp) (E : XK) : Prop := ∀ d H', Same H H' → H' d = some (.xd [(fn, pl)]) → E (.ref C) (some d) H'
/-- an error without more comes -/
def noE (C : Addr) (H : Hp) (E : XK) : Prop := ∀ H', Same H H' → E (.ref C) none H'
theorem bhE.on {C : Addr} {fn : Str} {pl : V} {H H' : Hp} {E : XK} (h : bhE C fn pl H E) (s : Same H H') : bhE C fn pl H' E := fun d H2 s2 => h d H2 (s.trans s2)
theorem noE.on {C : Addr} {H H' : Hp} {E : XK} (h : noE C H E) (s : Same H H') : noE C H' E := fun H2 s2 => h H2 (s.trans s2)
section
variable {P : Program} {w : World} {K : PySem.W.Frag} {mg : Str → Option Value} {base : Heap}
theorem ok_BadHabit {C f cc cda : Addr} {fd : FuncData} (M : SupC P K mg C "BadHabit.__init__" st_e_BadHabit f fd cc cda) (hno : PySem.W.findIn K (.ref C) "place" = some none) : FnOk P w K mg base CX0 1 f fd ["self", "place"] (spBI "place" C) := by
  refine fn_super (self := "self") M sc_e_BadHabit rfl rfl rfl (by decide +kernel) rfl (fun vs H Q E h => ?_) (fun A outer s H vs Q E hr h => ?_)
  · obtain ⟨a, v, rfl, _⟩ := h
    rfl
  · obtain ⟨a, v, rfl, hv, ha, q⟩ := h
    refine ⟨a, _, _, rfl, ha, pa_cons (pe_joined (.cons pe_str (.cons (pe_fmtN (pv 1)) .nil))) pa_nil, pss_one (ps_ost (pv 0) (pv 1)), ?_⟩
    have go : ∀ H1, H1 = H → ([V.str "x"] : List V).length ≤ 1000 ∧ H1 a = some (exo a C none) ∧ tOst K "place" (tVar 0) (tVar 1) { nx := fun _ H' => Q .non H', rt := Q } [some (.ref a), some v, some (.ref C)] H1 := fun H1 e => by
      subst e
      exact ⟨by decide, ha, _, rfl, _, rfl, a, C, rfl, M.t, hno, .inl ⟨ha, fun dx n ne => q dx n ne⟩⟩
    rcases hv with rfl | ⟨i, hi, rfl⟩
    · refine ⟨_, rfl, ?_, _, rfl, .inl ⟨rfl, _, rfl, ?_, go _ rfl⟩⟩
      · rw [sizeLine_eq]; decide +kernel
      · rw [sizeLine_eq]; decide +kernel
    · refine ⟨_, rfl, ?_, _, rfl, .inr ⟨(i : Int), rfl, fmt_few hi, _, rfl, ?_, go _ rfl⟩⟩
      · rw [sizeLine_eq]; decide +kernel
      · rw [sizeLine_eq]
        rcases few_of hi with rfl | rfl | rfl | rfl | rfl | rfl | rfl | rfl | rfl | rfl | rfl | rfl | rfl | rfl | rfl | rfl <;> decide +kernel
/-- the error is made: its dict stands at d -/
theorem bh_made {C : Addr} {fn : Str} {v : V} {H1 : Hp} {Q : XK} (hv : plV v) (q : ∀ d, H1 d = none → Q (.ref C) (some d) (upd H1 d (.xd [(fn, v)]))) :
    ([v] : List V).length ≤ 1000 ∧ ∀ a, H1 a = none → spBI fn C (.ref a :: ([v] ++ [])) (upd H1 a (exo a C none)) (fun u H2 => u = .non ∧ ∃ (d : Addr) (fs : List (Str × V)), H2 a = some (exo a C (some d)) ∧ H2 d = some (exd d fs) ∧ H1 d = none ∧ Q (.ref C) (some d) (upd (del H2 a) d (.xd fs))) (fun _ _ _ => False) := by
  refine ⟨by show 1 ≤ 1000; decide, fun a ha => ⟨a, v, rfl, hv, upd_same, fun d hd ne => ⟨rfl, d, [(fn, v)], upd_same, ?_, ?_, ?_⟩⟩⟩
  · rw [upd_ne ne, upd_same]
  · rw [upd_ne ne] at hd
    exact hd
  · have hd' : H1 d = none := by
      rw [upd_ne ne] at hd
      exact hd
    have e : upd (del (upd (upd (upd H1 a (exo a C none)) d (exd d [(fn, v)])) a (exo a C (some d))) a) d (.xd [(fn, v)]) = upd H1 d (.xd [(fn, v)]) := by
      funext b
      by_cases hb : b = d
      · rw [hb, upd_same, upd_same]
      · rw [upd_ne hb, upd_ne hb]
        by_cases hba : b = a
        · rw [hba, del_same, ha]
        · rw [del_ne hba, upd_ne hba, upd_ne hb, upd_ne hba]
    rw [e]
    exact q d hd'
end
end RH
set_option Elab.async false
set_option linter.all false
set_option maxRecDepth 100000
set_option maxHeartbeats 2000000
namespace RH
open PySem PySem.Spec PyProof.Rows L2
/-! ### the checks, for values of whatever kind -/
/-- a value: a tuple of values, or what is none -/
inductive Tk (K : PySem.W.Frag) (H : Hp) : V → Option (List V) → Prop
  | tup {a : Addr} {xs : List V} : SqT K H a xs → Tk K H (.ref a) (some xs)
  | lst {a : Addr} {xs : List V} : SqL K H a xs → Tk K H (.ref a) none
  | dct {a : Addr} {kvs : List (L2.Key × V)} : H a = some (.dK kvs) → Tk K H (.ref a) none
  | int (i : Int) : Tk K H (.int i) none
  | bl (b : Bool) : Tk K H (.bl b) none
  | non : Tk K H .non none
  | str (z : Str) : Tk K H (.str z) none
theorem Tk.on {K : PySem.W.Frag} {H H' : Hp} (e : Same H H') {v : V} {wo : Option (List V)} (h : Tk K H v wo) : Tk K H' v wo := by
  cases h with
  | tup h => exact .tup (onT e h)
  | lst h => exact .lst (e.seq h)
  | dct h => exact .dct (e _ _ h)
  | int i => exact .int i
  | bl b => exact .bl b
  | non => exact .non
  | str z => exact .str z
/-- .. of values -/
structure Wd (K : PySem.W.Frag) (H : Hp) (v : V) (wo : Option (List V)) : Prop where
  t : Tk K H v wo
  s : ∀ xs, wo = some xs → ∀ x ∈ xs, Sw K H x
  l : ∀ xs, wo = some xs → xs.length < 64
theorem Wd.on {K : PySem.W.Frag} {H H' : Hp} (e : Same H H') {v : V} {wo : Option (List V)} (h : Wd K H v wo) : Wd K H' v wo := ⟨h.t.on e, fun xs z x hm => (h.s xs z x hm).on e, h.l⟩
def rowW (lo hi : Int) : Option (List V) → Bool
  | some xs => decide (lo ≤ (xs.length : Int)) && decide ((xs.length : Int) ≤ hi)
  | none => false
def plsW (p : Int) : Option (List V) → Bool
  | some xs => xs.all (inV2 0 (p - 1))
  | none => false
theorem inV2_yes0 {n : Nat} {i : Int} (h0 : 0 ≤ i) (h1 : i < n) : inV2 0 ((n : Int) - 1) (.int i) = true := by
  show (decide (0 ≤ i) && decide (i ≤ (n : Int) - 1)) = true
  rw [decide_eq_true h0, decide_eq_true (by omega)]
  rfl
theorem inV2_get {n : Nat} {v : V} (h : inV2 0 ((n : Int) - 1) v = true) : ∃ i, v = .int i ∧ 0 ≤ i ∧ i < n := by
  cases v <;> first | (cases h; done) | skip
  rename_i i
  have h : (decide (0 ≤ i) && decide (i ≤ (n : Int) - 1)) = true := h
  rw [Bool.and_eq_true, decide_eq_true_iff, decide_eq_true_iff] at h
  exact ⟨i, rfl, h.1, by omega⟩
/-- places all: numbers all -/
theorem all_ints {n : Nat} : ∀ {xs : List V}, (xs.all (inV2 0 ((n : Int) - 1))) = true → ∃ ns : List Int, xs = ns.map V.int ∧ inP n ns = true
  | [], _ => ⟨[], rfl, rfl⟩
  | x :: xs, h => by
    rw [List.all_cons, Bool.and_eq_true] at h
    obtain ⟨i, rfl, h0, h1⟩ := inV2_get h.1
    obtain ⟨ns, rfl, e⟩ := all_ints h.2
    refine ⟨i :: ns, rfl, ?_⟩
    unfold inP at e ⊢
    rw [List.all_cons, e, decide_eq_true h0, decide_eq_true (by omega)]
    rfl
def valI : V → Int
  | .int i => i
  | _ => -1
/-- is it a layout? -/
def layW (n : Nat) : Option (List V) → Bool
  | some xs => xs.all (inV2 0 ((n : Int) - 1)) && isLay n (xs.map valI)
  | none => false
section
variable {P : Program} {w : World} {K : PySem.W.Frag} {mg : Str → Option Value} {base : Heap}
def spIsRowW (K : PySem.W.Frag) : Sp := fun vs H Q _ => ∃ (v : V) (wo : Option (List V)) (lo hi : Int), vs = [v, .int lo, .int hi] ∧ Tk K H v wo ∧ Q (.bl (rowW lo hi wo)) H
theorem ok_is_rowW (F : Df K mg "is_row" st_is_row ["value", "low", "high"]) (B : Bu mg) : Cal P w K mg base 1 "is_row" (spIsRowW K) := by
  refine mkCal F sc_is_row (fun vs H Q E h => ?_) (fun f cdv A outer s H vs Q E hr h => ?_)
  · obtain ⟨v, ro, lo, hi, rfl, _⟩ := h
    rfl
  · obtain ⟨v, ro, lo, hi, rfl, hk, q⟩ := h
    refine ⟨_, pss_one (ps_ret (pe_and (pe_callB call_isi (by rfl) B.isi (by decide +kernel) (pa_cons (pv 0) (pa_cons (pe_bltn (v := .ty "tuple") (by rfl) B.tuple (by decide +kernel) rfl) pa_nil)))
      (pe_one (pe_chain op_le op_le (pv 1) (pe_callB call_len_seq (by rfl) B.len PySem.boot_len (pa_cons (pv 0) pa_nil)) (pv 2))))), ?_⟩
    cases hk with
    | int i => exact ⟨_, rfl, .int i, .ty "tuple", _, _, false, rfl, .ty "tuple", .base (.int i), kit_ty (by decide +kernel), false, rfl, q⟩
    | bl b => exact ⟨_, rfl, .bl b, .ty "tuple", _, _, false, rfl, .ty "tuple", .base (.bl b), kit_ty (by decide +kernel), false, rfl, q⟩
    | non => exact ⟨_, rfl, .non, .ty "tuple", _, _, false, rfl, .ty "tuple", .base .non, kit_ty (by decide +kernel), false, rfl, q⟩
    | str z => exact ⟨_, rfl, .str z, .ty "tuple", _, _, false, rfl, .ty "tuple", .base (.str z), kit_ty (by decide +kernel), false, rfl, q⟩
    | @lst a xs hS => exact ⟨_, rfl, .ref a, .ty "tuple", _, _, false, rfl, .ty "tuple", ty_lst hS, kit_ty (by decide +kernel), false, rfl, q⟩
    | @dct a kvs e => exact ⟨_, rfl, .ref a, .ty "tuple", _, _, false, rfl, .ty "tuple", .base (.dK e), kit_ty (by decide +kernel), false, rfl, q⟩
    | @tup a xs hS =>
      refine ⟨_, rfl, .ref a, .ty "tuple", _, _, true, rfl, .ty "tuple", ty_tup hS, kit_ty (by decide +kernel), true, rfl, _, rfl, _, rfl, a, xs, rfl, .inr hS, lo, (xs.length : Int), rfl, rfl, _, rfl, ite2 (fun e => ?_) (fun e => ?_)⟩
      · refine ⟨_, rfl, _, hi, rfl, rfl, ?_⟩
        have q : Q (.bl (decide (lo ≤ (xs.length : Int)) && decide ((xs.length : Int) ≤ hi))) H := q
        rw [e, Bool.true_and] at q
        exact q
      · have e' : decide (lo ≤ (xs.length : Int)) = false := by simpa using e
        have q : Q (.bl (decide (lo ≤ (xs.length : Int)) && decide ((xs.length : Int) ≤ hi))) H := q
        rw [e', Bool.false_and] at q
        exact q
def spArePlacesW (K : PySem.W.Frag) : Sp := fun vs H Q _ => ∃ (v : V) (wo : Option (List V)) (p : Int), vs = [v, .int p] ∧ Wd K H v wo ∧ ∀ H', Same H H' → Q (.bl (plsW p wo)) H'
theorem ok_are_placesW (F : Df K mg "are_places" st_are_places ["value", "places"]) (B : Bu mg) (C3 : Cal P w K mg base 3 "is_place" (spIsPlaceW K)) : Cal P w K mg base 4 "are_places" (spArePlacesW K) := by
  refine mkCal F sc_are_places (fun vs H Q E h => ?_) (fun f cdv A outer s H vs Q E hr h => ?_)
  · obtain ⟨v, wo, p, rfl, _⟩ := h
    rfl
  · obtain ⟨v, wo, p, rfl, hw, q⟩ := h
    refine ⟨_, pss_one (ps_ret (pe_and (pe_callB call_isi (by rfl) B.isi (by decide +kernel) (pa_cons (pv 0) (pa_cons (pe_bltn (v := .ty "tuple") (by rfl) B.tuple (by decide +kernel) rfl) pa_nil)))
      (pe_one (pe_callB (cr_all rfl) (by rfl) B.all (by decide +kernel) (pa_cons (pe_lc (own := [("place", 2)]) (g := gName 2) (tt := tYes) rfl sc_are_places.nd (pi_tup (pv 0)) (blkOk_by (N := ["value", "places", "place"]) (sc := defScope st_are_places) (by decide +kernel))
        (fun _ _ _ _ _ => pg_name (i := 2) sc_are_places.nd rfl (Or.inl rfl)) (fun _ _ _ _ _ => pts_nil) (fun _ _ _ _ _ => pc C3 hr (pa_cons (pv 2) (pa_cons (pv 1) pa_nil)))) pa_nil))))), ?_⟩
    obtain ⟨ht, hsw, hlen⟩ := hw
    cases ht with
    | int i => exact ⟨_, rfl, .int i, .ty "tuple", _, _, false, rfl, .ty "tuple", .base (.int i), kit_ty (by decide +kernel), false, rfl, q H (Same.refl H)⟩
    | bl b => exact ⟨_, rfl, .bl b, .ty "tuple", _, _, false, rfl, .ty "tuple", .base (.bl b), kit_ty (by decide +kernel), false, rfl, q H (Same.refl H)⟩
    | non => exact ⟨_, rfl, .non, .ty "tuple", _, _, false, rfl, .ty "tuple", .base .non, kit_ty (by decide +kernel), false, rfl, q H (Same.refl H)⟩
    | str z => exact ⟨_, rfl, .str z, .ty "tuple", _, _, false, rfl, .ty "tuple", .base (.str z), kit_ty (by decide +kernel), false, rfl, q H (Same.refl H)⟩
    | @lst a xs hS => exact ⟨_, rfl, .ref a, .ty "tuple", _, _, false, rfl, .ty "tuple", ty_lst hS, kit_ty (by decide +kernel), false, rfl, q H (Same.refl H)⟩
    | @dct a kvs e => exact ⟨_, rfl, .ref a, .ty "tuple", _, _, false, rfl, .ty "tuple", .base (.dK e), kit_ty (by decide +kernel), false, rfl, q H (Same.refl H)⟩
    | @tup a xs hS =>
      have hl := hlen xs rfl
      have hx := hsw xs rfl
      refine ⟨_, rfl, .ref a, .ty "tuple", _, _, true, rfl, .ty "tuple", ty_tup hS, kit_ty (by decide +kernel), true, rfl, ?_⟩
      refine ⟨_, rfl, a, rfl, ⟨_, hS⟩, fun D hD => ?_⟩
      refine lc_tup (xs := xs) (fun i H' => Same H H' ∧ H' D = some (.lst (((xs.take i).map (inV2 0 (p - 1))).map V.bl))) ⟨same_new hD, upd_same⟩ (fun i H' _ h' => onT h'.1 hS) (fun i x H' hi h' => ?_) (fun H' h' => ?_)
      · obtain ⟨sm, eD⟩ := h'
        refine ⟨rfl, _, rfl, _, rfl, x, p, rfl, (hx x (List.mem_of_getElem? hi)).on sm, _, eD, ?_, ?_, ?_⟩
        · rw [List.length_map, List.length_map, List.length_take]
          exact small1000 (by omega)
        · intro b o e
          rw [upd_ne (ne_of_none e hD)]
          exact sm b o e
        · rw [upd_same, all_snoc _ hi, List.map_append]
          rfl
      · obtain ⟨sm, eD⟩ := h'
        rw [List.take_length] at eD
        refine ⟨D, _, rfl, lstAt eD, ?_⟩
        have e : ((xs.map (inV2 0 (p - 1))).all id) = plsW p (some xs) := by
          rw [List.all_map]
          rfl
        rw [e]
        exact q H' sm
def spIsLayoutW (K : PySem.W.Frag) : Sp := fun vs H Q _ => ∃ (v : V) (wo : Option (List V)) (p : Nat), vs = [v, .int p] ∧ Wd K H v wo ∧ p ≤ 1000 ∧ ∀ H', Same H H' → Q (.bl (layW p wo)) H'
theorem ok_is_layoutW (F : Df K mg "is_layout" st_is_layout ["value", "places"]) (B : Bu mg) (C4 : Cal P w K mg base 4 "are_places" (spArePlacesW K)) : Cal P w K mg base 5 "is_layout" (spIsLayoutW K) := by
  refine mkCal F sc_is_layout (fun vs H Q E h => ?_) (fun f cdv A outer s H vs Q E hr h => ?_)
  · obtain ⟨v, wo, p, rfl, _⟩ := h
    rfl
  · obtain ⟨v, wo, p, rfl, hw, hp, q⟩ := h
    refine ⟨_, pss_one (ps_ret (pe_and (pc C4 hr (pa_cons (pv 0) (pa_cons (pv 1) pa_nil)))
      (pe_one (pe_cmpR (op_eqD hr.units) (pe_callB cr_sortedTup (by rfl) B.sorted (by decide +kernel) (pa_cons (pv 0) pa_nil)) (pe_listRg rfl (by rfl) B.list (prg_1 (by rfl) B.range (pv 1))) (nomark _))))), ?_⟩
    refine ⟨_, rfl, _, rfl, v, wo, p, rfl, hw, fun H1 sm1 => ⟨_, rfl, ite2 (fun e => ?_) (fun e => ?_)⟩⟩
    · obtain ⟨ht, hsw, hlen⟩ := hw
      cases ht with
      | @tup a xs hS =>
        obtain ⟨ns, rfl, hin⟩ := all_ints (n := p) e
        have hl : ns.length < 64 := by
          have := hlen _ rfl
          rwa [List.length_map] at this
        refine ⟨_, rfl, a, ns, rfl, onT sm1 hS, hl, fun ns' pL hpm hpw nL => ⟨_, rfl, (p : Int), rfl, ⟨by omega, by omega, by omega, by omega, by omega⟩, fun q' nq => ?_⟩⟩
        have nqp : pL ≠ q' := ne_of_none upd_same nq
        refine ⟨_, _, dp_lst (ns := ns') (lstAt ?_), dp_lst (ns := rg p) (lstAt ?_), PySem.W.ke_shaped_ints _, PySem.W.ke_shaped_ints _, ?_⟩
        · rw [upd_ne nqp, upd_same]
        · rw [upd_same, rgV_rg]
        · have em : ((ns.map V.int).map valI) = ns := by
            rw [List.map_map]
            exact List.map_id' ns
          have e2 : PyData.eqv (.list (ns'.map PyData.int)) (.list ((rg p).map PyData.int)) = layW p (some (ns.map V.int)) := by
            have e3 : layW p (some (ns.map V.int)) = isLay p ns := by
              have e : ((ns.map V.int).all (inV2 0 ((p : Int) - 1))) = true := e
              show ((ns.map V.int).all (inV2 0 ((p : Int) - 1)) && isLay p ((ns.map V.int).map valI)) = isLay p ns
              rw [e, Bool.true_and, em]
            rw [e3, eqv_lst, Bool.eq_iff_iff, decide_eq_true_iff]
            unfold isLay
            rw [List.isPerm_iff]
            constructor
            · intro z
              rw [← z]
              exact hpm.symm
            · intro z
              exact PySem.W.ksm_same (hpm.trans z) hpw (rg_le p)
          rw [e2]
          exact q _ (sm1.trans (Same.trans (same_new nL) (same_new nq)))
      | _ => cases e
    · have e2 : layW p wo = false := by
        cases wo with
        | none => rfl
        | some xs =>
          have e' : (xs.all (inV2 0 ((p : Int) - 1))) = false := by
            have e3 : ¬ (xs.all (inV2 0 ((p : Int) - 1))) = true := e
            simpa using e3
          show (xs.all (inV2 0 ((p : Int) - 1)) && isLay p (xs.map valI)) = false
          rw [e', Bool.false_and]
      have q := q H1 sm1
      rw [e2] at q
      exact q
end
end RH
set_option Elab.async false
set_option linter.all false
set_option maxRecDepth 100000
set_option maxHeartbeats 2000000
namespace RH
open PySem PySem.Spec PyProof.Rows L2
/-! ### the checks that raise -/
/-- a habit, or what is none: of each row what it is -/
inductive Hk (K : PySem.W.Frag) (H : Hp) : V → Option (List (Option (List V))) → Prop
  | tup {a : Addr} {xs : List V} {wos : List (Option (List V))} : SqT K H a xs → Each (Wd K H) xs wos → Hk K H (.ref a) (some wos)
  | no {v : V} : Tk K H v none → Hk K H v none
theorem Hk.on {K : PySem.W.Frag} {H H' : Hp} (e : Same H H') {v : V} {ho : Option (List (Option (List V)))} (h : Hk K H v ho) : Hk K H' v ho := by
  cases h with
  | tup h hx => exact .tup (onT e h) (hx.imp fun v d z => z.on e)
  | no h => exact .no (h.on e)
/-- the place that BadHabit tells, if it is none -/
def hbBad : Option (List (Option (List V))) → Option V
  | none => some .non
  | some wos => if (decide (2 ≤ wos.length) && decide (wos.length ≤ 5)) = true then (wos.findIdx? fun wo => !layW wos.length wo).map (fun i => V.int (i : Nat)) else some .non
theorem hbBad_pl {ho : Option (List (Option (List V)))} {pl : V} (h : hbBad ho = some pl) : plV pl := by
  cases ho with
  | none => exact .inl (Option.some.inj h).symm
  | some wos =>
    unfold hbBad at h
    dsimp only at h
    split at h
    · rename_i hc
      rw [Bool.and_eq_true, decide_eq_true_iff, decide_eq_true_iff] at hc
      obtain ⟨i, hi, e⟩ := Option.map_eq_some_iff.mp h
      have := (List.findIdx?_eq_some_iff_getElem.mp hi).1
      exact .inr ⟨i, by omega, e.symm⟩
    · exact .inl (Option.some.inj h).symm
theorem few_cast (n : Nat) : (decide ((2 : Int) ≤ (n : Int)) && decide ((n : Int) ≤ 5)) = (decide (2 ≤ n) && decide (n ≤ 5)) := by
  rw [Bool.eq_iff_iff]
  simp only [Bool.and_eq_true, decide_eq_true_iff]
  omega
section
variable {P : Program} {w : World} {K : PySem.W.Frag} {mg : Str → Option Value} {base : Heap}
def spCheckHabitX (K : PySem.W.Frag) (C : Addr) : Sp := fun vs H Q E => ∃ (v : V) (ho : Option (List (Option (List V)))), vs = [v] ∧ Hk K H v ho ∧ (hbBad ho = none → ∀ H', Same H H' → Q .non H') ∧ (∀ pl, hbBad ho = some pl → bhE C "place" pl H E)
theorem ok_check_habitX {C : Addr} (F : Df K mg "check_habit" st_check_habit ["habit"]) (B : Bu mg) (c2 : ∃ t, mg "FEWEST_PLACES" = some (.int 2 t)) (c5 : ∃ t, mg "MOST_PLACES" = some (.int 5 t)) (T : BhX P w K mg base "BadHabit" "place" C (spBI "place" C))
    (C1 : Cal P w K mg base 1 "is_row" (spIsRowW K)) (C5 : Cal P w K mg base 5 "is_layout" (spIsLayoutW K)) : CalX P w K mg base 6 "check_habit" (spCheckHabitX K C) := by
  refine mkCalX F sc_check_habit (fun vs H Q E h => ?_) (fun f cdv A outer s H vs Q E hr h => ?_)
  · obtain ⟨v, ho, rfl, _⟩ := h
    rfl
  · obtain ⟨v, ho, rfl, hk, q1, q2⟩ := h
    obtain ⟨fI, fdI, FI, iC, tI, bI⟩ := T.f
    refine ⟨_, pss_cons (ps_if (pt_not (pt_val (pc C1 hr (pa_cons (pv 0) (pa_cons (pk c2) (pa_cons (pk c5) pa_nil)))))) (pss_one (ps_raise rfl takesE (pmk_oex T.t iC tI FI (hr.mono (by decide)) bI .nil pass0 rfl T.g (pa_cons pe_non pa_nil)))) pss_nil)
      (pss_one (ps_for (passes_of rfl) rfl (pi_enumT (by rfl) B.enumerate (pa_cons (pv 0) pa_nil)) (pg_tup rfl (pgs_cons (pg_name (i := 1) sc_check_habit.nd rfl (.inl rfl)) (pgs_cons (pg_name (i := 2) sc_check_habit.nd rfl (.inl rfl)) pgs_nil)))
        (pss_one (ps_if (pt_not (pt_val (pc C5 hr (pa_cons (pv 2) (pa_cons (pe_callB (cl_len K) (by rfl) B.len PySem.boot_len (pa_cons (pv 0) pa_nil)) pa_nil))))) (pss_one (ps_raise rfl takesE (pmk_oex T.t iC tI FI (hr.mono (by decide)) bI .nil pass0 rfl T.g (pa_cons (pv 1) pa_nil)))) pss_nil)))), ?_⟩
    have none_ : ∀ {H1 : Hp}, Same H H1 → hbBad ho = some .non → ∀ d, H1 d = none → E (.ref C) (some d) (upd H1 d (.xd [("place", .non)])) := fun {H1} s1 e d hd => q2 _ e d _ (s1.trans (same_new hd)) upd_same
    cases hk with
    | @no v ht => exact ⟨_, rfl, v, none, 2, 5, rfl, ht, _, rfl, ifT rfl (bh_made (.inl rfl) (none_ (Same.refl H) rfl))⟩
    | @tup a xs wos hS hE =>
      have hlen := hE.len
      refine ⟨_, rfl, .ref a, some xs, 2, 5, rfl, .tup hS, _, rfl, ?_⟩
      cases hc : (decide (2 ≤ wos.length) && decide (wos.length ≤ 5)) with
      | false =>
        refine ifT ?_ (bh_made (.inl rfl) (none_ (Same.refl H) ?_))
        · show (!(decide ((2 : Int) ≤ (xs.length : Int)) && decide ((xs.length : Int) ≤ 5))) = true
          rw [hlen, few_cast, hc]
          rfl
        · unfold hbBad
          dsimp only
          rw [hc]
          rfl
      | true =>
        have hc' := hc
        rw [Bool.and_eq_true, decide_eq_true_iff, decide_eq_true_iff] at hc'
        refine ifF ?_ ?_
        · show (!(decide ((2 : Int) ≤ (xs.length : Int)) && decide ((xs.length : Int) ≤ 5))) = false
          rw [hlen, decide_eq_true (by omega), decide_eq_true (by omega)]
          rfl
        refine ⟨_, rfl, a, xs, rfl, hS, ?_⟩
        refine for_enumT (xs := xs) (fun i σ H' => Same H H' ∧ (∀ j wo, j < i → wos[j]? = some wo → layW wos.length wo = true) ∧ ∃ y1 y2, σ = [some (.ref a), y1, y2]) ⟨Same.refl H, fun j wo hj => absurd hj (Nat.not_lt_zero _), none, none, rfl⟩ (fun i σ H' h' => onT h'.1 hS) (fun i x T σ H' hx h' hT => ?_) (fun σ H' h' => q1 ?_ H' h'.1)
        · obtain ⟨sm, old, y1, y2, rfl⟩ := h'
          obtain ⟨wo, hwo, hTx⟩ := hE.at hx
          have sT : Same H (upd H' T (.tup [.int (i : Nat), x])) := sm.trans (same_new hT)
          refine ⟨T, _, rfl, tupAt upd_same, rfl, _, _, rfl, _, _, rfl, rfl, _, rfl, _, rfl, a, xs, rfl, .inr (onT sT hS), x, wo, wos.length, by rw [hlen]; rfl, hTx.on sT, by omega, fun H3 sm3 => ⟨_, rfl, ?_⟩⟩
          cases hl : layW wos.length wo with
          | true =>
            refine ifF rfl ⟨sT.trans sm3, fun j wo' hj e => ?_, _, _, rfl⟩
            rcases Nat.lt_succ_iff_lt_or_eq.mp hj with hj | rfl
            · exact old j wo' hj e
            · rw [hwo] at e
              cases e
              exact hl
          | false =>
            refine ifT rfl ⟨_, rfl, ?_⟩
            have hi : i < wos.length := (List.getElem?_eq_some_iff.mp hwo).1
            have e : hbBad (some wos) = some (.int (i : Nat)) := by
              unfold hbBad
              dsimp only
              rw [if_pos hc]
              have : (wos.findIdx? fun wo => !layW wos.length wo) = some i := by
                rw [List.findIdx?_eq_some_iff_getElem]
                refine ⟨hi, ?_, fun j hj => ?_⟩
                · rw [(List.getElem?_eq_some_iff.mp hwo).2, hl]
                  rfl
                · rw [old j _ hj (List.getElem?_eq_getElem _)]
                  decide
              rw [this]
              rfl
            exact bh_made (hbBad_pl e) fun d hd => q2 _ e d _ ((sT.trans sm3).trans (same_new hd)) upd_same
        · unfold hbBad
          dsimp only
          rw [if_pos hc]
          have : (wos.findIdx? fun wo => !layW wos.length wo) = none := by
            rw [List.findIdx?_eq_none_iff]
            intro wo hm
            obtain ⟨j, hj⟩ := List.mem_iff_getElem?.mp hm
            rw [h'.2.1 j wo (by rw [hlen]; exact (List.getElem?_eq_some_iff.mp hj).1) hj]
            rfl
          rw [this]
          rfl
theorem small_text {n : Nat} (h : n ≤ 5) : n = 0 ∨ n = 1 ∨ n = 2 ∨ n = 3 ∨ n = 4 ∨ n = 5 := by omega
/-- a word's value: told row by row -/
structure Ww (K : PySem.W.Frag) (H : Hp) (v : V) (wo : Option (List V)) : Prop where
  t : Tk K H v wo
  w : rowW 0 400 wo = true → Wd K H v wo
theorem Ww.on {H H' : Hp} (e : Same H H') {v : V} {wo : Option (List V)} (h : Ww K H v wo) : Ww K H' v wo := ⟨h.t.on e, fun z => (h.w z).on e⟩
def wrdW (n : Nat) (wo : Option (List V)) : Bool := rowW 0 400 wo && plsW n wo
def spIsWordW (K : PySem.W.Frag) : Sp := fun vs H Q _ => ∃ (v : V) (wo : Option (List V)) (n : Nat), vs = [v, .int n] ∧ Ww K H v wo ∧ ∀ H', Same H H' → Q (.bl (wrdW n wo)) H'
theorem ok_is_wordW (F : Df K mg "is_word" st_is_word ["value", "places"]) (c400 : ∃ t, mg "MOST_TOUCHES" = some (.int 400 t)) (C1 : Cal P w K mg base 1 "is_row" (spIsRowW K)) (C4 : Cal P w K mg base 4 "are_places" (spArePlacesW K)) : Cal P w K mg base 5 "is_word" (spIsWordW K) := by
  refine mkCal F sc_is_word (fun vs H Q E h => ?_) (fun f cdv A outer s H vs Q E hr h => ?_)
  · obtain ⟨v, wo, n, rfl, _⟩ := h
    rfl
  · obtain ⟨v, wo, n, rfl, hw, q⟩ := h
    refine ⟨_, pss_one (ps_ret (pe_and (pc C1 hr (pa_cons (pv 0) (pa_cons pe_int (pa_cons (pk c400) pa_nil)))) (pe_one (pc C4 hr (pa_cons (pv 0) (pa_cons (pv 1) pa_nil)))))), ?_⟩
    refine ⟨_, rfl, v, wo, 0, 400, rfl, hw.t, _, rfl, ite2 (fun e => ?_) (fun e => ?_)⟩
    · refine ⟨_, rfl, _, rfl, v, wo, n, rfl, hw.w e, fun H1 s1 => ?_⟩
      have q := q H1 s1
      unfold wrdW at q
      rw [show rowW 0 400 wo = true from e, Bool.true_and] at q
      exact q
    · have e' : rowW 0 400 wo = false := by
        have e3 : ¬ rowW 0 400 wo = true := e
        simpa using e3
      have q := q H (Same.refl H)
      unfold wrdW at q
      rw [e', Bool.false_and] at q
      exact q
def spCheckWordX (K : PySem.W.Frag) (C : Addr) : Sp := fun vs H Q E => ∃ (v : V) (wo : Option (List V)) (n : Nat), vs = [v, .int n] ∧ Ww K H v wo ∧ n ≤ 5 ∧ (wrdW n wo = true → ∀ H', Same H H' → Q .non H') ∧ (wrdW n wo = false → noE C H E)
theorem ok_check_wordX {C : Addr} (F : Df K mg "check_word" st_check_word ["word", "places"]) (Xn : ExO K mg "BadWord" C) (C5 : Cal P w K mg base 5 "is_word" (spIsWordW K)) : CalX P w K mg base 6 "check_word" (spCheckWordX K C) := by
  refine mkCalX F sc_check_word (fun vs H Q E h => ?_) (fun f cdv A outer s H vs Q E hr h => ?_)
  · obtain ⟨v, wo, n, rfl, _⟩ := h
    rfl
  · obtain ⟨v, wo, n, rfl, hw, n5, q1, q2⟩ := h
    refine ⟨_, pss_one (ps_if (pt_not (pt_val (pc C5 hr (pa_cons (pv 0) (pa_cons (pv 1) pa_nil))))) (pss_one (ps_raise rfl takesE (SkE.pmk_own1 PySem.F.excBase_ValueError Xn.q Xn.g Xn.k (raises_own Xn.b Xn.t) rfl
      (pe_joined (.cons pe_str (.cons (pe_fmt (pv 1)) .nil)))))) pss_nil), ?_⟩
    refine ⟨_, rfl, _, rfl, v, wo, n, rfl, hw, fun H1 s1 => ⟨_, rfl, ?_⟩⟩
    cases el : wrdW n wo with
    | true => exact ifF rfl (q1 el H1 s1)
    | false =>
      refine ifT rfl ?_
      refine ⟨_, rfl, ?_, _, rfl, .inr ⟨(n : Int), rfl, few_log n5, _, rfl, ?_, q2 el H1 s1⟩⟩
      · rw [sizeLine_eq]; decide +kernel
      · rw [sizeLine_eq]
        rcases small_text n5 with rfl | rfl | rfl | rfl | rfl | rfl <;> decide +kernel
end
end RH
set_option Elab.async false
set_option linter.all false
set_option maxRecDepth 100000
set_option maxHeartbeats 2000000
namespace RH
open PySem PySem.Spec PyProof.Rows L2
/-! ### habits that the checks take -/
theorem cl_listOf {X : Cx} (K : PySem.W.Frag) (h : X.K = K := by rfl) : CallR X (.type "list") (fun xs H Q => ∃ p ys, xs = [.ref p] ∧ (SqL K H p ys ∨ SqT K H p ys) ∧ ∀ l, H l = none → Q (.ref l) (upd H l (.lst ys))) := by
  subst h
  exact call_list_of
theorem Each.take {α : Type} {R : V → α → Prop} : ∀ {xs : List V} {ds : List α} (k : Nat), Each R xs ds → Each R (xs.take k) (ds.take k)
  | _, _, 0, _ => .nil
  | _, _, _ + 1, .nil => .nil
  | _, _, k + 1, .cons h t => .cons h (t.take k)
section
variable {K : PySem.W.Frag} {H H' : Hp} {n : Nat} {v pl : V}
theorem wd_ints {a : Addr} {ns : List Int} (h : SqT K H a (ns.map V.int)) (hl : ns.length < 64) : Wd K H (.ref a) (some (ns.map V.int)) :=
  ⟨.tup h, fun xs z x hm => by cases z; obtain ⟨i, _, rfl⟩ := List.mem_map.mp hm; exact .int i, fun xs z => by cases z; rwa [List.length_map]⟩
theorem lay_ok {ns : List Int} (h : ns.Perm (rg n)) : layW n (some (ns.map V.int)) = true := by
  have e1 : ((ns.map V.int).map valI) = ns := by
    rw [List.map_map]
    exact List.map_id' ns
  show ((ns.map V.int).all _ && isLay n ((ns.map V.int).map valI)) = true
  rw [e1, lay_yes h, Bool.and_true, List.all_eq_true]
  intro v hv
  obtain ⟨i, hi, rfl⟩ := List.mem_map.mp hv
  have := rg_mem.mp (h.mem_iff.mp hi)
  exact inV2_yes0 this.1 this.2
theorem hk_of {h : List (List Int)} (hT : TII K H v h) (hb : Hb n h) : Hk K H v (some (h.map fun ns => some (ns.map V.int))) := by
  obtain ⟨a, xs, rfl, hS, hE⟩ := hT
  refine .tup hS ?_
  have hp := hb.perm
  have hi := hb.hi
  clear hS hb
  induction hE with
  | nil => exact .nil
  | @cons x ns xs h hx hE ih =>
    obtain ⟨b, rfl, hB⟩ := hx
    refine .cons (wd_ints hB ?_) (ih fun ns hm => hp ns (List.mem_cons_of_mem _ hm))
    rw [perm_len (hp ns (List.mem_cons_self ..))]
    omega
theorem hb_ok {h : List (List Int)} (hb : Hb n h) : hbBad (some (h.map fun ns => some (ns.map V.int))) = none := by
  have hl := hb.len
  have h2 := hb.lo
  have h5 := hb.hi
  unfold hbBad
  dsimp only
  rw [List.length_map, hl, decide_eq_true h2, decide_eq_true h5]
  have : ((h.map fun ns => some (ns.map V.int)).findIdx? fun wo => !layW n wo) = none := by
    rw [List.findIdx?_eq_none_iff]
    intro wo hm
    obtain ⟨ns, hn, rfl⟩ := List.mem_map.mp hm
    rw [lay_ok (hb.perm ns hn)]
    rfl
  rw [this]
  rfl
end
end RH
set_option Elab.async false
set_option linter.all false
set_option maxRecDepth 100000
set_option maxHeartbeats 2000000
namespace RH
open PySem PySem.Spec PyProof.Rows L2
/-! ### inverse, check_together, backed -/
/-- a row told by its very object -/
def TIF (H : Hp) (v : V) (ns : List Int) : Prop := ∃ a, v = .ref a ∧ FT H a ns
theorem TIF.same {H H' : Hp} (e : Same H H') {v : V} {ns : List Int} (h : TIF H v ns) : TIF H' v ns := by
  obtain ⟨a, rfl, h⟩ := h
  exact ⟨a, rfl, h.same e⟩
/-- a habit whose rows are told by their very objects -/
def THF (K : PySem.W.Frag) (H : Hp) (v : V) (h : List (List Int)) : Prop := ∃ a xs, v = .ref a ∧ SqT K H a xs ∧ Each (TIF H) xs h
theorem THF.same {K : PySem.W.Frag} {H H' : Hp} (e : Same H H') {v : V} {h : List (List Int)} (q : THF K H v h) : THF K H' v h := by
  obtain ⟨a, xs, rfl, hS, hE⟩ := q
  exact ⟨a, xs, rfl, onT e hS, hE.imp fun _ _ z => z.same e⟩
theorem THF.ti {K : PySem.W.Frag} {H : Hp} {v : V} {h : List (List Int)} (q : THF K H v h) : TII K H v h := by
  obtain ⟨a, xs, rfl, hS, hE⟩ := q
  exact ⟨a, xs, rfl, hS, hE.imp fun _ _ ⟨b, e, f⟩ => ⟨b, e, f.sq⟩⟩
end RH
set_option Elab.async false
set_option linter.all false
set_option maxRecDepth 100000
set_option maxHeartbeats 2000000
namespace RH
open PySem PySem.Spec PyProof.Rows L2
/-! ### orders that the law draws -/
section
variable {P : Program} {w : World} {K : PySem.W.Frag} {mg : Str → Option Value} {base : Heap}
def spPermL (K : PySem.W.Frag) : Sp := fun vs H Q _ => ∃ (p : Addr) (n : Nat), vs = [.ref p, .int (n : Int)] ∧ Row K H p ∧ n ≤ 40 ∧ ∀ (H' : Hp) (v : V) (ns : List Int), ns.Perm (rg n) → But p H H' → Row K H' p → TIF H' v ns → Q v H'
theorem ok_lperm (F : Df K mg "_law_permutation" st__law_permutation ["row", "many"]) (B : Bu mg) (CT : Cal P w K mg base 1 "_law_taken" (spTaken K)) : Cal P w K mg base 2 "_law_permutation" (spPermL K) := by
  refine mkCal F sc__law_permutation (fun vs H Q E h => ?_) (fun f cdv A outer s H vs Q E hr h => ?_)
  · obtain ⟨p, n, rfl, _⟩ := h
    rfl
  · obtain ⟨p, n, rfl, hR, hn, q⟩ := h
    refine ⟨_, pss_cons (ps_par (i := 2) (j := 3) rfl sc__law_permutation.nd rfl rfl (by decide) rfl rfl (pa_cons (pe_listRg rfl (by rfl) B.list (prg_1 (by rfl) B.range (pv 1))) (pa_cons (pe_lst pa_nil) pa_nil)) rfl)
      (pss_cons (ps_for PassesOwn.never rfl (pi_range1 (by rfl) B.range (pa_cons (pv 1) pa_nil)) (pg_name (i := 4) sc__law_permutation.nd rfl (.inl rfl))
        (pss_one (ps_expr (pe_bm PySem.F.plainAttrs_list PySem.F.slot_list_append PySem.F.type_list_append mt_append (pv 3) (pa_cons (pe_bm PySem.F.plainAttrs_list PySem.F.slot_list_pop PySem.F.type_list_pop mt_popAt (pv 2)
          (pa_cons (pc CT hr (pa_cons (pv 0) (pa_cons (pe_callB (cl_len K) (by rfl) B.len PySem.boot_len (pa_cons (pv 2) pa_nil)) pa_nil))) pa_nil)) pa_nil)))))
      (pss_one (ps_ret (pe_tupleF (by rfl) B.tuple (pv 3))))), ?_⟩
    refine ⟨_, rfl, (n : Int), rfl, ⟨by omega, by omega, by omega, by omega, by omega⟩, fun l hl => ⟨Nat.zero_le _, fun g hg => ⟨_, _, rfl, ?_⟩⟩⟩
    have hlg : l ≠ g := ne_of_none upd_same hg
    have hgH : H g = none := by
      rw [upd_ne (Ne.symm hlg)] at hg
      exact hg
    have hpl : p ≠ l := hR.ne hl
    have hpg : p ≠ g := hR.ne hgH
    refine ⟨_, rfl, (n : Int), rfl, by omega, by omega, ?_⟩
    rw [Int.toNat_natCast]
    refine for_range (lo := 0) (n := n) (fun i σ H' => ∃ (ls fs : List Int) (y4 : Option V), σ = [some (.ref p), some (.int (n : Int)), some (.ref l), some (.ref g), y4] ∧ But p H H' ∧ Row K H' p ∧ H' l = some (.lst (ls.map V.int)) ∧ H' g = some (.lst (fs.map V.int)) ∧ (fs ++ ls).Perm (rg n) ∧ fs.length = i)
      ⟨rg n, [], none, rfl, But.same (Same.trans (same_new hl) (same_new hg)), (hR.new hl).new hg, ?_, upd_same, List.Perm.refl _, rfl⟩ (fun i σ H1 hi h' => ?_) (fun σ H1 h' => ?_)
    · rw [upd_ne hlg, upd_same, rgV_rg]
    · obtain ⟨ls, fs, y4, rfl, hB, hR1, e1, e2, hpm, lf⟩ := h'
      have len1 : fs.length + ls.length = n := by
        have := hpm.length_eq
        rw [List.length_append, rg_len] at this
        exact this
      refine ⟨_, rfl, .inl ⟨rfl, _, lstAt e2⟩, _, rfl, .inl ⟨rfl, _, lstAt e1⟩, _, rfl, _, rfl, l, _, rfl, .inl (lstAt e1), p, _, rfl, hR1, by rw [List.length_map]; omega, by rw [List.length_map]; omega, fun k H3 k0 k1 hB3 hR3 => ?_⟩
      rw [List.length_map] at k1
      have e1' := hB3 _ _ e1 (Ne.symm hpl)
      have e2' := hB3 _ _ e2 (Ne.symm hpg)
      have hk : k.toNat < ls.length := by omega
      obtain ⟨v, hv⟩ : ∃ v, ls[k.toNat]? = some v := ⟨_, List.getElem?_eq_getElem hk⟩
      have e2u : (upd H3 l (.lst ((ls.map V.int).eraseIdx k.toNat))) g = some (.lst (fs.map V.int)) := by
        rw [upd_ne (Ne.symm hlg)]
        exact e2'
      refine ⟨l, _, k, k.toNat, .int v, rfl, rfl, e1', by omega, by omega, ?_, at_map hv, g, _, .int v, rfl, rfl, e2u, by rw [List.length_map]; exact small1000 (by omega), ?_⟩
      · rw [List.length_map]
        exact ix_nat k0 k1
      · refine ⟨ls.eraseIdx k.toNat, fs ++ [v], _, rfl, ((hB.trans hB3).fresh hl).fresh hgH, (hR3.lst_upd e1' hpl).lst_upd e2u hpg, ?_, ?_, ?_, by rw [List.length_append, lf]; rfl⟩
        · rw [upd_ne hlg, upd_same, map_erase]
        · rw [upd_same, List.map_append]
          rfl
        · have hp2 := perm_erase hv
          refine List.Perm.trans ?_ hpm
          rw [List.append_assoc]
          exact List.Perm.append_left fs hp2.symm
    · obtain ⟨ls, fs, y4, rfl, hB, hR1, e1, e2, hpm, lf⟩ := h'
      have len1 := hpm.length_eq
      rw [List.length_append, rg_len] at len1
      have : ls = [] := List.eq_nil_of_length_eq_zero (by omega)
      subst this
      rw [List.append_nil] at hpm
      refine ⟨_, rfl, g, _, rfl, lstAt e2, fun t ob ht hob => ?_⟩
      have st := same_new (o := .frz ob (.tup (fs.map V.int))) ht
      exact q _ (.ref t) fs hpm (hB.trans (But.same st)) (hR1.same st) ⟨t, rfl, ob, upd_same, hob⟩
end
end RH
set_option Elab.async false
set_option linter.all false
set_option maxRecDepth 100000
set_option maxHeartbeats 2000000
namespace RH
open PySem PySem.Spec PyProof.Rows L2
/-! ### habits that the law draws -/
def rgI (a b : Int) : List Int := (List.range (b - a).toNat).map fun i : Nat => a + (i : Int)
theorem rgV_rgI (a b : Int) : rgV a b = (rgI a b).map V.int := by
  unfold rgV rgI
  rw [List.map_map]
  rfl
def wF (n pl : Nat) : List Int := rgI 1 ((pl : Int) + 1) ++ [0] ++ rgI ((pl : Int) + 1) (n : Int)
theorem wF_all : ∀ n, n < 6 → ∀ pl, pl < n → (wF n pl).isPerm (rg n) = true := by decide +kernel
theorem wF_perm {n pl : Nat} (hn : n ≤ 5) (hp : pl < n) : (wF n pl).Perm (rg n) := List.isPerm_iff.mp (wF_all n (by omega) pl hp)
theorem TIF.fix {H H' : Hp} {v : V} {ns : List Int} (f : Fix H H') (h : TIF H v ns) : TIF H' v ns := let ⟨b, e, g⟩ := h; ⟨b, e, g.fix f⟩
/-- the rows found so far -/
def HF (K : PySem.W.Frag) (p g : Addr) (H : Hp) (n i : Nat) (H' : Hp) : Prop := ∃ (xs : List V) (hs : List (List Int)), But p H H' ∧ Row K H' p ∧ H' g = some (.lst xs) ∧ Each (TIF H') xs hs ∧ hs.length = i ∧ ∀ ns ∈ hs, ns.Perm (rg n)
theorem HF.step {K : PySem.W.Frag} {p g : Addr} {H H1 H5 : Hp} {n i : Nat} (h : HF K p g H n i H1) (hg : H g = none) (hpg : p ≠ g) (b : But p H1 H5) (r : Row K H5 p) :
    ∃ xs, H5 g = some (.lst xs) ∧ xs.length = i ∧ ∀ (v : V) (ns : List Int) (H6 : Hp), Same H5 H6 → TIF H6 v ns → ns.Perm (rg n) → HF K p g H n (i + 1) (upd H6 g (.lst (xs ++ [v]))) := by
  obtain ⟨xs, hs, hB, hR, e, hE, hl, hp⟩ := h
  have e5 := b _ _ e (Ne.symm hpg)
  refine ⟨xs, e5, hE.len.trans hl, fun v ns H6 s6 hq hpm => ⟨xs ++ [v], hs ++ [ns], ((hB.trans b).trans (But.same s6)).fresh hg, (r.same s6).lst_upd (s6 _ _ e5) hpg, upd_same, ?_, by rw [List.length_append, hl]; rfl, fun ns' hm => ?_⟩⟩
  · have f2 : Fix H6 (upd H6 g (.lst (xs ++ [v]))) := Fix.lst (s6 _ _ e5)
    have f1 : Fix H1 (upd H6 g (.lst (xs ++ [v]))) := (hR.fix b).trans ((Fix.same s6).trans f2)
    exact Each.snoc (hq.fix f2) (hE.imp fun _ _ z => z.fix f1)
  · rcases List.mem_append.mp hm with h1 | h1
    · exact hp _ h1
    · rw [List.mem_singleton.mp h1]
      exact hpm
section
variable {P : Program} {w : World} {K : PySem.W.Frag} {mg : Str → Option Value} {base : Heap}
def spHabF (K : PySem.W.Frag) : Sp := fun vs H Q _ => ∃ (p : Addr) (n : Nat), vs = [.ref p, .int (n : Int)] ∧ Row K H p ∧ 2 ≤ n ∧ n ≤ 5 ∧ ∀ (H' : Hp) (v : V) (h : List (List Int)), Hb n h → But p H H' → Row K H' p → THF K H' v h → Q v H'
theorem ok_habF (F : Df K mg "_law_habit" st__law_habit ["row", "many"]) (B : Bu mg) (CT : Cal P w K mg base 1 "_law_taken" (spTaken K)) (CP : Cal P w K mg base 2 "_law_permutation" (spPermL K)) : Cal P w K mg base 3 "_law_habit" (spHabF K) := by
  refine mkCal F sc__law_habit (fun vs H Q E h => ?_) (fun f cdv A outer s H vs Q E hr h => ?_)
  · obtain ⟨p, n, rfl, _⟩ := h
    rfl
  · obtain ⟨p, n, rfl, hR, h2, h5, q⟩ := h
    refine ⟨_, pss_cons (ps_set (i := 2) sc__law_habit.nd rfl (.inl rfl) (pe_lst pa_nil))
      (pss_cons (ps_for PassesOwn.never rfl (pi_range1 (by rfl) B.range (pa_cons (pv 1) pa_nil)) (pg_name (i := 3) sc__law_habit.nd rfl (.inl rfl))
        (pss_cons (ps_set (i := 4) sc__law_habit.nd rfl (.inl rfl) (pc CT hr (pa_cons (pv 0) (pa_cons pe_int pa_nil))))
        (pss_one (ps_if (pt_cmpR op_eq (pv 4) pe_int (nomark _))
          (pss_one (ps_expr (pe_bm PySem.F.plainAttrs_list PySem.F.slot_list_append PySem.F.type_list_append mt_append (pv 2) (pa_cons (pe_tupRgF rfl (by rfl) B.tuple (prg_1 (by rfl) B.range (pv 1))) pa_nil))))
          (pss_one (ps_if (pt_cmpR op_eq (pv 4) pe_int (nomark _))
            (pss_one (ps_expr (pe_bm PySem.F.plainAttrs_list PySem.F.slot_list_append PySem.F.type_list_append mt_append (pv 2) (pa_cons (pe_tupleF (by rfl) B.tuple (pe_op op_cat (pe_op op_cat (pe_listRg rfl (by rfl) B.list (prg_2 (by rfl) B.range pe_int (pe_op op_add (pv 3) pe_int))) (pe_lst (pa_cons pe_int pa_nil)))
              (pe_listRg rfl (by rfl) B.list (prg_2 (by rfl) B.range (pe_op op_add (pv 3) pe_int) (pv 1))))) pa_nil))))
            (pss_one (ps_expr (pe_bm PySem.F.plainAttrs_list PySem.F.slot_list_append PySem.F.type_list_append mt_append (pv 2) (pa_cons (pc CP hr (pa_cons (pv 0) (pa_cons (pv 1) pa_nil))) pa_nil)))))))))) 
      (pss_one (ps_ret (pe_tupleOf (by rfl) B.tuple (pv 2))))), ?_⟩
    refine ⟨Nat.zero_le _, fun g hg => ?_⟩
    have hpg : p ≠ g := hR.ne hg
    have eg : (upd H g (.lst [])) g = some (.lst []) := upd_same
    refine ⟨_, rfl, (n : Int), rfl, by omega, by omega, ?_⟩
    rw [Int.toNat_natCast]
    refine for_range (lo := 0) (n := n) (fun i σ H' => ∃ y3 y4, σ = [some (.ref p), some (.int (n : Int)), some (.ref g), y3, y4] ∧ HF K p g H n i H') ⟨none, none, rfl, [], [], But.same (same_new hg), hR.new hg, eg, .nil, rfl, fun _ hm => absurd hm List.not_mem_nil⟩ (fun i σ H1 hi h' => ?_) (fun σ H1 h' => ?_)
    · obtain ⟨y3, y4, rfl, hF⟩ := h'
      rw [Int.zero_add]
      refine ⟨_, rfl, p, 4, rfl, hF.choose_spec.choose_spec.2.1, by decide, by decide, fun k H2 k0 k4 hB hR2 => ?_⟩
      obtain ⟨xs, eg2, lx, more⟩ := hF.step hg hpg hB hR2
      refine ⟨_, rfl, rfl, _, rfl, ite2 (fun e => ?_) (fun e => ?_)⟩
      · refine ⟨_, rfl, .inl ⟨rfl, _, lstAt eg2⟩, _, rfl, (n : Int), rfl, ⟨by omega, by omega, by omega, by omega, by omega⟩, fun t ob ht hob => ?_⟩
        have st := same_new (o := .frz ob (.tup (rgV 0 (n : Int)))) ht
        refine ⟨g, xs, _, rfl, rfl, st _ _ eg2, small1000 (by omega), _, _, rfl, more _ (rg n) _ st ⟨t, rfl, ob, ?_, hob⟩ (List.Perm.refl _)⟩
        rw [upd_same, rgV_rg]
      · refine ⟨_, rfl, rfl, _, rfl, ite2 (fun e2 => ?_) (fun e2 => ?_)⟩
        · refine ⟨_, rfl, .inl ⟨rfl, _, lstAt eg2⟩, _, rfl, (i : Int), 1, rfl, rfl, _, _, rfl, rfl, ⟨by omega, by omega, by omega, by omega, by omega⟩, fun l1 hl1 => ?_⟩
          refine ⟨by decide +kernel, fun l2 hl2 => ?_⟩
          have s1 := same_new (o := .lst (rgV 1 ((i : Int) + 1))) hl1
          have s2 := same_new (o := .lst [.int 0]) hl2
          refine ⟨l1, l2, _, _, rfl, rfl, s2 _ _ upd_same, upd_same, by rw [rgV_length, sizeLine_eq]; show _ + 1 ≤ _; omega, fun l3 hl3 => ?_⟩
          have s3 := same_new (o := .lst (rgV 1 ((i : Int) + 1) ++ [.int 0])) hl3
          refine ⟨_, rfl, (i : Int), 1, rfl, rfl, _, rfl, _, _, rfl, rfl, ⟨by omega, by omega, by omega, by omega, by omega⟩, fun l4 hl4 => ?_⟩
          have s4 := same_new (o := .lst (rgV ((i : Int) + 1) (n : Int))) hl4
          refine ⟨l3, l4, _, _, rfl, rfl, s4 _ _ upd_same, upd_same, by rw [List.length_append, rgV_length, rgV_length, sizeLine_eq]; show _ + 1 + _ ≤ _; omega, fun l5 hl5 => ⟨l5, _, rfl, lstAt upd_same, fun t ob ht hob => ?_⟩⟩
          have s5 := same_new (o := .lst (rgV 1 ((i : Int) + 1) ++ [.int 0] ++ rgV ((i : Int) + 1) (n : Int))) hl5
          have s6 := same_new (o := .frz ob (.tup (rgV 1 ((i : Int) + 1) ++ [.int 0] ++ rgV ((i : Int) + 1) (n : Int)))) ht
          have sA := s1.trans (s2.trans (s3.trans (s4.trans (s5.trans s6))))
          refine ⟨g, xs, _, rfl, rfl, sA _ _ eg2, small1000 (by omega), _, _, rfl, more _ (wF n i) _ sA ⟨t, rfl, ob, ?_, hob⟩ (wF_perm h5 hi)⟩
          rw [upd_same]
          unfold wF
          rw [List.map_append, List.map_append, ← rgV_rgI, ← rgV_rgI]
          rfl
        · refine ⟨_, rfl, .inl ⟨rfl, _, lstAt eg2⟩, _, rfl, _, rfl, p, n, rfl, hR2, by omega, fun H3 v ns pm hB3 hR3 hv => ?_⟩
          obtain ⟨xs3, eg3, lx3, more3⟩ := hF.step hg hpg (hB.trans hB3) hR3
          exact ⟨g, xs3, _, rfl, rfl, eg3, small1000 (by omega), _, _, rfl, more3 v ns H3 (Same.refl _) hv pm⟩
    · obtain ⟨y3, y4, rfl, xs, hs, hB, hR1, e, hE, hl, hp⟩ := h'
      refine ⟨_, rfl, .inl ⟨g, xs, rfl, lstAt e, fun t ht => ?_⟩⟩
      have st := same_new (o := .tup xs) ht
      exact q _ (.ref t) hs ⟨hl, hp, h2, h5⟩ (hB.trans (But.same st)) (hR1.same st) ⟨t, xs, rfl, tupAt upd_same, hE.imp fun _ _ z => z.same st⟩
end
end RH
set_option Elab.async false
set_option linter.all false
set_option maxRecDepth 100000
set_option maxHeartbeats 2000000
namespace RH
open PySem PySem.Spec PyProof.Rows L2
/-! ### finding: what a look shows, the fewest looks -/
def sg (nm : Option Nat) (L : List Int) : List Int := match nm with
  | none => L
  | some k => [L.getD k 0]
def sgD (nm : Option Nat) (L : List Int) : PyData := match nm with
  | none => .tuple (L.map PyData.int)
  | some k => .int (L.getD k 0)
def knownB (nm : Option Nat) (Ls : List (List Int)) : Bool := Ls.all fun L => decide (sg nm L = sg nm (Ls.headD []))
def partL (h : List (List Int)) (Ls : List (List Int)) (p b : Int) : List (List Int) := (Ls.filter fun L => decide (L.getD b.toNat 0 = p)).map (stp h p)
def partO (h : List (List Int)) (Ls : List (List Int)) (p b : Int) : Option (Int × List (List Int)) := if (partL h Ls p b).isEmpty = true then none else some (b, partL h Ls p b)
def prts (h : List (List Int)) (n : Nat) (Ls : List (List Int)) (p : Int) : List (Int × List (List Int)) := (rg n).filterMap (partO h Ls p)
def nodeD (p : Int) (tr : List (Int × PyData)) : PyData := .tuple [.int p, .tuple (tr.map fun x => .tuple [.int x.1, x.2])]
def dMax (f : List (List Int) → Nat × PyData) (ps : List (Int × List (List Int))) : Nat := (ps.map fun x => (f x.2).1).foldl Nat.max 0
def stepB (h : List (List Int)) (n : Nat) (f : List (List Int) → Nat × PyData) (Ls : List (List Int)) (best : Option (Nat × PyData)) (p : Int) : Option (Nat × PyData) :=
  if 1 < (prts h n Ls p).length then
    (if (best.all fun b => decide (1 + dMax f (prts h n Ls p) < b.1)) = true then some (1 + dMax f (prts h n Ls p), nodeD p ((prts h n Ls p).map fun x => (x.1, (f x.2).2))) else best)
  else best
def look (h : List (List Int)) (n : Nat) (nm : Option Nat) : Nat → List (List Int) → Nat × PyData
  | 0 => fun Ls => (0, sgD nm (Ls.headD []))
  | k + 1 => fun Ls => if knownB nm Ls = true then (0, sgD nm (Ls.headD [])) else ((rg n).foldl (stepB h n (look h n nm k) Ls) none).getD (0, .none)
theorem max_fold : ∀ (l : List Nat) (a : Nat), a ≤ l.foldl Nat.max a ∧ (∀ x ∈ l, x ≤ l.foldl Nat.max a) ∧ (l.foldl Nat.max a = a ∨ l.foldl Nat.max a ∈ l)
  | [], a => ⟨Nat.le_refl _, fun _ h => (nomatch h), .inl rfl⟩
  | x :: l, a => by
    obtain ⟨h1, h2, h3⟩ := max_fold l (Nat.max a x)
    rw [List.foldl_cons]
    have ha : a ≤ Nat.max a x := Nat.le_max_left ..
    have hx : x ≤ Nat.max a x := Nat.le_max_right ..
    refine ⟨Nat.le_trans ha h1, fun y hy => ?_, ?_⟩
    · rcases List.mem_cons.mp hy with rfl | hy
      · exact Nat.le_trans hx h1
      · exact h2 y hy
    · rcases h3 with h3 | h3
      · rw [h3]
        rcases Nat.le_total a x with e | e
        · right
          rw [show Nat.max a x = x from Nat.max_eq_right e]
          exact List.mem_cons_self ..
        · left
          exact Nat.max_eq_left e
      · exact .inr (List.mem_cons_of_mem _ h3)
theorem dMax_is {f : List (List Int) → Nat × PyData} {ps : List (Int × List (List Int))} {m : Int} (h1 : m ∈ ps.map fun x => ((f x.2).1 : Int)) (h2 : ∀ y ∈ ps.map (fun x => ((f x.2).1 : Int)), y ≤ m) : m = (dMax f ps : Int) := by
  obtain ⟨_, hb, hm⟩ := max_fold (ps.map fun x => (f x.2).1) 0
  obtain ⟨x, hx, rfl⟩ := List.mem_map.mp h1
  have l1 : (f x.2).1 ≤ dMax f ps := hb _ (List.mem_map.mpr ⟨x, hx, rfl⟩)
  have l2 : dMax f ps ≤ (f x.2).1 := by
    rcases hm with hm | hm
    · unfold dMax
      rw [hm]
      exact Nat.zero_le _
    · obtain ⟨y, hy, e⟩ := List.mem_map.mp hm
      have := h2 _ (List.mem_map.mpr ⟨y, hy, rfl⟩)
      unfold dMax
      rw [← e]
      omega
  omega
theorem dMax_le {f : List (List Int) → Nat × PyData} {ps : List (Int × List (List Int))} {m : Nat} (h : ∀ x ∈ ps, (f x.2).1 ≤ m) : dMax f ps ≤ m := by
  obtain ⟨_, _, hm⟩ := max_fold (ps.map fun x => (f x.2).1) 0
  rcases hm with hm | hm
  · unfold dMax
    rw [hm]
    exact Nat.zero_le _
  · obtain ⟨y, hy, e⟩ := List.mem_map.mp hm
    unfold dMax
    rw [← e]
    exact h y hy
theorem dMax_ge {f : List (List Int) → Nat × PyData} {ps : List (Int × List (List Int))} {x : Int × List (List Int)} (h : x ∈ ps) : (f x.2).1 ≤ dMax f ps :=
  (max_fold (ps.map fun x => (f x.2).1) 0).2.1 _ (List.mem_map.mpr ⟨x, h, rfl⟩)
/-! the parts -/
theorem partO_some {h : List (List Int)} {Ls : List (List Int)} {p b : Int} {x : Int × List (List Int)} : partO h Ls p b = some x ↔ x = (b, partL h Ls p b) ∧ partL h Ls p b ≠ [] := by
  unfold partO
  split
  · rename_i e
    rw [List.isEmpty_iff] at e
    simp [e]
  · rename_i e
    rw [List.isEmpty_iff] at e
    constructor
    · intro z
      exact ⟨(Option.some.inj z).symm, e⟩
    · rintro ⟨rfl, _⟩
      rfl
theorem prts_mem {h : List (List Int)} {n : Nat} {Ls : List (List Int)} {p : Int} {x : Int × List (List Int)} : x ∈ prts h n Ls p ↔ InR n x.1 ∧ x.2 = partL h Ls p x.1 ∧ x.2 ≠ [] := by
  unfold prts
  rw [List.mem_filterMap]
  constructor
  · rintro ⟨b, hb, e⟩
    obtain ⟨rfl, ne⟩ := partO_some.mp e
    exact ⟨rg_mem.mp hb, rfl, ne⟩
  · rintro ⟨hb, e, ne⟩
    refine ⟨x.1, rg_mem.mpr hb, partO_some.mpr ⟨?_, by rw [← e]; exact ne⟩⟩
    rw [← e]
theorem rg_asc (n : Nat) : (rg n).Pairwise (· < ·) := by
  unfold rg
  rw [List.pairwise_map]
  exact List.pairwise_lt_range.imp fun h => by omega
theorem prts_asc (h : List (List Int)) (n : Nat) (Ls : List (List Int)) (p : Int) : ((prts h n Ls p).map Prod.fst).Pairwise (· < ·) := by
  unfold prts
  rw [List.pairwise_map]
  refine List.Pairwise.filterMap (partO h Ls p) (fun a b hab x hx y hy => ?_) (rg_asc n)
  rw [(partO_some.mp hx).1, (partO_some.mp hy).1]
  exact hab
theorem partL_mem {h : List (List Int)} {Ls : List (List Int)} {p b : Int} {M : List Int} : M ∈ partL h Ls p b ↔ ∃ L ∈ Ls, L.getD b.toNat 0 = p ∧ stp h p L = M := by
  unfold partL
  rw [List.mem_map]
  constructor
  · rintro ⟨L, hL, rfl⟩
    have := List.mem_filter.mp hL
    exact ⟨L, this.1, of_decide_eq_true this.2, rfl⟩
  · rintro ⟨L, hL, e, rfl⟩
    exact ⟨L, List.mem_filter.mpr ⟨hL, decide_eq_true e⟩, rfl⟩
theorem nd_perm {n : Nat} {L : List Int} (h : L.Perm (rg n)) : L.Nodup := h.nodup_iff.mpr ((rg_asc n).imp fun h => by omega)
theorem getD_perm {n : Nat} {L : List Int} (h : L.Perm (rg n)) {b : Int} (hb : InR n b) : L[b.toNat]? = some (L.getD b.toNat 0) := by
  have : b.toNat < L.length := by rw [perm_len h]; have := hb.1; have := hb.2; omega
  rw [List.getD_eq_getElem?_getD, List.getElem?_eq_getElem this]
  rfl
theorem getD_inR {n : Nat} {L : List Int} (h : L.Perm (rg n)) {b : Int} (hb : InR n b) : InR n (L.getD b.toNat 0) := perm_in h (List.mem_of_getElem? (getD_perm h hb))
theorem nd_at {L : List Int} (hn : L.Nodup) {i j : Nat} {x : Int} (hi : L[i]? = some x) (hj : L[j]? = some x) : i = j := by
  have li := (List.getElem?_eq_some_iff.mp hi).1
  exact (List.getElem?_inj li hn).mp (hi.trans hj.symm)
theorem idx_of_getD {n : Nat} {L : List Int} (h : L.Perm (rg n)) {b p : Int} (hb : InR n b) : L.getD b.toNat 0 = p ↔ InR n p ∧ (L.idxOf p : Int) = b := by
  constructor
  · rintro rfl
    have e := getD_perm h hb
    refine ⟨getD_inR h hb, ?_⟩
    have hm := List.mem_of_getElem? e
    have := nd_at (nd_perm h) (List.getElem?_eq_some_iff.mpr ⟨List.idxOf_lt_length_iff.mpr hm, List.getElem_idxOf (List.idxOf_lt_length_iff.mpr hm)⟩) e
    have := hb.1
    omega
  · rintro ⟨hp, rfl⟩
    have hm := perm_mem h hp
    have hl := List.idxOf_lt_length_iff.mpr hm
    rw [Int.toNat_natCast, List.getD_eq_getElem?_getD, List.getElem?_eq_getElem hl, List.getElem_idxOf hl]
    rfl
theorem idx_inR {n : Nat} {L : List Int} (h : L.Perm (rg n)) {p : Int} (hp : InR n p) : InR n (L.idxOf p : Int) := by
  have := List.idxOf_lt_length_iff.mpr (perm_mem h hp)
  rw [perm_len h] at this
  exact ⟨by omega, by omega⟩
theorem partL_perm {h : List (List Int)} {n : Nat} {Ls : List (List Int)} {p b : Int} (hb : Hb n h) (hp : InR n p) (hL : ∀ L ∈ Ls, L.Perm (rg n)) : ∀ M ∈ partL h Ls p b, M.Perm (rg n) := fun M hM => by
  obtain ⟨L, h1, _, rfl⟩ := partL_mem.mp hM
  exact hb.stp_perm hp (hL L h1)
theorem partL_len {h : List (List Int)} {Ls : List (List Int)} {p b : Int} : (partL h Ls p b).length ≤ Ls.length := by
  unfold partL
  rw [List.length_map]
  exact List.length_filter_le ..
/-- parts are smaller -/
theorem prts_less {h : List (List Int)} {n : Nat} {Ls : List (List Int)} {p : Int} (hL : ∀ L ∈ Ls, L.Perm (rg n)) (h1 : 1 < (prts h n Ls p).length) {x : Int × List (List Int)} (hx : x ∈ prts h n Ls p) : x.2.length < Ls.length := by
  obtain ⟨y, hy, ne⟩ : ∃ y ∈ prts h n Ls p, y.1 ≠ x.1 := by
    have asc := prts_asc h n Ls p
    match e : prts h n Ls p, h1 with
    | a :: b :: r, _ =>
      rw [e] at asc
      have := (List.pairwise_cons.mp asc).1 b.1 (List.mem_cons_self ..)
      by_cases z : a.1 = x.1
      · exact ⟨b, by simp, by omega⟩
      · exact ⟨a, by simp, z⟩
  obtain ⟨xr, ex, _⟩ := prts_mem.mp hx
  obtain ⟨yr, ey, ny⟩ := prts_mem.mp hy
  obtain ⟨M, hM⟩ := List.exists_mem_of_ne_nil _ ny
  rw [ey] at hM
  obtain ⟨L, hL1, e1, _⟩ := partL_mem.mp hM
  rw [ex]
  unfold partL
  rw [List.length_map]
  refine Nat.lt_of_le_of_ne (List.length_filter_le ..) fun z => ?_
  have all := List.length_filter_eq_length_iff.mp z L hL1
  have e2 := of_decide_eq_true all
  have a1 := ((idx_of_getD (hL L hL1) yr).mp e1).2
  have a2 := ((idx_of_getD (hL L hL1) xr).mp e2).2
  exact ne (a1.symm.trans a2)
theorem prts_two {h : List (List Int)} {n : Nat} {Ls : List (List Int)} {p : Int} (hp : InR n p) (hL : ∀ L ∈ Ls, L.Perm (rg n)) {L M : List Int} (h1 : L ∈ Ls) (h2 : M ∈ Ls) (ne : L.idxOf p ≠ M.idxOf p) : 1 < (prts h n Ls p).length := by
  have inp : ∀ {L}, L ∈ Ls → ((L.idxOf p : Nat) : Int) ∈ (prts h n Ls p).map Prod.fst := fun {L} hl => by
    have r := idx_inR (hL L hl) hp
    refine List.mem_map.mpr ⟨((L.idxOf p : Nat), partL h Ls p (L.idxOf p : Nat)), prts_mem.mpr ⟨r, rfl, fun z => ?_⟩, rfl⟩
    have := (partL_mem (h := h)).mpr ⟨L, hl, (idx_of_getD (hL L hl) r).mpr ⟨hp, rfl⟩, rfl⟩
    rw [show partL h Ls p ((L.idxOf p : Nat) : Int) = [] from z] at this
    cases this
  have a1 := inp h1
  have a2 := inp h2
  have el : (prts h n Ls p).length = ((prts h n Ls p).map Prod.fst).length := by rw [List.length_map]
  rw [el]
  generalize (prts h n Ls p).map Prod.fst = l at a1 a2
  match l with
  | [] => cases a1
  | [x] =>
    have e1 := List.mem_singleton.mp a1
    have e2 := List.mem_singleton.mp a2
    omega
  | x :: y :: r => simp
/-- two layouts that differ differ at some place -/
theorem differ_at {n : Nat} {L M : List Int} (hL : L.Perm (rg n)) (hM : M.Perm (rg n)) (ne : L ≠ M) : ∃ p, InR n p ∧ L.idxOf p ≠ M.idxOf p := by
  refine Classical.byContradiction fun hn => ne (List.ext_getElem? fun i => ?_)
  by_cases hi : i < n
  · have ri : InR n (i : Int) := ⟨by omega, by omega⟩
    have e1 := getD_perm hL ri
    have e2 := getD_perm hM ri
    rw [Int.toNat_natCast] at e1 e2
    have h1 := (idx_of_getD hL ri).mp rfl
    have h3 : L.idxOf (L.getD ((i : Int)).toNat 0) = M.idxOf (L.getD ((i : Int)).toNat 0) := Classical.byContradiction fun z => hn ⟨_, h1.1, z⟩
    have h4 := (idx_of_getD hM ri).mpr ⟨h1.1, by rw [← h3]; exact h1.2⟩
    rw [Int.toNat_natCast] at h4
    rw [e1, e2, h4]
  · rw [List.getElem?_eq_none (by rw [perm_len hL]; omega), List.getElem?_eq_none (by rw [perm_len hM]; omega)]
theorem head_mem {Ls : List (List Int)} (h : Ls ≠ []) : Ls.headD [] ∈ Ls := by
  cases Ls with
  | nil => exact absurd rfl h
  | cons a r => exact List.mem_cons_self ..
theorem splits {h : List (List Int)} {n : Nat} {nm : Option Nat} {Ls : List (List Int)} (hL : ∀ L ∈ Ls, L.Perm (rg n)) (hk : knownB nm Ls = false) : ∃ p, InR n p ∧ 1 < (prts h n Ls p).length := by
  obtain ⟨L, hl, e⟩ : ∃ L ∈ Ls, decide (sg nm L = sg nm (Ls.headD [])) = false := by
    unfold knownB at hk
    rw [List.all_eq_false] at hk
    obtain ⟨L, hl, e⟩ := hk
    exact ⟨L, hl, by simpa using e⟩
  have hh := head_mem (List.ne_nil_of_mem hl)
  have ne : L ≠ Ls.headD [] := fun z => by rw [z] at e; simp at e
  obtain ⟨p, hp, d⟩ := differ_at (hL L hl) (hL _ hh) ne
  exact ⟨p, hp, prts_two hp hL hl hh d⟩
theorem stepB_keep {h : List (List Int)} {n : Nat} {f : List (List Int) → Nat × PyData} {Ls : List (List Int)} {best : Option (Nat × PyData)} {p : Int} (hb : best.isSome = true) : (stepB h n f Ls best p).isSome = true := by
  unfold stepB
  split
  · split
    · rfl
    · exact hb
  · exact hb
theorem fold_keep {h : List (List Int)} {n : Nat} {f : List (List Int) → Nat × PyData} {Ls : List (List Int)} : ∀ (l : List Int) {best : Option (Nat × PyData)}, best.isSome = true → (l.foldl (stepB h n f Ls) best).isSome = true
  | [], _, hb => hb
  | p :: l, _, hb => fold_keep l (stepB_keep hb)
theorem fold_some {h : List (List Int)} {n : Nat} {f : List (List Int) → Nat × PyData} {Ls : List (List Int)} : ∀ (l : List Int) {best : Option (Nat × PyData)} {p : Int}, p ∈ l → 1 < (prts h n Ls p).length → (l.foldl (stepB h n f Ls) best).isSome = true
  | q :: l, best, p, hp, h1 => by
    rw [List.foldl_cons]
    rcases List.mem_cons.mp hp with rfl | hp
    · refine fold_keep l ?_
      unfold stepB
      rw [if_pos h1]
      split
      · rfl
      · rename_i e
        cases best with
        | none => exact absurd rfl e
        | some b => rfl
    · exact fold_some l hp h1
/-- what the fold finds is one of the looks -/
theorem fold_is {h : List (List Int)} {n : Nat} {f : List (List Int) → Nat × PyData} {Ls : List (List Int)} : ∀ (l : List Int) {best : Option (Nat × PyData)} {r : Nat × PyData}, l.foldl (stepB h n f Ls) best = some r →
    best = some r ∨ ∃ p ∈ l, 1 < (prts h n Ls p).length ∧ r = (1 + dMax f (prts h n Ls p), nodeD p ((prts h n Ls p).map fun x => (x.1, (f x.2).2)))
  | [], _, _, e => .inl e
  | p :: l, best, r, e => by
    rcases fold_is l e with e | ⟨q, hq, h1, e⟩
    · unfold stepB at e
      split at e
      · rename_i h1
        split at e
        · exact .inr ⟨p, List.mem_cons_self .., h1, (Option.some.inj e).symm⟩
        · exact .inl e
      · exact .inl e
    · exact .inr ⟨q, List.mem_cons_of_mem _ hq, h1, e⟩
/-- .. and no look is better -/
theorem fold_least {h : List (List Int)} {n : Nat} {f : List (List Int) → Nat × PyData} {Ls : List (List Int)} : ∀ (l : List Int) {best : Option (Nat × PyData)} {r : Nat × PyData}, l.foldl (stepB h n f Ls) best = some r →
    (∀ b, best = some b → r.1 ≤ b.1) ∧ ∀ p ∈ l, 1 < (prts h n Ls p).length → r.1 ≤ 1 + dMax f (prts h n Ls p)
  | [], _, _, e => ⟨fun b hb => by cases e.symm.trans hb; exact Nat.le_refl _, fun _ hp => (nomatch hp)⟩
  | p :: l, best, r, e => by
    obtain ⟨h1, h2⟩ := fold_least l e
    have key : (∀ b, best = some b → r.1 ≤ b.1) ∧ (1 < (prts h n Ls p).length → r.1 ≤ 1 + dMax f (prts h n Ls p)) := by
      unfold stepB at h1
      by_cases hs : 1 < (prts h n Ls p).length
      · rw [if_pos hs] at h1
        by_cases hc : (best.all fun b => decide (1 + dMax f (prts h n Ls p) < b.1)) = true
        · rw [if_pos hc] at h1
          have := h1 _ rfl
          refine ⟨fun b hb => ?_, fun _ => this⟩
          subst hb
          have hc := of_decide_eq_true (show decide (1 + dMax f (prts h n Ls p) < b.1) = true from hc)
          have this : r.1 ≤ 1 + dMax f (prts h n Ls p) := this
          omega
        · rw [if_neg hc] at h1
          refine ⟨h1, fun _ => ?_⟩
          cases best with
          | none => exact absurd rfl hc
          | some b =>
            have := h1 b rfl
            have hc : ¬ 1 + dMax f (prts h n Ls p) < b.1 := fun z => hc (decide_eq_true z)
            omega
      · rw [if_neg hs] at h1
        exact ⟨h1, fun z => absurd z hs⟩
    refine ⟨key.1, fun q hq hs => ?_⟩
    rcases List.mem_cons.mp hq with rfl | hq
    · exact key.2 hs
    · exact h2 q hq hs
/-- the look that is chosen -/
theorem look_node {h : List (List Int)} {n : Nat} {nm : Option Nat} {k : Nat} {Ls : List (List Int)} (hL : ∀ L ∈ Ls, L.Perm (rg n)) (hk : knownB nm Ls = false) : ∃ p, InR n p ∧ 1 < (prts h n Ls p).length ∧
    (rg n).foldl (stepB h n (look h n nm k) Ls) none = some (look h n nm (k + 1) Ls) ∧ look h n nm (k + 1) Ls = (1 + dMax (look h n nm k) (prts h n Ls p), nodeD p ((prts h n Ls p).map fun x => (x.1, (look h n nm k x.2).2))) := by
  obtain ⟨p0, hp0, s0⟩ := splits (h := h) hL hk
  have hs := fold_some (f := look h n nm k) (rg n) (best := none) (rg_mem.mpr hp0) s0
  obtain ⟨r, hr⟩ := Option.isSome_iff_exists.mp hs
  have e : look h n nm (k + 1) Ls = r := by
    show (if knownB nm Ls = true then _ else ((rg n).foldl (stepB h n (look h n nm k) Ls) none).getD (0, .none)) = r
    rw [hk, hr]
    rfl
  rcases fold_is (rg n) hr with z | ⟨p, hp, h1, z⟩
  · cases z
  · exact ⟨p, rg_mem.mp hp, h1, by rw [hr, e], by rw [e, z]⟩
end RH
set_option Elab.async false
set_option linter.all false
set_option maxRecDepth 100000
set_option maxHeartbeats 2000000
namespace RH
open PySem PySem.Spec PyProof.Rows L2
/-! ### fewer looks than places -/
/-- do the layouts differ on which book stands at the place? -/
def dq (Ls : List (List Int)) (q : Int) : Bool := Ls.any fun L => !decide (L.idxOf q = (Ls.headD []).idxOf q)
def dK (n : Nat) (Ls : List (List Int)) : Nat := ((rg n).filter (dq Ls)).length
theorem dq_of {Ls : List (List Int)} {q : Int} {L M : List Int} (h1 : L ∈ Ls) (h2 : M ∈ Ls) (ne : L.idxOf q ≠ M.idxOf q) : dq Ls q = true := by
  unfold dq
  rw [List.any_eq_true]
  by_cases e : L.idxOf q = (Ls.headD []).idxOf q
  · exact ⟨M, h2, by rw [decide_eq_false (fun z => ne (e.trans z.symm))]; rfl⟩
  · exact ⟨L, h1, by rw [decide_eq_false e]; rfl⟩
theorem dq_get {Ls : List (List Int)} {q : Int} (h : dq Ls q = true) : ∃ L ∈ Ls, L.idxOf q ≠ (Ls.headD []).idxOf q := by
  unfold dq at h
  obtain ⟨L, hL, e⟩ := List.any_eq_true.mp h
  exact ⟨L, hL, fun z => by rw [decide_eq_true z] at e; cases e⟩
theorem known_of {n : Nat} {nm : Option Nat} {Ls : List (List Int)} (hL : ∀ L ∈ Ls, L.Perm (rg n)) (h : dK n Ls = 0) : knownB nm Ls = true := by
  unfold knownB
  rw [List.all_eq_true]
  intro L hl
  have hh := head_mem (List.ne_nil_of_mem hl)
  by_cases e : L = Ls.headD []
  · exact decide_eq_true (by rw [← e])
  · obtain ⟨p, hp, d⟩ := differ_at (hL L hl) (hL _ hh) e
    have : p ∈ (rg n).filter (dq Ls) := List.mem_filter.mpr ⟨rg_mem.mpr hp, dq_of hl hh d⟩
    unfold dK at h
    rw [List.length_eq_zero_iff.mp h] at this
    cases this
/-- never at one place alone -/
theorem dK_two {n : Nat} {Ls : List (List Int)} (hL : ∀ L ∈ Ls, L.Perm (rg n)) {q : Int} (hq : InR n q) (h : dq Ls q = true) : 2 ≤ dK n Ls := by
  obtain ⟨L, hl, ne⟩ := dq_get h
  have hh := head_mem (List.ne_nil_of_mem hl)
  have pL := hL L hl
  have pH := hL _ hh
  generalize Ls.headD [] = M at *
  have bL := idx_inR pL hq
  have e1 := (idx_of_getD pL bL).mpr ⟨hq, rfl⟩
  have rq := getD_inR pH bL
  have e2 := (idx_of_getD pH bL).mp rfl
  have ne2 : M.getD ((L.idxOf q : Nat) : Int).toNat 0 ≠ q := fun z => by
    rw [z] at e2
    have := e2.2
    omega
  have d2 : dq Ls (M.getD ((L.idxOf q : Nat) : Int).toNat 0) = true := by
    refine dq_of hl hh fun z => ne2 ?_
    have := (idx_of_getD pL bL).mpr ⟨rq, by rw [z]; exact e2.2⟩
    exact this.symm.trans e1
  have m1 : q ∈ (rg n).filter (dq Ls) := List.mem_filter.mpr ⟨rg_mem.mpr hq, h⟩
  have m2 : M.getD ((L.idxOf q : Nat) : Int).toNat 0 ∈ (rg n).filter (dq Ls) := List.mem_filter.mpr ⟨rg_mem.mpr rq, d2⟩
  unfold dK
  generalize (rg n).filter (dq Ls) = l at m1 m2
  match l with
  | [] => cases m1
  | [x] => exact absurd ((List.mem_singleton.mp m2).trans (List.mem_singleton.mp m1).symm) ne2
  | x :: y :: r => simp
theorem idx_stp {h : List (List Int)} {n : Nat} (hb : Hb n h) {p : Int} (hp : InR n p) {L : List Int} (hL : L.Perm (rg n)) {r : Int} (hr : InR n r) : (stp h p L).idxOf (mv h p r) = L.idxOf r := by
  have pS := hb.stp_perm hp hL
  have b := idx_inR hL hr
  have e := (idx_of_getD hL b).mpr ⟨hr, rfl⟩
  have e2 := getD_perm hL b
  have e3 := getD_perm pS b
  have e4 : (stp h p L)[((L.idxOf r : Nat) : Int).toNat]? = some (mv h p r) := by
    unfold stp
    rw [List.getElem?_map, e2, e]
    rfl
  have := (idx_of_getD (p := mv h p r) pS b).mp (by rw [e4] at e3; exact (Option.some.inj e3).symm)
  have := this.2
  omega
theorem filter_len_le {α : Type} {f g : α → Bool} : ∀ {l : List α}, (∀ x ∈ l, f x = true → g x = true) → (l.filter f).length ≤ (l.filter g).length
  | [], _ => Nat.le_refl _
  | x :: l, h => by
    have ih := filter_len_le (l := l) fun y hy => h y (List.mem_cons_of_mem _ hy)
    have hx := h x (List.mem_cons_self ..)
    rw [List.filter_cons, List.filter_cons]
    by_cases e : f x = true
    · rw [if_pos e, if_pos (hx e)]
      exact Nat.succ_le_succ ih
    · rw [if_neg e]
      split
      · exact Nat.le_succ_of_le ih
      · exact ih
theorem filter_len_lt {α : Type} {f g : α → Bool} : ∀ {l : List α} {q : α}, (∀ x ∈ l, f x = true → g x = true) → q ∈ l → f q = false → g q = true → (l.filter f).length < (l.filter g).length
  | x :: l, q, h, hq, h1, h2 => by
    have h' : ∀ y ∈ l, f y = true → g y = true := fun y hy => h y (List.mem_cons_of_mem _ hy)
    rw [List.filter_cons, List.filter_cons]
    rcases List.mem_cons.mp hq with rfl | hq
    · rw [if_neg (by rw [h1]; decide), if_pos h2]
      exact Nat.lt_succ_of_le (filter_len_le h')
    · have ih := filter_len_lt h' hq h1 h2
      by_cases e : f x = true
      · rw [if_pos e, if_pos (h x (List.mem_cons_self ..) e)]
        exact Nat.succ_lt_succ ih
      · rw [if_neg e]
        split
        · exact Nat.lt_succ_of_lt ih
        · exact ih
/-- a look at a place where they differ makes the parts differ at fewer places -/
theorem dK_part {h : List (List Int)} {n : Nat} {Ls : List (List Int)} (hb : Hb n h) (hL : ∀ L ∈ Ls, L.Perm (rg n)) {q : Int} (hq : InR n q) (hd : dq Ls q = true) {x : Int × List (List Int)} (hx : x ∈ prts h n Ls q) : dK n x.2 < dK n Ls := by
  obtain ⟨xr, ex, nx⟩ := prts_mem.mp hx
  have e1 : dK n x.2 = ((rg n).filter fun r => dq x.2 (mv h q r)).length := by
    unfold dK
    have pm : ((rg n).map (mv h q)).Perm (rg n) := by
      rw [hb.row_eq hq]
      exact hb.perm _ (hb.row hq)
    rw [← (pm.filter (dq x.2)).length_eq, List.filter_map, List.length_map]
    rfl
  rw [e1]
  refine filter_len_lt (q := q) (fun r hr hd2 => ?_) (rg_mem.mpr hq) ?_ hd
  · obtain ⟨M, hM, ne⟩ := dq_get hd2
    have hh := head_mem nx
    rw [ex] at hM hh
    obtain ⟨L, hl, _, rfl⟩ := partL_mem.mp hM
    obtain ⟨L0, hl0, _, e0⟩ := partL_mem.mp hh
    rw [ex, ← e0, idx_stp hb hq (hL L hl) (rg_mem.mp hr), idx_stp hb hq (hL L0 hl0) (rg_mem.mp hr)] at ne
    exact dq_of hl hl0 ne
  · cases e : dq x.2 (mv h q q) with
    | false => rfl
    | true =>
      obtain ⟨M, hM, ne⟩ := dq_get e
      have hh := head_mem nx
      rw [ex] at hM hh
      obtain ⟨L, hl, a1, rfl⟩ := partL_mem.mp hM
      obtain ⟨L0, hl0, a0, e0⟩ := partL_mem.mp hh
      rw [ex, ← e0, idx_stp hb hq (hL L hl) hq, idx_stp hb hq (hL L0 hl0) hq] at ne
      have b1 := ((idx_of_getD (hL L hl) xr).mp a1).2
      have b0 := ((idx_of_getD (hL L0 hl0) xr).mp a0).2
      omega
theorem look_depth {h : List (List Int)} {n : Nat} {nm : Option Nat} (hb : Hb n h) : ∀ (k : Nat) {Ls : List (List Int)}, (∀ L ∈ Ls, L.Perm (rg n)) → Ls.length ≤ k + 1 → (look h n nm k Ls).1 ≤ dK n Ls - 1
  | 0, Ls, _, _ => Nat.zero_le _
  | k + 1, Ls, hL, hl => by
    cases hk : knownB nm Ls with
    | true =>
      show (if knownB nm Ls = true then _ else _ : Nat × PyData).1 ≤ _
      rw [if_pos hk]
      exact Nat.zero_le _
    | false =>
      obtain ⟨p, hp, h1, hr, _⟩ := look_node (h := h) (k := k) hL hk
      have hd : ∃ q, InR n q ∧ dq Ls q = true := by
        refine Classical.byContradiction fun hn => ?_
        have : dK n Ls = 0 := by
          unfold dK
          rw [List.length_eq_zero_iff, List.filter_eq_nil_iff]
          intro q hq e
          exact hn ⟨q, rg_mem.mp hq, e⟩
        rw [known_of hL this] at hk
        cases hk
      obtain ⟨q, hq, hd⟩ := hd
      have two := dK_two hL hq hd
      obtain ⟨L, hl1, ne⟩ := dq_get hd
      have hs := prts_two (h := h) hq hL hl1 (head_mem (List.ne_nil_of_mem hl1)) ne
      refine Nat.le_trans ((fold_least (rg n) hr).2 q (rg_mem.mpr hq) hs) ?_
      have : dMax (look h n nm k) (prts h n Ls q) ≤ dK n Ls - 2 := dMax_le fun x hx => by
        have pm : ∀ M ∈ x.2, M.Perm (rg n) := by
          rw [(prts_mem.mp hx).2.1]
          exact partL_perm hb hq hL
        have l1 := prts_less hL hs hx
        have := look_depth (nm := nm) hb k pm (by omega)
        have := dK_part hb hL hq hd hx
        omega
      omega
theorem look_few {h : List (List Int)} {n : Nat} {nm : Option Nat} (hb : Hb n h) {k : Nat} {Ls : List (List Int)} (hL : ∀ L ∈ Ls, L.Perm (rg n)) (hl : Ls.length ≤ k + 1) : (look h n nm k Ls).1 < n := by
  have h1 := look_depth (nm := nm) hb k hL hl
  have h2 : dK n Ls ≤ n := by
    unfold dK
    refine Nat.le_trans (List.length_filter_le ..) ?_
    rw [rg_len]
    exact Nat.le_refl _
  have := hb.lo
  omega
end RH
set_option Elab.async false
set_option linter.all false
set_option maxRecDepth 100000
set_option maxHeartbeats 2000000
namespace RH
open PySem PySem.Spec PyProof.Rows L2
/-! ### what is sought, what a look shows -/
def NmV (nv : V) (n : Nat) (nm : Option Nat) : Prop := (nv = .non ∧ nm = none) ∨ ∃ k : Nat, nv = .int (k : Int) ∧ nm = some k ∧ k < n
def soV (nm : Option Nat) (a : Addr) (L : List Int) : V := match nm with
  | none => .ref a
  | some k => .int (L.getD k 0)
theorem soV_dp {K : PySem.W.Frag} {H : Hp} {a : Addr} {L : List Int} (h : SqT K H a (L.map V.int)) (nm : Option Nat) : Dp K H (soV nm a L) (sgD nm L) := by
  cases nm with
  | none => exact dp_tup h
  | some k => exact .int _
theorem sgD_eq (nm : Option Nat) (L M : List Int) : PyData.eqv (sgD nm L) (sgD nm M) = decide (sg nm L = sg nm M) := by
  cases nm with
  | none =>
    show PyData.eqv (.tuple (L.map PyData.int)) (.tuple (M.map PyData.int)) = decide (L = M)
    rw [PyData.eqv]
    exact PySem.W.ked_eqvAll L M
  | some k =>
    show decide (L.getD k 0 = M.getD k 0) = decide ([L.getD k 0] = [M.getD k 0])
    rw [Bool.eq_iff_iff, decide_eq_true_iff, decide_eq_true_iff]
    simp
/-- layouts in a tuple, in a list -/
def LsT (K : PySem.W.Frag) (H : Hp) (v : V) (Ls : List (List Int)) : Prop := ∃ a xs, v = .ref a ∧ SqT K H a xs ∧ Each (TIF H) xs Ls
def LsL (K : PySem.W.Frag) (H : Hp) (v : V) (Ls : List (List Int)) : Prop := ∃ a xs, v = .ref a ∧ H a = some (.lst xs) ∧ Each (TIF H) xs Ls
theorem LsT.same {K : PySem.W.Frag} {H H' : Hp} (e : Same H H') {v : V} {Ls : List (List Int)} (q : LsT K H v Ls) : LsT K H' v Ls := let ⟨a, xs, h1, h2, h3⟩ := q; ⟨a, xs, h1, onT e h2, h3.imp fun _ _ z => z.same e⟩
theorem LsL.same {K : PySem.W.Frag} {H H' : Hp} (e : Same H H') {v : V} {Ls : List (List Int)} (q : LsL K H v Ls) : LsL K H' v Ls := let ⟨a, xs, h1, h2, h3⟩ := q; ⟨a, xs, h1, e _ _ h2, h3.imp fun _ _ z => z.same e⟩
theorem FT.sqT {K : PySem.W.Frag} {H : Hp} {a : Addr} {L : List Int} (h : FT H a L) : SqT K H a (L.map V.int) := let ⟨ob, e, _⟩ := h; .inl (.inr ⟨ob, e⟩)
/-- a part as it stands -/
def PT1 (K : PySem.W.Frag) (H : Hp) (v : V) (x : Int × List (List Int)) : Prop := ∃ t u, v = .ref t ∧ SqT K H t [.int x.1, u] ∧ LsT K H u x.2
theorem PT1.same {K : PySem.W.Frag} {H H' : Hp} (e : Same H H') {v : V} {x : Int × List (List Int)} (q : PT1 K H v x) : PT1 K H' v x := let ⟨t, u, h1, h2, h3⟩ := q; ⟨t, u, h1, onT e h2, h3.same e⟩
theorem take_all {α : Type} (f : α → Bool) {l : List α} {i : Nat} {x : α} (h : l[i]? = some x) : (l.take (i + 1)).filter f = (l.take i).filter f ++ (if f x = true then [x] else []) := by
  rw [List.take_add_one, h, List.filter_append]
  show _ ++ List.filter f [x] = _
  rw [List.filter_cons]
  rfl
theorem partL_more {h : List (List Int)} {Ls : List (List Int)} {p b : Int} {j : Nat} {L : List Int} (hj : Ls[j]? = some L) : partL h (Ls.take (j + 1)) p b = partL h (Ls.take j) p b ++ (if L.getD b.toNat 0 = p then [stp h p L] else []) := by
  unfold partL
  rw [take_all _ hj, List.map_append]
  by_cases e : L.getD b.toNat 0 = p
  · rw [if_pos e, if_pos (decide_eq_true e)]
    rfl
  · rw [if_neg e, if_neg (by rw [decide_eq_false e]; decide)]
    rfl
section
variable {P : Program} {w : World} {K : PySem.W.Frag} {mg : Str → Option Value} {base : Heap}
def spSought (K : PySem.W.Frag) : Sp := fun vs H Q _ => ∃ (a : Addr) (L : List Int) (n : Nat) (nv : V) (nm : Option Nat), vs = [.ref a, nv] ∧ SqT K H a (L.map V.int) ∧ L.Perm (rg n) ∧ NmV nv n nm ∧ Q (soV nm a L) H
theorem ok_sought (F : Df K mg "sought_in" st_sought_in ["layout", "name"]) : Cal P w K mg base 1 "sought_in" (spSought K) := by
  refine mkCal F sc_sought_in (fun vs H Q E h => ?_) (fun f cdv A outer s H vs Q E hr h => ?_)
  · obtain ⟨a, L, n, nv, nm, rfl, _⟩ := h
    rfl
  · obtain ⟨a, L, n, nv, nm, rfl, hS, hL, hn, q⟩ := h
    refine ⟨_, pss_one (ps_ret (pe_ifExp (pt_cmp (pc_isN (pv 1))) (pv 0) (pe_ix (ixT K) (pv 0) (pv 1) (fun _ _ => rfl)))), ?_⟩
    rcases hn with ⟨rfl, rfl⟩ | ⟨k, rfl, rfl, hk⟩
    · exact ⟨_, rfl, _, rfl, ifT rfl ⟨_, rfl, q⟩⟩
    · have e := getD_perm hL (b := (k : Int)) ⟨by omega, by omega⟩
      rw [Int.toNat_natCast] at e
      exact ⟨_, rfl, _, rfl, ifF rfl ⟨_, rfl, _, rfl, a, _, (k : Int), .int (L.getD k 0), rfl, rfl, hS, atI_nat (at_map e), q⟩⟩
def spKnown (K : PySem.W.Frag) : Sp := fun vs H Q _ => ∃ (v : V) (Ls : List (List Int)) (n : Nat) (nv : V) (nm : Option Nat), vs = [v, nv] ∧ LsT K H v Ls ∧ (∀ L ∈ Ls, L.Perm (rg n)) ∧ n ≤ 5 ∧ 1 ≤ Ls.length ∧ Ls.length ≤ 24 ∧ NmV nv n nm ∧ ∀ H', Same H H' → Q (.bl (knownB nm Ls)) H'
theorem sgD_shaped {n : Nat} {L : List Int} (hL : L.Perm (rg n)) (h5 : n ≤ 5) (nm : Option Nat) : SeqAt.shaped (sgD nm L) = true := by
  cases nm with
  | none => exact shaped_tup _
  | some k => rfl
theorem ok_known (F : Df K mg "is_known" st_is_known ["layouts", "name"]) (B : Bu mg) (CSo : Cal P w K mg base 1 "sought_in" (spSought K)) : Cal P w K mg base 2 "is_known" (spKnown K) := by
  refine mkCal F sc_is_known (fun vs H Q E h => ?_) (fun f cdv A outer s H vs Q E hr h => ?_)
  · obtain ⟨v, Ls, n, nv, nm, rfl, _⟩ := h
    rfl
  · obtain ⟨v, Ls, n, nv, nm, rfl, ⟨a, xs, rfl, hS, hE⟩, hL, h5, l1, l24, hn, q⟩ := h
    refine ⟨_, pss_one (ps_ret (pe_callB (cr_all rfl) (by rfl) B.all (by decide +kernel) (pa_cons (pe_lc (own := [("layout", 2)]) (g := (gName 2)) (tt := tYes)  rfl sc_is_known.nd (pi_tup (pv 0)) (blkOk_by (N := ["layouts", "name", "layout"]) (sc := (defScope st_is_known)) (by decide +kernel)) (fun _ _ _ _ _ => (pg_name (i := 2) sc_is_known.nd rfl (Or.inl rfl))) (fun _ _ _ _ _ => pts_nil) (fun _ _ _ _ _ => (pe_cmpR (opEqD K hr.units) (pc CSo hr (pa_cons (pv 2) (pa_cons (pv 1) pa_nil))) (pc CSo hr (pa_cons (pe_ix (ixT K) (pv 0) pe_int (fun _ _ => rfl)) (pa_cons (pv 1) pa_nil))) (nomark _)))) pa_nil))), ?_⟩
    have lx := hE.len
    obtain ⟨M, hM⟩ : ∃ M, Ls[0]? = some M := ⟨_, List.getElem?_eq_getElem (by omega)⟩
    obtain ⟨x0, hx0, b0, rfl, f0⟩ := hE.of hM
    have pM := hL M (List.mem_of_getElem? hM)
    have eh : Ls.headD [] = M := by
      cases Ls with
      | nil => cases hM
      | cons c r => exact Option.some.inj hM
    refine ⟨_, rfl, a, rfl, ⟨_, hS⟩, fun D hD => ?_⟩
    refine lc_tup (xs := xs) (fun i H' => Same H H' ∧ H' D = some (.lst (((Ls.take i).map fun L => decide (sg nm L = sg nm M)).map V.bl))) ⟨same_new hD, upd_same⟩ (fun i H' _ h' => onT h'.1 hS) (fun i x H' hx h' => ?_) (fun H' h' => ?_)
    · obtain ⟨sm, eD⟩ := h'
      obtain ⟨L, hLi, b, rfl, fL⟩ := hE.at hx
      have pL := hL L (List.mem_of_getElem? hLi)
      refine ⟨rfl, _, rfl, _, rfl, b, L, n, nv, nm, rfl, (fL.same sm).sqT, pL, hn, ?_⟩
      refine ⟨_, rfl, a, xs, 0, .ref b0, rfl, rfl, onT sm hS, atI_nat (j := 0) hx0, _, rfl, b0, M, n, nv, nm, rfl, (f0.same sm).sqT, pM, hn, ?_⟩
      refine ⟨_, _, soV_dp (fL.same sm).sqT nm, soV_dp (f0.same sm).sqT nm, sgD_shaped pL h5 nm, sgD_shaped pM h5 nm, ?_⟩
      rw [sgD_eq]
      refine ⟨_, eD, by rw [List.length_map, List.length_map, List.length_take]; exact small1000 (by omega), fun c o e => ?_, ?_⟩
      · rw [upd_ne (ne_of_none e hD)]
        exact sm c o e
      · rw [upd_same, all_snoc _ hLi, List.map_append]
        rfl
    · obtain ⟨sm, eD⟩ := h'
      rw [lx, List.take_length] at eD
      refine ⟨D, _, rfl, lstAt eD, ?_⟩
      have e : ((Ls.map fun L => decide (sg nm L = sg nm M)).all id) = knownB nm Ls := by
        unfold knownB
        rw [eh, List.all_map]
        rfl
      rw [e]
      exact q H' sm
def spParts (K : PySem.W.Frag) : Sp := fun vs H Q _ => ∃ (v u : V) (h : List (List Int)) (n : Nat) (Ls : List (List Int)) (p : Int), vs = [v, u, .int p] ∧ TII K H v h ∧ Hb n h ∧ LsT K H u Ls ∧ (∀ L ∈ Ls, L.Perm (rg n)) ∧ Ls.length ≤ 24 ∧ InR n p ∧
  ∀ H' a xs, Same H H' → H' a = some (.lst xs) → Each (PT1 K H') xs (prts h n Ls p) → Q (.ref a) H'
theorem ok_parts (F : Df K mg "parts_shown" st_parts_shown ["habit", "layouts", "place"]) (B : Bu mg) (CO : Cal P w K mg base 1 "places_of_habit" (spPlacesOf K)) (CM : Cal P w K mg base 1 "move" (spMove K)) : Cal P w K mg base 2 "parts_shown" (spParts K) := by
  refine mkCal F sc_parts_shown (fun vs H Q E h => ?_) (fun f cdv A outer s H vs Q E hr h => ?_)
  · obtain ⟨v, u, h, n, Ls, p, rfl, _⟩ := h
    rfl
  · obtain ⟨v, u, h, n, Ls, p, rfl, hT, hb, ⟨al, ls, rfl, hS, hE⟩, hL, l24, hp, q⟩ := h
    refine ⟨_, pss_cons (ps_set (i := 3) sc_parts_shown.nd rfl (.inl rfl) (pe_lst pa_nil))
      (pss_cons (ps_for PassesOwn.never rfl (pi_tup (pc CO hr (pa_cons (pv 0) pa_nil))) (pg_name (i := 4) sc_parts_shown.nd rfl (Or.inr rfl)) (pss_cons (ps_set (i := 5) sc_parts_shown.nd rfl (.inl rfl) (pe_tupleOf (by rfl) B.tuple (pe_lc (own := [("layout", 6)]) (g := (gName 6))   rfl sc_parts_shown.nd (pi_tup (pv 1)) (blkOk_by (N := ["habit", "layouts", "place", "parts", "book", "left", "layout"]) (sc := (defScope st_parts_shown)) (by decide +kernel)) (fun _ _ _ _ _ => (pg_name (i := 6) sc_parts_shown.nd rfl (Or.inl rfl))) (fun _ _ _ _ _ => (pts_one (pt_cmpR op_eq (pe_ix (ixT K) (pv 6) (pv 4) (fun _ _ => rfl)) (pv 2) (nomark _)))) (fun _ _ _ _ _ => (pc CM hr (pa_cons (pv 0) (pa_cons (pv 6) (pa_cons (pv 2) pa_nil))))))))
      (pss_one (ps_if (pt_truth (pv 5) (by intro _; rfl)) (pss_one (ps_expr (pe_bm PySem.F.plainAttrs_list PySem.F.slot_list_append PySem.F.type_list_append mt_append (pv 3) (pa_cons (pe_tup (pa_cons (pv 4) (pa_cons (pv 5) pa_nil))) pa_nil)))) pss_nil))))
      (pss_one (ps_ret (pv 3)))), ?_⟩
    have n5 := hb.hi
    have n2 := hb.lo
    have ll := hE.len
    refine ⟨Nat.zero_le _, fun F0 hF => ?_⟩
    have sF := same_new (o := .lst []) hF
    refine ⟨_, rfl, v, h, n, rfl, hT.on (Same.tups sF), hb, fun t ht => ?_⟩
    have st := same_new (o := .tup ((rg n).map V.int)) ht
    refine ⟨t, rfl, ⟨_, tupAt upd_same⟩, ?_⟩
    refine for_tup (xs := (rg n).map V.int) (fun i σ H' => ∃ xs y4 y5 y6, σ = [some v, some (.ref al), some (.int p), some (.ref F0), y4, y5, y6] ∧ Same H H' ∧ H' t = some (.tup ((rg n).map V.int)) ∧ H' F0 = some (.lst xs) ∧ Each (PT1 K H') xs (((rg n).take i).filterMap (partO h Ls p)))
      ⟨[], none, none, none, rfl, sF.trans st, upd_same, st _ _ upd_same, .nil⟩ (fun i σ H' _ h' => tupAt h'.choose_spec.choose_spec.choose_spec.choose_spec.2.2.1) (fun i x σ H' hx h' => ?_) (fun σ H' h' => ?_)
    · obtain ⟨xs, y4, y5, y6, rfl, sm, et, eF, hX⟩ := h'
      obtain ⟨b, hbi, rfl⟩ := map_at hx
      have rb : InR n b := rg_mem.mp (List.mem_of_getElem? hbi)
      have more : ((rg n).take (i + 1)).filterMap (partO h Ls p) = ((rg n).take i).filterMap (partO h Ls p) ++ (if (partL h Ls p b).isEmpty = true then [] else [(b, partL h Ls p b)]) := by
        rw [List.take_add_one, hbi, List.filterMap_append]
        show _ ++ List.filterMap _ [b] = _
        unfold partO
        rw [List.filterMap_cons]
        split
        · rename_i e
          split at e
          · rename_i e2
            rw [if_pos e2]
            rfl
          · cases e
        · rename_i e
          split at e
          · cases e
          · rename_i e2
            rw [if_neg e2, ← Option.some.inj e]
            rfl
      have lxs : xs.length ≤ 5 := by
        have h1 := hX.len
        have h2 := List.length_filterMap_le (partO h Ls p) ((rg n).take i)
        rw [List.length_take, rg_len] at h2
        omega
      refine ⟨_, rfl, al, rfl, ⟨_, onT sm hS⟩, fun D hD => ?_⟩
      refine lc_tup (xs := ls) (fun j H2 => Same H' H2 ∧ ∃ us, H2 D = some (.lst us) ∧ Each (TIF H2) us (partL h (Ls.take j) p b)) ⟨same_new hD, [], upd_same, .nil⟩ (fun j H2 _ h2 => onT (sm.trans h2.1) hS) (fun j x H2 hx h2 => ?_) (fun H2 h2 => ?_)
      · obtain ⟨s2, us, eD, hU⟩ := h2
        obtain ⟨L, hLj, c, rfl, fL⟩ := hE.at hx
        have pL := hL L (List.mem_of_getElem? hLj)
        have fL2 := fL.same (sm.trans s2)
        have eb := getD_perm pL rb
        refine ⟨rfl, _, rfl, _, rfl, c, _, b, _, rfl, rfl, fL2.sqT, at_int rb.1 (at_map eb), _, rfl, rfl, _, rfl, ?_⟩
        rw [V_int]
        refine ite2 (fun e => ?_) (fun e => ?_)
        · have e := of_decide_eq_true e
          refine ⟨_, rfl, _, rfl, _, rfl, v, h, n, c, L, p, rfl, hT.on (Same.tups (sm.trans s2)), hb, fL2.sqT, fun i hi => perm_in pL hi, by rw [perm_len pL]; omega, hp, fun H3 q3 s3 _ f3 => ⟨us, s3 _ _ eD, ?_, fun c o e => ?_, us ++ [.ref q3], upd_same, ?_⟩⟩
          · have h1 := hU.len
            have h2 := partL_len (h := h) (Ls := Ls.take j) (p := p) (b := b)
            rw [List.length_take] at h2
            exact small1000 (by omega)
          · rw [upd_ne (ne_of_none e hD)]
            exact s3 _ _ (s2 _ _ e)
          · rw [partL_more hLj, if_pos e]
            have fx : Fix H3 (upd H3 D (.lst (us ++ [.ref q3]))) := Fix.lst (s3 _ _ eD)
            exact Each.snoc ⟨q3, rfl, f3.fix fx⟩ (hU.imp fun _ _ z => (z.same s3).fix fx)
        · have e : ¬ L.getD b.toNat 0 = p := fun z => e (decide_eq_true z)
          refine ⟨s2, us, eD, ?_⟩
          rw [partL_more hLj, if_neg e, List.append_nil]
          exact hU
      · obtain ⟨s2, us, eD, hU⟩ := h2
        rw [ll, List.take_length] at hU
        refine .inl ⟨D, us, rfl, lstAt eD, fun t5 ht5 => ?_⟩
        have s5 := same_new (o := .tup us) ht5
        have s25 := s2.trans s5
        have hU5 := hU.imp fun _ _ z => z.same s5
        have lu := hU.len
        cases us with
        | nil =>
          have e0 : partL h Ls p b = [] := List.length_eq_zero_iff.mp lu.symm
          refine ⟨_, rfl, false, .inr (.inl ⟨_, tupAt upd_same, rfl⟩), ifF rfl ⟨xs, _, _, _, rfl, sm.trans s25, s25 _ _ et, s25 _ _ eF, ?_⟩⟩
          rw [more, e0, if_pos (show List.isEmpty ([] : List (List Int)) = true from rfl), List.append_nil]
          exact hX.imp fun _ _ z => z.same s25
        | cons c us =>
          have e0 : (partL h Ls p b).isEmpty = false := by
            cases e : partL h Ls p b with
            | nil => rw [e] at lu; cases lu
            | cons _ _ => rfl
          refine ⟨_, rfl, true, .inr (.inl ⟨_, tupAt upd_same, rfl⟩), ifT rfl ⟨_, rfl, .inl ⟨rfl, _, lstAt (s25 _ _ eF)⟩, _, rfl, _, rfl, by show 2 ≤ sizeLine; decide, fun t6 ht6 => ?_⟩⟩
          have s6 := same_new (o := .tup [.int b, .ref t5]) ht6
          have s26 := s25.trans s6
          have eF6 := s26 _ _ eF
          have fx : Fix (upd (upd H2 t5 (.tup (c :: us))) t6 (.tup [.int b, .ref t5])) (upd (upd (upd H2 t5 (.tup (c :: us))) t6 (.tup [.int b, .ref t5])) F0 (.lst (xs ++ [.ref t6]))) := Fix.lst eF6
          have nt : ∀ {a : Addr} {ys : List V} {o : HO}, (upd (upd H2 t5 (.tup (c :: us))) t6 (.tup [.int b, .ref t5])) a = some (.tup ys) → (upd (upd (upd H2 t5 (.tup (c :: us))) t6 (.tup [.int b, .ref t5])) F0 o) a = some (.tup ys) := fun {a ys o} e => by
            rw [upd_ne (fun z => by rw [z, eF6] at e; cases e)]
            exact e
          refine ⟨F0, xs, _, rfl, rfl, eF6, small1000 (by omega), xs ++ [.ref t6], _, _, _, rfl, fun a o e => ?_, nt (s26 _ _ et), upd_same, ?_⟩
          · rw [upd_ne (ne_of_none e hF)]
            exact s26 _ _ (sm _ _ e)
          · rw [more, e0, if_neg (by decide)]
            have fixP : ∀ {v : V} {x : Int × List (List Int)}, PT1 K _ v x → PT1 K (upd (upd (upd H2 t5 (.tup (c :: us))) t6 (.tup [.int b, .ref t5])) F0 (.lst (xs ++ [.ref t6]))) v x := fun ⟨t, u, h1, h2, ⟨a, ys, h3, h4, h5⟩⟩ => ⟨t, u, h1, fx.tups _ _ h2, a, ys, h3, fx.tups _ _ h4, h5.imp fun _ _ z => z.fix fx⟩
            refine Each.snoc ?_ (hX.imp fun _ _ z => fixP (z.same s26))
            exact fixP ⟨t6, _, rfl, tupAt upd_same, t5, _, rfl, tupAt (s6 _ _ upd_same), hU5.imp fun _ _ z => z.same s6⟩
    · obtain ⟨xs, y4, y5, y6, rfl, sm, et, eF, hX⟩ := h'
      rw [List.length_map, List.take_length] at hX
      exact ⟨_, rfl, q H' F0 xs sm eF hX⟩
end
end RH
set_option Elab.async false
set_option linter.all false
set_option maxRecDepth 100000
set_option maxHeartbeats 2000000
namespace RH
open PySem PySem.Spec PyProof.Rows L2
/-! ### the fewest looks -/
def lkD (x : Nat × PyData) : PyData := .tuple [.int (x.1 : Int), x.2]
theorem dp_pair {K : PySem.W.Frag} {H : Hp} {v : V} {i : Int} {d : PyData} (h : Dp K H v (.tuple [.int i, d])) : ∃ a u, v = .ref a ∧ SqT K H a [.int i, u] ∧ Dp K H u d := by
  cases h with
  | tup hS hA =>
    cases hA with
    | cons h1 h2 =>
      cases h1
      cases h2 with
      | cons h3 h4 =>
        cases h4
        exact ⟨_, _, rfl, hS, h3⟩
def BV (K : PySem.W.Frag) (H : Hp) (bv : V) (best : Option (Nat × PyData)) : Prop := match best with
  | none => bv = .non
  | some r => Dp K H bv (lkD r)
theorem BV.same {K : PySem.W.Frag} {H H' : Hp} (s : Same H H') {bv : V} {best : Option (Nat × PyData)} (h : BV K H bv best) : BV K H' bv best := by
  cases best with
  | none => exact h
  | some r => exact Dp.on s _ _ h
def BW (K : PySem.W.Frag) (H : Hp) (bv : V) (best : Option (Nat × PyData)) : Prop := match best with
  | none => bv = .non
  | some r => ∃ t u, bv = .ref t ∧ SqT K H t [.int (r.1 : Int), u]
theorem BV.bw {K : PySem.W.Frag} {H : Hp} {bv : V} {best : Option (Nat × PyData)} (h : BV K H bv best) : BW K H bv best := by
  cases best with
  | none => exact h
  | some r =>
    obtain ⟨a, u, e, hS, _⟩ := dp_pair h
    exact ⟨a, u, e, hS⟩
/-- is it better? -/
theorem better {K : PySem.W.Frag} {σ : L2.St} {H : Hp} {i j : Nat} {bv : V} {best : Option (Nat × PyData)} {d : Nat} {Q : Bool → Hp → Prop} (hi : σ[i]? = some (some bv)) (hj : σ[j]? = some (some (.int (d : Int)))) (hb : BW K H bv best) (q : Q (best.all fun b => decide (d < b.1)) H) :
    tOr (tB (tIsN (tVar i))) (tTest (tOp (rI0 fun i j => .bl (decide (i < j))) (tVar j) (tOp (rIxT K) (tVar i) (tC (.int 0))))) σ H Q := by
  cases best with
  | none =>
    have hb : bv = .non := hb
    subst hb
    exact ⟨_, hi, _, rfl, ifT rfl q⟩
  | some r =>
    obtain ⟨a, u, rfl, hS⟩ := hb
    refine ⟨_, hi, _, rfl, ifF rfl ⟨_, hj, _, hi, a, _, 0, .int (r.1 : Int), rfl, rfl, hS, rfl, _, _, rfl, rfl, _, rfl, ?_⟩⟩
    have e : decide ((d : Int) < (r.1 : Int)) = decide (d < r.1) := by
      rw [Bool.eq_iff_iff, decide_eq_true_iff, decide_eq_true_iff]
      omega
    rw [e]
    exact q
/-- data without lists -/
inductive NL : PyData → Prop
  | none : NL .none
  | bl (b : Bool) : NL (.bool b)
  | int (i : Int) : NL (.int i)
  | str (z : Str) : NL (.str z)
  | tup {ds : List PyData} : (∀ d ∈ ds, NL d) → NL (.tuple ds)
theorem NL.inv {ds : List PyData} (h : NL (.tuple ds)) : ∀ d ∈ ds, NL d := by
  cases h with
  | tup h => exact h
theorem Dp.fixN {K : PySem.W.Frag} {H H' : Hp} (f : Fix H H') {d : PyData} {v : V} (h : Dp K H v d) : NL d → Dp K H' v d := by
  refine Dp.rec (motive_1 := fun v d _ => NL d → Dp K H' v d) (motive_2 := fun vs ds _ => (∀ d ∈ ds, NL d) → DpAll K H' vs ds) (fun _ => .non) (fun b _ => .bl b) (fun i _ => .int i) (fun z _ => .str z) ?_ ?_ (fun _ => .nil) ?_ h
  · intro a xs ds hS hA ih n
    cases n
  · intro a xs ds hS hA ih n
    exact .tup (f.tups _ _ hS) (ih n.inv)
  · intro v vs d ds h1 h2 i1 i2 n
    exact .cons (i1 (n d (List.mem_cons_self ..))) (i2 fun e he => n e (List.mem_cons_of_mem _ he))
theorem NL.ints (L : List Int) : NL (.tuple (L.map PyData.int)) := .tup fun d hd => by
  obtain ⟨i, _, rfl⟩ := List.mem_map.mp hd
  exact .int i
theorem NL.sg (nm : Option Nat) (L : List Int) : NL (sgD nm L) := by
  cases nm with
  | none => exact .ints L
  | some k => exact .int _
theorem NL.pair {i : Int} {d : PyData} (h : NL d) : NL (.tuple [.int i, d]) := .tup fun e he => by
  rcases List.mem_cons.mp he with rfl | he
  · exact .int i
  · rw [List.mem_singleton.mp he]
    exact h
theorem NL.node {p : Int} {tr : List (Int × PyData)} (h : ∀ x ∈ tr, NL x.2) : NL (nodeD p tr) := .pair (.tup fun e he => by
  obtain ⟨x, hx, rfl⟩ := List.mem_map.mp he
  exact .pair (h x hx))
theorem nl_look (h : List (List Int)) (n : Nat) (nm : Option Nat) : ∀ (k : Nat) (Ls : List (List Int)), NL (look h n nm k Ls).2
  | 0, Ls => NL.sg nm _
  | k + 1, Ls => by
    show NL (if knownB nm Ls = true then _ else _ : Nat × PyData).2
    split
    · exact NL.sg nm _
    · show NL (((rg n).foldl (stepB h n (look h n nm k) Ls) none).getD (0, .none)).2
      cases e : (rg n).foldl (stepB h n (look h n nm k) Ls) none with
      | none => exact .none
      | some r =>
        rcases fold_is (rg n) e with z | ⟨p, _, _, rfl⟩
        · cases z
        · refine NL.node fun x hx => ?_
          obtain ⟨y, _, rfl⟩ := List.mem_map.mp hx
          exact nl_look h n nm k y.2
/-- what is told of a part: the book, its look -/
def TT1 (K : PySem.W.Frag) (H : Hp) (v : V) (x : Int × (Nat × PyData)) : Prop := ∃ t u, v = .ref t ∧ SqT K H t [.int x.1, u] ∧ Dp K H u (lkD x.2) ∧ NL x.2.2
theorem TT1.fix {K : PySem.W.Frag} {H H' : Hp} (s : Fix H H') {v : V} {x : Int × (Nat × PyData)} (h : TT1 K H v x) : TT1 K H' v x := let ⟨t, u, h1, h2, h3, h4⟩ := h; ⟨t, u, h1, s.tups _ _ h2, Dp.fixN s h3 (.pair h4), h4⟩
def TQ1 (K : PySem.W.Frag) (H : Hp) (v : V) (x : Int × PyData) : Prop := Dp K H v (.tuple [.int x.1, x.2]) ∧ NL x.2
theorem TQ1.fix {K : PySem.W.Frag} {H H' : Hp} (s : Fix H H') {v : V} {x : Int × PyData} (h : TQ1 K H v x) : TQ1 K H' v x := ⟨Dp.fixN s h.1 (.pair h.2), h.2⟩
theorem tq_all {K : PySem.W.Frag} {H : Hp} : ∀ {vs : List V} {l : List (Int × PyData)}, Each (TQ1 K H) vs l → DpAll K H vs (l.map fun x => .tuple [.int x.1, x.2])
  | _, _, .nil => .nil
  | _, _, .cons h t => .cons h.1 (tq_all t)
theorem keep_lst {H H' : Hp} {D : Addr} {o : HO} (sm : Same H H') (hD : H D = none) : Same H (upd H' D o) := fun c x e => by
  rw [upd_ne (ne_of_none e hD)]
  exact sm c x e
/-- a look as it stands: its tuple of parts has no dict -/
def NdV (K : PySem.W.Frag) (H : Hp) (h : List (List Int)) (n : Nat) (nm : Option Nat) (k : Nat) (G : List (List Int) → V → Prop) (Ls : List (List Int)) (v : V) (r : Nat × PyData) : Prop :=
  ∃ p a b xs ob, InR n p ∧ 1 < (prts h n Ls p).length ∧ r = (1 + dMax (look h n nm k) (prts h n Ls p), nodeD p ((prts h n Ls p).map fun x => (x.1, (look h n nm k x.2).2))) ∧ v = .ref a ∧ SqT K H a [.int p, .ref b] ∧
    H b = some (.frz ob (.tup xs)) ∧ ob.dict = none ∧ Each (fun w x => ∃ t u, w = .ref t ∧ SqT K H t [.int x.1, u] ∧ G x.2 u) xs (prts h n Ls p)
def LkV (K : PySem.W.Frag) (H : Hp) (h : List (List Int)) (n : Nat) (nm : Option Nat) : Nat → List (List Int) → V → Prop
  | 0 => fun Ls v => Dp K H v (sgD nm (Ls.headD []))
  | k + 1 => fun Ls v => (knownB nm Ls = true ∧ Dp K H v (sgD nm (Ls.headD []))) ∨ (knownB nm Ls = false ∧ NdV K H h n nm k (LkV K H h n nm k) Ls v (look h n nm (k + 1) Ls))
theorem NdV.fix {K : PySem.W.Frag} {H H' : Hp} {h : List (List Int)} {n : Nat} {nm : Option Nat} {k : Nat} {G G' : List (List Int) → V → Prop} {Ls : List (List Int)} {v : V} {r : Nat × PyData} (f : Fix H H') (g : ∀ l u, G l u → G' l u) (q : NdV K H h n nm k G Ls v r) : NdV K H' h n nm k G' Ls v r := by
  obtain ⟨p, a, b, xs, ob, h1, h2, h3, h4, h5, h6, h7, h8⟩ := q
  exact ⟨p, a, b, xs, ob, h1, h2, h3, h4, f.tups _ _ h5, f _ _ h6 (fun _ z => by cases z), h7, h8.imp fun w x ⟨t, u, e1, e2, e3⟩ => ⟨t, u, e1, f.tups _ _ e2, g _ _ e3⟩⟩
theorem LkV.fix {K : PySem.W.Frag} {H H' : Hp} {h : List (List Int)} {n : Nat} {nm : Option Nat} (f : Fix H H') : ∀ (k : Nat) (Ls : List (List Int)) (v : V), LkV K H h n nm k Ls v → LkV K H' h n nm k Ls v
  | 0, Ls, v, q => Dp.fixN f q (NL.sg nm _)
  | k + 1, Ls, v, q => by
    rcases q with ⟨e, q⟩ | ⟨e, q⟩
    · exact .inl ⟨e, Dp.fixN f q (NL.sg nm _)⟩
    · exact .inr ⟨e, q.fix f fun l u z => LkV.fix f k l u z⟩
theorem look_known {h : List (List Int)} {n : Nat} {nm : Option Nat} {k : Nat} {Ls : List (List Int)} (hk : knownB nm Ls = true) : look h n nm k Ls = (0, sgD nm (Ls.headD [])) := by
  cases k with
  | zero => rfl
  | succ k =>
    show (if knownB nm Ls = true then _ else _) = _
    rw [if_pos hk]
theorem NdV.dp {K : PySem.W.Frag} {H : Hp} {h : List (List Int)} {n : Nat} {nm : Option Nat} {k : Nat} {G : List (List Int) → V → Prop} {Ls : List (List Int)} {v : V} {r : Nat × PyData} (g : ∀ l u, G l u → Dp K H u (look h n nm k l).2) (q : NdV K H h n nm k G Ls v r) : Dp K H v r.2 := by
  obtain ⟨p, a, b, xs, ob, h1, h2, rfl, rfl, h5, h6, h7, h8⟩ := q
  refine .tup h5 (.cons (.int _) (.cons (.tup (.inl (.inr ⟨ob, h6⟩)) ?_) .nil))
  clear h2 h6
  generalize prts h n Ls p = ps at h8
  induction h8 with
  | nil => exact .nil
  | cons e _ ih =>
    obtain ⟨t, u, rfl, e2, e3⟩ := e
    exact .cons (.tup e2 (.cons (.int _) (.cons (g _ _ e3) .nil))) ih
theorem LkV.dp {K : PySem.W.Frag} {H : Hp} {h : List (List Int)} {n : Nat} {nm : Option Nat} : ∀ (k : Nat) (Ls : List (List Int)) (v : V), LkV K H h n nm k Ls v → Dp K H v (look h n nm k Ls).2
  | 0, Ls, v, q => q
  | k + 1, Ls, v, q => by
    rcases q with ⟨e, q⟩ | ⟨e, q⟩
    · rw [look_known e]
      exact q
    · exact q.dp fun l u z => LkV.dp k l u z
/-- what is told of a part, its look as it stands -/
def TL1 (K : PySem.W.Frag) (H : Hp) (h : List (List Int)) (n : Nat) (nm : Option Nat) (k : Nat) (v : V) (x : Int × List (List Int)) : Prop := ∃ t t2 u, v = .ref t ∧ SqT K H t [.int x.1, .ref t2] ∧ SqT K H t2 [.int ((look h n nm k x.2).1 : Int), u] ∧ LkV K H h n nm k x.2 u
theorem TL1.fix {K : PySem.W.Frag} {H H' : Hp} {h : List (List Int)} {n : Nat} {nm : Option Nat} {k : Nat} (s : Fix H H') {v : V} {x : Int × List (List Int)} (q : TL1 K H h n nm k v x) : TL1 K H' h n nm k v x := let ⟨t, t2, u, h1, h2, h3, h4⟩ := q; ⟨t, t2, u, h1, s.tups _ _ h2, s.tups _ _ h3, h4.fix s k _ _⟩
def TR1 (K : PySem.W.Frag) (H : Hp) (h : List (List Int)) (n : Nat) (nm : Option Nat) (k : Nat) (v : V) (x : Int × List (List Int)) : Prop := ∃ t u, v = .ref t ∧ SqT K H t [.int x.1, u] ∧ LkV K H h n nm k x.2 u
theorem TR1.fix {K : PySem.W.Frag} {H H' : Hp} {h : List (List Int)} {n : Nat} {nm : Option Nat} {k : Nat} (s : Fix H H') {v : V} {x : Int × List (List Int)} (q : TR1 K H h n nm k v x) : TR1 K H' h n nm k v x := let ⟨t, u, h1, h2, h4⟩ := q; ⟨t, u, h1, s.tups _ _ h2, h4.fix s k _ _⟩
def BL (K : PySem.W.Frag) (H : Hp) (h : List (List Int)) (n : Nat) (nm : Option Nat) (k : Nat) (Ls : List (List Int)) (bv : V) (best : Option (Nat × PyData)) : Prop := match best with
  | none => bv = .non
  | some r => ∃ t u, bv = .ref t ∧ SqT K H t [.int (r.1 : Int), u] ∧ NdV K H h n nm k (LkV K H h n nm k) Ls u r
theorem BL.same {K : PySem.W.Frag} {H H' : Hp} {h : List (List Int)} {n : Nat} {nm : Option Nat} {k : Nat} {Ls : List (List Int)} (s : Same H H') {bv : V} {best : Option (Nat × PyData)} (q : BL K H h n nm k Ls bv best) : BL K H' h n nm k Ls bv best := by
  cases best with
  | none => exact q
  | some r =>
    obtain ⟨t, u, h1, h2, h3⟩ := q
    exact ⟨t, u, h1, onT s h2, h3.fix (Fix.same s) fun l u z => z.fix (Fix.same s) k l u⟩
theorem BL.bw {K : PySem.W.Frag} {H : Hp} {h : List (List Int)} {n : Nat} {nm : Option Nat} {k : Nat} {Ls : List (List Int)} {bv : V} {best : Option (Nat × PyData)} (q : BL K H h n nm k Ls bv best) : BW K H bv best := by
  cases best with
  | none => exact q
  | some r =>
    obtain ⟨t, u, h1, h2, _⟩ := q
    exact ⟨t, u, h1, h2⟩
section
variable {P : Program} {w : World} {K : PySem.W.Frag} {mg : Str → Option Value} {base : Heap}
structure GK (K : PySem.W.Frag) (H : Hp) (v u nv : V) (h : List (List Int)) (n : Nat) (Ls : List (List Int)) (nm : Option Nat) : Prop where
  hT : TII K H v h
  hb : Hb n h
  hLs : LsT K H u Ls
  hL : ∀ L ∈ Ls, L.Perm (rg n)
  l1 : 1 ≤ Ls.length
  hn : NmV nv n nm
theorem GK.same {H H' : Hp} (s : Same H H') {v u nv : V} {h : List (List Int)} {n : Nat} {Ls : List (List Int)} {nm : Option Nat} (g : GK K H v u nv h n Ls nm) : GK K H' v u nv h n Ls nm := ⟨g.hT.on (Same.tups s), g.hb, g.hLs.same s, g.hL, g.l1, g.hn⟩
def spLook (K : PySem.W.Frag) (k : Nat) : Sp := fun vs H Q _ => ∃ (v u nv : V) (h : List (List Int)) (n : Nat) (Ls : List (List Int)) (nm : Option Nat), vs = [v, u, nv] ∧ GK K H v u nv h n Ls nm ∧ Ls.length ≤ k + 1 ∧ k ≤ 23 ∧ ∀ H' y, Same H H' → (∃ t u, y = .ref t ∧ SqT K H' t [.int ((look h n nm k Ls).1 : Int), u] ∧ LkV K H' h n nm k Ls u) → Q y H'
theorem known_one {nm : Option Nat} {Ls : List (List Int)} (h : Ls.length ≤ 1) : knownB nm Ls = true := by
  match Ls, h with
  | [], _ => rfl
  | [L], _ =>
    unfold knownB
    simp
theorem ok_look0 (F : Df K mg "least_looks_for" st_least_looks_for ["habit", "layouts", "name"]) (B : Bu mg) (CK : Cal P w K mg base 2 "is_known" (spKnown K)) (CSo : Cal P w K mg base 1 "sought_in" (spSought K)) : Cal P w K mg base 3 "least_looks_for" (spLook K 0) := by
  refine mkCal F sc_least_looks_for (fun vs H Q E h => ?_) (fun f cdv A outer s H vs Q E hr h => ?_)
  · obtain ⟨v, u, nv, h, n, Ls, nm, rfl, _⟩ := h
    rfl
  · obtain ⟨v, u, nv, h, n, Ls, nm, rfl, g, l1, _, q⟩ := h
    refine ⟨_, pss_cons (ps_if (pt_val (pc CK hr (pa_cons (pv 1) (pa_cons (pv 2) pa_nil)))) (pss_one (ps_ret (pe_tup (pa_cons pe_int (pa_cons (pc CSo hr (pa_cons (pe_ix (ixT K) (pv 1) pe_int (fun _ _ => rfl)) (pa_cons (pv 2) pa_nil))) pa_nil))))) pss_nil) (pss_cons ps_no (pss_cons ps_no (pss_one ps_no))), ?_⟩
    have hk := known_one (nm := nm) l1
    have n5 := g.hb.hi
    refine ⟨_, rfl, _, rfl, u, Ls, n, nv, nm, rfl, g.hLs, g.hL, n5, g.l1, by omega, g.hn, fun H1 s1 => ⟨_, rfl, ifT hk ?_⟩⟩
    obtain ⟨a, xs, rfl, hS, hE⟩ := (g.same s1).hLs
    obtain ⟨M, hM⟩ : ∃ M, Ls[0]? = some M := ⟨_, List.getElem?_eq_getElem g.l1⟩
    obtain ⟨x0, hx0, b0, rfl, f0⟩ := hE.of hM
    have eh : Ls.headD [] = M := by
      cases Ls with
      | nil => cases hM
      | cons c r => exact Option.some.inj hM
    refine ⟨_, rfl, a, xs, 0, .ref b0, rfl, rfl, hS, atI_nat (j := 0) hx0, _, rfl, b0, M, n, nv, nm, rfl, f0.sqT, g.hL M (List.mem_of_getElem? hM), g.hn, by show 2 ≤ sizeLine; decide, fun t ht => ?_⟩
    have st := same_new (o := .tup [.int 0, soV nm b0 M]) ht
    refine q _ _ (s1.trans st) ?_
    refine ⟨t, _, rfl, tupAt upd_same, ?_⟩
    show Dp K _ _ (sgD nm (Ls.headD []))
    rw [eh]
    exact Dp.on st _ _ (soV_dp f0.sqT nm)
theorem ok_lookS (k : Nat) (F : Df K mg "least_looks_for" st_least_looks_for ["habit", "layouts", "name"]) (B : Bu mg) (CK : Cal P w K mg base 2 "is_known" (spKnown K)) (CSo : Cal P w K mg base 1 "sought_in" (spSought K)) (CO : Cal P w K mg base 1 "places_of_habit" (spPlacesOf K)) (CPs : Cal P w K mg base 2 "parts_shown" (spParts K))
    (C : Cal P w K mg base (k + 3) "least_looks_for" (spLook K k)) : Cal P w K mg base (k + 4) "least_looks_for" (spLook K (k + 1)) := by
  refine mkCal F sc_least_looks_for (fun vs H Q E h => ?_) (fun f cdv A outer s H vs Q E hr h => ?_)
  · obtain ⟨v, u, nv, h, n, Ls, nm, rfl, _⟩ := h
    rfl
  · obtain ⟨v, u, nv, h, n, Ls, nm, rfl, g, l2, k23, q⟩ := h
    refine ⟨_, pss_cons (ps_if (pt_val (pc CK hr (pa_cons (pv 1) (pa_cons (pv 2) pa_nil)) (hk := by omega))) (pss_one (ps_ret (pe_tup (pa_cons pe_int (pa_cons (pc CSo hr (pa_cons (pe_ix (ixT K) (pv 1) pe_int (fun _ _ => rfl)) (pa_cons (pv 2) pa_nil)) (hk := by omega)) pa_nil))))) pss_nil)
      (pss_cons (ps_set (i := 3) sc_least_looks_for.nd rfl (.inl rfl) pe_non)
      (pss_cons (ps_for PassesOwn.never rfl (pi_tup (pc CO hr (pa_cons (pv 0) pa_nil) (hk := by omega))) (pg_name (i := 4) sc_least_looks_for.nd rfl (Or.inl rfl)) (pss_cons (ps_set (i := 5) sc_least_looks_for.nd rfl (.inl rfl) (pc CPs hr (pa_cons (pv 0) (pa_cons (pv 1) (pa_cons (pv 4) pa_nil))) (hk := by omega)))
      (pss_one (ps_if (pt_cmpR op_gt (pe_callB (cl_len K) (by rfl) B.len PySem.boot_len (pa_cons (pv 5) pa_nil)) pe_int (nomark _)) (pss_cons (ps_setLc (i := 6) (own := [("book", 8), ("left", 9)]) (g := (gTup K 2 (gCons (gName 8) (gCons (gName 9) gNil)))) (tt := tYes)  rfl sc_least_looks_for.nd rfl rfl (sw_true rfl rfl rfl (by decide +kernel)) (pi_list (pv 5)) (blkOk_by (N := ["habit", "layouts", "name", "best", "place", "parts", "told", "depth", "book", "left", "_", "least"]) (sc := (defScope st_least_looks_for)) (by decide +kernel)) (fun _ _ _ _ _ => (pg_tup rfl (pgs_cons (pg_name (i := 8) sc_least_looks_for.nd rfl (Or.inl rfl)) (pgs_cons (pg_name (i := 9) sc_least_looks_for.nd rfl (Or.inl rfl)) pgs_nil)))) (fun _ _ _ _ _ => pts_nil) (fun _ _ _ _ _ => (pe_tup (pa_cons (pv 8) (pa_cons (pc C hr (pa_cons (pv 0) (pa_cons (pv 9) (pa_cons (pv 2) pa_nil))) (hk := by omega)) pa_nil)))))
      (pss_cons (ps_set (i := 7) sc_least_looks_for.nd rfl (.inl rfl) (pe_op op_add pe_int (pe_callB (cr_max rfl) (by rfl) B.max (by decide +kernel) (pa_cons (pe_lc (own := [("_", 10), ("least", 11)]) (g := (gTup K 2 (gCons (gName 10) (gCons (gName 11) gNil)))) (tt := tYes)  rfl sc_least_looks_for.nd (pi_list (pv 6)) (blkOk_by (N := ["habit", "layouts", "name", "best", "place", "parts", "told", "depth", "book", "left", "_", "least"]) (sc := (defScope st_least_looks_for)) (by decide +kernel)) (fun _ _ _ _ _ => (pg_tup rfl (pgs_cons (pg_name (i := 10) sc_least_looks_for.nd rfl (Or.inl rfl)) (pgs_cons (pg_name (i := 11) sc_least_looks_for.nd rfl (Or.inl rfl)) pgs_nil)))) (fun _ _ _ _ _ => pts_nil) (fun _ _ _ _ _ => (pe_ix (ixT K) (pv 11) pe_int (fun _ _ => rfl)))) pa_nil))))
      (pss_one (ps_if (PW.pt (pw_or (pt_cmp (pc_isN (pv 3))) (pw_or1 (pt_cmpR op_lt (pv 7) (pe_ix (ixT K) (pv 3) pe_int (fun _ _ => rfl)) (nomark _))))) (pss_one (ps_set (i := 3) sc_least_looks_for.nd rfl (.inl rfl) (pe_tup (pa_cons (pv 7) (pa_cons (pe_tup (pa_cons (pv 4) (pa_cons (pe_tupleF (by rfl) B.tuple (pe_lc (own := [("book", 8), ("least", 11)]) (g := (gTup K 2 (gCons (gName 8) (gCons (gName 11) gNil)))) (tt := tYes)  rfl sc_least_looks_for.nd (pi_list (pv 6)) (blkOk_by (N := ["habit", "layouts", "name", "best", "place", "parts", "told", "depth", "book", "left", "_", "least"]) (sc := (defScope st_least_looks_for)) (by decide +kernel)) (fun _ _ _ _ _ => (pg_tup rfl (pgs_cons (pg_name (i := 8) sc_least_looks_for.nd rfl (Or.inl rfl)) (pgs_cons (pg_name (i := 11) sc_least_looks_for.nd rfl (Or.inl rfl)) pgs_nil)))) (fun _ _ _ _ _ => pts_nil) (fun _ _ _ _ _ => (pe_tup (pa_cons (pv 8) (pa_cons (pe_ix (ixT K) (pv 11) pe_int (fun _ _ => rfl)) pa_nil)))))) pa_nil))) pa_nil))))) pss_nil)))) pss_nil))))
      (pss_one (ps_ret (pv 3))))), ?_⟩
    have n5 := g.hb.hi
    have n2 := g.hb.lo
    refine ⟨_, rfl, _, rfl, u, Ls, n, nv, nm, rfl, g.hLs, g.hL, n5, g.l1, by omega, g.hn, fun H1 s1 => ⟨_, rfl, ?_⟩⟩
    cases hk : knownB nm Ls with
    | true =>
      refine ifT rfl ?_
      obtain ⟨a, xs, rfl, hS, hE⟩ := (g.same s1).hLs
      obtain ⟨M, hM⟩ : ∃ M, Ls[0]? = some M := ⟨_, List.getElem?_eq_getElem g.l1⟩
      obtain ⟨x0, hx0, b0, rfl, f0⟩ := hE.of hM
      have eh : Ls.headD [] = M := by
        cases Ls with
        | nil => cases hM
        | cons c r => exact Option.some.inj hM
      refine ⟨_, rfl, a, xs, 0, .ref b0, rfl, rfl, hS, atI_nat (j := 0) hx0, _, rfl, b0, M, n, nv, nm, rfl, f0.sqT, g.hL M (List.mem_of_getElem? hM), g.hn, by show 2 ≤ sizeLine; decide, fun t ht => ?_⟩
      have st := same_new (o := .tup [.int 0, soV nm b0 M]) ht
      refine q _ _ (s1.trans st) ?_
      refine ⟨t, _, rfl, by rw [look_known hk]; exact tupAt upd_same, .inl ⟨hk, ?_⟩⟩
      rw [eh]
      exact Dp.on st _ _ (soV_dp f0.sqT nm)
    | false =>
      obtain ⟨_, _, _, hr1, _⟩ := look_node (h := h) (k := k) g.hL hk
      refine ifF rfl ?_
      have g1 := g.same s1
      refine ⟨_, rfl, v, h, n, rfl, g1.hT, g1.hb, fun t ht => ?_⟩
      have st := same_new (o := .tup ((rg n).map V.int)) ht
      refine ⟨t, rfl, ⟨_, tupAt upd_same⟩, ?_⟩
      refine for_tup (xs := (rg n).map V.int) (fun i σ H' => ∃ bv y4 y5 y6 y7 y8 y9 y10 y11, σ = [some v, some u, some nv, some bv, y4, y5, y6, y7, y8, y9, y10, y11] ∧ Same H H' ∧ H' t = some (.tup ((rg n).map V.int)) ∧ BL K H' h n nm k Ls bv (((rg n).take i).foldl (stepB h n (look h n nm k) Ls) none))
        ⟨.non, none, none, none, none, none, none, none, none, rfl, s1.trans st, upd_same, rfl⟩ (fun i σ H' _ h' => by obtain ⟨_, _, _, _, _, _, _, _, _, _, _, z, _⟩ := h'; exact tupAt z) (fun i x σ H' hx h' => ?_) (fun σ H' h' => ?_)
      · obtain ⟨bv, y4, y5, y6, y7, y8, y9, y10, y11, rfl, sm, et, hB⟩ := h'
        obtain ⟨p, hpi, rfl⟩ := map_at hx
        have rp : InR n p := rg_mem.mp (List.mem_of_getElem? hpi)
        have more : ((rg n).take (i + 1)).foldl (stepB h n (look h n nm k) Ls) none = stepB h n (look h n nm k) Ls (((rg n).take i).foldl (stepB h n (look h n nm k) Ls) none) p := by
          rw [List.take_add_one, hpi, List.foldl_append]
          rfl
        generalize ((rg n).take i).foldl (stepB h n (look h n nm k) Ls) none = best at hB more
        have gm := g.same sm
        refine ⟨_, rfl, _, rfl, _, rfl, v, u, h, n, Ls, p, rfl, gm.hT, gm.hb, gm.hLs, gm.hL, by omega, rp, fun H2 ap xs s2 ea hX => ?_⟩
        have lX := hX.len
        have few : xs.length ≤ 5 := by
          have h2 := List.length_filterMap_le (partO h Ls p) (rg n)
          rw [rg_len] at h2
          unfold prts at lX
          omega
        refine ⟨_, rfl, ap, _, rfl, .inl (lstAt ea), _, _, rfl, rfl, _, rfl, ite2 (fun e => ?_) (fun e => ?_)⟩
        · have e := of_decide_eq_true e
          have hs : 1 < (prts h n Ls p).length := by omega
          have less : ∀ x ∈ prts h n Ls p, x.2.length < Ls.length ∧ 1 ≤ x.2.length ∧ ∀ L ∈ x.2, L.Perm (rg n) := fun x hx => by
            have m := prts_mem.mp hx
            refine ⟨prts_less g.hL hs hx, List.length_pos_iff.mpr m.2.2, ?_⟩
            rw [m.2.1]
            exact partL_perm g.hb rp g.hL
          have sm2 := sm.trans s2
          -- told
          refine ⟨_, rfl, ap, rfl, ⟨_, lstAt ea⟩, fun D hD => ?_⟩
          refine lc_list (xs := xs) (fun j H3 => Same H2 H3 ∧ ∃ us, H3 D = some (.lst us) ∧ Each (TL1 K H3 h n nm k) us ((prts h n Ls p).take j)) ⟨same_new hD, [], upd_same, .nil⟩ (fun j H3 _ h3 => lstAt (h3.1 _ _ ea)) (fun j x H3 hx h3 => ?_) (fun H3 h3 => ?_)
          · obtain ⟨s3, us, eD, hU⟩ := h3
            obtain ⟨pt, hpj, t1, u1, rfl, hS1, hL1⟩ := hX.at hx
            have lp := less pt (List.mem_of_getElem? hpj)
            refine ⟨t1, _, rfl, onT s3 hS1, rfl, _, _, rfl, _, _, rfl, rfl, rfl, ?_⟩
            refine ⟨_, rfl, _, rfl, _, rfl, _, rfl, v, u1, nv, h, n, pt.2, nm, rfl, ⟨(g.same (sm2.trans s3)).hT, g.hb, hL1.same s3, lp.2.2, lp.2.1, g.hn⟩, by omega, by omega, fun H5 y s5 ⟨t2, u2, ey, hy1, hy2⟩ => ⟨by show 2 ≤ sizeLine; decide, fun t7 ht7 => ?_⟩⟩
            have s7 := same_new (o := .tup [.int pt.1, .ref t2]) ht7
            have eD7 := s7 _ _ (s5 _ _ eD)
            have lU := hU.len
            rw [List.length_take] at lU
            subst ey
            have fx : Fix _ (upd (upd H5 t7 (.tup [.int pt.1, .ref t2])) D (.lst (us ++ [.ref t7]))) := Fix.lst eD7
            have f5 : Fix H3 (upd H5 t7 (.tup [.int pt.1, .ref t2])) := Fix.same (s5.trans s7)
            refine ⟨us, eD7, small1000 (by omega), keep_lst (s3.trans (s5.trans s7)) hD, us ++ [.ref t7], upd_same, ?_⟩
            rw [List.take_add_one, hpj]
            exact Each.snoc ⟨t7, t2, u2, rfl, fx.tups _ _ (tupAt upd_same), ((Fix.same s7).trans fx).tups _ _ hy1, hy2.fix ((Fix.same s7).trans fx) k _ _⟩ (hU.imp fun _ _ z => z.fix (f5.trans fx))
          · obtain ⟨s3, us, eD, hU⟩ := h3
            rw [lX, List.take_length] at hU
            have lU := hU.len
            -- depth
            refine ⟨_, rfl, D, rfl, ⟨_, lstAt eD⟩, fun D2 hD2 => ?_⟩
            refine lc_list (xs := us) (fun j H4 => Same H3 H4 ∧ H4 D2 = some (.lst ((((prts h n Ls p).take j).map fun x => ((look h n nm k x.2).1 : Int)).map V.int))) ⟨same_new hD2, upd_same⟩ (fun j H4 _ h4 => lstAt (h4.1 _ _ eD)) (fun j x H4 hx h4 => ?_) (fun H4 h4 => ?_)
            · obtain ⟨s4, eD2⟩ := h4
              obtain ⟨pt, hpj, t1, a1, w1, rfl, hS1, hS2, _⟩ := hU.at hx
              refine ⟨t1, _, rfl, onT s4 hS1, rfl, _, _, rfl, _, _, rfl, rfl, rfl, ?_⟩
              refine ⟨_, rfl, a1, _, 0, _, rfl, rfl, onT s4 hS2, atI_nat (j := 0) rfl, _, eD2, ?_, keep_lst s4 hD2, ?_⟩
              · rw [List.length_map, List.length_map, List.length_take]
                exact small1000 (by omega)
              · rw [upd_same, List.take_add_one, hpj, List.map_append, List.map_append]
                rfl
            obtain ⟨s4, eD2⟩ := h4
            rw [lU, List.take_length] at eD2
            refine ⟨D2, _, rfl, lstAt eD2, by rw [List.length_map]; omega, fun m hm1 hm2 => ⟨1, m, rfl, rfl, ?_⟩⟩
            have em : 1 + m = ((1 + dMax (look h n nm k) (prts h n Ls p) : Nat) : Int) := by
              rw [dMax_is hm1 hm2]
              omega
            show gName 7 (V.int (1 + m)) _ _ _
            rw [em]
            have sm4 := sm2.trans (s3.trans s4)
            have s24 := s2.trans (s3.trans s4)
            refine better (i := 3) (j := 7) rfl rfl (hB.same s24).bw (ite2 (fun c => ?_) (fun c => ?_))
            · refine ⟨_, rfl, _, rfl, _, rfl, D, rfl, ⟨_, lstAt (s4 _ _ eD)⟩, fun D5 hD5 => ?_⟩
              have hU4 := hU.imp fun _ _ z => z.fix (Fix.same s4)
              refine lc_list (xs := us) (fun j H5 => Same H4 H5 ∧ ∃ ws, H5 D5 = some (.lst ws) ∧ Each (TR1 K H5 h n nm k) ws ((prts h n Ls p).take j)) ⟨same_new hD5, [], upd_same, .nil⟩ (fun j H5 _ h5 => lstAt (h5.1 _ _ (s4 _ _ eD))) (fun j x H5 hx h5 => ?_) (fun H5 h5 => ?_)
              · obtain ⟨s5, ws, eD5, hW⟩ := h5
                obtain ⟨pt, hpj, t1, a1, w1, rfl, hS1, hS2, hd2⟩ := hU4.at hx
                refine ⟨t1, _, rfl, onT s5 hS1, rfl, _, _, rfl, _, _, rfl, rfl, rfl, ?_⟩
                refine ⟨_, rfl, _, rfl, a1, _, 1, _, rfl, rfl, onT s5 hS2, atI_nat (j := 1) rfl, by show 2 ≤ sizeLine; decide, fun t7 ht7 => ?_⟩
                have s7 := same_new (o := .tup [.int pt.1, w1]) ht7
                have eD7 := s7 _ _ eD5
                have lW := hW.len
                rw [List.length_take] at lW
                have fx : Fix _ (upd (upd H5 t7 (.tup [.int pt.1, w1])) D5 (.lst (ws ++ [.ref t7]))) := Fix.lst eD7
                refine ⟨ws, eD7, small1000 (by omega), keep_lst (s5.trans s7) hD5, ws ++ [.ref t7], upd_same, ?_⟩
                rw [List.take_add_one, hpj]
                exact Each.snoc ⟨t7, w1, rfl, fx.tups _ _ (tupAt upd_same), hd2.fix ((Fix.same (s5.trans s7)).trans fx) k _ _⟩ (hW.imp fun _ _ z => z.fix ((Fix.same s7).trans fx))
              · obtain ⟨s5, ws, eD5, hW⟩ := h5
                rw [lU, List.take_length] at hW
                refine ⟨D5, ws, rfl, lstAt eD5, fun t9 ob ht9 hob => ⟨by show 2 ≤ sizeLine; decide, fun ta hta => ⟨by show 2 ≤ sizeLine; decide, fun tb htb => ?_⟩⟩⟩
                have s9 := same_new (o := .frz ob (.tup ws)) ht9
                have sa := same_new (o := .tup [.int p, .ref t9]) hta
                have sb := same_new (o := .tup [.int ((1 + dMax (look h n nm k) (prts h n Ls p) : Nat) : Int), .ref ta]) htb
                have s5b := s5.trans (s9.trans (sa.trans sb))
                refine ⟨_, _, _, _, _, _, _, _, _, rfl, sm4.trans s5b, s24.trans s5b _ _ et, ?_⟩
                have e1 : stepB h n (look h n nm k) Ls best p = some (1 + dMax (look h n nm k) (prts h n Ls p), nodeD p ((prts h n Ls p).map fun x => (x.1, (look h n nm k x.2).2))) := by
                  unfold stepB
                  rw [if_pos hs, if_pos c]
                rw [more, e1]
                exact ⟨tb, _, rfl, tupAt upd_same, p, ta, t9, ws, ob, rp, hs, rfl, rfl, tupAt (sb _ _ upd_same), sb _ _ (sa _ _ upd_same), hob, hW.imp fun _ _ z => z.fix (Fix.same (s9.trans (sa.trans sb)))⟩
            · refine ⟨bv, _, _, _, _, _, _, _, _, rfl, sm4, s24 _ _ et, ?_⟩
              have e1 : stepB h n (look h n nm k) Ls best p = best := by
                unfold stepB
                rw [if_pos hs, if_neg c]
              rw [more, e1]
              exact hB.same s24
        · have e1 : stepB h n (look h n nm k) Ls best p = best := by
            unfold stepB
            rw [if_neg fun z => e (decide_eq_true (by omega))]
          refine ⟨bv, _, _, _, _, _, _, _, _, rfl, sm.trans s2, s2 _ _ et, ?_⟩
          rw [more, e1]
          exact hB.same s2
      · obtain ⟨bv, y4, y5, y6, y7, y8, y9, y10, y11, rfl, sm, et, hB⟩ := h'
        rw [List.length_map, List.take_length, hr1] at hB
        obtain ⟨t5, u5, rfl, hS5, hN5⟩ := hB
        exact ⟨_, rfl, q H' _ sm ⟨t5, u5, rfl, hS5, .inr ⟨hk, hN5⟩⟩⟩
end
end RH
set_option Elab.async false
set_option linter.all false
set_option maxRecDepth 100000
set_option maxHeartbeats 2000000
namespace RH
open PySem PySem.Spec PyProof.Rows L2
/-! ### the law's own: the end, the parts -/
theorem call_or {X : Cx} {v : Value} {R1 R2 : List V → Hp → VK → Prop} (h1 : CallR X v R1) (h2 : CallR X v R2) : CallR X v (fun xs H Q => R1 xs H Q ∨ R2 xs H Q) := by
  intro pins s σ H xs us Q I r h
  rcases h with h | h
  · exact h1 pins s σ H xs us Q I r h
  · exact h2 pins s σ H xs us Q I r h
theorem each_ks {H : Hp} : ∀ {xs : List V} {Ls : List (List Int)}, Each (TIF H) xs Ls → ∃ ks : List (Addr × List Int), xs = ks.map (fun p => V.ref p.1) ∧ Ls = ks.map Prod.snd ∧ ∀ p ∈ ks, FT H p.1 p.2
  | _, _, .nil => ⟨[], rfl, rfl, fun _ h => (nomatch h)⟩
  | _, _, .cons ⟨a, e, f⟩ t => by
    obtain ⟨ks, e1, e2, h⟩ := each_ks t
    refine ⟨(a, _) :: ks, by rw [List.map_cons, ← e1, e], by rw [List.map_cons, ← e2], fun p hp => ?_⟩
    rcases List.mem_cons.mp hp with rfl | hp
    · exact f
    · exact h p hp
def EndV (K : PySem.W.Frag) (H : Hp) (y : V) (nm : Option Nat) (Ls : List (List Int)) : Prop := if knownB nm Ls = true then Dp K H y (sgD nm (Ls.headD [])) else y = .non
theorem known_all {nm : Option Nat} {Ls : List (List Int)} : knownB nm Ls = true ↔ ∀ L ∈ Ls, ∀ M ∈ Ls, sg nm L = sg nm M := by
  unfold knownB
  rw [List.all_eq_true]
  constructor
  · intro h L hL M hM
    exact (of_decide_eq_true (h L hL)).trans (of_decide_eq_true (h M hM)).symm
  · intro h L hL
    exact decide_eq_true (h L hL _ (head_mem (List.ne_nil_of_mem hL)))
theorem bd_perm {n : Nat} {L : List Int} (h : L.Perm (rg n)) (h5 : n ≤ 5) : L.length = n ∧ TS.Bd 64 L := ⟨perm_len h, fun i hi => by
  have := perm_in h hi
  exact ⟨by have := this.1; omega, by have := this.2; omega⟩⟩
section
variable {P : Program} {w : World} {K : PySem.W.Frag} {mg : Str → Option Value} {base : Heap}
def spLEnd (K : PySem.W.Frag) : Sp := fun vs H Q _ => ∃ (v nv : V) (n : Nat) (Ls : List (List Int)) (nm : Option Nat), vs = [v, nv] ∧ LsL K H v Ls ∧ (∀ L ∈ Ls, L.Perm (rg n)) ∧ 1 ≤ n ∧ n ≤ 5 ∧ 1 ≤ Ls.length ∧ Ls.length ≤ 24 ∧ NmV nv n nm ∧ ∀ H' y, Same H H' → EndV K H' y nm Ls → Q y H'
theorem ok_lend (F : Df K mg "_law_end" st__law_end ["layouts", "name"]) (B : Bu mg) (n_set : mg "set" = none) : Cal P w K mg base 1 "_law_end" (spLEnd K) := by
  refine mkCal F sc__law_end (fun vs H Q E h => ?_) (fun f cdv A outer s H vs Q E hr h => ?_)
  · obtain ⟨v, nv, n, Ls, nm, rfl, _⟩ := h
    rfl
  · obtain ⟨v, nv, n, Ls, nm, rfl, ⟨a, xs, rfl, ea, hE⟩, hL, n1, n5, l1, l24, hn, q⟩ := h
    refine ⟨_, pss_cons (ps_set (i := 2) sc__law_end.nd rfl (.inl rfl) (pe_callB (call_or (cr_sortedT rfl) (cr_sortedSet rfl)) (by rfl) B.sorted (by decide +kernel) (pa_cons (pe_callTy (call_or (cr_setOfT rfl hr.units) (call_setL rfl)) (by rfl) n_set (by decide +kernel) (pa_cons (pe_lc (own := [("layout", 3)]) (g := (gName 3)) (tt := tYes)  rfl sc__law_end.nd (pi_list (pv 0)) (blkOk_by (N := ["layouts", "name", "ends", "layout"]) (sc := (defScope st__law_end)) (by decide +kernel)) (fun _ _ _ _ _ => (pg_name (i := 3) sc__law_end.nd rfl (Or.inl rfl))) (fun _ _ _ _ _ => pts_nil) (fun _ _ _ _ _ => (pe_ifExp (pt_cmp (pc_isN (pv 1))) (pv 3) (pe_ix (ixT K) (pv 3) (pv 1) (fun _ _ => rfl))))) pa_nil)) pa_nil)))
      (pss_one (ps_ret (pe_ifExp (pt_cmpR op_eq (pe_callB (cl_len K) (by rfl) B.len PySem.boot_len (pa_cons (pv 2) pa_nil)) pe_int (nomark _)) (pe_ix (ixL K) (pv 2) pe_int (fun _ _ => rfl)) pe_non))), ?_⟩
    have lx := hE.len
    rcases hn with ⟨rfl, rfl⟩ | ⟨k, rfl, rfl, hk⟩
    · refine ⟨_, rfl, a, rfl, ⟨_, lstAt ea⟩, fun D hD => ?_⟩
      refine lc_list (xs := xs) (fun i H' => Same H H' ∧ H' D = some (.lst (xs.take i))) ⟨same_new hD, upd_same⟩ (fun i H' _ h' => lstAt (h'.1 _ _ ea)) (fun i x H' hx h' => ?_) (fun H' h' => ?_)
      · obtain ⟨sm, eD⟩ := h'
        refine ⟨rfl, _, rfl, _, rfl, ifT rfl ⟨_, rfl, _, eD, by rw [List.length_take]; exact small1000 (by omega), keep_lst sm hD, ?_⟩⟩
        rw [upd_same, List.take_add_one, hx]
        rfl
      · obtain ⟨sm, eD⟩ := h'
        rw [List.take_length] at eD
        obtain ⟨ks, e1, e2, hks⟩ := each_ks (hE.imp fun _ _ z => z.same sm)
        have lk : ks.length = Ls.length := by rw [e2, List.length_map]
        refine .inl ⟨D, ks, rfl, lstAt (by rw [eD, e1]), fun p hp => (hks p hp).sqT, by omega, fun a2 L0 ha2 sub all => ?_⟩
        have s2 := same_new (o := SetTO P w a2 L0) ha2
        refine .inl ⟨a2, L0, n, 64, rfl, upd_same, fun p hp => onT s2 (hks p (sub p hp)).sqT, n1, fun p hp => ?_, fun L' q1 pm nd few srt hq1 => ?_⟩
        · exact bd_perm (hL _ (by rw [e2]; exact List.mem_map.mpr ⟨p, sub p hp, rfl⟩)) n5
        have s3 := same_new (o := .lst (L'.map fun q => V.ref q.1)) hq1
        have inL : ∀ p ∈ L', p ∈ ks := fun p hp => sub p (pm.mem_iff.mp hp)
        have all' : ∀ M ∈ Ls, M ∈ L'.map Prod.snd := fun M hM => by
          rw [e2] at hM
          obtain ⟨p, hp, rfl⟩ := List.mem_map.mp hM
          obtain ⟨r, hr, e⟩ := List.mem_map.mp (all p hp)
          exact List.mem_map.mpr ⟨r, pm.mem_iff.mpr hr, e⟩
        have back : ∀ M ∈ L'.map Prod.snd, M ∈ Ls := fun M hM => by
          obtain ⟨p, hp, rfl⟩ := List.mem_map.mp hM
          rw [e2]
          exact List.mem_map.mpr ⟨p, inL p hp, rfl⟩
        have ls : (L'.map Prod.snd).length = L'.length := List.length_map _
        refine ⟨_, rfl, q1, _, rfl, .inl (lstAt upd_same), rfl, _, rfl, ?_⟩
        have sAll := sm.trans (s2.trans s3)
        cases hk : knownB none Ls with
        | true =>
          have same := known_all.mp hk
          have l1' : L'.length = 1 := by
            have h0 : ∃ M, M ∈ Ls := List.exists_mem_of_length_pos l1
            obtain ⟨M, hM⟩ := h0
            have m := all' M hM
            rw [← ls]
            generalize L'.map Prod.snd = l at m nd back
            match l with
            | [] => cases m
            | [_] => rfl
            | x :: y :: r =>
              have e : x = y := same x (back x (by simp)) y (back y (by simp))
              exact absurd e ((List.pairwise_cons.mp nd).1 y (List.mem_cons_self ..))
          obtain ⟨r, rfl⟩ := List.length_eq_one_iff.mp l1'
          refine ifT rfl ⟨_, rfl, q1, _, 0, .ref r.1, rfl, rfl, lstAt upd_same, rfl, q _ _ sAll ?_⟩
          unfold EndV
          rw [if_pos hk]
          have e : Ls.headD [] = r.2 := same _ (head_mem (List.length_pos_iff.mp l1)) _ (back r.2 (List.mem_singleton.mpr rfl))
          rw [e]
          exact dp_tup (onT (s2.trans s3) (hks r (inL r (List.mem_singleton.mpr rfl))).sqT)
        | false =>
          have l2 : L'.length ≠ 1 := fun z => by
            obtain ⟨r, rfl⟩ := List.length_eq_one_iff.mp z
            have : knownB none Ls = true := known_all.mpr fun L hL M hM => by
              have h1 := List.mem_singleton.mp (all' L hL)
              have h2 := List.mem_singleton.mp (all' M hM)
              rw [h1, h2]
            rw [hk] at this
            cases this
          refine ifF (decide_eq_false fun z => l2 ?_) (q _ _ sAll ?_)
          · have z := V.int.inj z
            rw [List.length_map] at z
            omega
          · unfold EndV
            rw [if_neg (by rw [hk]; decide)]
    · refine ⟨_, rfl, a, rfl, ⟨_, lstAt ea⟩, fun D hD => ?_⟩
      refine lc_list (xs := xs) (fun i H' => Same H H' ∧ H' D = some (.lst (((Ls.take i).map fun L => L.getD k 0).map V.int))) ⟨same_new hD, upd_same⟩ (fun i H' _ h' => lstAt (h'.1 _ _ ea)) (fun i x H' hx h' => ?_) (fun H' h' => ?_)
      · obtain ⟨sm, eD⟩ := h'
        obtain ⟨L, hLi, b, rfl, fL⟩ := hE.at hx
        have e := getD_perm (hL L (List.mem_of_getElem? hLi)) (b := (k : Int)) ⟨by omega, by omega⟩
        rw [Int.toNat_natCast] at e
        refine ⟨rfl, _, rfl, _, rfl, ifF rfl ⟨_, rfl, _, rfl, b, _, (k : Int), .int (L.getD k 0), rfl, rfl, (fL.same sm).sqT, atI_nat (at_map e), _, eD, by rw [List.length_map, List.length_map, List.length_take]; exact small1000 (by omega), keep_lst sm hD, ?_⟩⟩
        rw [upd_same, List.take_add_one, hLi, List.map_append, List.map_append]
        rfl
      · obtain ⟨sm, eD⟩ := h'
        rw [lx, List.take_length] at eD
        refine .inr ⟨D, _, rfl, lstAt eD, by rw [List.length_map]; omega, fun a2 m2 ha2 hm2 => ?_⟩
        rw [List.length_map] at hm2
        have s2 := same_new (o := SetO w a2 (fun j => decide (j ∈ Ls.map fun L => L.getD k 0)) m2) ha2
        refine .inr ⟨a2, _, m2, rfl, upd_same, by omega, fun ns q1 up mem l2 hq1 => ?_⟩
        have s3 := same_new (o := .lst (ns.map V.int)) hq1
        have sAll := sm.trans (s2.trans s3)
        have mem' : ∀ j, j ∈ ns ↔ ∃ L ∈ Ls, L.getD k 0 = j := fun j => by
          rw [mem, decide_eq_true_iff, List.mem_map]
        refine ⟨_, rfl, q1, _, rfl, .inl (lstAt upd_same), rfl, _, rfl, ?_⟩
        rw [List.length_map]
        cases hk2 : knownB (some k) Ls with
        | true =>
          have same := known_all.mp hk2
          obtain ⟨M, hM⟩ : ∃ M, M ∈ Ls := List.exists_mem_of_length_pos l1
          have one : ∀ x ∈ ns, x = M.getD k 0 := fun x hx => by
            obtain ⟨L, hl, rfl⟩ := (mem' x).mp hx
            have e : [L.getD k 0] = [M.getD k 0] := same L hl M hM
            exact List.cons.inj e |>.1
          have m := (mem' (M.getD k 0)).mpr ⟨M, hM, rfl⟩
          match ns, one, m, up with
          | [], _, m, _ => cases m
          | x :: y :: r, one, _, up =>
            have := (List.pairwise_cons.mp up).1 y (List.mem_cons_self ..)
            have h1 := one x (by simp)
            have h2 := one y (by simp)
            omega
          | [x], one, _, _ =>
            refine ifT rfl ⟨_, rfl, q1, _, 0, .int x, rfl, rfl, lstAt upd_same, rfl, q _ _ sAll ?_⟩
            unfold EndV
            rw [if_pos hk2]
            have e : (Ls.headD []).getD k 0 = x := by
              have h1 := same _ (head_mem (List.length_pos_iff.mp l1)) M hM
              have h2 : [(Ls.headD []).getD k 0] = [M.getD k 0] := h1
              rw [one x (by simp)]
              exact List.cons.inj h2 |>.1
            show Dp K _ (.int x) (.int ((Ls.headD []).getD k 0))
            rw [e]
            exact .int x
        | false =>
          have l2' : ns.length ≠ 1 := fun z => by
            match ns, z with
            | [x], _ =>
              have : knownB (some k) Ls = true := known_all.mpr fun L hL M hM => by
                have h1 := (mem' _).mpr ⟨L, hL, rfl⟩
                have h2 := (mem' _).mpr ⟨M, hM, rfl⟩
                rw [List.mem_singleton] at h1 h2
                show [L.getD k 0] = [M.getD k 0]
                rw [h1, h2]
              rw [hk2] at this
              cases this
          refine ifF (decide_eq_false fun z => l2' ?_) (q _ _ sAll ?_)
          · have z := V.int.inj z
            omega
          · unfold EndV
            rw [if_neg (by rw [hk2]; decide)]
end
end RH
set_option Elab.async false
set_option linter.all false
set_option maxRecDepth 100000
set_option maxHeartbeats 2000000
namespace RH
open PySem PySem.Spec PyProof.Rows L2
/-! ### the law's parts -/
/-- the dict of parts, for the first i layouts -/
structure PV (K : PySem.W.Frag) (H : Hp) (d : Addr) (kvs : List (Key × V)) (h : List (List Int)) (n : Nat) (Ls : List (List Int)) (p : Int) : Prop where
  at_ : H d = some (.dK kvs)
  keys : ∃ ks : List Int, kvs.map Prod.fst = ks.map Sum.inl ∧ ks.Nodup ∧ ∀ b, b ∈ ks ↔ InR n b ∧ partL h Ls p b ≠ []
  val : ∀ b, InR n b → partL h Ls p b ≠ [] → ∃ l us, valV kvs (.inl b) = some (.ref l) ∧ H l = some (.lst us) ∧ Each (TIF H) us (partL h Ls p b)
theorem key_none {kvs : List (Key × V)} {ks : List Int} (e : kvs.map Prod.fst = ks.map Sum.inl) {b : Int} (hb : b ∉ ks) : valV kvs (.inl b) = none := by
  have : (valV kvs (.inl b)).isSome = false := by
    rw [← valV_any, List.any_eq_false]
    intro x hx
    have hm : x.1 ∈ kvs.map Prod.fst := List.mem_map.mpr ⟨x, hx, rfl⟩
    rw [e] at hm
    obtain ⟨c, hc, ec⟩ := List.mem_map.mp hm
    simp only [decide_eq_true_eq]
    intro z
    rw [z] at ec
    exact hb (Sum.inl.inj ec ▸ hc)
  cases h : valV kvs (.inl b) with
  | none => rfl
  | some v => rw [h] at this; cases this
theorem asc_eq : ∀ {a b : List Int}, a.Pairwise (· < ·) → b.Pairwise (· < ·) → (∀ x, x ∈ a ↔ x ∈ b) → a = b
  | [], [], _, _, _ => rfl
  | [], y :: b, _, _, h => absurd ((h y).mpr (List.mem_cons_self ..)) (by simp)
  | x :: a, [], _, _, h => absurd ((h x).mp (List.mem_cons_self ..)) (by simp)
  | x :: a, y :: b, ha, hb, h => by
    obtain ⟨h1, h2⟩ := List.pairwise_cons.mp ha
    obtain ⟨h3, h4⟩ := List.pairwise_cons.mp hb
    have e : x = y := by
      rcases List.mem_cons.mp ((h x).mp (List.mem_cons_self ..)) with e | e
      · exact e
      · rcases List.mem_cons.mp ((h y).mpr (List.mem_cons_self ..)) with e2 | e2
        · exact e2.symm
        · have := h3 x e
          have := h1 y e2
          omega
    subst e
    have ih := asc_eq h2 h4 fun z => by
      constructor
      · intro hz
        rcases List.mem_cons.mp ((h z).mp (List.mem_cons_of_mem _ hz)) with e | e
        · have := h1 z hz
          omega
        · exact e
      · intro hz
        rcases List.mem_cons.mp ((h z).mpr (List.mem_cons_of_mem _ hz)) with e | e
        · have := h3 z hz
          omega
        · exact e
    rw [ih]
theorem asc_of_perm {ys ks : List Int} (pm : ys.Perm ks) (nd : ks.Nodup) (le : ys.Pairwise (· ≤ ·)) : ys.Pairwise (· < ·) := by
  have nd' : ys.Pairwise (· ≠ ·) := pm.nodup_iff.mpr nd
  have := le.and nd'
  exact this.imp fun h => by have := h.1; have := h.2; omega
theorem prts_fst {h : List (List Int)} {n : Nat} {Ls : List (List Int)} {p b : Int} : b ∈ (prts h n Ls p).map Prod.fst ↔ InR n b ∧ partL h Ls p b ≠ [] := by
  rw [List.mem_map]
  constructor
  · rintro ⟨x, hx, rfl⟩
    obtain ⟨h1, h2, h3⟩ := prts_mem.mp hx
    exact ⟨h1, by rw [← h2]; exact h3⟩
  · rintro ⟨h1, h2⟩
    exact ⟨(b, partL h Ls p b), prts_mem.mpr ⟨h1, rfl, h2⟩, rfl⟩
/-- the keys, sorted, are the books -/
theorem PV.sorted {K : PySem.W.Frag} {H : Hp} {d : Addr} {kvs : List (Key × V)} {h : List (List Int)} {n : Nat} {Ls : List (List Int)} {p : Int} (q : PV K H d kvs h n Ls p) : ∃ ks : List Int, kvs.map Prod.fst = ks.map Sum.inl ∧ ks.length = (prts h n Ls p).length ∧ ∀ ys : List Int, ys.Perm ks → ys.Pairwise (· ≤ ·) → ys = (prts h n Ls p).map Prod.fst := by
  obtain ⟨ks, e, nd, mem⟩ := q.keys
  have key : ∀ ys : List Int, ys.Perm ks → ys.Pairwise (· < ·) → ys = (prts h n Ls p).map Prod.fst := fun ys pm lt => asc_eq lt (prts_asc h n Ls p) fun b => by rw [pm.mem_iff, mem, prts_fst]
  refine ⟨ks, e, ?_, fun ys pm le => key ys pm (asc_of_perm pm nd le)⟩
  have pm : ks.Perm ((prts h n Ls p).map Prod.fst) := (List.perm_ext_iff_of_nodup nd ((prts_asc h n Ls p).imp fun h => by omega)).mpr fun b => by rw [mem, prts_fst]
  rw [pm.length_eq, List.length_map]
section
variable {P : Program} {w : World} {K : PySem.W.Frag} {mg : Str → Option Value} {base : Heap}
def spLParted (K : PySem.W.Frag) : Sp := fun vs H Q _ => ∃ (v u : V) (h : List (List Int)) (n : Nat) (Ls : List (List Int)) (p : Int), vs = [v, u, .int p] ∧ TII K H v h ∧ Hb n h ∧ LsL K H u Ls ∧ (∀ L ∈ Ls, L.Perm (rg n)) ∧ Ls.length ≤ 24 ∧ InR n p ∧
  ∀ H' d kvs, Same H H' → PV K H' d kvs h n Ls p → Q (.ref d) H'
theorem ok_lparted (F : Df K mg "_law_parted" st__law_parted ["habit", "layouts", "place"]) (B : Bu mg) (CT : Cal P w K mg base 1 "_law_touch" (spMove K)) : Cal P w K mg base 2 "_law_parted" (spLParted K) := by
  refine mkCal F sc__law_parted (fun vs H Q E h => ?_) (fun f cdv A outer s H vs Q E hr h => ?_)
  · obtain ⟨v, u, h, n, Ls, p, rfl, _⟩ := h
    rfl
  · obtain ⟨v, u, h, n, Ls, p, rfl, hT, hb, ⟨a, xs, rfl, ea, hE⟩, hL, l24, hp, q⟩ := h
    refine ⟨_, pss_cons (ps_set (i := 3) sc__law_parted.nd rfl (.inl rfl) pe_dnewK)
      (pss_cons (ps_for PassesOwn.never rfl (pi_list (pv 1)) (pg_name (i := 4) sc__law_parted.nd rfl (Or.inl rfl)) (pss_cons (ps_set (i := 5) sc__law_parted.nd rfl (.inl rfl) (pe_tidxF (pv 4) (pv 2)))
      (pss_one (ps_dput (hu_of hr) (pv 3) (pv 5) (pe_op op_cat (pe_dget2 (hu_of hr) (pv 3) (pv 5) (pe_lst pa_nil) ⟨by rfl, by rfl, by rfl, by rfl⟩) (pe_lst (pa_cons (pc CT hr (pa_cons (pv 0) (pa_cons (pv 4) (pa_cons (pv 2) pa_nil)))) pa_nil))) rfl))))
      (pss_one (ps_ret (pv 3)))), ?_⟩
    have lx := hE.len
    refine fun d hd => ?_
    have sd := same_new (o := .dK []) hd
    refine ⟨_, rfl, a, rfl, ⟨_, lstAt (sd _ _ ea)⟩, ?_⟩
    refine for_list (xs := xs) (fun i σ H' => ∃ kvs y4 y5, σ = [some v, some (.ref a), some (.int p), some (.ref d), y4, y5] ∧ Same H H' ∧ kvs.length ≤ i ∧ PV K H' d kvs h n (Ls.take i) p)
      ⟨[], none, none, rfl, sd, Nat.le_refl _, upd_same, ⟨[], rfl, List.nodup_nil, fun b => ⟨fun z => (nomatch z), fun z => absurd rfl z.2⟩⟩, fun b _ z => absurd rfl z⟩ (fun i σ H' _ h' => by obtain ⟨_, _, _, _, sm, _⟩ := h'; exact lstAt (sm _ _ ea)) (fun i x σ H' hx h' => ?_) (fun σ H' h' => ?_)
    · obtain ⟨kvs, y4, y5, rfl, sm, lk, pv⟩ := h'
      obtain ⟨L, hLi, c, rfl, fL⟩ := hE.at hx
      have pL := hL L (List.mem_of_getElem? hLi)
      have rb := idx_inR pL hp
      have eb := (idx_of_getD pL rb).mpr ⟨hp, rfl⟩
      have hil := (List.getElem?_eq_some_iff.mp hLi).1
      have pm := partL_more (h := h) (p := p) (b := ((L.idxOf p : Nat) : Int)) hLi
      rw [if_pos eb] at pm
      refine ⟨_, rfl, c, _, rfl, fL.same sm, _, rfl, p, rfl, fL.same sm, perm_mem pL hp, ?_⟩
      refine ⟨_, rfl, d, rfl, .inl ⟨kvs, .inl pv.at_⟩, _, rfl, Nat.zero_le _, fun e0 he0 => ?_⟩
      have s0 := same_new (o := .lst []) he0
      refine ⟨_, DGet.k (k := .inl ((L.idxOf p : Nat) : Int)) (s0 _ _ pv.at_), ?_⟩
      obtain ⟨la, us, ela, hla, hU⟩ : ∃ la us, (valV kvs (.inl ((L.idxOf p : Nat) : Int))).getD (.ref e0) = .ref la ∧ (upd H' e0 (.lst [])) la = some (.lst us) ∧ Each (TIF H') us (partL h (Ls.take i) p ((L.idxOf p : Nat) : Int)) := by
        by_cases z : partL h (Ls.take i) p ((L.idxOf p : Nat) : Int) = []
        · obtain ⟨ks, ek, _, mem⟩ := pv.keys
          rw [key_none ek fun hm => ((mem _).mp hm).2 z, z]
          exact ⟨e0, [], rfl, upd_same, .nil⟩
        · obtain ⟨l, us, e1, e2, e3⟩ := pv.val _ rb z
          rw [e1]
          exact ⟨l, us, rfl, s0 _ _ e2, e3⟩
      rw [ela]
      have sm0 := sm.trans s0
      refine ⟨_, rfl, _, rfl, _, rfl, v, h, n, c, L, p, rfl, hT.on (Same.tups sm0), hb, (fL.same sm0).sqT, fun i hi => perm_in pL hi, by rw [perm_len pL]; have := hb.hi; omega, hp, fun H3 q3 s3 _ f3 => ⟨by show 1 ≤ sizeLine; decide, fun l1 hl1 => ?_⟩⟩
      have s1 := same_new (o := .lst [.ref q3]) hl1
      have lus := hU.len
      have few := partL_len (h := h) (Ls := Ls.take i) (p := p) (b := ((L.idxOf p : Nat) : Int))
      rw [List.length_take] at few
      refine ⟨la, l1, us, _, rfl, rfl, s1 _ _ (s3 _ _ hla), upd_same, Nat.le_of_lt (small1000 (by show us.length + 1 ≤ 1000; omega)), fun l2 hl2 => ?_⟩
      have s2 := same_new (o := .lst (us ++ [.ref q3])) hl2
      have sN := s0.trans (s3.trans (s1.trans s2))
      have ed2 := sN _ _ pv.at_
      refine ⟨_, rfl, _, rfl, d, _, rfl, DPut.k (k := .inl ((L.idxOf p : Nat) : Int)) ed2 (by rw [sizeLine_eq]; omega), ?_⟩
      have nd : ∀ {b : Addr} {o : HO} {o' : HO}, (upd (upd H3 l1 (.lst [.ref q3])) l2 (.lst (us ++ [.ref q3]))) b = some o → (∀ kvs, o ≠ .dK kvs) → (upd (upd (upd H3 l1 (.lst [.ref q3])) l2 (.lst (us ++ [.ref q3]))) d o') b = some o := fun {b o o'} e ne => by
        rw [upd_ne (fun z => by rw [z, ed2] at e; exact ne _ (Option.some.inj e).symm)]
        exact e
      have ft : ∀ {b : Addr} {M : List Int} {o' : HO}, FT (upd (upd H3 l1 (.lst [.ref q3])) l2 (.lst (us ++ [.ref q3]))) b M → FT (upd (upd (upd H3 l1 (.lst [.ref q3])) l2 (.lst (us ++ [.ref q3]))) d o') b M := fun {b M o'} ⟨ob, e, g⟩ => ⟨ob, nd e (fun _ z => by cases z), g⟩
      have tif : ∀ {v : V} {M : List Int} {o' : HO}, TIF H' v M → TIF (upd (upd (upd H3 l1 (.lst [.ref q3])) l2 (.lst (us ++ [.ref q3]))) d o') v M := fun {v M o'} ⟨b, e, g⟩ => ⟨b, e, ft (g.same sN)⟩
      refine ⟨putK kvs (.inl ((L.idxOf p : Nat) : Int)) (.ref l2), _, _, rfl, keep_lst (sm.trans sN) hd, ?_, upd_same, ?_, fun b hb2 nb => ?_⟩
      · unfold putK
        split
        · rw [List.length_map]
          omega
        · rw [List.length_append]
          show _ + 1 ≤ _
          omega
      · obtain ⟨ks, ek, ndk, mem⟩ := pv.keys
        have same : ∀ b, InR n b → b ≠ ((L.idxOf p : Nat) : Int) → partL h (Ls.take (i + 1)) p b = partL h (Ls.take i) p b := fun b rb2 ne => by
          rw [partL_more hLi, if_neg (fun z => ne ((idx_of_getD pL rb2).mp z).2.symm), List.append_nil]
        have mem2 : ∀ b, (b ∈ ks ∨ b = ((L.idxOf p : Nat) : Int)) ↔ InR n b ∧ partL h (Ls.take (i + 1)) p b ≠ [] := fun b => by
          by_cases z : b = ((L.idxOf p : Nat) : Int)
          · subst z
            exact ⟨fun _ => ⟨rb, by rw [pm]; simp⟩, fun _ => .inr rfl⟩
          · constructor
            · rintro (h1 | h1)
              · have := (mem b).mp h1
                exact ⟨this.1, by rw [same b this.1 z]; exact this.2⟩
              · exact absurd h1 z
            · rintro ⟨h1, h2⟩
              rw [same b h1 z] at h2
              exact .inl ((mem b).mpr ⟨h1, h2⟩)
        by_cases hm : ((L.idxOf p : Nat) : Int) ∈ ks
        · refine ⟨ks, ?_, ndk, fun b => by rw [← mem2]; exact ⟨.inl, fun z => z.elim id fun z => z ▸ hm⟩⟩
          unfold putK
          rw [if_pos]
          · rw [← ek, List.map_map]
            refine List.map_congr_left fun kv _ => ?_
            show (if kv.1 = _ then _ else kv).1 = kv.1
            split <;> rfl
          · rw [List.any_eq_true]
            have : (Sum.inl ((L.idxOf p : Nat) : Int) : Key) ∈ kvs.map Prod.fst := by
              rw [ek]
              exact List.mem_map.mpr ⟨_, hm, rfl⟩
            obtain ⟨kv, hkv, e⟩ := List.mem_map.mp this
            exact ⟨kv, hkv, decide_eq_true e⟩
        · refine ⟨ks ++ [((L.idxOf p : Nat) : Int)], ?_, ?_, fun b => by rw [← mem2, List.mem_append, List.mem_singleton]⟩
          · rw [putK_new _ (key_none ek hm), List.map_append, List.map_append, ek]
            rfl
          · rw [List.nodup_append]
            exact ⟨ndk, by simp, fun x hx y hy => by rw [List.mem_singleton.mp hy]; intro z; exact hm (z ▸ hx)⟩
      · rw [valV_put]
        by_cases z : b = ((L.idxOf p : Nat) : Int)
        · subst z
          rw [if_pos rfl, pm]
          refine ⟨l2, us ++ [.ref q3], rfl, nd upd_same (fun _ z => by cases z), Each.snoc ⟨q3, rfl, ft (f3.same (s1.trans s2))⟩ (hU.imp fun _ _ z => tif z)⟩
        · have e : partL h (Ls.take (i + 1)) p b = partL h (Ls.take i) p b := by
            rw [partL_more hLi, if_neg (fun y => z ((idx_of_getD pL hb2).mp y).2.symm), List.append_nil]
          rw [e] at nb ⊢
          rw [if_neg (fun y => z (Sum.inl.inj y))]
          obtain ⟨l, us2, e1, e2, e3⟩ := pv.val b hb2 nb
          exact ⟨l, us2, e1, nd (sN _ _ e2) (fun _ z => by cases z), e3.imp fun _ _ z => tif z⟩
    · obtain ⟨kvs, y4, y5, rfl, sm, lk, pv⟩ := h'
      rw [lx, List.take_length] at pv
      exact ⟨_, rfl, q H' d kvs sm pv⟩
end
end RH
set_option Elab.async false
set_option linter.all false
set_option maxRecDepth 100000
set_option maxHeartbeats 2000000
namespace RH
open PySem PySem.Spec PyProof.Rows L2
/-! ### the law's own tree -/
theorem PV.same {K : PySem.W.Frag} {H H' : Hp} (s : Same H H') {d : Addr} {kvs : List (Key × V)} {h : List (List Int)} {n : Nat} {Ls : List (List Int)} {p : Int} (q : PV K H d kvs h n Ls p) : PV K H' d kvs h n Ls p :=
  ⟨s _ _ q.at_, q.keys, fun b hb nb => let ⟨l, us, e1, e2, e3⟩ := q.val b hb nb; ⟨l, us, e1, s _ _ e2, e3.imp fun _ _ z => z.same s⟩⟩
theorem dp_sg {K : PySem.W.Frag} {H : Hp} {y : V} {nm : Option Nat} {L : List Int} (h : Dp K H y (sgD nm L)) : y ≠ .non := by
  cases nm with
  | none =>
    cases h with
    | tup h1 h2 => intro z; cases z
  | some k =>
    cases h
    intro z
    cases z
section
variable {P : Program} {w : World} {K : PySem.W.Frag} {mg : Str → Option Value} {base : Heap}
structure GL (K : PySem.W.Frag) (H : Hp) (v u nv : V) (h : List (List Int)) (n : Nat) (Ls : List (List Int)) (nm : Option Nat) : Prop where
  hT : TII K H v h
  hb : Hb n h
  hLs : LsL K H u Ls
  hL : ∀ L ∈ Ls, L.Perm (rg n)
  l1 : 1 ≤ Ls.length
  hn : NmV nv n nm
theorem GL.same {H H' : Hp} (s : Same H H') {v u nv : V} {h : List (List Int)} {n : Nat} {Ls : List (List Int)} {nm : Option Nat} (g : GL K H v u nv h n Ls nm) : GL K H' v u nv h n Ls nm := ⟨g.hT.on (Same.tups s), g.hb, g.hLs.same s, g.hL, g.l1, g.hn⟩
def spLTree (K : PySem.W.Frag) (k : Nat) : Sp := fun vs H Q _ => ∃ (v u nv : V) (h : List (List Int)) (n : Nat) (Ls : List (List Int)) (nm : Option Nat), vs = [v, u, nv] ∧ GL K H v u nv h n Ls nm ∧ Ls.length ≤ k + 1 ∧ k ≤ 23 ∧ ∀ H' y, Same H H' → Dp K H' y (lkD (look h n nm k Ls)) → Q y H'
theorem ok_ltree0 (F : Df K mg "_law_tree" st__law_tree ["habit", "layouts", "name"]) (CE : Cal P w K mg base 1 "_law_end" (spLEnd K)) : Cal P w K mg base 3 "_law_tree" (spLTree K 0) := by
  refine mkCal F sc__law_tree (fun vs H Q E h => ?_) (fun f cdv A outer s H vs Q E hr h => ?_)
  · obtain ⟨v, u, nv, h, n, Ls, nm, rfl, _⟩ := h
    rfl
  · obtain ⟨v, u, nv, h, n, Ls, nm, rfl, g, l1, _, q⟩ := h
    refine ⟨_, pss_cons (ps_set (i := 3) sc__law_tree.nd rfl (.inl rfl) (pc CE hr (pa_cons (pv 1) (pa_cons (pv 2) pa_nil)))) (pss_cons (ps_if (pt_cmp (pc_notN (pv 3))) (pss_one (ps_ret (pe_tup (pa_cons pe_int (pa_cons (pv 3) pa_nil))))) pss_nil) (pss_cons ps_no (pss_cons ps_no (pss_one ps_no)))), ?_⟩
    have hk := known_one (nm := nm) l1
    have n5 := g.hb.hi
    refine ⟨_, rfl, _, rfl, u, nv, n, Ls, nm, rfl, g.hLs, g.hL, by have := g.hb.lo; omega, n5, g.l1, by omega, g.hn, fun H1 y s1 ye => ?_⟩
    unfold EndV at ye
    rw [if_pos hk] at ye
    refine ⟨_, rfl, _, rfl, ifT (by rw [decide_eq_false (dp_sg ye)]; rfl) ⟨_, rfl, by show 2 ≤ sizeLine; decide, fun t ht => ?_⟩⟩
    have st := same_new (o := .tup [.int 0, y]) ht
    refine q _ _ (s1.trans st) ?_
    show Dp K _ (.ref t) (.tuple [.int ((0 : Nat) : Int), sgD nm (Ls.headD [])])
    exact .tup (tupAt upd_same) (.cons (.int _) (.cons (Dp.on st _ _ ye) .nil))
theorem ok_ltreeS (k : Nat) (F : Df K mg "_law_tree" st__law_tree ["habit", "layouts", "name"]) (B : Bu mg) (CE : Cal P w K mg base 1 "_law_end" (spLEnd K)) (CPd : Cal P w K mg base 2 "_law_parted" (spLParted K))
    (C : Cal P w K mg base (k + 3) "_law_tree" (spLTree K k)) : Cal P w K mg base (k + 4) "_law_tree" (spLTree K (k + 1)) := by
  refine mkCal F sc__law_tree (fun vs H Q E h => ?_) (fun f cdv A outer s H vs Q E hr h => ?_)
  · obtain ⟨v, u, nv, h, n, Ls, nm, rfl, _⟩ := h
    rfl
  · obtain ⟨v, u, nv, h, n, Ls, nm, rfl, g, l2, k23, q⟩ := h
    refine ⟨_, pss_cons (ps_set (i := 3) sc__law_tree.nd rfl (.inl rfl) (pc CE hr (pa_cons (pv 1) (pa_cons (pv 2) pa_nil)) (hk := by omega)))
      (pss_cons (ps_if (pt_cmp (pc_notN (pv 3))) (pss_one (ps_ret (pe_tup (pa_cons pe_int (pa_cons (pv 3) pa_nil))))) pss_nil)
      (pss_cons (ps_set (i := 4) sc__law_tree.nd rfl (.inl rfl) pe_non)
      (pss_cons (ps_for PassesOwn.never rfl (pi_range1 (by rfl) B.range (pa_cons (pe_callB (cl_len K) (by rfl) B.len PySem.boot_len (pa_cons (pv 0) pa_nil)) pa_nil)) (pg_name (i := 5) sc__law_tree.nd rfl (Or.inl rfl)) (pss_cons (ps_set (i := 6) sc__law_tree.nd rfl (.inr rfl) (pc CPd hr (pa_cons (pv 0) (pa_cons (pv 1) (pa_cons (pv 5) pa_nil))) (hk := by omega)))
      (pss_one (ps_if (pt_cmpR op_gt (pe_callB call_lenD (by rfl) B.len PySem.boot_len (pa_cons (pv 6) pa_nil)) pe_int (nomark _)) (pss_cons (ps_setLc (i := 7) (own := [("book", 9)]) (g := (gName 9)) (tt := tYes)  rfl sc__law_tree.nd rfl rfl (sw_true rfl rfl rfl (by decide +kernel)) (pi_list (pe_callB (call_sortedDI rfl) (by rfl) B.sorted (by decide +kernel) (pa_cons (pv 6) pa_nil))) (blkOk_by (N := ["habit", "layouts", "name", "end", "best", "place", "parts", "told", "depth", "book", "own"]) (sc := (defScope st__law_tree)) (by decide +kernel)) (fun _ _ _ _ _ => (pg_name (i := 9) sc__law_tree.nd rfl (Or.inl rfl))) (fun _ _ _ _ _ => pts_nil) (fun _ _ _ _ _ => (pe_tup (pa_cons (pv 9) (pa_cons (pc C hr (pa_cons (pv 0) (pa_cons (pe_dget (hu_of hr) (pv 6) (pv 9) (fun _ _ => rfl)) (pa_cons (pv 2) pa_nil))) (hk := by omega)) pa_nil)))))
      (pss_cons (ps_set (i := 8) sc__law_tree.nd rfl (.inl rfl) (pe_op op_add pe_int (pe_callB (cr_max rfl) (by rfl) B.max (by decide +kernel) (pa_cons (pe_lc (own := [("book", 9), ("own", 10)]) (g := (gTup K 2 (gCons (gName 9) (gCons (gName 10) gNil)))) (tt := tYes)  rfl sc__law_tree.nd (pi_list (pv 7)) (blkOk_by (N := ["habit", "layouts", "name", "end", "best", "place", "parts", "told", "depth", "book", "own"]) (sc := (defScope st__law_tree)) (by decide +kernel)) (fun _ _ _ _ _ => (pg_tup rfl (pgs_cons (pg_name (i := 9) sc__law_tree.nd rfl (Or.inl rfl)) (pgs_cons (pg_name (i := 10) sc__law_tree.nd rfl (Or.inl rfl)) pgs_nil)))) (fun _ _ _ _ _ => pts_nil) (fun _ _ _ _ _ => (pe_ix (ixT K) (pv 10) pe_int (fun _ _ => rfl)))) pa_nil))))
      (pss_one (ps_if (PW.pt (pw_or (pt_cmp (pc_isN (pv 4))) (pw_or1 (pt_cmpR op_lt (pv 8) (pe_ix (ixT K) (pv 4) pe_int (fun _ _ => rfl)) (nomark _))))) (pss_one (ps_set (i := 4) sc__law_tree.nd rfl (.inl rfl) (pe_tup (pa_cons (pv 8) (pa_cons (pe_tup (pa_cons (pv 5) (pa_cons (pe_tupleOf (by rfl) B.tuple (pe_lc (own := [("book", 9), ("own", 10)]) (g := (gTup K 2 (gCons (gName 9) (gCons (gName 10) gNil)))) (tt := tYes)  rfl sc__law_tree.nd (pi_list (pv 7)) (blkOk_by (N := ["habit", "layouts", "name", "end", "best", "place", "parts", "told", "depth", "book", "own"]) (sc := (defScope st__law_tree)) (by decide +kernel)) (fun _ _ _ _ _ => (pg_tup rfl (pgs_cons (pg_name (i := 9) sc__law_tree.nd rfl (Or.inl rfl)) (pgs_cons (pg_name (i := 10) sc__law_tree.nd rfl (Or.inl rfl)) pgs_nil)))) (fun _ _ _ _ _ => pts_nil) (fun _ _ _ _ _ => (pe_tup (pa_cons (pv 9) (pa_cons (pe_ix (ixT K) (pv 10) pe_int (fun _ _ => rfl)) pa_nil)))))) pa_nil))) pa_nil))))) pss_nil)))) pss_nil))))
      (pss_one (ps_ret (pv 4)))))), ?_⟩
    have n5 := g.hb.hi
    have n2 := g.hb.lo
    refine ⟨_, rfl, _, rfl, u, nv, n, Ls, nm, rfl, g.hLs, g.hL, by omega, n5, g.l1, by omega, g.hn, fun H1 ye s1 hye => ?_⟩
    unfold EndV at hye
    cases hk : knownB nm Ls with
    | true =>
      rw [if_pos hk] at hye
      refine ⟨_, rfl, _, rfl, ifT (by rw [decide_eq_false (dp_sg hye)]; rfl) ⟨_, rfl, by show 2 ≤ sizeLine; decide, fun t ht => ?_⟩⟩
      have st := same_new (o := .tup [.int 0, ye]) ht
      refine q _ _ (s1.trans st) ?_
      have e : look h n nm (k + 1) Ls = (0, sgD nm (Ls.headD [])) := by
        show (if knownB nm Ls = true then _ else _) = _
        rw [hk, if_pos rfl]
      rw [e]
      exact .tup (tupAt upd_same) (.cons (.int _) (.cons (Dp.on st _ _ hye) .nil))
    | false =>
      obtain ⟨_, _, _, hr1, _⟩ := look_node (h := h) (k := k) g.hL hk
      rw [if_neg (by rw [hk]; decide)] at hye
      subst hye
      refine ⟨_, rfl, _, rfl, ifF rfl ?_⟩
      have g1 := g.same s1
      obtain ⟨ah, hxs, rfl, hS, hE⟩ := id g1.hT
      have hxl : hxs.length = n := hE.len.trans g.hb.len
      refine ⟨_, rfl, ah, hxs, rfl, .inr hS, (hxs.length : Int), rfl, by omega, by omega, ?_⟩
      rw [Int.toNat_natCast, hxl]
      refine for_range (lo := 0) (n := n) (fun i σ H' => ∃ bv y5 y6 y7 y8 y9 y10, σ = [some (.ref ah), some u, some nv, some .non, some bv, y5, y6, y7, y8, y9, y10] ∧ Same H H' ∧ BV K H' bv (((rg n).take i).foldl (stepB h n (look h n nm k) Ls) none))
        ⟨.non, none, none, none, none, none, none, rfl, s1, rfl⟩ (fun i σ H' hi h' => ?_) (fun σ H' h' => ?_)
      · obtain ⟨bv, y5, y6, y7, y8, y9, y10, rfl, sm, hB⟩ := h'
        rw [Int.zero_add]
        have hpi := rg_at hi
        obtain ⟨p, ep⟩ : ∃ p : Int, p = (i : Int) := ⟨_, rfl⟩
        rw [← ep] at hpi ⊢
        have rp : InR n p := rg_mem.mp (List.mem_of_getElem? hpi)
        have more : ((rg n).take (i + 1)).foldl (stepB h n (look h n nm k) Ls) none = stepB h n (look h n nm k) Ls (((rg n).take i).foldl (stepB h n (look h n nm k) Ls) none) p := by
          rw [List.take_add_one, hpi, List.foldl_append]
          rfl
        generalize ((rg n).take i).foldl (stepB h n (look h n nm k) Ls) none = best at hB more
        have gm := g.same sm
        refine ⟨_, rfl, _, rfl, _, rfl, .ref ah, u, h, n, Ls, p, rfl, gm.hT, gm.hb, gm.hLs, gm.hL, by omega, rp, fun H2 d kvs s2 pv => ?_⟩
        obtain ⟨ks0, ek0, lk0, _⟩ := pv.sorted
        have lkv : kvs.length = (prts h n Ls p).length := by
          have := congrArg List.length ek0
          rw [List.length_map, List.length_map] at this
          omega
        have few : (prts h n Ls p).length ≤ 5 := by
          have h2 := List.length_filterMap_le (partO h Ls p) (rg n)
          rw [rg_len] at h2
          unfold prts
          omega
        refine ⟨_, rfl, d, kvs, rfl, pv.at_, _, _, rfl, rfl, _, rfl, ite2 (fun e => ?_) (fun e => ?_)⟩
        · have e := of_decide_eq_true e
          have hs : 1 < (prts h n Ls p).length := by omega
          have less : ∀ x ∈ prts h n Ls p, x.2.length < Ls.length ∧ 1 ≤ x.2.length ∧ ∀ L ∈ x.2, L.Perm (rg n) := fun x hx => by
            have m := prts_mem.mp hx
            refine ⟨prts_less g.hL hs hx, List.length_pos_iff.mpr m.2.2, ?_⟩
            rw [m.2.1]
            exact partL_perm g.hb rp g.hL
          have sm2 := sm.trans s2
          -- told
          obtain ⟨ks, ek, lk, srt⟩ := pv.sorted
          refine ⟨_, rfl, d, kvs, ks, rfl, .inl pv.at_, ek, by omega, fun ys q1 pmy le hq1 => ?_⟩
          have ey := srt ys pmy le
          subst ey
          have sq := same_new (o := .lst (((prts h n Ls p).map Prod.fst).map V.int)) hq1
          have pv2 : PV K (upd H2 q1 (.lst (((prts h n Ls p).map Prod.fst).map V.int))) d kvs h n Ls p := pv.same sq
          have eq1 : (upd H2 q1 (.lst (((prts h n Ls p).map Prod.fst).map V.int))) q1 = some (.lst (((prts h n Ls p).map Prod.fst).map V.int)) := upd_same
          have sm2 := sm2.trans sq
          have s2 := s2.trans sq
          generalize (upd H2 q1 (.lst (((prts h n Ls p).map Prod.fst).map V.int))) = H2 at *
          refine ⟨q1, rfl, ⟨_, lstAt eq1⟩, fun D hD => ?_⟩
          have lX : (((prts h n Ls p).map Prod.fst).map V.int).length = (prts h n Ls p).length := by rw [List.length_map, List.length_map]
          refine lc_list (xs := ((prts h n Ls p).map Prod.fst).map V.int) (fun j H3 => Same H2 H3 ∧ ∃ us, H3 D = some (.lst us) ∧ Each (TT1 K H3) us (((prts h n Ls p).take j).map fun x => (x.1, look h n nm k x.2))) ⟨same_new hD, [], upd_same, .nil⟩ (fun j H3 _ h3 => lstAt (h3.1 _ _ eq1)) (fun j x H3 hx h3 => ?_) (fun H3 h3 => ?_)
          · obtain ⟨s3, us, eD, hU⟩ := h3
            obtain ⟨b1, hb1, rfl⟩ := map_at hx
            rw [List.getElem?_map] at hb1
            obtain ⟨pt, hpj, rfl⟩ := Option.map_eq_some_iff.mp hb1
            have mp := List.mem_of_getElem? hpj
            have lp := less pt mp
            have pm := prts_mem.mp mp
            obtain ⟨l1, us1, ev1, el1, hU1⟩ := (pv2.same s3).val pt.1 pm.1 (by rw [← pm.2.1]; exact pm.2.2)
            rw [← pm.2.1] at hU1
            refine ⟨rfl, ?_⟩
            refine ⟨_, rfl, _, rfl, _, rfl, _, rfl, d, _, rfl, by have := DGet.k (k := .inl pt.1) (pv2.same s3).at_; rw [ev1] at this; exact this, _, rfl, (.ref ah), .ref l1, nv, h, n, pt.2, nm, rfl, ⟨(g.same (sm2.trans s3)).hT, g.hb, ⟨l1, us1, rfl, el1, hU1⟩, lp.2.2, lp.2.1, g.hn⟩, by omega, by omega, fun H5 y s5 dy => ⟨by show 2 ≤ sizeLine; decide, fun t7 ht7 => ?_⟩⟩
            have s7 := same_new (o := .tup [.int pt.1, y]) ht7
            have eD7 := s7 _ _ (s5 _ _ eD)
            have lU := hU.len
            rw [List.length_map, List.length_take] at lU
            have fx : Fix _ (upd (upd H5 t7 (.tup [.int pt.1, y])) D (.lst (us ++ [.ref t7]))) := Fix.lst eD7
            have f5 : Fix H3 (upd H5 t7 (.tup [.int pt.1, y])) := Fix.same (s5.trans s7)
            refine ⟨us, eD7, small1000 (by omega), keep_lst (s3.trans (s5.trans s7)) hD, us ++ [.ref t7], upd_same, ?_⟩
            rw [List.take_add_one, hpj, List.map_append]
            have nl := nl_look h n nm k pt.2
            exact Each.snoc ⟨t7, y, rfl, fx.tups _ _ (tupAt upd_same), Dp.fixN ((Fix.same s7).trans fx) dy (.pair nl), nl⟩ (hU.imp fun _ _ z => z.fix (f5.trans fx))
          · obtain ⟨s3, us, eD, hU⟩ := h3
            rw [lX, List.take_length] at hU
            have lU := hU.len
            rw [List.length_map] at lU
            -- depth
            refine ⟨_, rfl, D, rfl, ⟨_, lstAt eD⟩, fun D2 hD2 => ?_⟩
            refine lc_list (xs := us) (fun j H4 => Same H3 H4 ∧ H4 D2 = some (.lst ((((prts h n Ls p).take j).map fun x => ((look h n nm k x.2).1 : Int)).map V.int))) ⟨same_new hD2, upd_same⟩ (fun j H4 _ h4 => lstAt (h4.1 _ _ eD)) (fun j x H4 hx h4 => ?_) (fun H4 h4 => ?_)
            · obtain ⟨s4, eD2⟩ := h4
              obtain ⟨y, hy, t1, u1, rfl, hS1, hd1, _⟩ := hU.at hx
              rw [List.getElem?_map] at hy
              obtain ⟨pt, hpj, rfl⟩ := Option.map_eq_some_iff.mp hy
              obtain ⟨a1, w1, rfl, hS2, _⟩ := dp_pair hd1
              refine ⟨t1, _, rfl, onT s4 hS1, rfl, _, _, rfl, _, _, rfl, rfl, rfl, ?_⟩
              refine ⟨_, rfl, a1, _, 0, _, rfl, rfl, onT s4 hS2, atI_nat (j := 0) rfl, _, eD2, ?_, keep_lst s4 hD2, ?_⟩
              · rw [List.length_map, List.length_map, List.length_take]
                exact small1000 (by omega)
              · rw [upd_same, List.take_add_one, hpj, List.map_append, List.map_append]
                rfl
            obtain ⟨s4, eD2⟩ := h4
            rw [lU, List.take_length] at eD2
            refine ⟨D2, _, rfl, lstAt eD2, by rw [List.length_map]; omega, fun m hm1 hm2 => ⟨1, m, rfl, rfl, ?_⟩⟩
            have em : 1 + m = ((1 + dMax (look h n nm k) (prts h n Ls p) : Nat) : Int) := by
              rw [dMax_is hm1 hm2]
              omega
            show gName 8 (V.int (1 + m)) _ _ _
            rw [em]
            have sm4 := sm2.trans (s3.trans s4)
            have s24 := s2.trans (s3.trans s4)
            refine better (i := 4) (j := 8) rfl rfl (hB.same s24).bw (ite2 (fun c => ?_) (fun c => ?_))
            · refine ⟨_, rfl, _, rfl, _, rfl, D, rfl, ⟨_, lstAt (s4 _ _ eD)⟩, fun D5 hD5 => ?_⟩
              have hU4 := hU.imp fun _ _ z => z.fix (Fix.same s4)
              refine lc_list (xs := us) (fun j H5 => Same H4 H5 ∧ ∃ ws, H5 D5 = some (.lst ws) ∧ Each (TQ1 K H5) ws (((prts h n Ls p).take j).map fun x => (x.1, (look h n nm k x.2).2))) ⟨same_new hD5, [], upd_same, .nil⟩ (fun j H5 _ h5 => lstAt (h5.1 _ _ (s4 _ _ eD))) (fun j x H5 hx h5 => ?_) (fun H5 h5 => ?_)
              · obtain ⟨s5, ws, eD5, hW⟩ := h5
                obtain ⟨y, hy, t1, u1, rfl, hS1, hd1, nl⟩ := hU4.at hx
                rw [List.getElem?_map] at hy
                obtain ⟨pt, hpj, rfl⟩ := Option.map_eq_some_iff.mp hy
                obtain ⟨a1, w1, rfl, hS2, hd2⟩ := dp_pair hd1
                refine ⟨t1, _, rfl, onT s5 hS1, rfl, _, _, rfl, _, _, rfl, rfl, rfl, ?_⟩
                refine ⟨_, rfl, _, rfl, a1, _, 1, _, rfl, rfl, onT s5 hS2, atI_nat (j := 1) rfl, by show 2 ≤ sizeLine; decide, fun t7 ht7 => ?_⟩
                have s7 := same_new (o := .tup [.int pt.1, w1]) ht7
                have eD7 := s7 _ _ eD5
                have lW := hW.len
                rw [List.length_map, List.length_take] at lW
                have fx : Fix _ (upd (upd H5 t7 (.tup [.int pt.1, w1])) D5 (.lst (ws ++ [.ref t7]))) := Fix.lst eD7
                refine ⟨ws, eD7, small1000 (by omega), keep_lst (s5.trans s7) hD5, ws ++ [.ref t7], upd_same, ?_⟩
                rw [List.take_add_one, hpj, List.map_append]
                refine Each.snoc ⟨?_, nl⟩ (hW.imp fun _ _ z => z.fix ((Fix.same s7).trans fx))
                exact .tup (fx.tups _ _ (tupAt upd_same)) (.cons (.int _) (.cons (Dp.fixN ((Fix.same (s5.trans s7)).trans fx) hd2 nl) .nil))
              · obtain ⟨s5, ws, eD5, hW⟩ := h5
                rw [lU, List.take_length] at hW
                refine .inl ⟨D5, ws, rfl, lstAt eD5, fun t9 ht9 => ⟨by show 2 ≤ sizeLine; decide, fun ta hta => ⟨by show 2 ≤ sizeLine; decide, fun tb htb => ?_⟩⟩⟩
                have s9 := same_new (o := .tup ws) ht9
                have sa := same_new (o := .tup [.int p, .ref t9]) hta
                have sb := same_new (o := .tup [.int ((1 + dMax (look h n nm k) (prts h n Ls p) : Nat) : Int), .ref ta]) htb
                have s5b := s5.trans (s9.trans (sa.trans sb))
                refine ⟨_, _, _, _, _, _, _, rfl, sm4.trans s5b, ?_⟩
                have e1 : stepB h n (look h n nm k) Ls best p = some (1 + dMax (look h n nm k) (prts h n Ls p), nodeD p ((prts h n Ls p).map fun x => (x.1, (look h n nm k x.2).2))) := by
                  unfold stepB
                  rw [if_pos hs, if_pos c]
                rw [more, e1]
                refine .tup (tupAt upd_same) (.cons (.int _) (.cons (.tup (tupAt (sb _ _ upd_same)) (.cons (.int _) (.cons (.tup (tupAt (sb _ _ (sa _ _ upd_same))) ?_) .nil))) .nil))
                exact tq_all (hW.imp fun _ _ z => z.fix (Fix.same (s9.trans (sa.trans sb))))
            · refine ⟨bv, _, _, _, _, _, _, rfl, sm4, ?_⟩
              have e1 : stepB h n (look h n nm k) Ls best p = best := by
                unfold stepB
                rw [if_pos hs, if_neg c]
              rw [more, e1]
              exact hB.same s24
        · have e1 : stepB h n (look h n nm k) Ls best p = best := by
            unfold stepB
            rw [if_neg fun z => e (decide_eq_true (by omega))]
          refine ⟨bv, _, _, _, _, _, _, rfl, sm.trans s2, ?_⟩
          rw [more, e1]
          exact hB.same s2
      · obtain ⟨bv, y5, y6, y7, y8, y9, y10, rfl, sm, hB⟩ := h'
        rw [show (rg n).take n = rg n from List.take_of_length_le (by rw [rg_len]; exact Nat.le_refl _), hr1] at hB
        exact ⟨_, rfl, q H' bv sm hB⟩
end
end RH
set_option Elab.async false
set_option linter.all false
set_option maxRecDepth 100000
set_option maxHeartbeats 2000000
namespace RH
open PySem PySem.Spec PyProof.Rows L2
/-! ### following a tree -/
def SHp (m : Nat) (d : PyData) : Prop := PyData.canLay0 d = true ∧ PyData.depth d ≤ m
theorem SHp.mono {m m' : Nat} {d : PyData} (h : SHp m d) (e : m ≤ m') : SHp m' d := ⟨h.1, Nat.le_trans h.2 e⟩
theorem SHp.tup {m : Nat} {ds : List PyData} (h : ∀ d ∈ ds, SHp m d) : SHp (m + 1) (.tuple ds) := by
  have go : PyData.canLayAll0 ds = true ∧ PyData.depthAll ds ≤ m := by
    induction ds with
    | nil => exact ⟨rfl, Nat.zero_le _⟩
    | cons d ds ih =>
      have h1 := h d (List.mem_cons_self ..)
      have h2 := ih fun e he => h e (List.mem_cons_of_mem _ he)
      exact ⟨by rw [PyData.canLayAll0, h1.1, h2.1]; rfl, by rw [PyData.depthAll]; exact Nat.max_le.mpr ⟨h1.2, h2.2⟩⟩
  exact ⟨by rw [PyData.canLay0]; exact go.1, by rw [PyData.depth]; omega⟩
theorem SHp.int (i : Int) (m : Nat) : SHp m (.int i) := ⟨rfl, Nat.zero_le _⟩
theorem SHp.pair {m : Nat} {i : Int} {d : PyData} (h : SHp m d) : SHp (m + 1) (.tuple [.int i, d]) := .tup fun e he => by
  rcases List.mem_cons.mp he with rfl | he
  · exact .int i m
  · rw [List.mem_singleton.mp he]
    exact h
theorem SHp.sg (nm : Option Nat) (L : List Int) : SHp 1 (sgD nm L) := by
  cases nm with
  | none =>
    refine SHp.tup fun d hd => ?_
    obtain ⟨i, _, rfl⟩ := List.mem_map.mp hd
    exact .int i 0
  | some k => exact .int _ _
theorem SHp.node {m : Nat} {p : Int} {tr : List (Int × PyData)} (h : ∀ x ∈ tr, SHp m x.2) : SHp (m + 3) (nodeD p tr) := .pair (.tup fun e he => by
  obtain ⟨x, hx, rfl⟩ := List.mem_map.mp he
  exact .pair (h x hx))
theorem SHp.ok {m : Nat} {d : PyData} (h : SHp m d) (e : m ≤ 64) : SeqAt.shaped d = true := by
  unfold SeqAt.shaped
  rw [h.1, decide_eq_true (Nat.le_trans h.2 e)]
  rfl
theorem shp_look (h : List (List Int)) (n : Nat) (nm : Option Nat) : ∀ (k : Nat) (Ls : List (List Int)), SHp (3 * k + 1) (look h n nm k Ls).2
  | 0, Ls => SHp.sg nm _
  | k + 1, Ls => by
    show SHp _ (if knownB nm Ls = true then _ else _ : Nat × PyData).2
    split
    · exact (SHp.sg nm _).mono (by omega)
    · show SHp _ (((rg n).foldl (stepB h n (look h n nm k) Ls) none).getD (0, .none)).2
      cases e : (rg n).foldl (stepB h n (look h n nm k) Ls) none with
      | none => exact ⟨rfl, Nat.zero_le _⟩
      | some r =>
        rcases fold_is (rg n) e with z | ⟨p, _, _, rfl⟩
        · cases z
        · refine (SHp.node (m := 3 * k + 1) fun x hx => ?_).mono (by omega)
          obtain ⟨y, _, rfl⟩ := List.mem_map.mp hx
          exact shp_look h n nm k y.2
theorem okD_look (h : List (List Int)) (n : Nat) (nm : Option Nat) (hn : n ≤ 5) : ∀ (k : Nat) (Ls : List (List Int)), (∀ L ∈ Ls, L.Perm (rg n)) → 1 ≤ Ls.length → Hb n h → okD (3 * k + 1) (look h n nm k Ls).2 := by
  have leaf : ∀ {Ls : List (List Int)} (m : Nat), (∀ L ∈ Ls, L.Perm (rg n)) → 1 ≤ Ls.length → okD (m + 1) (sgD nm (Ls.headD [])) := fun {Ls} m hL l1 => by
    cases nm with
    | none =>
      have := hL _ (head_mem (List.length_pos_iff.mp l1))
      refine ⟨by rw [List.length_map, perm_len this]; omega, fun d hd => ?_⟩
      obtain ⟨i, _, rfl⟩ := List.mem_map.mp hd
      cases m <;> exact True.intro
    | some k => exact True.intro
  intro k
  induction k with
  | zero => exact fun Ls hL l1 _ => leaf 0 hL l1
  | succ k ih =>
    intro Ls hL l1 hb
    cases hk : knownB nm Ls with
    | true =>
      rw [look_known hk]
      exact leaf (3 * (k + 1)) hL l1
    | false =>
      obtain ⟨p, hp, hs, _, e⟩ := look_node (h := h) (k := k) hL hk
      rw [e]
      have few : (prts h n Ls p).length ≤ 5 := by
        have h2 := List.length_filterMap_le (partO h Ls p) (rg n)
        rw [rg_len] at h2
        unfold prts
        omega
      show okD (3 * k + 1 + 1 + 1 + 1) (nodeD p _)
      refine ⟨by show 2 ≤ 1000; decide, fun d hd => ?_⟩
      rcases List.mem_cons.mp hd with rfl | hd
      · exact True.intro
      rw [List.mem_singleton.mp hd]
      refine ⟨by rw [List.length_map, List.length_map]; omega, fun d hd => ?_⟩
      obtain ⟨y, hy, rfl⟩ := List.mem_map.mp hd
      obtain ⟨x, hx, rfl⟩ := List.mem_map.mp hy
      refine ⟨by show 2 ≤ 1000; decide, fun d hd => ?_⟩
      rcases List.mem_cons.mp hd with rfl | hd
      · exact True.intro
      rw [List.mem_singleton.mp hd]
      have m := prts_mem.mp hx
      exact ih x.2 (by rw [m.2.1]; exact partL_perm hb hp hL) (List.length_pos_iff.mpr m.2.2) hb
theorem merge_val : ∀ (kvs acc : List (Key × V)) (j : Key), (kvs.map Prod.fst).Nodup → valV (mergeK acc kvs) j = (match valV kvs j with | some v => some v | none => valV acc j)
  | [], acc, j, _ => rfl
  | kv :: r, acc, j, nd => by
    have nd := List.nodup_cons.mp (show (kv.1 :: r.map Prod.fst).Nodup from nd)
    have e : mergeK acc (kv :: r) = mergeK (putK acc kv.1 kv.2) r := rfl
    rw [e, merge_val r _ j nd.2]
    by_cases z : kv.1 = j
    · have h1 : valV r j = none := by
        have : (valV r j).isSome = false := by
          rw [← valV_any, List.any_eq_false]
          intro x hx
          simp only [decide_eq_true_eq]
          intro y
          exact nd.1 (List.mem_map.mpr ⟨x, hx, y.trans z.symm⟩)
        cases h : valV r j with
        | none => rfl
        | some v => rw [h] at this; cases this
      rw [h1, valV_pos z]
      show valV (putK acc kv.1 kv.2) j = some kv.2
      rw [valV_put, if_pos z.symm]
    · have h1 : valV (kv :: r) j = valV r j := by
        unfold valV
        rw [List.find?_cons, decide_eq_false z]
      rw [h1]
      cases valV r j with
      | some v => rfl
      | none =>
        show valV (putK acc kv.1 kv.2) j = valV acc j
        rw [valV_put, if_neg (fun y => z y.symm)]
theorem each_pairs {K : PySem.W.Frag} {H : Hp} {G : List (List Int) → V → Prop} : ∀ {xs : List V} {l : List (Int × List (List Int))}, Each (fun w x => ∃ t u, w = .ref t ∧ SqT K H t [.int x.1, u] ∧ G x.2 u) xs l → ((l.map Prod.fst).Nodup) →
    ∃ (ps : List Addr) (kvs : List (Key × V)), xs = ps.map V.ref ∧ Paired (fun p kv => SqT K H p [kV kv.1, kv.2]) ps kvs ∧ kvs.map Prod.fst = (l.map Prod.fst).map Sum.inl ∧ ∀ x ∈ l, ∃ u, valV kvs (.inl x.1) = some u ∧ G x.2 u
  | _, _, .nil, _ => ⟨[], [], rfl, .nil, rfl, fun _ h => (nomatch h)⟩
  | _, _, .cons (d := y) (ds := r) ⟨t, u, e, hS, g⟩ more, nd => by
    have nd := List.nodup_cons.mp (show (y.1 :: r.map Prod.fst).Nodup from nd)
    obtain ⟨ps, kvs, e1, e2, e3, e4⟩ := each_pairs more nd.2
    refine ⟨t :: ps, (.inl y.1, u) :: kvs, by rw [e, e1]; rfl, .cons hS e2, by rw [List.map_cons, e3]; rfl, fun x hx => ?_⟩
    rcases List.mem_cons.mp hx with rfl | hx
    · exact ⟨u, valV_pos rfl, g⟩
    · obtain ⟨u2, h1, h2⟩ := e4 x hx
      refine ⟨u2, ?_, h2⟩
      have ne : (Sum.inl y.1 : Key) ≠ .inl x.1 := fun z => nd.1 (List.mem_map.mpr ⟨x, hx, (Sum.inl.inj z).symm⟩)
      unfold valV at h1 ⊢
      rw [List.find?_cons, decide_eq_false ne]
      exact h1
theorem paired_on {K : PySem.W.Frag} {H H' : Hp} (s : Same H H') : ∀ {ps : List Addr} {kvs : List (Key × V)}, Paired (fun p kv => SqT K H p [kV kv.1, kv.2]) ps kvs → Paired (fun p kv => SqT K H' p [kV kv.1, kv.2]) ps kvs
  | _, _, .nil => .nil
  | _, _, .cons h t => .cons (onT s h) (paired_on s t)
theorem LkV.known {K : PySem.W.Frag} {H : Hp} {h : List (List Int)} {n : Nat} {nm : Option Nat} {k : Nat} {Ls : List (List Int)} {v : V} (q : LkV K H h n nm k Ls v) (e : knownB nm Ls = true) : Dp K H v (sgD nm (Ls.headD [])) := by
  cases k with
  | zero => exact q
  | succ k =>
    rcases q with ⟨_, q⟩ | ⟨e2, _⟩
    · exact q
    · rw [e] at e2
      cases e2
theorem dp_intsE {K : PySem.W.Frag} {H : Hp} : ∀ {L : List Int} {xs : List V}, DpAll K H xs (L.map PyData.int) → xs = L.map V.int
  | [], _, .nil => rfl
  | i :: L, _, .cons (.int _) t => by rw [dp_intsE t]; rfl
theorem last_int {L : List Int} (h : 1 ≤ L.length) : ∃ z : Int, atI (L.map V.int) (-1) = some (.int z) := by
  obtain ⟨l, z, rfl⟩ : ∃ l z, L = l ++ [z] := ⟨L.dropLast, L.getLast (List.length_pos_iff.mp h), (List.dropLast_concat_getLast _).symm⟩
  refine ⟨z, ?_⟩
  rw [List.map_append]
  exact atI_last _ _
section
variable {P : Program} {w : World} {K : PySem.W.Frag} {mg : Str → Option Value} {base : Heap}
/-- where a walk down the tree stands -/
structure Wk (K : PySem.W.Frag) (H : Hp) (v nv : V) (h : List (List Int)) (n : Nat) (nm : Option Nat) (m i : Nat) (a : Addr) (L : List Int) (tv : V) (k : Nat) (Ls : List (List Int)) : Prop where
  hT : TII K H v h
  hb : Hb n h
  hn : NmV nv n nm
  hL : ∀ L ∈ Ls, L.Perm (rg n)
  few : Ls.length ≤ k + 1
  k20 : k ≤ 20
  inL : L ∈ Ls
  fL : FT H a L
  tv : LkV K H h n nm k Ls tv
  deep : (look h n nm k Ls).1 + i ≤ m
def spFollow (K : PySem.W.Frag) : Sp := fun vs H Q _ => ∃ (v nv : V) (h : List (List Int)) (n : Nat) (nm : Option Nat) (m : Nat) (a : Addr) (L : List Int) (tv : V) (k : Nat) (Ls : List (List Int)), vs = [v, .ref a, tv, nv, .int (m : Int)] ∧ m ≤ 1000 ∧ Wk K H v nv h n nm m 0 a L tv k Ls ∧ ∀ H', Same H H' → Q (.bl true) H'
theorem ok_follow (F : Df K mg "_law_follow" st__law_follow ["habit", "layout", "tree", "name", "most"]) (B : Bu mg) (n_dict : mg "dict" = none) (CT : Cal P w K mg base 1 "_law_touch" (spMove K)) : Cal P w K mg base 2 "_law_follow" (spFollow K) := by
  refine mkCal F sc__law_follow (fun vs H Q E h => ?_) (fun f cdv A outer s H vs Q E hr h => ?_)
  · obtain ⟨v, nv, h, n, nm, m, a, L, tv, k, Ls, rfl, _⟩ := h
    rfl
  · obtain ⟨v, nv, h, n, nm, m, a, L, tv, k, Ls, rfl, m1, g, q⟩ := h
    refine ⟨_, pss_cons (ps_for PassesOwn.never rfl (pi_range1 (by rfl) B.range (pa_cons (pe_op op_add (pv 4) pe_int) pa_nil)) (pg_name (i := 5) sc__law_follow.nd rfl (Or.inl rfl)) (pss_cons (ps_if (PW.pt (pw_or (pt_not (pt_val (pe_callB call_isi (by rfl) B.isi (by decide +kernel) (pa_cons (pv 2) (pa_cons (pe_bltn (v := .ty "tuple") (by rfl) B.tuple (by decide +kernel) rfl) pa_nil))))) (pw_or (pt_cmpR (op_eqD hr.units) (pv 2) (pe_tup pa_nil) (nomark _)) (pw_or1 (pt_not (pt_val (pe_callB call_isi (by rfl) B.isi (by decide +kernel) (pa_cons (pe_ix (ixT K) (pv 2) (pe_un un_neg pe_int) (fun _ _ => rfl)) (pa_cons (pe_bltn (v := .ty "tuple") (by rfl) B.tuple (by decide +kernel) rfl) pa_nil))))))))) (pss_one (ps_ret (pe_cmpR (op_eqD hr.units) (pv 2) (pe_ifExp (pt_cmp (pc_isN (pv 3))) (pv 1) (pe_ix (ixT K) (pv 1) (pv 3) (fun _ _ => rfl))) (nomark _)))) pss_nil)
      (pss_cons (ps_if (pt_cmpR op_eq (pv 5) (pv 4) (nomark _)) (pss_one (ps_ret pe_bl)) pss_nil)
      (pss_cons (ps_set (i := 6) sc__law_follow.nd rfl (.inl rfl) (pe_tidxF (pv 1) (pe_ix (ixT K) (pv 2) pe_int (fun _ _ => rfl))))
      (pss_one (ps_par (i := 1) (j := 2) rfl sc__law_follow.nd rfl rfl (by decide) rfl rfl (pa_cons (pc CT hr (pa_cons (pv 0) (pa_cons (pv 1) (pa_cons (pe_ix (ixT K) (pv 2) pe_int (fun _ _ => rfl)) pa_nil)))) (pa_cons (pe_dget2 (hu_of hr) (pe_callTy (call_dictT rfl) (by rfl) n_dict (by decide +kernel) (pa_cons (pe_ix (ixT K) (pv 2) pe_int (fun _ _ => rfl)) pa_nil)) (pv 6) pe_non ⟨by rfl, by rfl, by rfl, by rfl⟩) pa_nil)) rfl))))))
      (pss_one (ps_ret pe_bl)), ?_⟩
    refine ⟨_, rfl, _, _, rfl, rfl, ((m : Int) + 1), rfl, by omega, by omega, ?_⟩
    have em : ((m : Int) + 1).toNat = m + 1 := by omega
    rw [em]
    refine for_range (lo := 0) (n := m + 1) (fun i σ H' => ∃ a L tv k Ls y5 y6, σ = [some v, some (.ref a), some tv, some nv, some (.int (m : Int)), y5, y6] ∧ Same H H' ∧ Wk K H' v nv h n nm m i a L tv k Ls) ⟨a, L, tv, k, Ls, none, none, rfl, Same.refl H, g⟩ (fun i σ H' hi h' => ?_) (fun σ H' h' => ?_)
    · clear g
      obtain ⟨a, L, tv, k, Ls, y5, y6, rfl, sm, g⟩ := h'
      rw [Int.zero_add]
      have n5 := g.hb.hi
      have n2 := g.hb.lo
      have pL := g.hL L g.inL
      have hh := head_mem (List.ne_nil_of_mem g.inL)
      cases hk : knownB nm Ls with
      | true =>
        have ht := g.tv.known hk
        have es := known_all.mp hk _ hh L g.inL
        rcases g.hn with ⟨rfl, rfl⟩ | ⟨k0, rfl, rfl, hk0⟩
        · have eL : Ls.headD [] = L := es
          rw [eL] at ht
          have ht : Dp K H' tv (.tuple (L.map PyData.int)) := ht
          obtain ⟨b, rfl, hS⟩ : ∃ b, tv = .ref b ∧ SqT K H' b (L.map V.int) := by
            cases ht with
            | tup hS hA =>
              refine ⟨_, rfl, ?_⟩
              rw [dp_intsE hA] at hS
              exact hS
          obtain ⟨z, hz⟩ := last_int (L := L) (by rw [perm_len pL]; omega)
          refine ⟨_, rfl, .ref b, .ty "tuple", _, _, true, rfl, .ty "tuple", ty_tup hS, kit_ty (by decide +kernel), true, rfl, ifF rfl ⟨_, rfl, Nat.zero_le _, fun t0 ht0 => ?_⟩⟩
          have s0 := same_new (o := .tup []) ht0
          refine ⟨_, _, dp_tup (onT s0 hS), dp_tup (ns := []) (tupAt upd_same), shaped_tup L, shaped_tup [], _, rfl, ifF ?_ ?_⟩
          · show PyData.eqv (.tuple (L.map PyData.int)) (.tuple ([].map PyData.int)) = false
            rw [PyData.eqv]
            have := PySem.W.ked_eqvAll L []
            rw [this, decide_eq_false]
            intro e
            rw [e] at pL
            have := perm_len pL
            simp at this
            omega
          refine ⟨_, rfl, 1, rfl, b, _, -1, .int z, rfl, rfl, onT s0 hS, hz, .int z, .ty "tuple", _, _, false, rfl, .ty "tuple", .base (.int z), kit_ty (by decide +kernel), false, rfl, ifT rfl ?_⟩
          refine ⟨_, rfl, _, rfl, _, rfl, ifT rfl ⟨_, rfl, _, _, dp_tup (onT s0 hS), dp_tup (g.fL.same s0).sqT, shaped_tup L, shaped_tup L, ?_⟩⟩
          have e : PyData.eqv (.tuple (L.map PyData.int)) (.tuple (L.map PyData.int)) = true := by
            rw [PyData.eqv, PySem.W.ked_eqvAll, decide_eq_true rfl]
          rw [e]
          exact q _ (sm.trans s0)
        · have ht : Dp K H' tv (.int ((Ls.headD []).getD k0 0)) := ht
          have eL : (Ls.headD []).getD k0 0 = L.getD k0 0 := (List.cons.inj (show [(Ls.headD []).getD k0 0] = [L.getD k0 0] from es)).1
          rw [eL] at ht
          cases ht
          have e0 := getD_perm pL (b := (k0 : Int)) ⟨by omega, by omega⟩
          rw [Int.toNat_natCast] at e0
          refine ⟨_, rfl, .int _, .ty "tuple", _, _, false, rfl, .ty "tuple", .base (.int _), kit_ty (by decide +kernel), false, rfl, ifT rfl (ifT rfl ?_)⟩
          refine ⟨_, rfl, _, rfl, _, rfl, ifF rfl ⟨_, rfl, _, rfl, a, _, (k0 : Int), .int (L.getD k0 0), rfl, rfl, g.fL.sqT, atI_nat (at_map e0), _, _, .int _, .int _, rfl, rfl, ?_⟩⟩
          have e : PyData.eqv (.int (L.getD k0 0)) (.int (L.getD k0 0)) = true := by
            show decide (L.getD k0 0 = L.getD k0 0) = true
            exact decide_eq_true rfl
          rw [e]
          exact q _ sm
      | false =>
        have k0 : k ≠ 0 := fun z => by
          have := known_one (nm := nm) (Ls := Ls) (by have := g.few; omega)
          rw [hk] at this
          cases this
        obtain ⟨k, rfl⟩ : ∃ k', k = k' + 1 := ⟨k - 1, by omega⟩
        have hd := g.tv.dp
        rcases g.tv with ⟨z, _⟩ | ⟨_, p, a1, b1, xs, ob, rp, hs, er, rfl, hS, hb1, hob, hE⟩
        · rw [hk] at z
          cases z
        have hSb : SqT K H' b1 xs := .inl (.inr ⟨ob, hb1⟩)
        have asc := prts_asc h n Ls p
        obtain ⟨ps, kvs, rfl, hP, ek, hval⟩ := each_pairs hE (asc.imp fun h => by omega)
        have deep := g.deep
        have rb := idx_inR pL rp
        have eb := (idx_of_getD pL rb).mpr ⟨rp, rfl⟩
        have inP : stp h p L ∈ partL h Ls p ((L.idxOf p : Nat) : Int) := partL_mem.mpr ⟨L, g.inL, eb, rfl⟩
        have mem : (((L.idxOf p : Nat) : Int), partL h Ls p ((L.idxOf p : Nat) : Int)) ∈ prts h n Ls p := prts_mem.mpr ⟨rb, rfl, List.ne_nil_of_mem inP⟩
        obtain ⟨u, hu1, hu2⟩ := hval _ mem
        have less : (partL h Ls p ((L.idxOf p : Nat) : Int)).length < Ls.length := prts_less g.hL hs mem
        have dm : (look h n nm k (partL h Ls p ((L.idxOf p : Nat) : Int))).1 ≤ dMax (look h n nm k) (prts h n Ls p) := dMax_ge (f := look h n nm k) mem
        have e1 : (look h n nm (k + 1) Ls).1 = 1 + dMax (look h n nm k) (prts h n Ls p) := by rw [er]
        refine ⟨_, rfl, .ref a1, .ty "tuple", _, _, true, rfl, .ty "tuple", ty_tup hS, kit_ty (by decide +kernel), true, rfl, ifF rfl ⟨_, rfl, Nat.zero_le _, fun t0 ht0 => ?_⟩⟩
        have s0 := same_new (o := .tup []) ht0
        have sh := shp_look h n nm (k + 1) Ls
        refine ⟨_, _, Dp.on s0 _ _ hd, dp_tup (ns := []) (tupAt upd_same), sh.ok (by have := g.k20; omega), shaped_tup [], _, rfl, ifF ?_ ?_⟩
        · rw [er]
          rfl
        refine ⟨_, rfl, 1, rfl, a1, _, -1, .ref b1, rfl, rfl, onT s0 hS, rfl, .ref b1, .ty "tuple", _, _, true, rfl, .ty "tuple", ty_tup (onT s0 hSb), kit_ty (by decide +kernel), true, rfl, ifF rfl ?_⟩
        refine ⟨_, rfl, _, rfl, rfl, _, rfl, ifF (decide_eq_false fun z => ?_) ?_⟩
        · have z := V.int.inj z
          omega
        have hS0 := onT s0 hS
        refine ⟨_, rfl, a, L, rfl, g.fL.same s0, _, rfl, a1, _, 0, .int p, rfl, rfl, hS0, rfl, p, rfl, g.fL.same s0, perm_mem pL rp, ?_⟩
        refine ⟨_, rfl, _, rfl, _, rfl, a1, _, 0, .int p, rfl, rfl, hS0, rfl, v, h, n, a, L, p, rfl, g.hT.on (Same.tups s0), g.hb, (g.fL.same s0).sqT, fun j hj => perm_in pL hj, by rw [perm_len pL]; omega, rp, fun H2 q2 s2 _ f2 => ?_⟩
        have s02 := s0.trans s2
        refine ⟨_, rfl, a1, _, 1, .ref b1, rfl, rfl, onT s02 hS, rfl, b1, ob, ps, kvs, rfl, s02 _ _ hb1, hob, paired_on s02 hP, fun dd hdd => ?_⟩
        have sd := same_new (o := .dK (mergeK [] kvs)) hdd
        refine ⟨dd, rfl, .inl ⟨_, .inl upd_same⟩, _, rfl, _, DGet.k (k := .inl ((L.idxOf p : Nat) : Int)) upd_same, ?_⟩
        have ndk : (kvs.map Prod.fst).Nodup := by
          rw [ek]
          exact List.pairwise_map.mpr (asc.imp fun h z => by have := Sum.inl.inj z; omega)
        rw [merge_val kvs [] _ ndk, hu1]
        have s2d := s02.trans sd
        refine ⟨_, _, rfl, q2, stp h p L, u, k, partL h Ls p ((L.idxOf p : Nat) : Int), _, _, rfl, sm.trans s2d, g.hT.on (Same.tups s2d), g.hb, g.hn, partL_perm g.hb rp g.hL, by have := g.few; omega, by have := g.k20; omega, inP, f2.same sd, hu2.fix (Fix.same s2d) k _ _, by omega⟩
    · obtain ⟨a, L, tv, k, Ls, y5, y6, rfl, sm, g⟩ := h'
      have := g.deep
      omega
end
end RH
set_option Elab.async false
set_option linter.all false
set_option maxRecDepth 100000
set_option maxHeartbeats 2000000
namespace RH
open PySem PySem.Spec PyProof.Rows L2
/-! ### does a value tell? -/
def plD (n : Nat) : PyData → Bool
  | .int i => decide (0 ≤ i) && decide (i ≤ (n : Int) - 1)
  | _ => false
def intD : PyData → Int
  | .int i => i
  | _ => -1
def layD (n : Nat) : PyData → Bool
  | .tuple ds => ds.all (plD n) && isLay n (ds.map intD)
  | _ => false
def ansD (n : Nat) (nm : Option Nat) (d : PyData) : Bool := match nm with
  | none => layD n d
  | some _ => plD n d
def pairD : PyData → Option (PyData × PyData)
  | .tuple [x, y] => some (x, y)
  | _ => none
def bookD (t : PyData) : Option (Int × PyData) := match pairD t with
  | some (.int b, y) => some (b, y)
  | _ => none
def ndD (d : PyData) : Option (Int × List PyData) := match bookD d with
  | some (p, .tuple ts) => some (p, ts)
  | _ => none
def zipA (f : List (List Int) → PyData → Bool) : List PyData → List (Int × List (List Int)) → Bool
  | t :: ts, x :: xs => (match bookD t with
    | some (b, e) => decide (b = x.1) && f x.2 e
    | none => false) && zipA f ts xs
  | _, _ => true
def tlD (h : List (List Int)) (n : Nat) (nm : Option Nat) : Nat → List (List Int) → PyData → Bool
  | 0 => fun Ls d => ansD n nm d && (knownB nm Ls && PyData.eqv d (sgD nm (Ls.headD [])))
  | k + 1 => fun Ls d => if ansD n nm d = true then (knownB nm Ls && PyData.eqv d (sgD nm (Ls.headD []))) else match ndD d with
    | some (p, ts) => (decide (0 ≤ p) && decide (p ≤ (n : Int) - 1)) && (decide (ts.length = (prts h n Ls p).length) && zipA (tlD h n nm k) ts (prts h n Ls p))
    | none => false
def LO (d : PyData) : Prop := SHp 30 d ∧ ∀ ds, d = .tuple ds → ds.length < 64 ∧ NL d
def RK : Nat → PyData → Prop
  | 0, d => LO d ∧ ∀ p ts, ndD d = some (p, ts) → ts = []
  | k + 1, d => LO d ∧ ∀ p ts, ndD d = some (p, ts) → ts.length < 64 ∧ ∀ t ∈ ts, ∀ x y, t = .tuple [x, y] → (∃ b, x = .int b) ∧ RK k y
theorem RK.lo : ∀ {k : Nat} {d : PyData}, RK k d → LO d
  | 0, _, h => h.1
  | _ + 1, _, h => h.1
theorem pairD_some {d x y : PyData} : pairD d = some (x, y) ↔ d = .tuple [x, y] := by
  constructor
  · intro h
    unfold pairD at h
    split at h
    · cases h
      rfl
    · cases h
  · rintro rfl
    rfl
theorem bookD_some {d y : PyData} {b : Int} : bookD d = some (b, y) ↔ d = .tuple [.int b, y] := by
  constructor
  · intro h
    unfold bookD at h
    split at h
    · rename_i e
      cases h
      exact pairD_some.mp e
    · cases h
  · rintro rfl
    rfl
theorem ndD_some {d : PyData} {p : Int} {ts : List PyData} : ndD d = some (p, ts) ↔ d = .tuple [.int p, .tuple ts] := by
  constructor
  · intro h
    unfold ndD at h
    split at h
    · rename_i e
      cases h
      exact bookD_some.mp e
    · cases h
  · rintro rfl
    rfl
/-- what stands as data is a value of a kind -/
theorem tk_dp {K : PySem.W.Frag} {H : Hp} {v : V} {d : PyData} (h : Dp K H v d) : ∃ wo, Tk K H v wo ∧ Sw K H v ∧ ((∃ ds xs, d = .tuple ds ∧ wo = some xs ∧ DpAll K H xs ds) ∨ ((∀ ds, d ≠ .tuple ds) ∧ wo = none)) := by
  cases h with
  | non => exact ⟨_, .non, .non, .inr ⟨fun _ z => (by cases z), rfl⟩⟩
  | bl b => exact ⟨_, .bl b, .bl b, .inr ⟨fun _ z => (by cases z), rfl⟩⟩
  | int i => exact ⟨_, .int i, .int i, .inr ⟨fun _ z => (by cases z), rfl⟩⟩
  | str z => exact ⟨_, .str z, .str z, .inr ⟨fun _ z => (by cases z), rfl⟩⟩
  | lst hS hA => exact ⟨_, .lst hS, .lst hS, .inr ⟨fun _ z => (by cases z), rfl⟩⟩
  | tup hS hA => exact ⟨_, .tup hS, .tup hS, .inl ⟨_, _, rfl, rfl, hA⟩⟩
theorem inV_dp {K : PySem.W.Frag} {H : Hp} {v : V} {d : PyData} (n : Nat) (h : Dp K H v d) : inV2 0 ((n : Int) - 1) v = plD n d := by
  cases h <;> rfl
theorem val_dp {K : PySem.W.Frag} {H : Hp} {v : V} {d : PyData} (h : Dp K H v d) : valI v = intD d := by
  cases h <;> rfl
theorem all_dp {K : PySem.W.Frag} {H : Hp} (n : Nat) : ∀ {xs : List V} {ds : List PyData}, DpAll K H xs ds → xs.all (inV2 0 ((n : Int) - 1)) = ds.all (plD n) ∧ xs.map valI = ds.map intD ∧ (∀ x ∈ xs, Sw K H x) ∧ xs.length = ds.length
  | _, _, .nil => ⟨rfl, rfl, fun _ h => (nomatch h), rfl⟩
  | _, _, .cons h t => by
    obtain ⟨e1, e2, e3, e4⟩ := all_dp n t
    refine ⟨by rw [List.all_cons, List.all_cons, inV_dp n h, e1], by rw [List.map_cons, List.map_cons, val_dp h, e2], fun x hx => ?_, by rw [List.length_cons, List.length_cons, e4]⟩
    rcases List.mem_cons.mp hx with rfl | hx
    · obtain ⟨_, _, s, _⟩ := tk_dp h
      exact s
    · exact e3 x hx
theorem wd_dp {K : PySem.W.Frag} {H : Hp} {v : V} {d : PyData} (n : Nat) (h : Dp K H v d) (l : LO d) : ∃ wo, Wd K H v wo ∧ layW n wo = layD n d := by
  obtain ⟨wo, ht, hs, hc⟩ := tk_dp h
  rcases hc with ⟨ds, xs, rfl, rfl, hA⟩ | ⟨no, rfl⟩
  · obtain ⟨e1, e2, e3, e4⟩ := all_dp n hA
    refine ⟨_, ⟨ht, fun ys e => by cases e; exact e3, fun ys e => by cases e; rw [e4]; exact (l.2 ds rfl).1⟩, ?_⟩
    show (xs.all _ && isLay n (xs.map valI)) = (ds.all _ && isLay n (ds.map intD))
    rw [e1, e2]
  · refine ⟨_, ⟨ht, fun ys e => (by cases e), fun ys e => (by cases e)⟩, ?_⟩
    show false = layD n d
    cases d with
    | tuple ds => exact absurd rfl (no ds)
    | _ => rfl
theorem dp_row2 {K : PySem.W.Frag} {H : Hp} {v : V} {d : PyData} (h : Dp K H v d) : (∃ x y a v1 v2, d = .tuple [x, y] ∧ v = .ref a ∧ SqT K H a [v1, v2] ∧ Dp K H v1 x ∧ Dp K H v2 y ∧ ∃ wo, Tk K H v wo ∧ rowW 2 2 wo = true) ∨ (pairD d = none ∧ ∃ wo, Tk K H v wo ∧ rowW 2 2 wo = false) := by
  obtain ⟨wo, ht, _, hc⟩ := tk_dp h
  rcases hc with ⟨ds, xs, rfl, rfl, hA⟩ | ⟨no, rfl⟩
  · have el := (all_dp 0 hA).2.2.2
    match ds, hA with
    | [x, y], hA =>
      cases hA with
      | cons h1 hA =>
        cases hA with
        | cons h2 hA =>
          cases hA
          cases h with
          | tup hS hA2 =>
            cases ht with
            | tup hS2 => exact .inl ⟨x, y, _, _, _, rfl, rfl, hS2, h1, h2, _, .tup hS2, rfl⟩
    | [], _ => exact .inr ⟨rfl, _, ht, by
        cases xs with
        | nil => rfl
        | cons _ _ => cases el⟩
    | [_], _ => exact .inr ⟨rfl, _, ht, by
        match xs, el with
        | [_], _ => rfl⟩
    | _ :: _ :: _ :: r, _ => exact .inr ⟨rfl, _, ht, by
        show (decide ((2 : Int) ≤ (xs.length : Int)) && decide ((xs.length : Int) ≤ 2)) = false
        rw [el, decide_eq_false (p := ((_ : Int) ≤ 2)) (by simp only [List.length_cons]; omega), Bool.and_false]⟩
  · refine .inr ⟨?_, _, ht, rfl⟩
    cases d with
    | tuple ds => exact absurd rfl (no ds)
    | _ => rfl
theorem tl_nopair {h : List (List Int)} {n : Nat} {nm : Option Nat} {k : Nat} {Ls : List (List Int)} {d : PyData} (ha : ansD n nm d = false) (hn : ndD d = none) : tlD h n nm k Ls d = false := by
  cases k with
  | zero =>
    show (ansD n nm d && _) = false
    rw [ha]
    rfl
  | succ k =>
    show (if ansD n nm d = true then _ else match ndD d with | some (p, ts) => _ | none => false) = false
    rw [ha, hn]
    rfl
theorem nd_of_pair {d : PyData} (h : pairD d = none) : ndD d = none := by
  have : bookD d = none := by
    unfold bookD
    rw [h]
  unfold ndD
  rw [this]
theorem prts_pos {h : List (List Int)} {n : Nat} {Ls : List (List Int)} {p : Int} (hL : ∀ L ∈ Ls, L.Perm (rg n)) (l1 : 1 ≤ Ls.length) (hp : InR n p) : 1 ≤ (prts h n Ls p).length := by
  obtain ⟨L, hl⟩ := List.exists_mem_of_length_pos l1
  have r := idx_inR (hL L hl) hp
  have inP : stp h p L ∈ partL h Ls p ((L.idxOf p : Nat) : Int) := partL_mem.mpr ⟨L, hl, (idx_of_getD (hL L hl) r).mpr ⟨hp, rfl⟩, rfl⟩
  exact List.length_pos_iff.mpr (List.ne_nil_of_mem (prts_mem.mpr ⟨r, rfl, List.ne_nil_of_mem inP⟩ : (((L.idxOf p : Nat) : Int), _) ∈ _))
theorem tl_place {h : List (List Int)} {n : Nat} {nm : Option Nat} {k : Nat} {Ls : List (List Int)} {x y : PyData} (ha : ansD n nm (.tuple [x, y]) = false) (hx : plD n x = false) : tlD h n nm k Ls (.tuple [x, y]) = false := by
  cases e : ndD (.tuple [x, y]) with
  | none => exact tl_nopair ha e
  | some z =>
    obtain ⟨p, ts⟩ := z
    have e2 := ndD_some.mp e
    injection e2 with e2
    injection e2 with e2 e3
    subst e2
    cases k with
    | zero =>
      show (ansD n nm _ && _) = false
      rw [ha]
      rfl
    | succ k =>
      show (if ansD n nm _ = true then _ else match ndD _ with | some (p, ts) => _ | none => false) = false
      rw [ha, e]
      have hx : (decide (0 ≤ p) && decide (p ≤ (n : Int) - 1)) = false := hx
      show (if false = true then _ else ((decide (0 ≤ p) && decide (p ≤ (n : Int) - 1)) && _)) = false
      rw [hx]
      rfl
theorem row_lenV {lo : Nat} {xs : List V} : rowW (lo : Int) (lo : Int) (some xs) = decide (xs.length = lo) := by
  show (decide ((lo : Int) ≤ (xs.length : Int)) && decide ((xs.length : Int) ≤ (lo : Int))) = _
  rw [Bool.eq_iff_iff]
  simp only [Bool.and_eq_true, decide_eq_true_iff]
  omega
theorem plD_int {n : Nat} {x : PyData} (h : plD n x = true) : ∃ p, x = .int p ∧ InR n p := by
  cases x <;> first | (cases h; done) | skip
  rename_i p
  have h : (decide (0 ≤ p) && decide (p ≤ (n : Int) - 1)) = true := h
  rw [Bool.and_eq_true, decide_eq_true_iff, decide_eq_true_iff] at h
  exact ⟨p, rfl, h.1, by omega⟩
section
variable {P : Program} {w : World} {K : PySem.W.Frag} {mg : Str → Option Value} {base : Heap}
def spAns (K : PySem.W.Frag) : Sp := fun vs H Q _ => ∃ (v nv : V) (n : Nat) (nm : Option Nat) (d : PyData), vs = [v, nv, .int (n : Int)] ∧ Dp K H v d ∧ LO d ∧ n ≤ 5 ∧ NmV nv n nm ∧ ∀ H', Same H H' → Q (.bl (ansD n nm d)) H'
theorem ok_ans (F : Df K mg "is_answer" st_is_answer ["value", "name", "places"]) (CL : Cal P w K mg base 5 "is_layout" (spIsLayoutW K)) (CP : Cal P w K mg base 3 "is_place" (spIsPlaceW K)) : Cal P w K mg base 6 "is_answer" (spAns K) := by
  refine mkCal F sc_is_answer (fun vs H Q E h => ?_) (fun f cdv A outer s H vs Q E hr h => ?_)
  · obtain ⟨v, nv, n, nm, d, rfl, _⟩ := h
    rfl
  · obtain ⟨v, nv, n, nm, d, rfl, hd, lo, n5, hn, q⟩ := h
    refine ⟨_, pss_one (ps_ret (pe_ifExp (pt_cmp (pc_isN (pv 1))) (pc CL hr (pa_cons (pv 0) (pa_cons (pv 2) pa_nil))) (pc CP hr (pa_cons (pv 0) (pa_cons (pv 2) pa_nil))))), ?_⟩
    rcases hn with ⟨rfl, rfl⟩ | ⟨k, rfl, rfl, hk⟩
    · obtain ⟨wo, hw, e⟩ := wd_dp n hd lo
      exact ⟨_, rfl, _, rfl, ifT rfl ⟨_, rfl, _, rfl, v, wo, n, rfl, hw, by omega, fun H' s => by rw [e]; exact q H' s⟩⟩
    · obtain ⟨wo, _, hs, _⟩ := tk_dp hd
      refine ⟨_, rfl, _, rfl, ifF rfl ⟨_, rfl, _, rfl, v, (n : Int), rfl, hs, ?_⟩⟩
      rw [inV_dp n hd]
      exact q H (Same.refl H)
def spTell (K : PySem.W.Frag) (k : Nat) : Sp := fun vs H Q _ => ∃ (v u nv tv : V) (m : Nat) (h : List (List Int)) (n : Nat) (Ls : List (List Int)) (nm : Option Nat) (d : PyData), vs = [v, u, nv, tv, .int (m : Int)] ∧ GK K H v u nv h n Ls nm ∧ Ls.length ≤ 24 ∧ k ≤ m ∧ m ≤ 20 ∧ RK k d ∧ Dp K H tv d ∧ ∀ H', Same H H' → Q (.bl (tlD h n nm k Ls d)) H'
theorem ok_tell0 (F : Df K mg "is_telling" st_is_telling ["habit", "layouts", "name", "value", "looks_left"]) (B : Bu mg) (CR : Cal P w K mg base 1 "is_row" (spIsRowW K)) (CP : Cal P w K mg base 3 "is_place" (spIsPlaceW K)) (CAn : Cal P w K mg base 6 "is_answer" (spAns K)) (CK : Cal P w K mg base 2 "is_known" (spKnown K)) (CSo : Cal P w K mg base 1 "sought_in" (spSought K)) (CPs : Cal P w K mg base 2 "parts_shown" (spParts K)) : Cal P w K mg base 7 "is_telling" (spTell K 0) := by
  refine mkCal F sc_is_telling (fun vs H Q E h => ?_) (fun f cdv A outer s H vs Q E hr h => ?_)
  · obtain ⟨v, u, nv, tv, m, h, n, Ls, nm, d, rfl, _⟩ := h
    rfl
  · obtain ⟨v, u, nv, tv, m, h, n, Ls, nm, d, rfl, g, l24, km, m20, rk, hd, q⟩ := h
    refine ⟨_, pss_cons (ps_if (pt_val (pc CAn hr (pa_cons (pv 3) (pa_cons (pv 2) (pa_cons (pe_callB (cl_len K) (by rfl) B.len PySem.boot_len (pa_cons (pv 0) pa_nil)) pa_nil))))) (pss_one (ps_ret (pe_and (pc CK hr (pa_cons (pv 1) (pa_cons (pv 2) pa_nil))) (pe_one (pe_cmpR (op_eqD hr.units) (pv 3) (pc CSo hr (pa_cons (pe_ix (ixT K) (pv 1) pe_int (fun _ _ => rfl)) (pa_cons (pv 2) pa_nil))) (nomark _)))))) pss_nil)
 (pss_cons (ps_if (PW.pt (pw_or (pt_cmpR op_eq (pv 4) pe_int (nomark _)) (pw_or (pt_not (pt_val (pc CR hr (pa_cons (pv 3) (pa_cons pe_int (pa_cons pe_int pa_nil)))))) (pw_or1 (pt_not (pt_val (pc CP hr (pa_cons (pe_ix (ixT K) (pv 3) pe_int (fun _ _ => rfl)) (pa_cons (pe_callB (cl_len K) (by rfl) B.len PySem.boot_len (pa_cons (pv 0) pa_nil)) pa_nil))))))))) (pss_one (ps_ret pe_bl)) pss_nil)
 (pss_cons (ps_set (i := 5) sc_is_telling.nd rfl (.inl rfl) (pc CPs hr (pa_cons (pv 0) (pa_cons (pv 1) (pa_cons (pe_ix (ixT K) (pv 3) pe_int (fun _ _ => rfl)) pa_nil)))))
 (pss_cons (ps_if (pt_not (pt_val (pc CR hr (pa_cons (pe_ix (ixT K) (pv 3) pe_int (fun _ _ => rfl)) (pa_cons (pe_callB (cl_len K) (by rfl) B.len PySem.boot_len (pa_cons (pv 5) pa_nil)) (pa_cons (pe_callB (cl_len K) (by rfl) B.len PySem.boot_len (pa_cons (pv 5) pa_nil)) pa_nil)))))) (pss_one (ps_ret pe_bl)) pss_nil) (pss_cons ps_no (pss_one ps_no))))), ?_⟩
    have n5 := g.hb.hi
    have n2 := g.hb.lo
    obtain ⟨ah, hxs, rfl, hS, hE⟩ := id g.hT
    have hxl : hxs.length = n := hE.len.trans g.hb.len
    refine ⟨_, rfl, _, rfl, _, rfl, ah, hxs, rfl, .inr hS, tv, nv, n, nm, d, by rw [hxl]; rfl, hd, rk.lo, n5, g.hn, fun H1 s1 => ⟨_, rfl, ?_⟩⟩
    have g1 := g.same s1
    have hd1 := Dp.on s1 _ _ hd
    have hS1 := onT s1 hS
    cases ha : ansD n nm d with
    | true =>
      have et : tlD h n nm 0 Ls d = (knownB nm Ls && PyData.eqv d (sgD nm (Ls.headD []))) := by
        show (ansD n nm d && _) = _
        rw [ha]
        exact Bool.true_and _
      rw [et] at q
      refine ifT rfl ⟨_, rfl, _, rfl, u, Ls, n, nv, nm, rfl, g1.hLs, g.hL, n5, g.l1, l24, g.hn, fun H2 s2 => ⟨knownB nm Ls, rfl, ?_⟩⟩
      have g2 := g1.same s2
      cases hk : knownB nm Ls with
      | false =>
        rw [hk] at q
        exact ifF rfl (q _ (s1.trans s2))
      | true =>
        rw [hk, Bool.true_and] at q
        obtain ⟨a, xs, rfl, hSl, hEl⟩ := g2.hLs
        obtain ⟨M, hM⟩ : ∃ M, Ls[0]? = some M := ⟨_, List.getElem?_eq_getElem g.l1⟩
        obtain ⟨x0, hx0, b0, rfl, f0⟩ := hEl.of hM
        have eh : Ls.headD [] = M := by
          cases Ls with
          | nil => cases hM
          | cons c r => exact Option.some.inj hM
        rw [eh] at q
        have pM := g.hL M (List.mem_of_getElem? hM)
        exact ifT rfl ⟨_, rfl, _, rfl, a, xs, 0, .ref b0, rfl, rfl, hSl, atI_nat (j := 0) hx0, _, rfl, b0, M, n, nv, nm, rfl, f0.sqT, pM, g.hn, _, _, Dp.on s2 _ _ hd1, soV_dp f0.sqT nm, rk.lo.1.ok (by decide), sgD_shaped pM n5 nm, q _ (s1.trans s2)⟩
    | false =>
      refine ifF rfl ⟨_, rfl, rfl, _, rfl, ?_⟩
      by_cases m0 : m = 0
      · subst m0
        refine ifT (by decide) (ifT rfl ?_)
        have := q _ s1
        have e0 : tlD h n nm 0 Ls d = false := by
          show (ansD n nm _ && _) = false
          rw [ha]
          rfl
        rw [e0] at this
        exact this
      refine ifF (decide_eq_false fun z => m0 (by have := V.int.inj z; omega)) ?_
      rcases dp_row2 hd1 with ⟨x, y, a2, v1, v2, rfl, rfl, hS2, dx, dy, wo, ht, hw⟩ | ⟨no, wo, ht, hw⟩
      case inr => exact ⟨_, rfl, _, wo, 2, 2, rfl, ht, _, rfl, ifT (by rw [hw]; rfl) (ifT rfl (by have := q _ s1; rw [tl_nopair ha (nd_of_pair no)] at this; exact this))⟩
      refine ⟨_, rfl, _, wo, 2, 2, rfl, ht, _, rfl, ifF (by rw [hw]; rfl) ?_⟩
      obtain ⟨_, _, sw1, _⟩ := tk_dp dx
      refine ⟨_, rfl, a2, _, 0, v1, rfl, rfl, hS2, rfl, _, rfl, ah, hxs, rfl, .inr hS1, v1, (hxs.length : Int), rfl, sw1, _, rfl, ?_⟩
      rw [hxl, inV_dp n dx]
      cases hp : plD n x with
      | false => exact ifT rfl (by have := q _ s1; rw [tl_place ha hp] at this; exact this)
      | true =>
        refine ifF rfl ?_
        obtain ⟨p, rfl, rp⟩ := plD_int hp
        cases dx
        refine ⟨_, rfl, _, rfl, _, rfl, a2, _, 0, .int p, rfl, rfl, hS2, rfl, .ref ah, u, h, n, Ls, p, rfl, g1.hT, g.hb, g1.hLs, g.hL, l24, rp, fun H2 ap xs s2 ea hX => ?_⟩
        have lX := hX.len
        have pos := prts_pos (h := h) g.hL g.l1 rp
        obtain ⟨wo2, ht2, _, hc2⟩ := tk_dp (Dp.on s2 _ _ dy)
        refine ⟨_, rfl, a2, _, 1, v2, rfl, rfl, onT s2 hS2, rfl, _, rfl, ap, _, rfl, .inl (lstAt ea), _, rfl, ap, _, rfl, .inl (lstAt ea), v2, wo2, (xs.length : Int), (xs.length : Int), rfl, ht2, _, rfl, ?_⟩
        have fl : ∀ b : Bool, b = false → tlD h n nm 0 Ls (.tuple [.int p, y]) = false → Q (.bl false) H2 := fun _ _ e => by
          have := q _ (s1.trans s2)
          rw [e] at this
          exact this
        have e0 : tlD h n nm 0 Ls (.tuple [.int p, y]) = false := by
          show (ansD n nm _ && _) = false
          rw [ha]
          rfl
        have rw0 : rowW (xs.length : Int) (xs.length : Int) wo2 = false := by
          rcases hc2 with ⟨ts, ys, rfl, rfl, hA⟩ | ⟨no, rfl⟩
          · have := rk.2 p ts rfl
            subst this
            have el := (all_dp 0 hA).2.2.2
            rw [row_lenV, decide_eq_false]
            rw [el, lX]
            show ¬ 0 = _
            omega
          · rfl
        exact ifT (by rw [rw0]; rfl) (fl false rfl e0)
theorem ok_tellS (k : Nat) (F : Df K mg "is_telling" st_is_telling ["habit", "layouts", "name", "value", "looks_left"]) (B : Bu mg) (CR : Cal P w K mg base 1 "is_row" (spIsRowW K)) (CP : Cal P w K mg base 3 "is_place" (spIsPlaceW K)) (CAn : Cal P w K mg base 6 "is_answer" (spAns K)) (CK : Cal P w K mg base 2 "is_known" (spKnown K)) (CSo : Cal P w K mg base 1 "sought_in" (spSought K)) (CPs : Cal P w K mg base 2 "parts_shown" (spParts K)) (CI : Cal P w K mg base 1 "is_integer" (spIsIntegerW K)) (C : Cal P w K mg base (k + 7) "is_telling" (spTell K k)) : Cal P w K mg base (k + 8) "is_telling" (spTell K (k + 1)) := by
  refine mkCal F sc_is_telling (fun vs H Q E h => ?_) (fun f cdv A outer s H vs Q E hr h => ?_)
  · obtain ⟨v, u, nv, tv, m, h, n, Ls, nm, d, rfl, _⟩ := h
    rfl
  · obtain ⟨v, u, nv, tv, m, h, n, Ls, nm, d, rfl, g, l24, km, m20, rk, hd, q⟩ := h
    refine ⟨_, pss_cons (ps_if (pt_val (pc CAn hr (pa_cons (pv 3) (pa_cons (pv 2) (pa_cons (pe_callB (cl_len K) (by rfl) B.len PySem.boot_len (pa_cons (pv 0) pa_nil)) pa_nil))) (hk := by omega))) (pss_one (ps_ret (pe_and (pc CK hr (pa_cons (pv 1) (pa_cons (pv 2) pa_nil)) (hk := by omega)) (pe_one (pe_cmpR (op_eqD hr.units) (pv 3) (pc CSo hr (pa_cons (pe_ix (ixT K) (pv 1) pe_int (fun _ _ => rfl)) (pa_cons (pv 2) pa_nil)) (hk := by omega)) (nomark _)))))) pss_nil)
      (pss_cons (ps_if (PW.pt (pw_or (pt_cmpR op_eq (pv 4) pe_int (nomark _)) (pw_or (pt_not (pt_val (pc CR hr (pa_cons (pv 3) (pa_cons pe_int (pa_cons pe_int pa_nil))) (hk := by omega)))) (pw_or1 (pt_not (pt_val (pc CP hr (pa_cons (pe_ix (ixT K) (pv 3) pe_int (fun _ _ => rfl)) (pa_cons (pe_callB (cl_len K) (by rfl) B.len PySem.boot_len (pa_cons (pv 0) pa_nil)) pa_nil)) (hk := by omega)))))))) (pss_one (ps_ret pe_bl)) pss_nil)
      (pss_cons (ps_set (i := 5) sc_is_telling.nd rfl (.inl rfl) (pc CPs hr (pa_cons (pv 0) (pa_cons (pv 1) (pa_cons (pe_ix (ixT K) (pv 3) pe_int (fun _ _ => rfl)) pa_nil))) (hk := by omega)))
      (pss_cons (ps_if (pt_not (pt_val (pc CR hr (pa_cons (pe_ix (ixT K) (pv 3) pe_int (fun _ _ => rfl)) (pa_cons (pe_callB (cl_len K) (by rfl) B.len PySem.boot_len (pa_cons (pv 5) pa_nil)) (pa_cons (pe_callB (cl_len K) (by rfl) B.len PySem.boot_len (pa_cons (pv 5) pa_nil)) pa_nil))) (hk := by omega)))) (pss_one (ps_ret pe_bl)) pss_nil)
      (pss_cons (ps_for PassesOwn.never rfl (pi_zipM (by rfl) B.zip (pa_cons (pe_ix (ixT K) (pv 3) pe_int (fun _ _ => rfl)) (pa_cons (pv 5) pa_nil))) (pg_tup rfl (pgs_cons (pg_name (i := 6) sc_is_telling.nd rfl (Or.inl rfl)) (pgs_cons (pg_tup rfl (pgs_cons (pg_name (i := 7) sc_is_telling.nd rfl (Or.inl rfl)) (pgs_cons (pg_name (i := 8) sc_is_telling.nd rfl (Or.inl rfl)) pgs_nil))) pgs_nil))) (pss_cons (ps_if (PW.pt (pw_or (pt_not (pt_val (pc CR hr (pa_cons (pv 6) (pa_cons pe_int (pa_cons pe_int pa_nil))) (hk := by omega)))) (pw_or (pt_not (pt_val (pc CI hr (pa_cons (pe_ix (ixT K) (pv 6) pe_int (fun _ _ => rfl)) pa_nil) (hk := by omega)))) (pw_or1 (pt_cmpR op_ne (pe_ix (ixT K) (pv 6) pe_int (fun _ _ => rfl)) (pv 7) (nomark _)))))) (pss_one (ps_ret pe_bl)) pss_nil)
      (pss_one (ps_if (pt_not (pt_val (pc C hr (pa_cons (pv 0) (pa_cons (pv 8) (pa_cons (pv 2) (pa_cons (pe_ix (ixT K) (pv 6) pe_int (fun _ _ => rfl)) (pa_cons (pe_op op_sub (pv 4) pe_int) pa_nil))))) (hk := by omega)))) (pss_one (ps_ret pe_bl)) pss_nil))))
      (pss_one (ps_ret pe_bl)))))), ?_⟩
    have n5 := g.hb.hi
    have n2 := g.hb.lo
    obtain ⟨ah, hxs, rfl, hS, hE⟩ := id g.hT
    have hxl : hxs.length = n := hE.len.trans g.hb.len
    refine ⟨_, rfl, _, rfl, _, rfl, ah, hxs, rfl, .inr hS, tv, nv, n, nm, d, by rw [hxl]; rfl, hd, rk.lo, n5, g.hn, fun H1 s1 => ⟨_, rfl, ?_⟩⟩
    have g1 := g.same s1
    have hd1 := Dp.on s1 _ _ hd
    have hS1 := onT s1 hS
    cases ha : ansD n nm d with
    | true =>
      have et : tlD h n nm (k + 1) Ls d = (knownB nm Ls && PyData.eqv d (sgD nm (Ls.headD []))) := by
        show (if ansD n nm d = true then _ else _) = _
        rw [ha]
        rfl
      rw [et] at q
      refine ifT rfl ⟨_, rfl, _, rfl, u, Ls, n, nv, nm, rfl, g1.hLs, g.hL, n5, g.l1, l24, g.hn, fun H2 s2 => ⟨knownB nm Ls, rfl, ?_⟩⟩
      have g2 := g1.same s2
      cases hk : knownB nm Ls with
      | false =>
        rw [hk] at q
        exact ifF rfl (q _ (s1.trans s2))
      | true =>
        rw [hk, Bool.true_and] at q
        obtain ⟨a, xs, rfl, hSl, hEl⟩ := g2.hLs
        obtain ⟨M, hM⟩ : ∃ M, Ls[0]? = some M := ⟨_, List.getElem?_eq_getElem g.l1⟩
        obtain ⟨x0, hx0, b0, rfl, f0⟩ := hEl.of hM
        have eh : Ls.headD [] = M := by
          cases Ls with
          | nil => cases hM
          | cons c r => exact Option.some.inj hM
        rw [eh] at q
        have pM := g.hL M (List.mem_of_getElem? hM)
        exact ifT rfl ⟨_, rfl, _, rfl, a, xs, 0, .ref b0, rfl, rfl, hSl, atI_nat (j := 0) hx0, _, rfl, b0, M, n, nv, nm, rfl, f0.sqT, pM, g.hn, _, _, Dp.on s2 _ _ hd1, soV_dp f0.sqT nm, rk.lo.1.ok (by decide), sgD_shaped pM n5 nm, q _ (s1.trans s2)⟩
    | false =>
      refine ifF rfl ⟨_, rfl, rfl, _, rfl, ?_⟩
      refine ifF (decide_eq_false fun z => by have := V.int.inj z; omega) ?_
      rcases dp_row2 hd1 with ⟨x, y, a2, v1, v2, rfl, rfl, hS2, dx, dy, wo, ht, hw⟩ | ⟨no, wo, ht, hw⟩
      case inr => exact ⟨_, rfl, _, wo, 2, 2, rfl, ht, _, rfl, ifT (by rw [hw]; rfl) (ifT rfl (by have := q _ s1; rw [tl_nopair ha (nd_of_pair no)] at this; exact this))⟩
      refine ⟨_, rfl, _, wo, 2, 2, rfl, ht, _, rfl, ifF (by rw [hw]; rfl) ?_⟩
      obtain ⟨_, _, sw1, _⟩ := tk_dp dx
      refine ⟨_, rfl, a2, _, 0, v1, rfl, rfl, hS2, rfl, _, rfl, ah, hxs, rfl, .inr hS1, v1, (hxs.length : Int), rfl, sw1, _, rfl, ?_⟩
      rw [hxl, inV_dp n dx]
      cases hp : plD n x with
      | false => exact ifT rfl (by have := q _ s1; rw [tl_place ha hp] at this; exact this)
      | true =>
        refine ifF rfl ?_
        obtain ⟨p, rfl, rp⟩ := plD_int hp
        cases dx
        refine ⟨_, rfl, _, rfl, _, rfl, a2, _, 0, .int p, rfl, rfl, hS2, rfl, .ref ah, u, h, n, Ls, p, rfl, g1.hT, g.hb, g1.hLs, g.hL, l24, rp, fun H2 ap xs s2 ea hX => ?_⟩
        have lX := hX.len
        have pos := prts_pos (h := h) g.hL g.l1 rp
        obtain ⟨wo2, ht2, _, hc2⟩ := tk_dp (Dp.on s2 _ _ dy)
        refine ⟨_, rfl, a2, _, 1, v2, rfl, rfl, onT s2 hS2, rfl, _, rfl, ap, _, rfl, .inl (lstAt ea), _, rfl, ap, _, rfl, .inl (lstAt ea), v2, wo2, (xs.length : Int), (xs.length : Int), rfl, ht2, _, rfl, ?_⟩
        have fl : ∀ b : Bool, b = false → tlD h n nm (k + 1) Ls (.tuple [.int p, y]) = false → Q (.bl false) H2 := fun _ _ e => by
          have := q _ (s1.trans s2)
          rw [e] at this
          exact this
        have eS : tlD h n nm (k + 1) Ls (.tuple [.int p, y]) = (match ndD (.tuple [.int p, y]) with
            | some (p, ts) => (decide (0 ≤ p) && decide (p ≤ (n : Int) - 1)) && (decide (ts.length = (prts h n Ls p).length) && zipA (tlD h n nm k) ts (prts h n Ls p))
            | none => false) := by
          show (if ansD n nm _ = true then _ else _) = _
          rw [ha]
          rfl
        rcases hc2 with ⟨ts, ys, rfl, rfl, hA⟩ | ⟨no, rfl⟩
        case inr =>
          refine ifT rfl (fl false rfl ?_)
          rw [eS]
          cases e : ndD (.tuple [.int p, y]) with
          | none => rfl
          | some z =>
            have := ndD_some.mp e
            injection this with e1
            injection e1 with _ e2
            injection e2 with e3
            exact absurd e3 (no _)
        have hp' : (decide (0 ≤ p) && decide (p ≤ (n : Int) - 1)) = true := hp
        have eS : tlD h n nm (k + 1) Ls (.tuple [.int p, .tuple ts]) = (decide (ts.length = (prts h n Ls p).length) && zipA (tlD h n nm k) ts (prts h n Ls p)) := by
          rw [eS]
          show ((decide (0 ≤ p) && decide (p ≤ (n : Int) - 1)) && _) = _
          rw [hp', Bool.true_and]
        have el := (all_dp 0 hA).2.2.2
        have eR : rowW (xs.length : Int) (xs.length : Int) (some ys) = decide (ys.length = xs.length) := row_lenV
        by_cases le : ts.length = (prts h n Ls p).length
        case neg => exact ifT (by rw [eR, decide_eq_false (by omega)]; rfl) (fl false rfl (by rw [eS, decide_eq_false le]; rfl))
        refine ifF (by rw [eR, decide_eq_true (by omega)]; rfl) ?_
        rw [decide_eq_true le, Bool.true_and] at eS
        obtain ⟨l64, hRK⟩ := rk.2 p ts rfl
        obtain ⟨b2, rfl, hS3⟩ : ∃ b2, v2 = .ref b2 ∧ SqT K H2 b2 ys := by
          cases ht2 with
          | tup h => exact ⟨_, rfl, h⟩
        refine ⟨_, rfl, a2, _, 1, .ref b2, rfl, rfl, onT s2 hS2, rfl, _, rfl, b2, ap, ys, xs, rfl, hS3, lstAt ea, ?_⟩
        have lys : ys.length = xs.length := by omega
        refine for_zipM (xs := ys) (ys := xs) lys (fun i σ H' => Same H2 H' ∧ ∃ y6 y7 y8, σ = [some (.ref ah), some u, some nv, some (.ref a2), some (.int (m : Int)), some (.ref ap), y6, y7, y8] ∧ zipA (tlD h n nm k) ts (prts h n Ls p) = zipA (tlD h n nm k) (ts.drop i) ((prts h n Ls p).drop i)) ⟨Same.refl _, none, none, none, rfl, rfl⟩ (fun i σ H' h' => ⟨onT h'.1 hS3, lstAt (h'.1 _ _ ea)⟩) (fun i z1 z2 T σ H' hz1 hz2 h' hT => ?_) (fun σ H' h' => ?_)
        · obtain ⟨s3, y6, y7, y8, rfl, ez⟩ := h'
          have hi := (List.getElem?_eq_some_iff.mp hz1).1
          obtain ⟨td, htd⟩ : ∃ td, ts[i]? = some td := ⟨_, List.getElem?_eq_getElem (by omega)⟩
          obtain ⟨z1', hz1', dz⟩ := RH.DpAll.of hA htd
          obtain rfl : z1' = z1 := Option.some.inj (hz1'.symm.trans hz1)
          obtain ⟨pt, hpt, t1, u1, rfl, hSt, hLt⟩ := hX.at hz2
          have sT := same_new (o := .tup [z1', .ref t1]) hT
          have s3T := s3.trans sT
          have dz2 := Dp.on s3T _ _ dz
          have d1 : ts.drop i = td :: ts.drop (i + 1) := by
            obtain ⟨hlt, rfl⟩ := List.getElem?_eq_some_iff.mp htd
            exact List.drop_eq_getElem_cons hlt
          have d2 : (prts h n Ls p).drop i = pt :: (prts h n Ls p).drop (i + 1) := by
            obtain ⟨hlt, rfl⟩ := List.getElem?_eq_some_iff.mp hpt
            exact List.drop_eq_getElem_cons hlt
          rw [d1, d2] at ez
          have ez : zipA (tlD h n nm k) ts (prts h n Ls p) = ((match bookD td with
              | some (b, e) => decide (b = pt.1) && tlD h n nm k pt.2 e
              | none => false) && zipA (tlD h n nm k) (ts.drop (i + 1)) ((prts h n Ls p).drop (i + 1))) := ez
          have bad : ∀ {H5 : Hp}, Same H2 H5 → zipA (tlD h n nm k) ts (prts h n Ls p) = false → Q (.bl false) H5 := fun {H5} s5 e => by
            have := q H5 ((s1.trans s2).trans s5)
            rw [eS, e] at this
            exact this
          have mpt := List.mem_of_getElem? hpt
          have pp := prts_mem.mp mpt
          refine ⟨T, _, rfl, tupAt upd_same, rfl, _, _, rfl, _, _, rfl, t1, _, rfl, onT s3T hSt, rfl, _, _, rfl, _, _, rfl, rfl, rfl, ?_⟩
          rcases dp_row2 dz2 with ⟨x, y2, a5, w1, w2, rfl, rfl, hS5, dx2, dy2, wo5, ht5, hw5⟩ | ⟨no, wo5, ht5, hw5⟩
          case inr =>
            refine ⟨_, rfl, _, wo5, 2, 2, rfl, ht5, _, rfl, ifT (by rw [hw5]; rfl) (ifT rfl (bad s3T ?_))⟩
            rw [ez]
            have : bookD td = none := by
              unfold bookD
              rw [no]
            rw [this]
            rfl
          obtain ⟨⟨b, rfl⟩, rky⟩ := hRK _ (List.mem_of_getElem? htd) _ _ rfl
          cases dx2
          have ez : zipA (tlD h n nm k) ts (prts h n Ls p) = ((decide (b = pt.1) && tlD h n nm k pt.2 y2) && zipA (tlD h n nm k) (ts.drop (i + 1)) ((prts h n Ls p).drop (i + 1))) := ez
          refine ⟨_, rfl, _, wo5, 2, 2, rfl, ht5, _, rfl, ifF (by rw [hw5]; rfl) ?_⟩
          refine ⟨_, rfl, a5, _, 0, .int b, rfl, rfl, hS5, rfl, .int b, rfl, .int b, _, rfl, ifF rfl ?_⟩
          refine ⟨_, rfl, a5, _, 0, .int b, rfl, rfl, hS5, rfl, _, rfl, rfl, _, rfl, ?_⟩
          rw [V_int]
          by_cases eb : b = pt.1
          case neg =>
            refine ifT (by rw [decide_eq_false eb]; rfl) (bad s3T ?_)
            rw [ez, decide_eq_false eb]
            rfl
          refine ifF (by rw [decide_eq_true eb]; rfl) ?_
          rw [decide_eq_true eb, Bool.true_and] at ez
          have eL : pt.2.length ≤ 24 := by
            rw [pp.2.1]
            exact Nat.le_trans partL_len l24
          refine ⟨_, rfl, _, rfl, _, rfl, _, rfl, a5, _, 1, w2, rfl, rfl, hS5, rfl, _, rfl, _, _, rfl, rfl, .ref ah, u1, nv, w2, m - 1, h, n, pt.2, nm, y2, by show [V.ref ah, u1, nv, w2, V.int ((m : Int) - 1)] = _; rw [show ((m : Int) - 1) = ((m - 1 : Nat) : Int) by omega], ⟨(g1.same (s2.trans s3T)).hT, g.hb, hLt.same s3T, by rw [pp.2.1]; exact partL_perm g.hb rp g.hL, List.length_pos_iff.mpr pp.2.2, g.hn⟩, eL, by omega, by omega, rky, dy2, fun H5 s5 => ⟨_, rfl, ?_⟩⟩
          cases et : tlD h n nm k pt.2 y2 with
          | false =>
            refine ifT rfl (bad (s3T.trans s5) ?_)
            rw [ez, et]
            rfl
          | true =>
            rw [et, Bool.true_and] at ez
            exact ifF rfl ⟨s3T.trans s5, _, _, _, rfl, ez⟩
        · obtain ⟨s3, y6, y7, y8, rfl, ez⟩ := h'
          have := q _ ((s1.trans s2).trans s3)
          rw [eS, ez, List.drop_of_length_le (by omega)] at this
          exact this
end
end RH
set_option Elab.async false
set_option linter.all false
set_option maxRecDepth 100000
set_option maxHeartbeats 2000000
namespace RH
open PySem PySem.Spec PyProof.Rows L2
/-! ### does a value tell, by the law's own hand? -/
theorem cl_isi {X : Cx} (K : PySem.W.Frag) (h : X.K = K := by rfl) : CallR X (.builtin "isinstance") (rIsi K) := by
  subst h
  exact call_isi
def isTup : PyData → Bool
  | .tuple _ => true
  | _ => false
def isIB : PyData → Bool
  | .int _ => true
  | .bool _ => true
  | _ => false
def isBo : PyData → Bool
  | .bool _ => true
  | _ => false
theorem isi_tup {K : PySem.W.Frag} {H : Hp} {v : V} {d : PyData} (h : Dp K H v d) : ∃ t u, ClsV (.ty "tuple") u ∧ TyX K H v t ∧ PySem.W.kitOne K t u = some (isTup d) := by
  cases h with
  | non => exact ⟨_, _, .ty "tuple", .base .non, show _ = some false from kit_ty (by decide +kernel)⟩
  | bl b => exact ⟨_, _, .ty "tuple", .base (.bl b), show _ = some false from kit_ty (by decide +kernel)⟩
  | int i => exact ⟨_, _, .ty "tuple", .base (.int i), show _ = some false from kit_ty (by decide +kernel)⟩
  | str z => exact ⟨_, _, .ty "tuple", .base (.str z), show _ = some false from kit_ty (by decide +kernel)⟩
  | lst hS _ => exact ⟨_, _, .ty "tuple", ty_lst hS, show _ = some false from kit_ty (by decide +kernel)⟩
  | tup hS _ => exact ⟨_, _, .ty "tuple", ty_tup hS, show _ = some true from kit_ty (by decide +kernel)⟩
theorem isi_int {K : PySem.W.Frag} {H : Hp} {v : V} {d : PyData} (h : Dp K H v d) : ∃ t u, ClsV (.ty "int") u ∧ TyX K H v t ∧ PySem.W.kitOne K t u = some (isIB d) := by
  cases h with
  | non => exact ⟨_, _, .ty "int", .base .non, show _ = some false from kit_ty (by decide +kernel)⟩
  | bl b => exact ⟨_, _, .ty "int", .base (.bl b), show _ = some true from kit_ty (by decide +kernel)⟩
  | int i => exact ⟨_, _, .ty "int", .base (.int i), show _ = some true from kit_ty (by decide +kernel)⟩
  | str z => exact ⟨_, _, .ty "int", .base (.str z), show _ = some false from kit_ty (by decide +kernel)⟩
  | lst hS _ => exact ⟨_, _, .ty "int", ty_lst hS, show _ = some false from kit_ty (by decide +kernel)⟩
  | tup hS _ => exact ⟨_, _, .ty "int", ty_tup hS, show _ = some false from kit_ty (by decide +kernel)⟩
theorem isi_bool {K : PySem.W.Frag} {H : Hp} {v : V} {d : PyData} (h : Dp K H v d) : ∃ t u, ClsV (.ty "bool") u ∧ TyX K H v t ∧ PySem.W.kitOne K t u = some (isBo d) := by
  cases h with
  | non => exact ⟨_, _, .ty "bool", .base .non, show _ = some false from kit_ty (by decide +kernel)⟩
  | bl b => exact ⟨_, _, .ty "bool", .base (.bl b), show _ = some true from kit_ty (by decide +kernel)⟩
  | int i => exact ⟨_, _, .ty "bool", .base (.int i), show _ = some false from kit_ty (by decide +kernel)⟩
  | str z => exact ⟨_, _, .ty "bool", .base (.str z), show _ = some false from kit_ty (by decide +kernel)⟩
  | lst hS _ => exact ⟨_, _, .ty "bool", ty_lst hS, show _ = some false from kit_ty (by decide +kernel)⟩
  | tup hS _ => exact ⟨_, _, .ty "bool", ty_tup hS, show _ = some false from kit_ty (by decide +kernel)⟩
theorem SHp.inv {m : Nat} {ds : List PyData} (h : SHp (m + 1) (.tuple ds)) : ∀ d ∈ ds, SHp m d := by
  have h1 := h.1
  have h2 := h.2
  rw [PyData.canLay0] at h1
  rw [PyData.depth] at h2
  replace h2 : PyData.depthAll ds ≤ m := by omega
  clear h
  induction ds with
  | nil => exact fun _ h => (nomatch h)
  | cons e ds ih =>
    rw [PyData.canLayAll0, Bool.and_eq_true] at h1
    rw [PyData.depthAll] at h2
    have h3 := Nat.max_le.mp h2
    intro d hd
    rcases List.mem_cons.mp hd with rfl | hd
    · exact ⟨h1.1, h3.1⟩
    · exact ih h1.2 h3.2 d hd
theorem SHp.lst {m : Nat} {ds : List PyData} (h : ∀ d ∈ ds, SHp m d) : SHp (m + 1) (.list ds) := by
  have := SHp.tup h
  have h1 := this.1
  have h2 := this.2
  rw [PyData.canLay0] at h1
  rw [PyData.depth] at h2
  exact ⟨by rw [PyData.canLay0]; exact h1, by rw [PyData.depth]; exact h2⟩
theorem eqv_nil2 {ds : List PyData} : PyData.eqv (.list ds) (.list []) = ds.isEmpty := by
  cases ds with
  | nil => rfl
  | cons a b => rfl
theorem DpAll.fixN {K : PySem.W.Frag} {H H' : Hp} (f : Fix H H') : ∀ {vs : List V} {ds : List PyData}, DpAll K H vs ds → (∀ d ∈ ds, NL d) → DpAll K H' vs ds
  | _, _, .nil, _ => .nil
  | _, _, .cons h t, n => .cons (Dp.fixN f h (n _ (List.mem_cons_self ..))) (DpAll.fixN f t fun d hd => n d (List.mem_cons_of_mem _ hd))
theorem DpAll.snoc {K : PySem.W.Frag} {H : Hp} {v : V} {d : PyData} (h : Dp K H v d) : ∀ {vs : List V} {ds : List PyData}, DpAll K H vs ds → DpAll K H (vs ++ [v]) (ds ++ [d])
  | _, _, .nil => .cons h .nil
  | _, _, .cons g t => .cons g (DpAll.snoc h t)
theorem dpAll_len {K : PySem.W.Frag} {H : Hp} : ∀ {vs : List V} {ds : List PyData}, DpAll K H vs ds → vs.length = ds.length
  | _, _, .nil => rfl
  | _, _, .cons _ t => congrArg (· + 1) (dpAll_len t)
theorem dpAll_at {K : PySem.W.Frag} {H : Hp} : ∀ {vs : List V} {ds : List PyData} {i : Nat} {v : V}, DpAll K H vs ds → vs[i]? = some v → ∃ d, ds[i]? = some d ∧ Dp K H v d
  | _, _, _, _, .nil, e => by simp at e
  | _, _, 0, _, .cons h _, e => by
    cases (Option.some.inj e)
    exact ⟨_, rfl, h⟩
  | _, _, i + 1, _, .cons _ t, e => dpAll_at (i := i) t e
/-- what has been found of a list so far -/
def FI (K : PySem.W.Frag) (H : Hp) (D : Addr) (f : PyData → Bool) (ds : List PyData) (i : Nat) (H' : Hp) : Prop := Same H H' ∧ ∃ us, H' D = some (.lst us) ∧ DpAll K H' us ((ds.take i).filter f)
theorem FI.start {K : PySem.W.Frag} {H : Hp} {D : Addr} {f : PyData → Bool} {ds : List PyData} (hD : H D = none) : FI K H D f ds 0 (upd H D (.lst [])) := ⟨same_new hD, [], upd_same, .nil⟩
theorem FI.yes {K : PySem.W.Frag} {H H' H2 : Hp} {D : Addr} {f : PyData → Bool} {ds : List PyData} {i : Nat} {x : V} {d : PyData} (g : FI K H D f ds i H') (hD : H D = none) (s : Same H' H2) (hx : Dp K H2 x d) (hd : ds[i]? = some d) (nl : ∀ d ∈ ds, NL d) (few : ds.length ≤ 900) (e : f d = true) :
    ∃ acc, H2 D = some (.lst acc) ∧ acc.length < sizeLine ∧ FI K H D f ds (i + 1) (upd H2 D (.lst (acc ++ [x]))) := by
  obtain ⟨sm, us, eD, hU⟩ := g
  have eD2 := s _ _ eD
  have fx : Fix H2 (upd H2 D (.lst (us ++ [x]))) := Fix.lst eD2
  have l1 := dpAll_len hU
  have l2 := List.length_filter_le f (ds.take i)
  rw [List.length_take] at l2
  refine ⟨us, eD2, small1000 (by omega), keep_lst (sm.trans s) hD, us ++ [x], upd_same, ?_⟩
  have e2 : (ds.take (i + 1)).filter f = (ds.take i).filter f ++ [d] := by
    rw [take_all f hd, if_pos e]
  rw [e2]
  refine DpAll.snoc (Dp.fixN fx hx (nl d (List.mem_of_getElem? hd))) (DpAll.fixN ((Fix.same s).trans fx) hU fun d hd => nl d (List.mem_of_mem_take (List.mem_filter.mp hd).1))
theorem FI.no {K : PySem.W.Frag} {H H' H2 : Hp} {D : Addr} {f : PyData → Bool} {ds : List PyData} {i : Nat} {d : PyData} (g : FI K H D f ds i H') (s : Same H' H2) (hd : ds[i]? = some d) (nl : ∀ d ∈ ds, NL d) (e : ¬ f d = true) : FI K H D f ds (i + 1) H2 := by
  obtain ⟨sm, us, eD, hU⟩ := g
  refine ⟨sm.trans s, us, s _ _ eD, ?_⟩
  have e2 : (ds.take (i + 1)).filter f = (ds.take i).filter f := by
    rw [take_all f hd, if_neg e, List.append_nil]
  rw [e2]
  exact DpAll.fixN (Fix.same s) hU fun d hd => nl d (List.mem_of_mem_take (List.mem_filter.mp hd).1)
/-- the list compared with the empty one -/
theorem FI.done {K : PySem.W.Frag} {H H' : Hp} {D : Addr} {f : PyData → Bool} {ds : List PyData} {i : Nat} (g : FI K H D f ds i H') (hi : ds.length ≤ i) : Same H H' ∧ ∃ us, H' D = some (.lst us) ∧ DpAll K H' us (ds.filter f) := by
  obtain ⟨sm, us, eD, hU⟩ := g
  rw [List.take_of_length_le hi] at hU
  exact ⟨sm, us, eD, hU⟩
def endD (nm : Option Nat) (Ls : List (List Int)) : PyData := if knownB nm Ls = true then sgD nm (Ls.headD []) else .none
theorem endV_dp {K : PySem.W.Frag} {H : Hp} {y : V} {nm : Option Nat} {Ls : List (List Int)} (h : EndV K H y nm Ls) : Dp K H y (endD nm Ls) := by
  unfold EndV at h
  unfold endD
  split
  · rename_i e
    rw [if_pos e] at h
    exact h
  · rename_i e
    rw [if_neg e] at h
    rw [h]
    exact .non
theorem endD_shp (nm : Option Nat) (Ls : List (List Int)) : SHp 1 (endD nm Ls) := by
  unfold endD
  split
  · exact SHp.sg nm _
  · exact ⟨rfl, Nat.zero_le _⟩
/-! what the steps of the law say -/
theorem tl_ans {h : List (List Int)} {n : Nat} {nm : Option Nat} {k : Nat} {Ls : List (List Int)} {d : PyData} (ha : ansD n nm d = true) : tlD h n nm k Ls d = (knownB nm Ls && PyData.eqv d (sgD nm (Ls.headD []))) := by
  cases k with
  | zero =>
    show (ansD n nm d && _) = _
    rw [ha, Bool.true_and]
  | succ k =>
    show (if ansD n nm d = true then _ else _) = _
    rw [ha]
    rfl
theorem eqv_ints (L M : List Int) : PyData.eqv (.tuple (L.map PyData.int)) (.tuple (M.map PyData.int)) = decide (L = M) := by
  rw [PyData.eqv]
  exact PySem.W.ked_eqvAll L M
/-- an int, where a name is sought -/
theorem tl_int {h : List (List Int)} {n k0 : Nat} {k : Nat} {Ls : List (List Int)} {i : Int} (hL : ∀ L ∈ Ls, L.Perm (rg n)) (l1 : 1 ≤ Ls.length) (hk : k0 < n) : tlD h n (some k0) k Ls (.int i) = PyData.eqv (.int i) (endD (some k0) Ls) := by
  have hh := hL _ (head_mem (List.length_pos_iff.mp l1))
  have hr := getD_inR hh (b := (k0 : Int)) ⟨by omega, by omega⟩
  rw [Int.toNat_natCast] at hr
  unfold endD
  cases hk2 : knownB (some k0) Ls with
  | true =>
    rw [if_pos rfl]
    cases ha : ansD n (some k0) (.int i) with
    | true =>
      rw [tl_ans ha, hk2]
      rfl
    | false =>
      rw [tl_nopair ha rfl]
      have ha : (decide (0 ≤ i) && decide (i ≤ (n : Int) - 1)) = false := ha
      show false = decide (i = (Ls.headD []).getD k0 0)
      symm
      rw [decide_eq_false_iff_not]
      rintro rfl
      rw [decide_eq_true hr.1, decide_eq_true (by have := hr.2; omega)] at ha
      cases ha
  | false =>
    rw [if_neg (by decide)]
    show _ = false
    cases ha : ansD n (some k0) (.int i) with
    | true =>
      rw [tl_ans ha, hk2]
      rfl
    | false => exact tl_nopair ha rfl
/-- ints alone -/
theorem tl_ints {h : List (List Int)} {n : Nat} {nm : Option Nat} {k : Nat} {Ls : List (List Int)} {ds : List PyData} (hL : ∀ L ∈ Ls, L.Perm (rg n)) (l1 : 1 ≤ Ls.length) (h1 : ∀ d ∈ ds, isIB d = true) (h2 : ∀ d ∈ ds, isBo d = false) :
    tlD h n nm k Ls (.tuple ds) = (decide (nm = none) && PyData.eqv (.tuple ds) (endD nm Ls)) := by
  have nd : ndD (.tuple ds) = none := by
    cases e : ndD (.tuple ds) with
    | none => rfl
    | some z =>
      have e := ndD_some.mp e
      injection e with e
      have := h1 (.tuple z.2) (by rw [e]; simp)
      cases this
  cases nm with
  | some k0 =>
    show _ = false
    exact tl_nopair rfl nd
  | none =>
    rw [decide_eq_true rfl, Bool.true_and]
    have hh := hL _ (head_mem (List.length_pos_iff.mp l1))
    obtain ⟨L, rfl⟩ : ∃ L : List Int, ds = L.map PyData.int := by
      clear nd
      induction ds with
      | nil => exact ⟨[], rfl⟩
      | cons d ds ih =>
        obtain ⟨L, rfl⟩ := ih (fun d hd => h1 d (List.mem_cons_of_mem _ hd)) (fun d hd => h2 d (List.mem_cons_of_mem _ hd))
        have a := h1 d (List.mem_cons_self ..)
        have b := h2 d (List.mem_cons_self ..)
        cases d with
        | int i => exact ⟨i :: L, rfl⟩
        | bool b => cases b <;> (rename_i z; cases z)
        | _ => cases a
    cases ha : ansD n none (.tuple (L.map PyData.int)) with
    | true =>
      rw [tl_ans ha]
      unfold endD
      cases knownB none Ls with
      | true => rw [if_pos rfl, Bool.true_and]
      | false => rw [if_neg (by decide)]; rfl
    | false =>
      rw [tl_nopair ha nd]
      unfold endD
      split
      · show false = PyData.eqv (.tuple (L.map PyData.int)) (.tuple ((Ls.headD []).map PyData.int))
        rw [eqv_ints]
        symm
        rw [decide_eq_false_iff_not]
        rintro rfl
        have : layD n (.tuple ((Ls.headD []).map PyData.int)) = true := by
          show (((Ls.headD []).map PyData.int).all (plD n) && isLay n (((Ls.headD []).map PyData.int).map intD)) = true
          rw [List.map_map, show (intD ∘ PyData.int) = id from rfl, List.map_id, Bool.and_eq_true]
          refine ⟨List.all_eq_true.mpr fun d hd => ?_, List.isPerm_iff.mpr hh⟩
          obtain ⟨i, hi, rfl⟩ := List.mem_map.mp hd
          have := perm_in hh hi
          show (decide (0 ≤ i) && decide (i ≤ (n : Int) - 1)) = true
          rw [decide_eq_true this.1, decide_eq_true (by have := this.2; omega)]
          rfl
        have ha : layD n (.tuple ((Ls.headD []).map PyData.int)) = false := ha
        rw [this] at ha
        cases ha
      · rfl
/-- another value -/
theorem tl_mixed {h : List (List Int)} {n : Nat} {nm : Option Nat} {k : Nat} {Ls : List (List Int)} {ds : List PyData} (hx : ∃ d ∈ ds, isIB d = false) (hn : ndD (.tuple ds) = none) : tlD h n nm k Ls (.tuple ds) = false := by
  refine tl_nopair ?_ hn
  cases nm with
  | some _ => rfl
  | none =>
    obtain ⟨d, hd, e⟩ := hx
    show (ds.all (plD n) && _) = false
    rw [Bool.and_eq_false_iff]
    left
    rw [List.all_eq_false]
    refine ⟨d, hd, fun z => ?_⟩
    obtain ⟨p, rfl, _⟩ := plD_int z
    cases e
theorem tl_bool {h : List (List Int)} {n : Nat} {nm : Option Nat} {k : Nat} {Ls : List (List Int)} {ds : List PyData} (hx : ∃ d ∈ ds, isBo d = true) : tlD h n nm k Ls (.tuple ds) = false := by
  obtain ⟨d, hd, e⟩ := hx
  have nd : ndD (.tuple ds) = none := by
    cases e2 : ndD (.tuple ds) with
    | none => rfl
    | some z =>
      have e2 := ndD_some.mp e2
      injection e2 with e2
      rw [e2] at hd
      rcases List.mem_cons.mp hd with rfl | hd
      · cases e
      · rw [List.mem_singleton.mp hd] at e
        cases e
  refine tl_nopair ?_ nd
  cases nm with
  | some _ => rfl
  | none =>
    show (ds.all (plD n) && _) = false
    rw [Bool.and_eq_false_iff]
    left
    rw [List.all_eq_false]
    refine ⟨d, hd, fun z => ?_⟩
    obtain ⟨p, rfl, _⟩ := plD_int z
    cases e
theorem tl_empty {h : List (List Int)} {n : Nat} {nm : Option Nat} {k : Nat} {Ls : List (List Int)} (n2 : 2 ≤ n) : tlD h n nm k Ls (.tuple []) = false := by
  refine tl_nopair ?_ rfl
  cases nm with
  | some _ => rfl
  | none =>
    show ((([] : List PyData).all (plD n)) && isLay n []) = false
    rw [show isLay n [] = false from by
      unfold isLay
      cases e : List.isPerm [] (rg n) with
      | false => rfl
      | true =>
        have := (List.isPerm_iff.mp e).length_eq
        rw [rg_len] at this
        simp at this
        omega]
    rfl
theorem tl_other {h : List (List Int)} {n : Nat} {nm : Option Nat} {k : Nat} {Ls : List (List Int)} {d : PyData} (h1 : isTup d = false) (h2 : nm = none ∨ isIB d = false ∨ isBo d = true) : tlD h n nm k Ls d = false := by
  have nd : ndD d = none := by
    cases d with
    | tuple ds => cases h1
    | _ => rfl
  refine tl_nopair ?_ nd
  cases nm with
  | none =>
    cases d with
    | tuple ds => cases h1
    | _ => rfl
  | some k0 =>
    rcases h2 with z | z | z
    · cases z
    · cases d with
      | int i => cases z
      | _ => rfl
    · cases d with
      | bool b => rfl
      | _ => cases z
end RH
set_option Elab.async false
set_option linter.all false
set_option maxRecDepth 100000
set_option maxHeartbeats 2000000
namespace RH
open PySem PySem.Spec PyProof.Rows L2
/-! ### _law_told -/
theorem ps_cutM {X : Cx} {st : Stmt} {t : TS} (h : PS X st t) : PS X st (fun D σ H => ∃ G : L2.St → Hp → Prop, (∀ σ' H', G σ' H' → D.nx σ' H') ∧ t { D with nx := G } σ H) := by
  refine ⟨fun pins s σ H D I hw => ?_⟩
  obtain ⟨G, hG, hw⟩ := hw
  refine thn (h.run pins s σ H { D with nx := G } I hw) fun fl s1 q => ?_
  cases fl with
  | next =>
    obtain ⟨σ', H', I', q⟩ := q
    exact ⟨σ', H', I', hG _ _ q⟩
  | ret v => exact q
  | brk => exact q
  | cont => exact q
theorem pairs_list {k : Nat} : ∀ (ts : List PyData), (∀ t ∈ ts, (pairD t).isNone = false) → (∀ t ∈ ts, ∀ x y, t = .tuple [x, y] → (∃ b, x = .int b) ∧ RK k y) → ∃ pr : List (Int × PyData), ts = pr.map (fun x => .tuple [.int x.1, x.2]) ∧ ∀ x ∈ pr, RK k x.2
  | [], _, _ => ⟨[], rfl, fun _ h => (nomatch h)⟩
  | t :: ts, hpair, hRK => by
    obtain ⟨pr, e1, e2⟩ := pairs_list ts (fun t ht => hpair t (List.mem_cons_of_mem _ ht)) (fun t ht => hRK t (List.mem_cons_of_mem _ ht))
    have hp1 := hpair t (List.mem_cons_self ..)
    cases e3 : pairD t with
    | none => rw [e3] at hp1; cases hp1
    | some z =>
      obtain ⟨x, y⟩ := z
      have e4 := pairD_some.mp e3
      obtain ⟨⟨b, rfl⟩, ry⟩ := hRK t (List.mem_cons_self ..) x y e4
      refine ⟨(b, y) :: pr, by rw [e4, e1]; rfl, fun w hw => ?_⟩
      rcases List.mem_cons.mp hw with rfl | hw
      · exact ry
      · exact e2 w hw
/-- a node is told by its parts -/
theorem tl_node {h : List (List Int)} {n : Nat} {nm : Option Nat} {k : Nat} {Ls : List (List Int)} {p : Int} {ts : List PyData} (ha : ansD n nm (.tuple [.int p, .tuple ts]) = false) (rp : InR n p) :
    tlD h n nm (k + 1) Ls (.tuple [.int p, .tuple ts]) = (decide (ts.length = (prts h n Ls p).length) && zipA (tlD h n nm k) ts (prts h n Ls p)) := by
  have hp' : (decide (0 ≤ p) && decide (p ≤ (n : Int) - 1)) = true := by
    rw [decide_eq_true rp.1, decide_eq_true (by have := rp.2; omega)]
    rfl
  show (if ansD n nm _ = true then _ else ((decide (0 ≤ p) && decide (p ≤ (n : Int) - 1)) && _)) = _
  rw [ha, hp']
  rfl
def toldF (h : List (List Int)) (n : Nat) (nm : Option Nat) (k : Nat) (Ls : List (List Int)) (p : Int) (t : PyData) : Bool := match bookD t with
  | some (b, e) => tlD h n nm k (partL h Ls p b) e
  | none => false
theorem zip_nopair {f : List (List Int) → PyData → Bool} : ∀ {ts : List PyData} {l : List (Int × List (List Int))} {t : PyData}, t ∈ ts → pairD t = none → (decide (ts.length = l.length) && zipA f ts l) = false
  | t :: ts, [], _, _, _ => rfl
  | t :: ts, x :: l, u, hu, hn => by
    have e : decide ((t :: ts).length = (x :: l).length) = decide (ts.length = l.length) := by simp
    rw [e]
    show (_ && ((match bookD t with | some (b, e) => decide (b = x.1) && f x.2 e | none => false) && zipA f ts l)) = false
    rcases List.mem_cons.mp hu with rfl | hu
    · have : bookD u = none := by
        unfold bookD
        rw [hn]
      rw [this]
      simp
    · have ih := zip_nopair (f := f) (l := l) hu hn
      rw [Bool.and_eq_false_iff] at ih ⊢
      rcases ih with ih | ih
      · exact .inl ih
      · right
        rw [ih, Bool.and_false]
theorem zip_apart {f : List (List Int) → PyData → Bool} : ∀ {pr : List (Int × PyData)} {l : List (Int × List (List Int))}, pr.map Prod.fst ≠ l.map Prod.fst → (decide ((pr.map fun x => PyData.tuple [.int x.1, x.2]).length = l.length) && zipA f (pr.map fun x => .tuple [.int x.1, x.2]) l) = false
  | [], [], h => absurd rfl h
  | [], x :: l, _ => rfl
  | y :: pr, [], _ => rfl
  | y :: pr, x :: l, h => by
    have e : decide (((y :: pr).map fun x => PyData.tuple [.int x.1, x.2]).length = (x :: l).length) = decide ((pr.map fun x => PyData.tuple [.int x.1, x.2]).length = l.length) := by simp
    rw [e]
    show (_ && ((decide (y.1 = x.1) && f x.2 y.2) && zipA f (pr.map fun x => .tuple [.int x.1, x.2]) l)) = false
    by_cases z : y.1 = x.1
    · have ih := zip_apart (f := f) (pr := pr) (l := l) (fun w => h (by rw [List.map_cons, List.map_cons, z, w]))
      rw [Bool.and_eq_false_iff] at ih ⊢
      rcases ih with ih | ih
      · exact .inl ih
      · right
        rw [ih, Bool.and_false]
    · rw [decide_eq_false z]
      simp
theorem zip_all0 {h : List (List Int)} {n : Nat} {nm : Option Nat} {k : Nat} {Ls : List (List Int)} {p : Int} : ∀ {pr : List (Int × PyData)} {l : List (Int × List (List Int))}, (∀ x ∈ l, x.2 = partL h Ls p x.1) → pr.map Prod.fst = l.map Prod.fst → (decide ((pr.map fun x => PyData.tuple [.int x.1, x.2]).length = l.length) && zipA (tlD h n nm k) (pr.map fun x => .tuple [.int x.1, x.2]) l) = ((pr.map fun x => PyData.tuple [.int x.1, x.2]).filter fun t => !toldF h n nm k Ls p t).isEmpty
  | [], [], _, _ => rfl
  | [], x :: l, _, h => by cases h
  | y :: pr, [], _, h => by cases h
  | y :: pr, x :: l, hx, hq => by
    have h1 := (List.cons.inj (show y.1 :: pr.map Prod.fst = x.1 :: l.map Prod.fst from hq)).1
    have h2 := (List.cons.inj (show y.1 :: pr.map Prod.fst = x.1 :: l.map Prod.fst from hq)).2
    have ih := zip_all0 (n := n) (nm := nm) (k := k) (fun z hz => hx z (List.mem_cons_of_mem _ hz)) h2
    have e : decide (((y :: pr).map fun x => PyData.tuple [.int x.1, x.2]).length = (x :: l).length) = decide ((pr.map fun x => PyData.tuple [.int x.1, x.2]).length = l.length) := by simp
    rw [e]
    show (_ && ((decide (y.1 = x.1) && tlD h n nm k x.2 y.2) && zipA (tlD h n nm k) (pr.map fun x => .tuple [.int x.1, x.2]) l)) = _
    rw [decide_eq_true h1, Bool.true_and, hx x (List.mem_cons_self ..), ← h1, List.map_cons, List.filter_cons]
    show _ = (if (!tlD h n nm k (partL h Ls p y.1) y.2) = true then _ else _ : List PyData).isEmpty
    cases tlD h n nm k (partL h Ls p y.1) y.2 with
    | true =>
      rw [Bool.true_and, ih]
      rfl
    | false =>
      rw [Bool.false_and, Bool.and_false]
      rfl
theorem zip_all {h : List (List Int)} {n : Nat} {nm : Option Nat} {k : Nat} {Ls : List (List Int)} {p : Int} {pr : List (Int × PyData)} (e : pr.map Prod.fst = (prts h n Ls p).map Prod.fst) : (decide ((pr.map fun x => PyData.tuple [.int x.1, x.2]).length = (prts h n Ls p).length) && zipA (tlD h n nm k) (pr.map fun x => .tuple [.int x.1, x.2]) (prts h n Ls p)) = ((pr.map fun x => PyData.tuple [.int x.1, x.2]).filter fun t => !toldF h n nm k Ls p t).isEmpty :=
  zip_all0 (fun x hx => (prts_mem.mp hx).2.1) e
section
variable {P : Program} {w : World} {K : PySem.W.Frag} {mg : Str → Option Value} {base : Heap}
def spLTold (K : PySem.W.Frag) (k : Nat) : Sp := fun vs H Q _ => ∃ (v u nv tv : V) (h : List (List Int)) (n : Nat) (Ls : List (List Int)) (nm : Option Nat) (d : PyData), vs = [v, u, nv, tv] ∧ GL K H v u nv h n Ls nm ∧ Ls.length ≤ 24 ∧ RK k d ∧ Dp K H tv d ∧ ∀ H', Same H H' → Q (.bl (tlD h n nm k Ls d)) H'
theorem ok_ltoldS (k : Nat) (F : Df K mg "_law_told" st__law_told ["habit", "layouts", "name", "value"]) (B : Bu mg) (CE : Cal P w K mg base 1 "_law_end" (spLEnd K)) (CPd : Cal P w K mg base 2 "_law_parted" (spLParted K)) (C : Cal P w K mg base (k + 3) "_law_told" (spLTold K k)) : Cal P w K mg base (k + 4) "_law_told" (spLTold K (k + 1)) := by
  refine mkCal F sc__law_told (fun vs H Q E h => ?_) (fun f cdv A outer s H vs Q E hr h => ?_)
  · obtain ⟨v, u, nv, tv, h, n, Ls, nm, d, rfl, _⟩ := h
    rfl
  · obtain ⟨v, u, nv, tv, h, n, Ls, nm, d, rfl, g, l24, rk, hd, q⟩ := h
    refine ⟨_, pss_cons (ps_par (i := 4) (j := 5) rfl sc__law_told.nd rfl rfl (by decide) rfl rfl (pa_cons (pe_callB (cl_len K) (by rfl) B.len PySem.boot_len (pa_cons (pv 0) pa_nil)) (pa_cons (pc CE hr (pa_cons (pv 1) (pa_cons (pv 2) pa_nil)) (hk := by omega)) pa_nil)) rfl)
      (pss_cons (ps_cutM (ps_if (PW.pt (pw_and (pt_cmp (pc_notN (pv 2))) (pw_and (pt_val (pe_callB call_isi (by rfl) B.isi (by decide +kernel) (pa_cons (pv 3) (pa_cons (pe_bltn (v := .ty "int") (by rfl) B.int (by decide +kernel) rfl) pa_nil)))) (pw_and1 (pt_not (pt_val (pe_callB call_isi (by rfl) B.isi (by decide +kernel) (pa_cons (pv 3) (pa_cons (pe_bltn (v := .ty "bool") (by rfl) B.bool (by decide +kernel) rfl) pa_nil))))))))) (pss_one (ps_ret (pe_cmpR (op_eqD hr.units) (pv 3) (pv 5) (nomark _)))) pss_nil))
      (pss_cons (ps_cutM (ps_if (PW.pt (pw_or (pt_not (pt_val (pe_callB call_isi (by rfl) B.isi (by decide +kernel) (pa_cons (pv 3) (pa_cons (pe_bltn (v := .ty "tuple") (by rfl) B.tuple (by decide +kernel) rfl) pa_nil))))) (pw_or (pt_cmpR op_eq (pe_callB (cl_len K) (by rfl) B.len PySem.boot_len (pa_cons (pv 3) pa_nil)) pe_int (nomark _)) (pw_or1 (pt_cmpR (op_neD hr.units) (pe_lc (own := [("one", 7)]) (g := (gName 7))   rfl sc__law_told.nd (pi_tup (pv 3)) (blkOk_by (N := ["habit", "layouts", "name", "value", "many", "end", "parts", "one", "part"]) (sc := (defScope st__law_told)) (by decide +kernel)) (fun _ _ _ _ _ => (pg_name (i := 7) sc__law_told.nd rfl (Or.inl rfl))) (fun _ _ _ _ _ => (pts_one (pt_val (pe_callB (cl_isi K) (by rfl) B.isi (by decide +kernel) (pa_cons (pv 7) (pa_cons (pe_bltn (v := .ty "bool") (by rfl) B.bool (by decide +kernel) rfl) pa_nil)))))) (fun _ _ _ _ _ => (pv 7))) (pe_lst pa_nil) (nomark _)))))) (pss_one (ps_ret pe_bl)) pss_nil))
      (pss_cons (ps_cutM (ps_if (pt_cmpR (op_eqD hr.units) (pe_lc (own := [("one", 7)]) (g := (gName 7))   rfl sc__law_told.nd (pi_tup (pv 3)) (blkOk_by (N := ["habit", "layouts", "name", "value", "many", "end", "parts", "one", "part"]) (sc := (defScope st__law_told)) (by decide +kernel)) (fun _ _ _ _ _ => (pg_name (i := 7) sc__law_told.nd rfl (Or.inl rfl))) (fun _ _ _ _ _ => (pts_one (pt_not (pt_val (pe_callB (cl_isi K) (by rfl) B.isi (by decide +kernel) (pa_cons (pv 7) (pa_cons (pe_bltn (v := .ty "int") (by rfl) B.int (by decide +kernel) rfl) pa_nil))))))) (fun _ _ _ _ _ => (pv 7))) (pe_lst pa_nil) (nomark _)) (pss_one (ps_ret (pe_and (pe_cmp (pc_isN (pv 2))) (pe_one (pe_cmpR (op_eqD hr.units) (pv 3) (pv 5) (nomark _)))))) pss_nil))
      (pss_cons (ps_cutM (ps_if (PW.pt (pw_or (pt_cmpR op_ne (pe_callB (cl_len K) (by rfl) B.len PySem.boot_len (pa_cons (pv 3) pa_nil)) pe_int (nomark _)) (pw_or (pt_not (pt_val (pe_callB call_isi (by rfl) B.isi (by decide +kernel) (pa_cons (pe_ix (ixT K) (pv 3) pe_int (fun _ _ => rfl)) (pa_cons (pe_bltn (v := .ty "int") (by rfl) B.int (by decide +kernel) rfl) pa_nil))))) (pw_or1 (pt_not (pt_val (pe_callB call_isi (by rfl) B.isi (by decide +kernel) (pa_cons (pe_ix (ixT K) (pv 3) pe_int (fun _ _ => rfl)) (pa_cons (pe_bltn (v := .ty "tuple") (by rfl) B.tuple (by decide +kernel) rfl) pa_nil))))))))) (pss_one (ps_ret pe_bl)) pss_nil))
      (pss_cons (ps_cutM (ps_if (pt_not (pt_chain op_le op_lt pe_int (pe_ix (ixT K) (pv 3) pe_int (fun _ _ => rfl)) (pv 4))) (pss_one (ps_ret pe_bl)) pss_nil))
      (pss_cons (ps_set (i := 6) sc__law_told.nd rfl (.inr rfl) (pc CPd hr (pa_cons (pv 0) (pa_cons (pv 1) (pa_cons (pe_ix (ixT K) (pv 3) pe_int (fun _ _ => rfl)) pa_nil))) (hk := by omega)))
      (pss_cons (ps_cutM (ps_if (pt_cmpR (op_neD hr.units) (pe_lc (own := [("part", 8)]) (g := (gName 8))   rfl sc__law_told.nd (pi_tup (pe_ix (ixT K) (pv 3) pe_int (fun _ _ => rfl))) (blkOk_by (N := ["habit", "layouts", "name", "value", "many", "end", "parts", "one", "part"]) (sc := (defScope st__law_told)) (by decide +kernel)) (fun _ _ _ _ _ => (pg_name (i := 8) sc__law_told.nd rfl (Or.inl rfl))) (fun _ _ _ _ _ => (pts_one (PW.pt (pw_or (pt_not (pt_val (pe_callB (cl_isi K) (by rfl) B.isi (by decide +kernel) (pa_cons (pv 8) (pa_cons (pe_bltn (v := .ty "tuple") (by rfl) B.tuple (by decide +kernel) rfl) pa_nil))))) (pw_or1 (pt_cmpR op_ne (pe_callB (cl_len K) (by rfl) B.len PySem.boot_len (pa_cons (pv 8) pa_nil)) pe_int (nomark _))))))) (fun _ _ _ _ _ => (pv 8))) (pe_lst pa_nil) (nomark _)) (pss_one (ps_ret pe_bl)) pss_nil))
      (pss_cons (ps_cutM (ps_if (pt_cmpR (op_neD hr.units) (pe_lc (own := [("part", 8)]) (g := (gName 8)) (tt := tYes)  rfl sc__law_told.nd (pi_tup (pe_ix (ixT K) (pv 3) pe_int (fun _ _ => rfl))) (blkOk_by (N := ["habit", "layouts", "name", "value", "many", "end", "parts", "one", "part"]) (sc := (defScope st__law_told)) (by decide +kernel)) (fun _ _ _ _ _ => (pg_name (i := 8) sc__law_told.nd rfl (Or.inl rfl))) (fun _ _ _ _ _ => pts_nil) (fun _ _ _ _ _ => (pe_ix (ixT K) (pv 8) pe_int (fun _ _ => rfl)))) (pe_callB (call_sortedDI rfl) (by rfl) B.sorted (by decide +kernel) (pa_cons (pv 6) pa_nil)) (nomark _)) (pss_one (ps_ret pe_bl)) pss_nil))
      (pss_one (ps_ret (pe_cmpR (op_eqD hr.units) (pe_lc (own := [("part", 8)]) (g := (gName 8))   rfl sc__law_told.nd (pi_tup (pe_ix (ixT K) (pv 3) pe_int (fun _ _ => rfl))) (blkOk_by (N := ["habit", "layouts", "name", "value", "many", "end", "parts", "one", "part"]) (sc := (defScope st__law_told)) (by decide +kernel)) (fun _ _ _ _ _ => (pg_name (i := 8) sc__law_told.nd rfl (Or.inl rfl))) (fun _ _ _ _ _ => (pts_one (pt_not (pt_val (pc C hr (pa_cons (pv 0) (pa_cons (pe_dget (hu_of hr) (pv 6) (pe_ix (ixT K) (pv 8) pe_int (fun _ _ => rfl)) (fun _ _ => rfl)) (pa_cons (pv 2) (pa_cons (pe_ix (ixT K) (pv 8) pe_int (fun _ _ => rfl)) pa_nil)))) (hk := by omega)))))) (fun _ _ _ _ _ => (pv 8))) (pe_lst pa_nil) (nomark _)))))))))))), ?_⟩
    have n5 := g.hb.hi
    have n2 := g.hb.lo
    have lo := rk.lo
    obtain ⟨ah, hxs, rfl, hS, hE⟩ := id g.hT
    have hxl : hxs.length = n := hE.len.trans g.hb.len
    refine ⟨_, rfl, ah, hxs, rfl, .inr hS, _, rfl, _, rfl, u, nv, n, Ls, nm, rfl, g.hLs, g.hL, by omega, n5, g.l1, l24, g.hn, fun H1 ye s1 hye => ⟨_, _, rfl, ?_⟩⟩
    rw [hxl]
    have g1 := g.same s1
    have hd1 := Dp.on s1 _ _ hd
    have hS1 := onT s1 hS
    have he := endV_dp hye
    have shE := (endD_shp nm Ls).ok (by decide)
    have fal : ∀ {H5 : Hp}, Same H1 H5 → tlD h n nm (k + 1) Ls d = false → Q (.bl false) H5 := fun {H5} s5 e => by
      have := q H5 (s1.trans s5)
      rw [e] at this
      exact this
    clear hye
    -- an int
    refine ⟨fun σ2 H2 => H2 = H1 ∧ σ2 = [some (.ref ah), some u, some nv, some tv, some (.int (n : Int)), some ye, none, none, none] ∧ (nm = none ∨ isIB d = false ∨ isBo d = true), fun σ2 H2 g2 => ?_, ?_⟩
    rotate_left
    · rcases g.hn with ⟨rfl, rfl⟩ | ⟨k0, rfl, rfl, hk0⟩
      · exact ⟨_, rfl, _, rfl, ifF rfl (ifF rfl ⟨rfl, rfl, .inl rfl⟩)⟩
      · obtain ⟨ti, ui, ci1, ci2, ci3⟩ := isi_int hd1
        refine ⟨_, rfl, _, rfl, ifT rfl ⟨_, rfl, _, .ty "int", ti, ui, _, rfl, ci1, ci2, ci3, _, rfl, ?_⟩⟩
        cases e1 : isIB d with
        | false => exact ifF rfl (ifF rfl ⟨rfl, rfl, .inr (.inl rfl)⟩)
        | true =>
          obtain ⟨ti, ui, ci1, ci2, ci3⟩ := isi_bool hd1
          refine ifT rfl ⟨_, rfl, _, .ty "bool", ti, ui, _, rfl, ci1, ci2, ci3, _, rfl, ?_⟩
          cases e2 : isBo d with
          | true => exact ifF rfl ⟨rfl, rfl, .inr (.inr rfl)⟩
          | false =>
            refine ifT rfl ⟨_, rfl, _, rfl, _, _, hd1, he, lo.1.ok (by decide), shE, ?_⟩
            cases d with
            | int i =>
              have := q H1 s1
              rw [tl_int g.hL g.l1 hk0] at this
              exact this
            | bool b => cases e2
            | _ => cases e1
    obtain ⟨rfl, rfl, h2⟩ := g2
    -- no tuple, empty, with a bool
    refine ⟨fun σ3 H3 => ∃ ds b xs, Same H2 H3 ∧ σ3 = [some (.ref ah), some u, some nv, some tv, some (.int (n : Int)), some ye, none, none, none] ∧ d = .tuple ds ∧ tv = .ref b ∧ SqT K H3 b xs ∧ DpAll K H3 xs ds ∧ ds ≠ [] ∧ (∀ e ∈ ds, isBo e = false), fun σ3 H3 g3 => ?_, ?_⟩
    rotate_left
    · obtain ⟨ti, ui, ci1, ci2, ci3⟩ := isi_tup hd1
      refine ⟨_, rfl, _, .ty "tuple", ti, ui, _, rfl, ci1, ci2, ci3, _, rfl, ?_⟩
      cases e1 : isTup d with
      | false => exact ifT rfl (ifT rfl (fal (Same.refl _) (tl_other e1 h2)))
      | true =>
        refine ifF rfl ?_
        obtain ⟨ds, rfl⟩ : ∃ ds, d = .tuple ds := by
          cases d with
          | tuple ds => exact ⟨ds, rfl⟩
          | _ => cases e1
        obtain ⟨b, xs, rfl, hSb, hA⟩ : ∃ b xs, tv = .ref b ∧ SqT K H2 b xs ∧ DpAll K H2 xs ds := by
          cases hd1 with
          | tup hS hA => exact ⟨_, _, rfl, hS, hA⟩
        have lA := dpAll_len hA
        have nl := (lo.2 ds rfl).2.inv
        have few := (lo.2 ds rfl).1
        refine ⟨_, rfl, b, xs, rfl, .inr hSb, rfl, _, rfl, ?_⟩
        by_cases e0 : ds = []
        · subst e0
          exact ifT (decide_eq_true (by rw [lA]; rfl)) (ifT rfl (fal (Same.refl _) (tl_empty n2)))
        have l0 : ds.length ≠ 0 := fun z => e0 (List.length_eq_zero_iff.mp z)
        refine ifF (decide_eq_false fun z => by have := V.int.inj z; omega) ⟨_, rfl, b, rfl, ⟨_, hSb⟩, fun D hD => ?_⟩
        refine lc_tup (xs := xs) (fun i H' => FI K H2 D isBo ds i H') (FI.start hD) (fun i H' _ h' => onT h'.1 hSb) (fun i x H' hx h' => ?_) (fun H' h' => ?_)
        · obtain ⟨dx, hdx, hx2⟩ := dpAll_at hA hx
          have hx3 := Dp.on h'.1 _ _ hx2
          obtain ⟨ti, ui, ci1, ci2, ci3⟩ := isi_bool hx3
          exact ⟨rfl, _, rfl, _, .ty "bool", ti, ui, _, rfl, ci1, ci2, ci3, _, rfl, ite2 (fun e => ⟨_, rfl, h'.yes hD (Same.refl _) hx3 hdx nl (by omega) e⟩) (fun e => h'.no (Same.refl _) hdx nl e)⟩
        · obtain ⟨s3, us, eD, hU⟩ := h'.done (by omega)
          refine ⟨Nat.zero_le _, fun z hz => ?_⟩
          have sz := same_new (o := .lst []) hz
          have shF : SeqAt.shaped (.list (ds.filter isBo)) = true := (SHp.lst (m := 29) fun e he => lo.1.inv e (List.mem_filter.mp he).1).ok (by decide)
          refine ⟨_, _, Dp.on sz _ _ (.lst (lstAt eD) hU), dp_lst (ns := []) (lstAt upd_same), shF, PySem.W.ke_shaped_ints [], _, rfl, ?_⟩
          show (if (!PyData.eqv (.list (ds.filter isBo)) (.list [])) = true then _ else _)
          rw [eqv_nil2]
          cases e3 : (ds.filter isBo).isEmpty with
          | false =>
            refine ifT rfl (fal (s3.trans sz) (tl_bool ?_))
            obtain ⟨e, he⟩ := List.exists_mem_of_ne_nil (ds.filter isBo) (fun z => by rw [z] at e3; cases e3)
            exact ⟨e, (List.mem_filter.mp he).1, (List.mem_filter.mp he).2⟩
          | true =>
            refine ifF rfl ⟨ds, b, xs, s3.trans sz, rfl, rfl, rfl, onT (s3.trans sz) hSb, ?_, e0, fun e he => ?_⟩
            · exact DpAll.fixN (Fix.same (s3.trans sz)) hA nl
            · have e3 := List.isEmpty_iff.mp e3
              rw [List.filter_eq_nil_iff] at e3
              simpa using e3 e he
    obtain ⟨ds, b, xs, s3, rfl, rfl, rfl, hSb, hA, ne0, nobool⟩ := g3
    have lA := dpAll_len hA
    have nl := (lo.2 ds rfl).2.inv
    have few := (lo.2 ds rfl).1
    have he3 := Dp.on s3 _ _ he
    -- ints alone
    refine ⟨fun σ4 H4 => Same H3 H4 ∧ σ4 = [some (.ref ah), some u, some nv, some (.ref b), some (.int (n : Int)), some ye, none, none, none] ∧ (∃ e ∈ ds, isIB e = false), fun σ4 H4 g4 => ?_, ?_⟩
    rotate_left
    · refine ⟨_, rfl, b, rfl, ⟨_, hSb⟩, fun D hD => ?_⟩
      refine lc_tup (xs := xs) (fun i H' => FI K H3 D (fun e => !isIB e) ds i H') (FI.start hD) (fun i H' _ h' => onT h'.1 hSb) (fun i x H' hx h' => ?_) (fun H' h' => ?_)
      · obtain ⟨dx, hdx, hx2⟩ := dpAll_at hA hx
        have hx3 := Dp.on h'.1 _ _ hx2
        obtain ⟨ti, ui, ci1, ci2, ci3⟩ := isi_int hx3
        exact ⟨rfl, _, rfl, _, .ty "int", ti, ui, _, rfl, ci1, ci2, ci3, _, rfl, ite2 (fun e => ⟨_, rfl, h'.yes hD (Same.refl _) hx3 hdx nl (by omega) e⟩) (fun e => h'.no (Same.refl _) hdx nl e)⟩
      · obtain ⟨s4, us, eD, hU⟩ := h'.done (by omega)
        refine ⟨Nat.zero_le _, fun z hz => ?_⟩
        have sz := same_new (o := .lst []) hz
        have shF : SeqAt.shaped (.list (ds.filter fun e => !isIB e)) = true := (SHp.lst (m := 29) fun e he => lo.1.inv e (List.mem_filter.mp he).1).ok (by decide)
        refine ⟨_, _, Dp.on sz _ _ (.lst (lstAt eD) hU), dp_lst (ns := []) (lstAt upd_same), shF, PySem.W.ke_shaped_ints [], _, rfl, ?_⟩
        show (if PyData.eqv (.list (ds.filter fun e => !isIB e)) (.list []) = true then _ else _)
        rw [eqv_nil2]
        have s4z := s4.trans sz
        cases e3 : (ds.filter fun e => !isIB e).isEmpty with
        | false =>
          refine ifF rfl ⟨s4z, rfl, ?_⟩
          obtain ⟨e, he⟩ := List.exists_mem_of_ne_nil (ds.filter fun e => !isIB e) (fun z => by rw [z] at e3; cases e3)
          exact ⟨e, (List.mem_filter.mp he).1, by simpa using (List.mem_filter.mp he).2⟩
        | true =>
          have e3 := List.isEmpty_iff.mp e3
          rw [List.filter_eq_nil_iff] at e3
          have allI : ∀ e ∈ ds, isIB e = true := fun e he => by simpa using e3 e he
          have qq := tl_ints (h := h) (nm := nm) (k := (k + 1)) g.hL g.l1 allI nobool
          refine ifT rfl ?_
          rcases g.hn with ⟨rfl, rfl⟩ | ⟨k0, rfl, rfl, hk0⟩
          · refine ⟨_, rfl, true, rfl, ifT rfl ⟨_, rfl, _, rfl, _, _, .tup (onT s4z hSb) (DpAll.fixN (Fix.same s4z) hA nl), Dp.on s4z _ _ he3, lo.1.ok (by decide), shE, ?_⟩⟩
            have := q _ ((s1.trans s3).trans s4z)
            rw [qq, decide_eq_true rfl, Bool.true_and] at this
            exact this
          · refine ⟨_, rfl, false, rfl, ifF rfl ?_⟩
            have := q _ ((s1.trans s3).trans s4z)
            rw [qq] at this
            exact this
    obtain ⟨s4, rfl, hmix⟩ := g4
    have hSb := onT s4 hSb
    have hA := DpAll.fixN (Fix.same s4) hA nl
    have s14 := s3.trans s4
    have mixed : ndD (.tuple ds) = none → tlD h n nm (k + 1) Ls (.tuple ds) = false := tl_mixed hmix
    -- two of them, an int and a tuple
    refine ⟨fun σ5 H5 => H5 = H4 ∧ σ5 = [some (.ref ah), some u, some nv, some (.ref b), some (.int (n : Int)), some ye, none, none, none] ∧ ∃ p ts v2, ds = [.int p, .tuple ts] ∧ xs = [.int p, v2], fun σ5 H5 g5 => ?_, ?_⟩
    rotate_left
    · refine ⟨_, rfl, b, xs, rfl, .inr hSb, rfl, _, rfl, ?_⟩
      by_cases l2 : ds.length = 2
      case neg =>
        refine ifT (by rw [decide_eq_false (fun z => by have := V.int.inj z; omega)]; rfl) (ifT rfl (fal s14 (mixed ?_)))
        cases e : ndD (.tuple ds) with
        | none => rfl
        | some z =>
          have e := ndD_some.mp e
          injection e with e
          rw [e] at l2
          exact absurd rfl l2
      refine ifF (by rw [decide_eq_true (by rw [lA, l2]; rfl)]; rfl) ?_
      obtain ⟨x, y, rfl⟩ : ∃ x y, ds = [x, y] := by
        match ds, l2 with
        | [x, y], _ => exact ⟨x, y, rfl⟩
      obtain ⟨v1, v2, rfl, dx, dy⟩ : ∃ v1 v2, xs = [v1, v2] ∧ Dp K H4 v1 x ∧ Dp K H4 v2 y := by
        cases hA with
        | cons h1 hA =>
          cases hA with
          | cons h2 hA =>
            cases hA
            exact ⟨_, _, rfl, h1, h2⟩
      have nox : ∀ z, ndD (.tuple [x, y]) = some z → isIB x = true ∧ isTup y = true := fun z e => by
        have e := ndD_some.mp e
        injection e with e
        injection e with e1 e2
        injection e2 with e2
        rw [e1, e2]
        exact ⟨rfl, rfl⟩
      obtain ⟨ti, ui, ci1, ci2, ci3⟩ := isi_int dx
      refine ⟨_, rfl, b, _, 0, v1, rfl, rfl, hSb, rfl, _, .ty "int", ti, ui, _, rfl, ci1, ci2, ci3, _, rfl, ?_⟩
      cases e1 : isIB x with
      | false =>
        refine ifT rfl (ifT rfl (fal s14 (mixed ?_)))
        cases e : ndD (.tuple [x, y]) with
        | none => rfl
        | some z => rw [(nox z e).1] at e1; cases e1
      | true =>
        obtain ⟨ti, ui, ci1, ci2, ci3⟩ := isi_tup dy
        refine ifF rfl ⟨_, rfl, b, _, 1, v2, rfl, rfl, hSb, rfl, _, .ty "tuple", ti, ui, _, rfl, ci1, ci2, ci3, _, rfl, ?_⟩
        cases e2 : isTup y with
        | false =>
          refine ifT rfl (fal s14 (mixed ?_))
          cases e : ndD (.tuple [x, y]) with
          | none => rfl
          | some z => rw [(nox z e).2] at e2; cases e2
        | true =>
          refine ifF rfl ⟨rfl, rfl, ?_⟩
          have nb := nobool x (List.mem_cons_self ..)
          cases x with
          | int p =>
            cases dx
            cases y with
            | tuple ts => exact ⟨p, ts, v2, rfl, rfl⟩
            | _ => cases e2
          | bool b => cases nb
          | _ => cases e1
    obtain ⟨rfl, rfl, p, ts, v2, rfl, rfl⟩ := g5
    have hn : ndD (.tuple [.int p, .tuple ts]) = some (p, ts) := rfl
    have ha : ansD n nm (.tuple [.int p, .tuple ts]) = false := by
      cases nm with
      | some _ => rfl
      | none =>
        show (([PyData.int p, .tuple ts].all (plD n)) && _) = false
        rw [show ([PyData.int p, .tuple ts].all (plD n)) = false from by
          rw [List.all_eq_false]
          exact ⟨.tuple ts, by simp, fun z => Bool.noConfusion z⟩]
        rfl
    obtain ⟨b2, ys, rfl, hS2, hA2⟩ : ∃ b2 ys, v2 = .ref b2 ∧ SqT K H5 b2 ys ∧ DpAll K H5 ys ts := by
      cases hA with
      | cons _ hA =>
        cases hA with
        | cons h2 _ =>
          cases h2 with
          | tup h h' => exact ⟨_, _, rfl, h, h'⟩
    have nlt : ∀ e ∈ ts, NL e := (nl (.tuple ts) (by simp)).inv
    have sht : ∀ e ∈ ts, SHp 28 e := (lo.1.inv (.tuple ts) (by simp)).inv
    have lts := dpAll_len hA2
    have hS5 := onT s14 hS1
    have g5 := g1.same s14
    -- the place
    refine ⟨fun σ6 H6 => H6 = H5 ∧ σ6 = [some (.ref ah), some u, some nv, some (.ref b), some (.int (n : Int)), some ye, none, none, none] ∧ InR n p, fun σ6 H6 g6 => ?_, ?_⟩
    rotate_left
    · have out : ¬ InR n p → tlD h n nm (k + 1) Ls (.tuple [.int p, .tuple ts]) = false := fun z => tl_place ha (by
        show (decide (0 ≤ p) && decide (p ≤ (n : Int) - 1)) = false
        rw [Bool.and_eq_false_iff, decide_eq_false_iff_not, decide_eq_false_iff_not]
        by_cases h0 : 0 ≤ p
        · exact .inr fun h1 => z ⟨h0, by omega⟩
        · exact .inl h0)
      refine ⟨_, rfl, b, _, 0, .int p, rfl, rfl, hSb, rfl, 0, p, rfl, rfl, _, rfl, ite2 (fun e => ?_) (fun e => ?_)⟩
      · have e := of_decide_eq_true e
        refine ⟨_, rfl, p, (n : Int), rfl, rfl, _, rfl, ?_⟩
        by_cases h1 : p < (n : Int)
        · exact ifF (by rw [decide_eq_true h1]; rfl) ⟨rfl, rfl, e, h1⟩
        · exact ifT (by rw [decide_eq_false h1]; rfl) (fal s14 (out fun z => h1 z.2))
      · have e : ¬ 0 ≤ p := fun z => e (decide_eq_true z)
        exact ⟨_, rfl, ifT rfl (fal s14 (out fun z => e z.1))⟩
    obtain ⟨rfl, rfl, rp⟩ := g6
    have eS : tlD h n nm ((k + 1) + 0) Ls (.tuple [.int p, .tuple ts]) = tlD h n nm (k + 1) Ls (.tuple [.int p, .tuple ts]) := rfl
    -- parts
    refine ⟨_, rfl, _, rfl, _, rfl, b, _, 0, .int p, rfl, rfl, hSb, rfl, .ref ah, u, h, n, Ls, p, rfl, g5.hT, g5.hb, g5.hLs, g5.hL, l24, rp, fun H7 dd kvs s7 pv => ?_⟩
    have hSb7 := onT s7 hSb
    have hS27 := onT s7 hS2
    have hA7 := DpAll.fixN (Fix.same s7) hA2 nlt
    have s17 := s14.trans s7
    have l64 : ts.length < 64 := (rk.2 p ts rfl).1
    -- no pair
    refine ⟨fun σ8 H8 => Same H7 H8 ∧ σ8 = [some (.ref ah), some u, some nv, some (.ref b), some (.int (n : Int)), some ye, some (.ref dd), none, none] ∧ ∀ t ∈ ts, (pairD t).isNone = false, fun σ8 H8 g8 => ?_, ?_⟩
    rotate_left
    · refine ⟨_, rfl, b, _, 1, .ref b2, rfl, rfl, hSb7, rfl, b2, rfl, ⟨_, hS27⟩, fun D hD => ?_⟩
      refine lc_tup (xs := ys) (fun i H' => FI K H7 D (fun t => (pairD t).isNone) ts i H') (FI.start hD) (fun i H' _ h' => onT h'.1 hS27) (fun i x H' hx h' => ?_) (fun H' h' => ?_)
      · obtain ⟨dx, hdx, hx2⟩ := dpAll_at hA7 hx
        have hx3 := Dp.on h'.1 _ _ hx2
        obtain ⟨ti, ui, ci1, ci2, ci3⟩ := isi_tup hx3
        refine ⟨rfl, _, rfl, _, .ty "tuple", ti, ui, _, rfl, ci1, ci2, ci3, _, rfl, ?_⟩
        cases e1 : isTup dx with
        | false =>
          have ef : (pairD dx).isNone = true := by
            cases dx with
            | tuple ds => cases e1
            | _ => rfl
          exact ifT rfl (ifT rfl ⟨_, rfl, h'.yes hD (Same.refl _) hx3 hdx nlt (by omega) ef⟩)
        | true =>
          obtain ⟨es, rfl⟩ : ∃ es, dx = .tuple es := by
            cases dx with
            | tuple ds => exact ⟨ds, rfl⟩
            | _ => cases e1
          obtain ⟨a6, zs, rfl, hS6, hA6⟩ : ∃ a6 zs, x = .ref a6 ∧ SqT K H' a6 zs ∧ DpAll K H' zs es := by
            cases hx3 with
            | tup h h' => exact ⟨_, _, rfl, h, h'⟩
          have l6 := dpAll_len hA6
          refine ifF rfl ⟨_, rfl, a6, zs, rfl, .inr hS6, rfl, _, rfl, ?_⟩
          by_cases e2 : es.length = 2
          · have ef : ¬ (pairD (.tuple es)).isNone = true := by
              match es, e2 with
              | [x, y], _ => exact fun z => Bool.noConfusion z
            exact ifF (by rw [decide_eq_true (by rw [l6, e2]; rfl)]; rfl) (h'.no (Same.refl _) hdx nlt ef)
          · have ef : (pairD (.tuple es)).isNone = true := by
              match es, e2 with
              | [], _ => rfl
              | [_], _ => rfl
              | [_, _], z => exact absurd rfl z
              | _ :: _ :: _ :: _, _ => rfl
            exact ifT (by rw [decide_eq_false (fun z => e2 (by have := V.int.inj z; omega))]; rfl) ⟨_, rfl, h'.yes hD (Same.refl _) hx3 hdx nlt (by omega) ef⟩
      · obtain ⟨s8, us, eD, hU⟩ := h'.done (by omega)
        refine ⟨Nat.zero_le _, fun z hz => ?_⟩
        have sz := same_new (o := .lst []) hz
        have shF : SeqAt.shaped (.list (ts.filter fun t => (pairD t).isNone)) = true := (SHp.lst (m := 28) fun e he => sht e (List.mem_filter.mp he).1).ok (by decide)
        refine ⟨_, _, Dp.on sz _ _ (.lst (lstAt eD) hU), dp_lst (ns := []) (lstAt upd_same), shF, PySem.W.ke_shaped_ints [], _, rfl, ?_⟩
        show (if (!PyData.eqv (.list (ts.filter fun t => (pairD t).isNone)) (.list [])) = true then _ else _)
        rw [eqv_nil2]
        have s8z := s8.trans sz
        cases e3 : (ts.filter fun t => (pairD t).isNone).isEmpty with
        | false =>
          obtain ⟨e, he⟩ := List.exists_mem_of_ne_nil (ts.filter fun t => (pairD t).isNone) (fun z => by rw [z] at e3; cases e3)
          have hm := (List.mem_filter.mp he).1
          have hb3 := Option.isNone_iff_eq_none.mp (List.mem_filter.mp he).2
          refine ifT rfl (fal (s17.trans s8z) ?_)
          rw [tl_node ha rp]
          exact zip_nopair hm hb3
        | true =>
          have e3 := List.isEmpty_iff.mp e3
          rw [List.filter_eq_nil_iff] at e3
          refine ifF rfl ⟨s8z, rfl, fun e he => ?_⟩
          have e4 := e3 e he
          cases e5 : pairD e with
          | none => rw [e5] at e4; exact absurd rfl e4
          | some _ => rfl
    obtain ⟨s8, rfl, hpair⟩ := g8
    have hSb8 := onT s8 hSb7
    have hS28 := onT s8 hS27
    have hA8 := DpAll.fixN (Fix.same s8) hA7 nlt
    have pv8 := pv.same s8
    have s18 := s17.trans s8
    obtain ⟨ks, ek, lk, srt⟩ := pv8.sorted
    have fewP : (prts h n Ls p).length ≤ 5 := by
      have h2 := List.length_filterMap_le (partO h Ls p) (rg n)
      rw [rg_len] at h2
      unfold prts
      omega
    -- pairs of a book and a value
    obtain ⟨pr, epr, hrk⟩ := pairs_list ts hpair (rk.2 p ts rfl).2
    have at_ : ∀ {i : Nat} {x : V} {H' : Hp}, Same H8 H' → ys[i]? = some x → ∃ (y : Int × PyData) (a6 : Addr) (w2 : V), pr[i]? = some y ∧ x = .ref a6 ∧ SqT K H' a6 [.int y.1, w2] ∧ Dp K H' w2 y.2 ∧ ts[i]? = some (.tuple [.int y.1, y.2]) := fun {i x H'} sm hx => by
      obtain ⟨dx, hdx, hx2⟩ := dpAll_at hA8 hx
      have hdx2 := hdx
      rw [epr, List.getElem?_map] at hdx
      obtain ⟨y, hy, rfl⟩ := Option.map_eq_some_iff.mp hdx
      obtain ⟨a6, w2, rfl, hS6, hd6⟩ := dp_pair hx2
      exact ⟨y, a6, w2, hy, rfl, onT sm hS6, Dp.on sm _ _ hd6, hdx2⟩
    have lpr : pr.length = ts.length := by rw [epr, List.length_map]
    -- the books
    refine ⟨fun σ9 H9 => Same H8 H9 ∧ σ9 = [some (.ref ah), some u, some nv, some (.ref b), some (.int (n : Int)), some ye, some (.ref dd), none, none] ∧ pr.map Prod.fst = (prts h n Ls p).map Prod.fst, fun σ9 H9 g9 => ?_, ?_⟩
    rotate_left
    · refine ⟨_, rfl, b, _, 1, .ref b2, rfl, rfl, hSb8, rfl, b2, rfl, ⟨_, hS28⟩, fun D hD => ?_⟩
      refine lc_tup (xs := ys) (fun i H' => Same H8 H' ∧ H' D = some (.lst (((pr.take i).map Prod.fst).map V.int))) ⟨same_new hD, upd_same⟩ (fun i H' _ h' => onT h'.1 hS28) (fun i x H' hx h' => ?_) (fun H' h' => ?_)
      · obtain ⟨sm, eD⟩ := h'
        obtain ⟨y, a6, w2, hy, rfl, hS6, _, _⟩ := at_ sm hx
        refine ⟨rfl, _, rfl, a6, _, 0, .int y.1, rfl, rfl, hS6, rfl, _, eD, ?_, keep_lst sm hD, ?_⟩
        · rw [List.length_map, List.length_map, List.length_take]
          exact small1000 (by omega)
        · rw [upd_same, List.take_add_one, hy, List.map_append, List.map_append]
          rfl
      · obtain ⟨sm, eD⟩ := h'
        rw [List.take_of_length_le (by omega)] at eD
        refine ⟨_, rfl, dd, kvs, ks, rfl, .inl (pv8.same sm).at_, ek, by omega, fun zs q1 pmz le hq1 => ?_⟩
        obtain rfl := srt zs pmz le
        have sq := same_new (o := .lst (((prts h n Ls p).map Prod.fst).map V.int)) hq1
        refine ⟨_, _, dp_lst (lstAt (sq _ _ eD)), dp_lst (lstAt upd_same), PySem.W.ke_shaped_ints _, PySem.W.ke_shaped_ints _, _, rfl, ?_⟩
        show (if (!PyData.eqv (.list ((pr.map Prod.fst).map PyData.int)) (.list (((prts h n Ls p).map Prod.fst).map PyData.int))) = true then _ else _)
        rw [eqv_lst]
        have smq := sm.trans sq
        by_cases e : pr.map Prod.fst = (prts h n Ls p).map Prod.fst
        · exact ifF (by rw [decide_eq_true e]; rfl) ⟨smq, rfl, e⟩
        · refine ifT (by rw [decide_eq_false e]; rfl) (fal (s18.trans smq) ?_)
          rw [tl_node ha rp, epr]
          exact zip_apart e
    obtain ⟨s9, rfl, efst⟩ := g9
    have lpp : pr.length = (prts h n Ls p).length := by
      have := congrArg List.length efst
      rw [List.length_map, List.length_map] at this
      exact this
    -- all are told
    have g9 := g5.same (s7.trans (s8.trans s9))
    have hSb9 := onT s9 hSb8
    have hS29 := onT s9 hS28
    refine ⟨_, rfl, b, _, 1, .ref b2, rfl, rfl, hSb9, rfl, b2, rfl, ⟨_, hS29⟩, fun D hD => ?_⟩
    refine lc_tup (xs := ys) (fun i H' => FI K H9 D (fun t => !toldF h n nm k Ls p t) ts i H') (FI.start hD) (fun i H' _ h' => onT h'.1 hS29) (fun i x H' hx h' => ?_) (fun H' h' => ?_)
    · obtain ⟨y, a6, w2, hy, rfl, hS6, hd6, hts⟩ := at_ (s9.trans h'.1) hx
      have myp := List.mem_of_getElem? hy
      have mfst : y.1 ∈ (prts h n Ls p).map Prod.fst := by
        rw [← efst]
        exact List.mem_map.mpr ⟨y, myp, rfl⟩
      obtain ⟨yr, yne⟩ := prts_fst.mp mfst
      have pvx := pv8.same (s9.trans h'.1)
      obtain ⟨l1, us1, ev1, el1, hU1⟩ := pvx.val y.1 yr yne
      have gx := g9.same h'.1
      have dx3 : Dp K H' (.ref a6) (.tuple [.int y.1, y.2]) := .tup hS6 (.cons (.int _) (.cons hd6 .nil))
      refine ⟨rfl, _, rfl, _, rfl, _, rfl, a6, _, 0, .int y.1, rfl, rfl, hS6, rfl, dd, _, rfl, by have := DGet.k (k := .inl y.1) pvx.at_; rw [ev1] at this; exact this, _, rfl, _, rfl, a6, _, 1, w2, rfl, rfl, hS6, rfl,
        .ref ah, .ref l1, nv, w2, h, n, partL h Ls p y.1, nm, y.2, rfl, ⟨gx.hT, g.hb, ⟨l1, us1, rfl, el1, hU1⟩, partL_perm g.hb rp g.hL, List.length_pos_iff.mpr yne, g.hn⟩, Nat.le_trans partL_len l24, hrk y myp, hd6, fun H5 s5 => ⟨_, rfl, ?_⟩⟩
      show (if (!tlD h n nm k (partL h Ls p y.1) y.2) = true then _ else _)
      have dx5 := Dp.on s5 _ _ dx3
      exact ite2 (fun e => ⟨_, rfl, h'.yes hD s5 dx5 hts nlt (by omega) e⟩) (fun e => h'.no s5 hts nlt e)
    · obtain ⟨s10, us, eD, hU⟩ := h'.done (by omega)
      refine ⟨Nat.zero_le _, fun z hz => ?_⟩
      have sz := same_new (o := .lst []) hz
      have shF : SeqAt.shaped (.list (ts.filter fun t => !toldF h n nm k Ls p t)) = true := (SHp.lst (m := 28) fun e he => sht e (List.mem_filter.mp he).1).ok (by decide)
      refine ⟨_, _, Dp.on sz _ _ (.lst (lstAt eD) hU), dp_lst (ns := []) (lstAt upd_same), shF, PySem.W.ke_shaped_ints [], ?_⟩
      show Q (.bl (PyData.eqv (.list (ts.filter fun t => !toldF h n nm k Ls p t)) (.list []))) _
      rw [eqv_nil2]
      have := q _ ((s1.trans s18).trans (s9.trans (s10.trans sz)))
      rw [tl_node ha rp, epr, zip_all efst] at this
      rw [epr]
      exact this
theorem ok_ltold0 (F : Df K mg "_law_told" st__law_told ["habit", "layouts", "name", "value"]) (B : Bu mg) (CE : Cal P w K mg base 1 "_law_end" (spLEnd K)) (CPd : Cal P w K mg base 2 "_law_parted" (spLParted K)) : Cal P w K mg base 3 "_law_told" (spLTold K 0) := by
  refine mkCal F sc__law_told (fun vs H Q E h => ?_) (fun f cdv A outer s H vs Q E hr h => ?_)
  · obtain ⟨v, u, nv, tv, h, n, Ls, nm, d, rfl, _⟩ := h
    rfl
  · obtain ⟨v, u, nv, tv, h, n, Ls, nm, d, rfl, g, l24, rk, hd, q⟩ := h
    refine ⟨_, pss_cons (ps_par (i := 4) (j := 5) rfl sc__law_told.nd rfl rfl (by decide) rfl rfl (pa_cons (pe_callB (cl_len K) (by rfl) B.len PySem.boot_len (pa_cons (pv 0) pa_nil)) (pa_cons (pc CE hr (pa_cons (pv 1) (pa_cons (pv 2) pa_nil))) pa_nil)) rfl)
 (pss_cons (ps_cutM (ps_if (PW.pt (pw_and (pt_cmp (pc_notN (pv 2))) (pw_and (pt_val (pe_callB call_isi (by rfl) B.isi (by decide +kernel) (pa_cons (pv 3) (pa_cons (pe_bltn (v := .ty "int") (by rfl) B.int (by decide +kernel) rfl) pa_nil)))) (pw_and1 (pt_not (pt_val (pe_callB call_isi (by rfl) B.isi (by decide +kernel) (pa_cons (pv 3) (pa_cons (pe_bltn (v := .ty "bool") (by rfl) B.bool (by decide +kernel) rfl) pa_nil))))))))) (pss_one (ps_ret (pe_cmpR (op_eqD hr.units) (pv 3) (pv 5) (nomark _)))) pss_nil))
 (pss_cons (ps_cutM (ps_if (PW.pt (pw_or (pt_not (pt_val (pe_callB call_isi (by rfl) B.isi (by decide +kernel) (pa_cons (pv 3) (pa_cons (pe_bltn (v := .ty "tuple") (by rfl) B.tuple (by decide +kernel) rfl) pa_nil))))) (pw_or (pt_cmpR op_eq (pe_callB (cl_len K) (by rfl) B.len PySem.boot_len (pa_cons (pv 3) pa_nil)) pe_int (nomark _)) (pw_or1 (pt_cmpR (op_neD hr.units) (pe_lc (own := [("one", 7)]) (g := (gName 7))   rfl sc__law_told.nd (pi_tup (pv 3)) (blkOk_by (N := ["habit", "layouts", "name", "value", "many", "end", "parts", "one", "part"]) (sc := (defScope st__law_told)) (by decide +kernel)) (fun _ _ _ _ _ => (pg_name (i := 7) sc__law_told.nd rfl (Or.inl rfl))) (fun _ _ _ _ _ => (pts_one (pt_val (pe_callB (cl_isi K) (by rfl) B.isi (by decide +kernel) (pa_cons (pv 7) (pa_cons (pe_bltn (v := .ty "bool") (by rfl) B.bool (by decide +kernel) rfl) pa_nil)))))) (fun _ _ _ _ _ => (pv 7))) (pe_lst pa_nil) (nomark _)))))) (pss_one (ps_ret pe_bl)) pss_nil))
 (pss_cons (ps_cutM (ps_if (pt_cmpR (op_eqD hr.units) (pe_lc (own := [("one", 7)]) (g := (gName 7))   rfl sc__law_told.nd (pi_tup (pv 3)) (blkOk_by (N := ["habit", "layouts", "name", "value", "many", "end", "parts", "one", "part"]) (sc := (defScope st__law_told)) (by decide +kernel)) (fun _ _ _ _ _ => (pg_name (i := 7) sc__law_told.nd rfl (Or.inl rfl))) (fun _ _ _ _ _ => (pts_one (pt_not (pt_val (pe_callB (cl_isi K) (by rfl) B.isi (by decide +kernel) (pa_cons (pv 7) (pa_cons (pe_bltn (v := .ty "int") (by rfl) B.int (by decide +kernel) rfl) pa_nil))))))) (fun _ _ _ _ _ => (pv 7))) (pe_lst pa_nil) (nomark _)) (pss_one (ps_ret (pe_and (pe_cmp (pc_isN (pv 2))) (pe_one (pe_cmpR (op_eqD hr.units) (pv 3) (pv 5) (nomark _)))))) pss_nil))
 (pss_cons (ps_cutM (ps_if (PW.pt (pw_or (pt_cmpR op_ne (pe_callB (cl_len K) (by rfl) B.len PySem.boot_len (pa_cons (pv 3) pa_nil)) pe_int (nomark _)) (pw_or (pt_not (pt_val (pe_callB call_isi (by rfl) B.isi (by decide +kernel) (pa_cons (pe_ix (ixT K) (pv 3) pe_int (fun _ _ => rfl)) (pa_cons (pe_bltn (v := .ty "int") (by rfl) B.int (by decide +kernel) rfl) pa_nil))))) (pw_or1 (pt_not (pt_val (pe_callB call_isi (by rfl) B.isi (by decide +kernel) (pa_cons (pe_ix (ixT K) (pv 3) pe_int (fun _ _ => rfl)) (pa_cons (pe_bltn (v := .ty "tuple") (by rfl) B.tuple (by decide +kernel) rfl) pa_nil))))))))) (pss_one (ps_ret pe_bl)) pss_nil))
 (pss_cons (ps_cutM (ps_if (pt_not (pt_chain op_le op_lt pe_int (pe_ix (ixT K) (pv 3) pe_int (fun _ _ => rfl)) (pv 4))) (pss_one (ps_ret pe_bl)) pss_nil))
 (pss_cons (ps_set (i := 6) sc__law_told.nd rfl (.inr rfl) (pc CPd hr (pa_cons (pv 0) (pa_cons (pv 1) (pa_cons (pe_ix (ixT K) (pv 3) pe_int (fun _ _ => rfl)) pa_nil)))))
 (pss_cons (ps_cutM (ps_if (pt_cmpR (op_neD hr.units) (pe_lc (own := [("part", 8)]) (g := (gName 8))   rfl sc__law_told.nd (pi_tup (pe_ix (ixT K) (pv 3) pe_int (fun _ _ => rfl))) (blkOk_by (N := ["habit", "layouts", "name", "value", "many", "end", "parts", "one", "part"]) (sc := (defScope st__law_told)) (by decide +kernel)) (fun _ _ _ _ _ => (pg_name (i := 8) sc__law_told.nd rfl (Or.inl rfl))) (fun _ _ _ _ _ => (pts_one (PW.pt (pw_or (pt_not (pt_val (pe_callB (cl_isi K) (by rfl) B.isi (by decide +kernel) (pa_cons (pv 8) (pa_cons (pe_bltn (v := .ty "tuple") (by rfl) B.tuple (by decide +kernel) rfl) pa_nil))))) (pw_or1 (pt_cmpR op_ne (pe_callB (cl_len K) (by rfl) B.len PySem.boot_len (pa_cons (pv 8) pa_nil)) pe_int (nomark _))))))) (fun _ _ _ _ _ => (pv 8))) (pe_lst pa_nil) (nomark _)) (pss_one (ps_ret pe_bl)) pss_nil))
 (pss_cons (ps_cutM (ps_if (pt_cmpR (op_neD hr.units) (pe_lc (own := [("part", 8)]) (g := (gName 8)) (tt := tYes)  rfl sc__law_told.nd (pi_tup (pe_ix (ixT K) (pv 3) pe_int (fun _ _ => rfl))) (blkOk_by (N := ["habit", "layouts", "name", "value", "many", "end", "parts", "one", "part"]) (sc := (defScope st__law_told)) (by decide +kernel)) (fun _ _ _ _ _ => (pg_name (i := 8) sc__law_told.nd rfl (Or.inl rfl))) (fun _ _ _ _ _ => pts_nil) (fun _ _ _ _ _ => (pe_ix (ixT K) (pv 8) pe_int (fun _ _ => rfl)))) (pe_callB (call_sortedDI rfl) (by rfl) B.sorted (by decide +kernel) (pa_cons (pv 6) pa_nil)) (nomark _)) (pss_one (ps_ret pe_bl)) pss_nil))
 (pss_one ps_no))))))))), ?_⟩
    have n5 := g.hb.hi
    have n2 := g.hb.lo
    have lo := rk.lo
    obtain ⟨ah, hxs, rfl, hS, hE⟩ := id g.hT
    have hxl : hxs.length = n := hE.len.trans g.hb.len
    refine ⟨_, rfl, ah, hxs, rfl, .inr hS, _, rfl, _, rfl, u, nv, n, Ls, nm, rfl, g.hLs, g.hL, by omega, n5, g.l1, l24, g.hn, fun H1 ye s1 hye => ⟨_, _, rfl, ?_⟩⟩
    rw [hxl]
    have g1 := g.same s1
    have hd1 := Dp.on s1 _ _ hd
    have hS1 := onT s1 hS
    have he := endV_dp hye
    have shE := (endD_shp nm Ls).ok (by decide)
    have fal : ∀ {H5 : Hp}, Same H1 H5 → tlD h n nm 0 Ls d = false → Q (.bl false) H5 := fun {H5} s5 e => by
      have := q H5 (s1.trans s5)
      rw [e] at this
      exact this
    clear hye
    -- an int
    refine ⟨fun σ2 H2 => H2 = H1 ∧ σ2 = [some (.ref ah), some u, some nv, some tv, some (.int (n : Int)), some ye, none, none, none] ∧ (nm = none ∨ isIB d = false ∨ isBo d = true), fun σ2 H2 g2 => ?_, ?_⟩
    rotate_left
    · rcases g.hn with ⟨rfl, rfl⟩ | ⟨k0, rfl, rfl, hk0⟩
      · exact ⟨_, rfl, _, rfl, ifF rfl (ifF rfl ⟨rfl, rfl, .inl rfl⟩)⟩
      · obtain ⟨ti, ui, ci1, ci2, ci3⟩ := isi_int hd1
        refine ⟨_, rfl, _, rfl, ifT rfl ⟨_, rfl, _, .ty "int", ti, ui, _, rfl, ci1, ci2, ci3, _, rfl, ?_⟩⟩
        cases e1 : isIB d with
        | false => exact ifF rfl (ifF rfl ⟨rfl, rfl, .inr (.inl rfl)⟩)
        | true =>
          obtain ⟨ti, ui, ci1, ci2, ci3⟩ := isi_bool hd1
          refine ifT rfl ⟨_, rfl, _, .ty "bool", ti, ui, _, rfl, ci1, ci2, ci3, _, rfl, ?_⟩
          cases e2 : isBo d with
          | true => exact ifF rfl ⟨rfl, rfl, .inr (.inr rfl)⟩
          | false =>
            refine ifT rfl ⟨_, rfl, _, rfl, _, _, hd1, he, lo.1.ok (by decide), shE, ?_⟩
            cases d with
            | int i =>
              have := q H1 s1
              rw [tl_int g.hL g.l1 hk0] at this
              exact this
            | bool b => cases e2
            | _ => cases e1
    obtain ⟨rfl, rfl, h2⟩ := g2
    -- no tuple, empty, with a bool
    refine ⟨fun σ3 H3 => ∃ ds b xs, Same H2 H3 ∧ σ3 = [some (.ref ah), some u, some nv, some tv, some (.int (n : Int)), some ye, none, none, none] ∧ d = .tuple ds ∧ tv = .ref b ∧ SqT K H3 b xs ∧ DpAll K H3 xs ds ∧ ds ≠ [] ∧ (∀ e ∈ ds, isBo e = false), fun σ3 H3 g3 => ?_, ?_⟩
    rotate_left
    · obtain ⟨ti, ui, ci1, ci2, ci3⟩ := isi_tup hd1
      refine ⟨_, rfl, _, .ty "tuple", ti, ui, _, rfl, ci1, ci2, ci3, _, rfl, ?_⟩
      cases e1 : isTup d with
      | false => exact ifT rfl (ifT rfl (fal (Same.refl _) (tl_other e1 h2)))
      | true =>
        refine ifF rfl ?_
        obtain ⟨ds, rfl⟩ : ∃ ds, d = .tuple ds := by
          cases d with
          | tuple ds => exact ⟨ds, rfl⟩
          | _ => cases e1
        obtain ⟨b, xs, rfl, hSb, hA⟩ : ∃ b xs, tv = .ref b ∧ SqT K H2 b xs ∧ DpAll K H2 xs ds := by
          cases hd1 with
          | tup hS hA => exact ⟨_, _, rfl, hS, hA⟩
        have lA := dpAll_len hA
        have nl := (lo.2 ds rfl).2.inv
        have few := (lo.2 ds rfl).1
        refine ⟨_, rfl, b, xs, rfl, .inr hSb, rfl, _, rfl, ?_⟩
        by_cases e0 : ds = []
        · subst e0
          exact ifT (decide_eq_true (by rw [lA]; rfl)) (ifT rfl (fal (Same.refl _) (tl_empty n2)))
        have l0 : ds.length ≠ 0 := fun z => e0 (List.length_eq_zero_iff.mp z)
        refine ifF (decide_eq_false fun z => by have := V.int.inj z; omega) ⟨_, rfl, b, rfl, ⟨_, hSb⟩, fun D hD => ?_⟩
        refine lc_tup (xs := xs) (fun i H' => FI K H2 D isBo ds i H') (FI.start hD) (fun i H' _ h' => onT h'.1 hSb) (fun i x H' hx h' => ?_) (fun H' h' => ?_)
        · obtain ⟨dx, hdx, hx2⟩ := dpAll_at hA hx
          have hx3 := Dp.on h'.1 _ _ hx2
          obtain ⟨ti, ui, ci1, ci2, ci3⟩ := isi_bool hx3
          exact ⟨rfl, _, rfl, _, .ty "bool", ti, ui, _, rfl, ci1, ci2, ci3, _, rfl, ite2 (fun e => ⟨_, rfl, h'.yes hD (Same.refl _) hx3 hdx nl (by omega) e⟩) (fun e => h'.no (Same.refl _) hdx nl e)⟩
        · obtain ⟨s3, us, eD, hU⟩ := h'.done (by omega)
          refine ⟨Nat.zero_le _, fun z hz => ?_⟩
          have sz := same_new (o := .lst []) hz
          have shF : SeqAt.shaped (.list (ds.filter isBo)) = true := (SHp.lst (m := 29) fun e he => lo.1.inv e (List.mem_filter.mp he).1).ok (by decide)
          refine ⟨_, _, Dp.on sz _ _ (.lst (lstAt eD) hU), dp_lst (ns := []) (lstAt upd_same), shF, PySem.W.ke_shaped_ints [], _, rfl, ?_⟩
          show (if (!PyData.eqv (.list (ds.filter isBo)) (.list [])) = true then _ else _)
          rw [eqv_nil2]
          cases e3 : (ds.filter isBo).isEmpty with
          | false =>
            refine ifT rfl (fal (s3.trans sz) (tl_bool ?_))
            obtain ⟨e, he⟩ := List.exists_mem_of_ne_nil (ds.filter isBo) (fun z => by rw [z] at e3; cases e3)
            exact ⟨e, (List.mem_filter.mp he).1, (List.mem_filter.mp he).2⟩
          | true =>
            refine ifF rfl ⟨ds, b, xs, s3.trans sz, rfl, rfl, rfl, onT (s3.trans sz) hSb, ?_, e0, fun e he => ?_⟩
            · exact DpAll.fixN (Fix.same (s3.trans sz)) hA nl
            · have e3 := List.isEmpty_iff.mp e3
              rw [List.filter_eq_nil_iff] at e3
              simpa using e3 e he
    obtain ⟨ds, b, xs, s3, rfl, rfl, rfl, hSb, hA, ne0, nobool⟩ := g3
    have lA := dpAll_len hA
    have nl := (lo.2 ds rfl).2.inv
    have few := (lo.2 ds rfl).1
    have he3 := Dp.on s3 _ _ he
    -- ints alone
    refine ⟨fun σ4 H4 => Same H3 H4 ∧ σ4 = [some (.ref ah), some u, some nv, some (.ref b), some (.int (n : Int)), some ye, none, none, none] ∧ (∃ e ∈ ds, isIB e = false), fun σ4 H4 g4 => ?_, ?_⟩
    rotate_left
    · refine ⟨_, rfl, b, rfl, ⟨_, hSb⟩, fun D hD => ?_⟩
      refine lc_tup (xs := xs) (fun i H' => FI K H3 D (fun e => !isIB e) ds i H') (FI.start hD) (fun i H' _ h' => onT h'.1 hSb) (fun i x H' hx h' => ?_) (fun H' h' => ?_)
      · obtain ⟨dx, hdx, hx2⟩ := dpAll_at hA hx
        have hx3 := Dp.on h'.1 _ _ hx2
        obtain ⟨ti, ui, ci1, ci2, ci3⟩ := isi_int hx3
        exact ⟨rfl, _, rfl, _, .ty "int", ti, ui, _, rfl, ci1, ci2, ci3, _, rfl, ite2 (fun e => ⟨_, rfl, h'.yes hD (Same.refl _) hx3 hdx nl (by omega) e⟩) (fun e => h'.no (Same.refl _) hdx nl e)⟩
      · obtain ⟨s4, us, eD, hU⟩ := h'.done (by omega)
        refine ⟨Nat.zero_le _, fun z hz => ?_⟩
        have sz := same_new (o := .lst []) hz
        have shF : SeqAt.shaped (.list (ds.filter fun e => !isIB e)) = true := (SHp.lst (m := 29) fun e he => lo.1.inv e (List.mem_filter.mp he).1).ok (by decide)
        refine ⟨_, _, Dp.on sz _ _ (.lst (lstAt eD) hU), dp_lst (ns := []) (lstAt upd_same), shF, PySem.W.ke_shaped_ints [], _, rfl, ?_⟩
        show (if PyData.eqv (.list (ds.filter fun e => !isIB e)) (.list []) = true then _ else _)
        rw [eqv_nil2]
        have s4z := s4.trans sz
        cases e3 : (ds.filter fun e => !isIB e).isEmpty with
        | false =>
          refine ifF rfl ⟨s4z, rfl, ?_⟩
          obtain ⟨e, he⟩ := List.exists_mem_of_ne_nil (ds.filter fun e => !isIB e) (fun z => by rw [z] at e3; cases e3)
          exact ⟨e, (List.mem_filter.mp he).1, by simpa using (List.mem_filter.mp he).2⟩
        | true =>
          have e3 := List.isEmpty_iff.mp e3
          rw [List.filter_eq_nil_iff] at e3
          have allI : ∀ e ∈ ds, isIB e = true := fun e he => by simpa using e3 e he
          have qq := tl_ints (h := h) (nm := nm) (k := 0) g.hL g.l1 allI nobool
          refine ifT rfl ?_
          rcases g.hn with ⟨rfl, rfl⟩ | ⟨k0, rfl, rfl, hk0⟩
          · refine ⟨_, rfl, true, rfl, ifT rfl ⟨_, rfl, _, rfl, _, _, .tup (onT s4z hSb) (DpAll.fixN (Fix.same s4z) hA nl), Dp.on s4z _ _ he3, lo.1.ok (by decide), shE, ?_⟩⟩
            have := q _ ((s1.trans s3).trans s4z)
            rw [qq, decide_eq_true rfl, Bool.true_and] at this
            exact this
          · refine ⟨_, rfl, false, rfl, ifF rfl ?_⟩
            have := q _ ((s1.trans s3).trans s4z)
            rw [qq] at this
            exact this
    obtain ⟨s4, rfl, hmix⟩ := g4
    have hSb := onT s4 hSb
    have hA := DpAll.fixN (Fix.same s4) hA nl
    have s14 := s3.trans s4
    have mixed : ndD (.tuple ds) = none → tlD h n nm 0 Ls (.tuple ds) = false := tl_mixed hmix
    -- two of them, an int and a tuple
    refine ⟨fun σ5 H5 => H5 = H4 ∧ σ5 = [some (.ref ah), some u, some nv, some (.ref b), some (.int (n : Int)), some ye, none, none, none] ∧ ∃ p ts v2, ds = [.int p, .tuple ts] ∧ xs = [.int p, v2], fun σ5 H5 g5 => ?_, ?_⟩
    rotate_left
    · refine ⟨_, rfl, b, xs, rfl, .inr hSb, rfl, _, rfl, ?_⟩
      by_cases l2 : ds.length = 2
      case neg =>
        refine ifT (by rw [decide_eq_false (fun z => by have := V.int.inj z; omega)]; rfl) (ifT rfl (fal s14 (mixed ?_)))
        cases e : ndD (.tuple ds) with
        | none => rfl
        | some z =>
          have e := ndD_some.mp e
          injection e with e
          rw [e] at l2
          exact absurd rfl l2
      refine ifF (by rw [decide_eq_true (by rw [lA, l2]; rfl)]; rfl) ?_
      obtain ⟨x, y, rfl⟩ : ∃ x y, ds = [x, y] := by
        match ds, l2 with
        | [x, y], _ => exact ⟨x, y, rfl⟩
      obtain ⟨v1, v2, rfl, dx, dy⟩ : ∃ v1 v2, xs = [v1, v2] ∧ Dp K H4 v1 x ∧ Dp K H4 v2 y := by
        cases hA with
        | cons h1 hA =>
          cases hA with
          | cons h2 hA =>
            cases hA
            exact ⟨_, _, rfl, h1, h2⟩
      have nox : ∀ z, ndD (.tuple [x, y]) = some z → isIB x = true ∧ isTup y = true := fun z e => by
        have e := ndD_some.mp e
        injection e with e
        injection e with e1 e2
        injection e2 with e2
        rw [e1, e2]
        exact ⟨rfl, rfl⟩
      obtain ⟨ti, ui, ci1, ci2, ci3⟩ := isi_int dx
      refine ⟨_, rfl, b, _, 0, v1, rfl, rfl, hSb, rfl, _, .ty "int", ti, ui, _, rfl, ci1, ci2, ci3, _, rfl, ?_⟩
      cases e1 : isIB x with
      | false =>
        refine ifT rfl (ifT rfl (fal s14 (mixed ?_)))
        cases e : ndD (.tuple [x, y]) with
        | none => rfl
        | some z => rw [(nox z e).1] at e1; cases e1
      | true =>
        obtain ⟨ti, ui, ci1, ci2, ci3⟩ := isi_tup dy
        refine ifF rfl ⟨_, rfl, b, _, 1, v2, rfl, rfl, hSb, rfl, _, .ty "tuple", ti, ui, _, rfl, ci1, ci2, ci3, _, rfl, ?_⟩
        cases e2 : isTup y with
        | false =>
          refine ifT rfl (fal s14 (mixed ?_))
          cases e : ndD (.tuple [x, y]) with
          | none => rfl
          | some z => rw [(nox z e).2] at e2; cases e2
        | true =>
          refine ifF rfl ⟨rfl, rfl, ?_⟩
          have nb := nobool x (List.mem_cons_self ..)
          cases x with
          | int p =>
            cases dx
            cases y with
            | tuple ts => exact ⟨p, ts, v2, rfl, rfl⟩
            | _ => cases e2
          | bool b => cases nb
          | _ => cases e1
    obtain ⟨rfl, rfl, p, ts, v2, rfl, rfl⟩ := g5
    have hn : ndD (.tuple [.int p, .tuple ts]) = some (p, ts) := rfl
    have ha : ansD n nm (.tuple [.int p, .tuple ts]) = false := by
      cases nm with
      | some _ => rfl
      | none =>
        show (([PyData.int p, .tuple ts].all (plD n)) && _) = false
        rw [show ([PyData.int p, .tuple ts].all (plD n)) = false from by
          rw [List.all_eq_false]
          exact ⟨.tuple ts, by simp, fun z => Bool.noConfusion z⟩]
        rfl
    obtain ⟨b2, ys, rfl, hS2, hA2⟩ : ∃ b2 ys, v2 = .ref b2 ∧ SqT K H5 b2 ys ∧ DpAll K H5 ys ts := by
      cases hA with
      | cons _ hA =>
        cases hA with
        | cons h2 _ =>
          cases h2 with
          | tup h h' => exact ⟨_, _, rfl, h, h'⟩
    have nlt : ∀ e ∈ ts, NL e := (nl (.tuple ts) (by simp)).inv
    have sht : ∀ e ∈ ts, SHp 28 e := (lo.1.inv (.tuple ts) (by simp)).inv
    have lts := dpAll_len hA2
    have hS5 := onT s14 hS1
    have g5 := g1.same s14
    -- the place
    refine ⟨fun σ6 H6 => H6 = H5 ∧ σ6 = [some (.ref ah), some u, some nv, some (.ref b), some (.int (n : Int)), some ye, none, none, none] ∧ InR n p, fun σ6 H6 g6 => ?_, ?_⟩
    rotate_left
    · have out : ¬ InR n p → tlD h n nm 0 Ls (.tuple [.int p, .tuple ts]) = false := fun z => tl_place ha (by
        show (decide (0 ≤ p) && decide (p ≤ (n : Int) - 1)) = false
        rw [Bool.and_eq_false_iff, decide_eq_false_iff_not, decide_eq_false_iff_not]
        by_cases h0 : 0 ≤ p
        · exact .inr fun h1 => z ⟨h0, by omega⟩
        · exact .inl h0)
      refine ⟨_, rfl, b, _, 0, .int p, rfl, rfl, hSb, rfl, 0, p, rfl, rfl, _, rfl, ite2 (fun e => ?_) (fun e => ?_)⟩
      · have e := of_decide_eq_true e
        refine ⟨_, rfl, p, (n : Int), rfl, rfl, _, rfl, ?_⟩
        by_cases h1 : p < (n : Int)
        · exact ifF (by rw [decide_eq_true h1]; rfl) ⟨rfl, rfl, e, h1⟩
        · exact ifT (by rw [decide_eq_false h1]; rfl) (fal s14 (out fun z => h1 z.2))
      · have e : ¬ 0 ≤ p := fun z => e (decide_eq_true z)
        exact ⟨_, rfl, ifT rfl (fal s14 (out fun z => e z.1))⟩
    obtain ⟨rfl, rfl, rp⟩ := g6
    have eS : tlD h n nm (0 + 0) Ls (.tuple [.int p, .tuple ts]) = tlD h n nm 0 Ls (.tuple [.int p, .tuple ts]) := rfl
    -- parts
    refine ⟨_, rfl, _, rfl, _, rfl, b, _, 0, .int p, rfl, rfl, hSb, rfl, .ref ah, u, h, n, Ls, p, rfl, g5.hT, g5.hb, g5.hLs, g5.hL, l24, rp, fun H7 dd kvs s7 pv => ?_⟩
    have hSb7 := onT s7 hSb
    have hS27 := onT s7 hS2
    have hA7 := DpAll.fixN (Fix.same s7) hA2 nlt
    have s17 := s14.trans s7
    have l64 : ts.length < 64 := by rw [rk.2 p ts rfl]; decide
    -- no pair
    refine ⟨fun σ8 H8 => Same H7 H8 ∧ σ8 = [some (.ref ah), some u, some nv, some (.ref b), some (.int (n : Int)), some ye, some (.ref dd), none, none] ∧ ∀ t ∈ ts, (pairD t).isNone = false, fun σ8 H8 g8 => ?_, ?_⟩
    rotate_left
    · refine ⟨_, rfl, b, _, 1, .ref b2, rfl, rfl, hSb7, rfl, b2, rfl, ⟨_, hS27⟩, fun D hD => ?_⟩
      refine lc_tup (xs := ys) (fun i H' => FI K H7 D (fun t => (pairD t).isNone) ts i H') (FI.start hD) (fun i H' _ h' => onT h'.1 hS27) (fun i x H' hx h' => ?_) (fun H' h' => ?_)
      · obtain ⟨dx, hdx, hx2⟩ := dpAll_at hA7 hx
        have hx3 := Dp.on h'.1 _ _ hx2
        obtain ⟨ti, ui, ci1, ci2, ci3⟩ := isi_tup hx3
        refine ⟨rfl, _, rfl, _, .ty "tuple", ti, ui, _, rfl, ci1, ci2, ci3, _, rfl, ?_⟩
        cases e1 : isTup dx with
        | false =>
          have ef : (pairD dx).isNone = true := by
            cases dx with
            | tuple ds => cases e1
            | _ => rfl
          exact ifT rfl (ifT rfl ⟨_, rfl, h'.yes hD (Same.refl _) hx3 hdx nlt (by omega) ef⟩)
        | true =>
          obtain ⟨es, rfl⟩ : ∃ es, dx = .tuple es := by
            cases dx with
            | tuple ds => exact ⟨ds, rfl⟩
            | _ => cases e1
          obtain ⟨a6, zs, rfl, hS6, hA6⟩ : ∃ a6 zs, x = .ref a6 ∧ SqT K H' a6 zs ∧ DpAll K H' zs es := by
            cases hx3 with
            | tup h h' => exact ⟨_, _, rfl, h, h'⟩
          have l6 := dpAll_len hA6
          refine ifF rfl ⟨_, rfl, a6, zs, rfl, .inr hS6, rfl, _, rfl, ?_⟩
          by_cases e2 : es.length = 2
          · have ef : ¬ (pairD (.tuple es)).isNone = true := by
              match es, e2 with
              | [x, y], _ => exact fun z => Bool.noConfusion z
            exact ifF (by rw [decide_eq_true (by rw [l6, e2]; rfl)]; rfl) (h'.no (Same.refl _) hdx nlt ef)
          · have ef : (pairD (.tuple es)).isNone = true := by
              match es, e2 with
              | [], _ => rfl
              | [_], _ => rfl
              | [_, _], z => exact absurd rfl z
              | _ :: _ :: _ :: _, _ => rfl
            exact ifT (by rw [decide_eq_false (fun z => e2 (by have := V.int.inj z; omega))]; rfl) ⟨_, rfl, h'.yes hD (Same.refl _) hx3 hdx nlt (by omega) ef⟩
      · obtain ⟨s8, us, eD, hU⟩ := h'.done (by omega)
        refine ⟨Nat.zero_le _, fun z hz => ?_⟩
        have sz := same_new (o := .lst []) hz
        have shF : SeqAt.shaped (.list (ts.filter fun t => (pairD t).isNone)) = true := (SHp.lst (m := 28) fun e he => sht e (List.mem_filter.mp he).1).ok (by decide)
        refine ⟨_, _, Dp.on sz _ _ (.lst (lstAt eD) hU), dp_lst (ns := []) (lstAt upd_same), shF, PySem.W.ke_shaped_ints [], _, rfl, ?_⟩
        show (if (!PyData.eqv (.list (ts.filter fun t => (pairD t).isNone)) (.list [])) = true then _ else _)
        rw [eqv_nil2]
        have s8z := s8.trans sz
        cases e3 : (ts.filter fun t => (pairD t).isNone).isEmpty with
        | false =>
          obtain ⟨e, he⟩ := List.exists_mem_of_ne_nil (ts.filter fun t => (pairD t).isNone) (fun z => by rw [z] at e3; cases e3)
          have hm := (List.mem_filter.mp he).1
          have hb3 := Option.isNone_iff_eq_none.mp (List.mem_filter.mp he).2
          refine ifT rfl (fal (s17.trans s8z) ?_)
          show (ansD n nm _ && _) = false
          rw [ha]
          rfl
        | true =>
          have e3 := List.isEmpty_iff.mp e3
          rw [List.filter_eq_nil_iff] at e3
          refine ifF rfl ⟨s8z, rfl, fun e he => ?_⟩
          have e4 := e3 e he
          cases e5 : pairD e with
          | none => rw [e5] at e4; exact absurd rfl e4
          | some _ => rfl
    obtain ⟨s8, rfl, hpair⟩ := g8
    have hSb8 := onT s8 hSb7
    have hS28 := onT s8 hS27
    have hA8 := DpAll.fixN (Fix.same s8) hA7 nlt
    have pv8 := pv.same s8
    have s18 := s17.trans s8
    obtain ⟨ks, ek, lk, srt⟩ := pv8.sorted
    have fewP : (prts h n Ls p).length ≤ 5 := by
      have h2 := List.length_filterMap_le (partO h Ls p) (rg n)
      rw [rg_len] at h2
      unfold prts
      omega
    obtain rfl := rk.2 p ts rfl
    have ly : ys.length = 0 := lts
    obtain rfl := List.length_eq_zero_iff.mp ly
    have pos := prts_pos (h := h) g.hL g.l1 rp
    refine ⟨fun σ9 H9 => False, fun σ9 H9 z => z.elim, ?_⟩
    refine ⟨_, rfl, b, _, 1, .ref b2, rfl, rfl, hSb8, rfl, b2, rfl, ⟨_, hS28⟩, fun D hD => ?_⟩
    refine lc_tup (xs := []) (fun i H' => Same H8 H' ∧ H' D = some (.lst ((([] : List Int)).map V.int))) ⟨same_new hD, upd_same⟩ (fun i H' _ h' => onT h'.1 hS28) (fun i x H' hx h' => by simp at hx) (fun H' h' => ?_)
    obtain ⟨sm, eD⟩ := h'
    refine ⟨_, rfl, dd, kvs, ks, rfl, .inl (pv8.same sm).at_, ek, by omega, fun zs q1 pmz le hq1 => ?_⟩
    obtain rfl := srt zs pmz le
    have sq := same_new (o := .lst (((prts h n Ls p).map Prod.fst).map V.int)) hq1
    refine ⟨_, _, dp_lst (lstAt (sq _ _ eD)), dp_lst (lstAt upd_same), PySem.W.ke_shaped_ints _, PySem.W.ke_shaped_ints _, _, rfl, ?_⟩
    show (if (!PyData.eqv (.list ((([] : List Int)).map PyData.int)) (.list (((prts h n Ls p).map Prod.fst).map PyData.int))) = true then _ else _)
    rw [eqv_lst, decide_eq_false (fun z => by have := congrArg List.length z; rw [List.length_map] at this; simp at this; omega)]
    refine ifT rfl (fal (s18.trans (sm.trans sq)) ?_)
    show (ansD n nm _ && _) = false
    rw [ha]
    rfl
end
end RH
set_option Elab.async false
set_option linter.all false
set_option maxRecDepth 100000
set_option maxHeartbeats 2000000
namespace RH
open PySem PySem.Spec PyProof.Rows L2
/-! ### layouts that rise -/
def rises (Ls : List (List Int)) : Bool := (Ls.zip (Ls.drop 1)).all fun p => HT.lexLt p.1 p.2
theorem lex_code {d : Nat} : ∀ {a b : List Int}, a.length = d → b.length = d → TS.Bd 64 a → TS.Bd 64 b → (HT.lexLt a b = true ↔ TS.code 64 a < TS.code 64 b) := by
  induction d with
  | zero =>
    intro a b ha hb _ _
    rw [List.eq_nil_of_length_eq_zero ha, List.eq_nil_of_length_eq_zero hb, HT.lexLt_nil_nil]
    constructor
    · intro z; cases z
    · intro z; exact absurd z (Int.lt_irrefl _)
  | succ d ih =>
    intro a b ha hb Ba Bb
    match a, b, ha, hb with
    | x :: r, y :: t, ha, hb =>
      have lr : r.length = d := Nat.succ.inj ha
      have lt : t.length = d := Nat.succ.inj hb
      rw [HT.lexLt_cons]
      by_cases e : x = y
      · subst e
        rw [if_pos rfl, TS.code_same (lr.trans lt.symm)]
        exact ih lr lt Ba.tail Bb.tail
      · rw [if_neg e, decide_eq_true_iff]
        constructor
        · intro z
          exact TS.code_lt (lr.trans lt.symm) Ba.tail Bb.tail z
        · intro z
          rcases Int.lt_trichotomy x y with h | h | h
          · exact h
          · exact absurd h e
          · have := TS.code_lt (lt.trans lr.symm) Bb.tail Ba.tail h
            omega
theorem lex_both {d : Nat} : ∀ {a b : List Int}, a.length = d → b.length = d → HT.lexLt a b = false → HT.lexLt b a = false → a = b := by
  induction d with
  | zero =>
    intro a b ha hb _ _
    rw [List.eq_nil_of_length_eq_zero ha, List.eq_nil_of_length_eq_zero hb]
  | succ d ih =>
    intro a b ha hb h1 h2
    match a, b, ha, hb with
    | x :: r, y :: t, ha, hb =>
      rw [HT.lexLt_cons] at h1 h2
      by_cases e : x = y
      · subst e
        rw [if_pos rfl] at h1 h2
        rw [ih (Nat.succ.inj ha) (Nat.succ.inj hb) h1 h2]
      · rw [if_neg e, decide_eq_false_iff_not] at h1
        rw [if_neg (fun z => e z.symm), decide_eq_false_iff_not] at h2
        omega
theorem rises_asc : ∀ {Ls : List (List Int)}, rises Ls = true ↔ ∀ i, ∀ a b, Ls[i]? = some a → Ls[i + 1]? = some b → HT.lexLt a b = true := by
  intro Ls
  unfold rises
  rw [List.all_eq_true]
  constructor
  · intro h i a b ha hb
    refine h (a, b) (List.mem_iff_getElem?.mpr ⟨i, ?_⟩)
    rw [List.getElem?_zip_eq_some]
    refine ⟨ha, ?_⟩
    rw [List.getElem?_drop, Nat.add_comm]
    exact hb
  · intro h p hp
    obtain ⟨i, hi⟩ := List.mem_iff_getElem?.mp hp
    rw [List.getElem?_zip_eq_some, List.getElem?_drop, Nat.add_comm] at hi
    exact h i p.1 p.2 hi.1 hi.2
theorem rises_of {n : Nat} {Ls : List (List Int)} (hn : n ≤ 5) (hL : ∀ L ∈ Ls, L.Perm (rg n)) (nd : Ls.Nodup) (pw : Ls.Pairwise fun a b => TS.code 64 a ≤ TS.code 64 b) : rises Ls = true := by
  rw [rises_asc]
  intro i a b ha hb
  have ma := hL a (List.mem_of_getElem? ha)
  have mb := hL b (List.mem_of_getElem? hb)
  obtain ⟨la, Ba⟩ := bd_perm ma hn
  obtain ⟨lb, Bb⟩ := bd_perm mb hn
  obtain ⟨i1, e1⟩ := List.getElem?_eq_some_iff.mp ha
  obtain ⟨i2, e2⟩ := List.getElem?_eq_some_iff.mp hb
  have le := List.pairwise_iff_getElem.mp pw i (i + 1) i1 i2 (Nat.lt_succ_self i)
  have ne := List.pairwise_iff_getElem.mp nd i (i + 1) i1 i2 (Nat.lt_succ_self i)
  rw [e1, e2] at le ne
  rw [lex_code la lb Ba Bb]
  rcases Int.lt_or_eq_of_le le with h | h
  · exact h
  · exfalso
    have h1 : ¬ HT.lexLt a b = true := fun z => by
      have := (lex_code la lb Ba Bb).mp z
      omega
    have h2 : ¬ HT.lexLt b a = true := fun z => by
      have := (lex_code lb la Bb Ba).mp z
      omega
    exact ne (lex_both la lb (by simpa using h1) (by simpa using h2))
theorem lex_irr : ∀ a : List Int, HT.lexLt a a = false
  | [] => HT.lexLt_nil_nil
  | x :: r => by
    rw [HT.lexLt_cons, if_pos rfl]
    exact lex_irr r
theorem opLtL {X : Cx} (K : PySem.W.Frag) (hu : X.A.units < cLine) (h : X.K = K := by rfl) : OpR X (compareOp .Lt) (rLtT K) := by
  subst h
  exact op_ltT hu
section
variable {P : Program} {w : World} {K : PySem.W.Frag} {mg : Str → Option Value} {base : Heap}
def spRises (K : PySem.W.Frag) : Sp := fun vs H Q _ => ∃ (v : V) (Ls : List (List Int)), vs = [v] ∧ LsT K H v Ls ∧ Ls.length ≤ 24 ∧ ∀ H', Same H H' → Q (.bl (rises Ls)) H'
theorem ok_rises (F : Df K mg "is_rising" st_is_rising ["row"]) (B : Bu mg) : Cal P w K mg base 1 "is_rising" (spRises K) := by
  refine mkCal F sc_is_rising (fun vs H Q E h => ?_) (fun f cdv A outer s H vs Q E hr h => ?_)
  · obtain ⟨v, Ls, rfl, _⟩ := h
    rfl
  · obtain ⟨v, ls, rfl, ⟨a, ys, rfl, hS, hE⟩, hlen, q⟩ := h
    refine ⟨_, pss_one (ps_ret (pe_callB (cr_all rfl) (by rfl) B.all (by decide +kernel) (pa_cons (pe_lc (own := [("one", 1), ("other", 2)]) (g := gTup K 2 (gCons (gName 1) (gCons (gName 2) gNil))) (tt := tYes) rfl sc_is_rising.nd
        (RZ.pi_zipA (by rfl) B.zip (pa_cons (pv 0) (pa_cons (pe_slice sl_tupA (pv 0) (po_some pe_int) po_none) pa_nil))) (blkOk_by (N := ["row", "one", "other"]) (sc := defScope st_is_rising) (by decide +kernel))
        (fun _ _ _ _ _ => pg_tup rfl (pgs_cons (pg_name (i := 1) sc_is_rising.nd rfl (Or.inl rfl)) (pgs_cons (pg_name (i := 2) sc_is_rising.nd rfl (Or.inl rfl)) pgs_nil))) (fun _ _ _ _ _ => pts_nil)
        (fun _ _ _ _ _ => pe_cmpR (opLtL K hr.units0) (pv 1) (pv 2) (nomark _))) pa_nil))), ?_⟩
    refine ⟨_, rfl, _, rfl, 1, rfl, ?_⟩
    unfold tNoPart
    dsimp only
    refine slT_from 1 1 rfl hS fun b H2 sm2 hb => ?_
    have ly := hE.len
    refine ⟨a, b, _, _, rfl, .inr ⟨onT sm2 hS, hb, fun D hD => ?_⟩⟩
    refine lc_zipT (xs := ys) (ys := ys.drop 1) (ls.zip (ls.drop 1)).length (by rw [List.length_zip, List.length_drop, List.length_drop, ly])
      (fun i H' => Same H2 H' ∧ H' D = some (.lst ((((ls.zip (ls.drop 1)).take i).map fun p => HT.lexLt p.1 p.2).map V.bl))) ⟨same_new hD, upd_same⟩ (fun i H' h' => ⟨onT h'.1 (onT sm2 hS), onT h'.1 hb⟩) (fun i x z T H' hx hz h' hT => ?_) (fun H' h' => ?_)
    · obtain ⟨sm, eD⟩ := h'
      have i1 : i < ls.length := by have := (List.getElem?_eq_some_iff.mp hx).1; omega
      have i2 : i + 1 < ls.length := by have := (List.getElem?_eq_some_iff.mp hz).1; rw [List.length_drop] at this; omega
      have hs : ls[i]? = some ls[i] := List.getElem?_eq_getElem i1
      have ht : ls[i + 1]? = some ls[i + 1] := List.getElem?_eq_getElem i2
      have hz1 : ys[i + 1]? = some z := by
        rw [List.getElem?_drop] at hz
        rw [Nat.add_comm]
        exact hz
      have sT : Same H (upd H' T (.tup [x, z])) := (sm2.trans sm).trans (same_new hT)
      obtain ⟨l1, e1, b1, rfl, k1⟩ := hE.at hx
      obtain ⟨l2, e2, b2, rfl, k2⟩ := hE.at hz1
      have E1 : l1 = ls[i] := by rw [hs] at e1; exact (Option.some.inj e1).symm
      have E2 : l2 = ls[i + 1] := by rw [ht] at e2; exact (Option.some.inj e2).symm
      subst E1 E2
      have eDT : (upd H' T (.tup [.ref b1, .ref b2])) D = H' D := upd_ne (ne_of_none eD hT)
      refine ⟨T, _, rfl, tupAt upd_same, rfl, _, _, rfl, _, _, rfl, rfl, rfl, _, rfl, _, rfl, b1, b2, ls[i], ls[i + 1], rfl, rfl, (k1.same sT).sqT, (k2.same sT).sqT, _, eDT.trans eD, ?_, ?_, ?_⟩
      · rw [List.length_map, List.length_map, List.length_take, List.length_zip]
        exact small1000 (by omega)
      · intro b' o e
        rw [upd_ne (ne_of_none e hD)]
        exact same_new hT b' o (sm b' o e)
      · have hz : (ls.zip (ls.drop 1))[i]? = some (ls[i], ls[i + 1]) := by
          rw [List.getElem?_zip_eq_some]
          refine ⟨hs, ?_⟩
          rw [List.getElem?_drop, Nat.add_comm]
          exact ht
        rw [upd_same, all_snoc _ hz, List.map_append]
        rfl
    · obtain ⟨sm, eD⟩ := h'
      rw [List.take_length] at eD
      refine ⟨D, _, rfl, lstAt eD, ?_⟩
      have e : (((ls.zip (ls.drop 1)).map fun p => HT.lexLt p.1 p.2).all id) = rises ls := by
        unfold rises
        rw [List.all_map]
        rfl
      rw [e]
      exact q H' (sm2.trans sm)
/-! ### the checks -/
/-- layouts that the check takes or refuses -/
inductive LyK (K : PySem.W.Frag) (H : Hp) (n : Nat) : V → Bool → Prop
  | row {v : V} {wo : Option (List V)} : Tk K H v wo → rowW 1 24 wo = false → LyK K H n v false
  | odd {a : Addr} {xs : List V} {wos : List (Option (List V))} : SqT K H a xs → Each (Wd K H) xs wos → 1 ≤ xs.length → xs.length ≤ 24 → (∃ wo ∈ wos, layW n wo = false) → LyK K H n (.ref a) false
  | some {v : V} {Ls : List (List Int)} : LsT K H v Ls → (∀ L ∈ Ls, L.Perm (rg n)) → 1 ≤ Ls.length → Ls.length ≤ 24 → LyK K H n v (rises Ls)
theorem each_wdF {n : Nat} {H : Hp} {K : PySem.W.Frag} : ∀ {xs : List V} {Ls : List (List Int)}, Each (TIF H) xs Ls → (∀ L ∈ Ls, L.Perm (rg n)) → n ≤ 5 → Each (Wd K H) xs (Ls.map fun L => Option.some (L.map V.int))
  | _, _, .nil, _, _ => .nil
  | _, _, .cons ⟨b, e, f⟩ hE, hL, hn => .cons (by
      subst e
      refine wd_ints f.sqT ?_
      rw [perm_len (hL _ (List.mem_cons_self ..))]
      omega) (each_wdF hE (fun L hl => hL L (List.mem_cons_of_mem _ hl)) hn)
def spCheckLayouts (K : PySem.W.Frag) (C : Addr) : Sp := fun vs H Q E => ∃ (v : V) (n : Nat) (b : Bool), vs = [v, .int n] ∧ LyK K H n v b ∧ n ≤ 5 ∧ (b = true → ∀ H', Same H H' → Q .non H') ∧ (b = false → noE C H E)
theorem ok_check_layouts {C : Addr} (F : Df K mg "check_layouts" st_check_layouts ["layouts", "places"]) (B : Bu mg) (c24 : ∃ t, mg "MOST_START_LAYOUTS" = some (.int 24 t)) (Xn : ExO K mg "BadLayouts" C) (C1 : Cal P w K mg base 1 "is_row" (spIsRowW K)) (C5 : Cal P w K mg base 5 "is_layout" (spIsLayoutW K)) (CR : Cal P w K mg base 1 "is_rising" (spRises K)) : CalX P w K mg base 6 "check_layouts" (spCheckLayouts K C) := by
  refine mkCalX F sc_check_layouts (fun vs H Q E h => ?_) (fun f cdv A outer s H vs Q E hr h => ?_)
  · obtain ⟨v, n, b, rfl, _⟩ := h
    rfl
  · obtain ⟨v, n, b, rfl, hk, n5, q1, q2⟩ := h
    refine ⟨_, pss_cons (ps_if (PW.pt (pw_or (pt_not (pt_val (pc C1 hr (pa_cons (pv 0) (pa_cons pe_int (pa_cons (pk c24) pa_nil)))))) (pw_or1 (pt_not (pt_val (pe_callB (cr_all rfl) (by rfl) B.all (by decide +kernel) (pa_cons (pe_lc (own := [("layout", 2)]) (g := gName 2) (tt := tYes) rfl sc_check_layouts.nd
        (pi_tup (pv 0)) (blkOk_by (N := ["layouts", "places", "layout"]) (sc := defScope st_check_layouts) (by decide +kernel))
        (fun _ _ _ _ _ => pg_name (i := 2) sc_check_layouts.nd rfl (Or.inl rfl)) (fun _ _ _ _ _ => pts_nil) (fun _ _ _ _ _ => pc C5 hr (pa_cons (pv 2) (pa_cons (pv 1) pa_nil)))) pa_nil)))))))
        (pss_one (ps_raise rfl takesE (SkE.pmk_own1 PySem.F.excBase_ValueError Xn.q Xn.g Xn.k (raises_own Xn.b Xn.t) rfl pe_str))) pss_nil)
      (pss_one (ps_if (pt_not (pt_val (pc CR hr (pa_cons (pv 0) pa_nil)))) (pss_one (ps_raise rfl takesE (SkE.pmk_own1 PySem.F.excBase_ValueError Xn.q Xn.g Xn.k (raises_own Xn.b Xn.t) rfl pe_str))) pss_nil)), ?_⟩
    have few : ∀ m : Nat, 1 ≤ m → m ≤ 24 → (decide ((1 : Int) ≤ (m : Int)) && decide ((m : Int) ≤ 24)) = true := fun m h1 h2 => by
      rw [decide_eq_true (by omega), decide_eq_true (by omega)]
      rfl
    cases hk with
    | @row v wo ht e =>
      exact ⟨_, rfl, v, wo, 1, 24, rfl, ht, _, rfl, ite2 (fun z => ifT rfl (q2 rfl H (Same.refl H))) (fun z => absurd (show (!rowW 1 24 wo) = true by rw [e]; rfl) z)⟩
    | @odd a xs wos hS hE h1 h24 hx =>
      refine ⟨_, rfl, .ref a, some xs, 1, 24, rfl, .tup hS, _, rfl, ite2 (fun z => ?_) (fun _ => ?_)⟩
      · have z : (!(decide ((1 : Int) ≤ (xs.length : Int)) && decide ((xs.length : Int) ≤ 24))) = true := z
        rw [few _ h1 h24] at z
        cases z
      refine ⟨_, rfl, a, rfl, ⟨_, hS⟩, fun D hD => ?_⟩
      refine lc_tup (xs := xs) (fun i H' => Same H H' ∧ H' D = some (.lst (((wos.take i).map (layW n)).map V.bl))) ⟨same_new hD, upd_same⟩ (fun i H' _ h' => onT h'.1 hS) (fun i x H' hx' h' => ?_) (fun H' h' => ?_)
      · obtain ⟨sm, eD⟩ := h'
        obtain ⟨wo, hw, kw⟩ := hE.at hx'
        have lw := hE.len
        refine ⟨rfl, _, rfl, _, rfl, x, wo, n, rfl, kw.on sm, by omega, fun H1 s1 => ⟨_, s1 _ _ eD, by rw [List.length_map, List.length_map, List.length_take]; exact small1000 (by omega), sameU (sm.trans s1) hD, ?_⟩⟩
        rw [upd_same, all_snoc _ hw, List.map_append]
        rfl
      · obtain ⟨sm, eD⟩ := h'
        rw [hE.len, List.take_length] at eD
        obtain ⟨wo, hm, hl⟩ := hx
        refine ⟨D, _, rfl, lstAt eD, _, rfl, ifT ?_ (q2 rfl H' sm)⟩
        have : ((wos.map (layW n)).all id) = false := by
          rw [Bool.eq_false_iff]
          intro z
          have := List.all_eq_true.mp z _ (List.mem_map.mpr ⟨wo, hm, rfl⟩)
          rw [hl] at this
          cases this
        rw [this]
        rfl
    | @some v Ls hT hL h1 h24 =>
      obtain ⟨a, xs, rfl, hS, hE⟩ := id hT
      have hW := each_wdF (K := K) hE hL n5
      have lx := hE.len
      refine ⟨_, rfl, .ref a, some xs, 1, 24, rfl, .tup hS, _, rfl, ite2 (fun z => ?_) (fun _ => ?_)⟩
      · have z : (!(decide ((1 : Int) ≤ (xs.length : Int)) && decide ((xs.length : Int) ≤ 24))) = true := z
        rw [few _ (by omega) (by omega)] at z
        cases z
      refine ⟨_, rfl, a, rfl, ⟨_, hS⟩, fun D hD => ?_⟩
      refine lc_tup (xs := xs) (fun i H' => Same H H' ∧ H' D = some (.lst (((Ls.take i).map (fun _ => true)).map V.bl))) ⟨same_new hD, upd_same⟩ (fun i H' _ h' => onT h'.1 hS) (fun i x H' hx' h' => ?_) (fun H' h' => ?_)
      · obtain ⟨sm, eD⟩ := h'
        obtain ⟨wo, hw, kw⟩ := hW.at hx'
        rw [List.getElem?_map, Option.map_eq_some_iff] at hw
        obtain ⟨L, hl, rfl⟩ := hw
        refine ⟨rfl, _, rfl, _, rfl, x, _, n, rfl, kw.on sm, by omega, fun H1 s1 => ⟨_, s1 _ _ eD, by rw [List.length_map, List.length_map, List.length_take]; exact small1000 (by omega), sameU (sm.trans s1) hD, ?_⟩⟩
        rw [upd_same, all_snoc _ hl, List.map_append, lay_ok (hL L (List.mem_of_getElem? hl))]
        rfl
      · obtain ⟨sm, eD⟩ := h'
        rw [lx, List.take_length] at eD
        refine ⟨D, _, rfl, lstAt eD, _, rfl, ifF ?_ ?_⟩
        · have : ((Ls.map (fun _ => true)).all id) = true := by
            rw [List.all_map, List.all_eq_true]
            intro _ _
            rfl
          rw [this]
          rfl
        refine ⟨_, rfl, .ref a, Ls, rfl, hT.same sm, h24, fun H2 s2 => ⟨_, rfl, ?_⟩⟩
        cases hr : rises Ls with
        | true => exact ifF rfl (q1 hr H2 (sm.trans s2))
        | false => exact ifT rfl (q2 hr H2 (sm.trans s2))
def spCheckName (K : PySem.W.Frag) (C : Addr) : Sp := fun vs H Q E => ∃ (v : V) (n : Nat), vs = [v, .int n] ∧ Sw K H v ∧ n ≤ 5 ∧ (inV2 0 ((n : Int) - 1) v = true → Q .non H) ∧ (inV2 0 ((n : Int) - 1) v = false → noE C H E)
theorem ok_check_name {C : Addr} (F : Df K mg "check_name" st_check_name ["name", "places"]) (Xn : ExO K mg "BadNames" C) (C3 : Cal P w K mg base 3 "is_place" (spIsPlaceW K)) : CalX P w K mg base 4 "check_name" (spCheckName K C) := by
  refine mkCalX F sc_check_name (fun vs H Q E h => ?_) (fun f cdv A outer s H vs Q E hr h => ?_)
  · obtain ⟨v, n, rfl, _⟩ := h
    rfl
  · obtain ⟨v, n, rfl, hw, n5, q1, q2⟩ := h
    refine ⟨_, pss_one (ps_if (pt_not (pt_val (pc C3 hr (pa_cons (pv 0) (pa_cons (pv 1) pa_nil))))) (pss_one (ps_raise rfl takesE (SkE.pmk_own1 PySem.F.excBase_ValueError Xn.q Xn.g Xn.k (raises_own Xn.b Xn.t) rfl
      (pe_joined (.cons pe_str (.cons (pe_fmt (pv 1)) (.cons pe_str .nil))))))) pss_nil), ?_⟩
    refine ⟨_, rfl, _, rfl, v, n, rfl, hw, _, rfl, ?_⟩
    cases bad : inV2 0 ((n : Int) - 1) v with
    | true => exact ifF rfl (q1 bad)
    | false =>
      refine ifT rfl ?_
      refine ⟨_, rfl, ?_, _, rfl, .inr ⟨(n : Int), rfl, few_log n5, _, rfl, ?_, _, rfl, ?_, q2 bad H (Same.refl H)⟩⟩ <;> (rw [sizeLine_eq]; rcases small_text n5 with rfl | rfl | rfl | rfl | rfl | rfl <;> decide +kernel)
end
end RH
set_option Elab.async false
set_option linter.all false
set_option maxRecDepth 100000
set_option maxHeartbeats 2000000
namespace RH
open PySem PySem.Spec PyProof.Rows L2
/-! ### what the module lets out -/
section
variable {h : List (List Int)} {n : Nat}
def pth (h : List (List Int)) (ws : List Int) (s : Int) : Int := ws.foldl (fun s p => mv h p s) s
theorem mvs_pth : ∀ (ws L : List Int), mvs h L ws = L.map (pth h ws)
  | [], L => (List.map_id' L).symm
  | p :: ws, L => by
    show mvs h (stp h p L) ws = _
    rw [mvs_pth ws]
    show (L.map (mv h p)).map (pth h ws) = _
    rw [List.map_map]
    rfl
theorem mv_inR (q : Hb n h) {p s : Int} (hp : InR n p) (hs : InR n s) : InR n (mv h p s) := (q.at hp.1 hp.2 hs.1 hs.2).choose_spec.2.2
theorem pth_inj (hb : Hb n h) : ∀ {ws : List Int} {s t : Int}, (∀ t ∈ ws, InR n t) → InR n s → InR n t → pth h ws s = pth h ws t → s = t
  | [], _, _, _, _, _, e => e
  | _ :: ws, _, _, hw, hs, ht, e => hb.mv_inj (hw _ (List.mem_cons_self ..)) hs ht (pth_inj hb (ws := ws) (fun t ht => hw t (List.mem_cons_of_mem _ ht)) (mv_inR hb (hw _ (List.mem_cons_self ..)) hs) (mv_inR hb (hw _ (List.mem_cons_self ..)) ht) e)
/-- the places where the book may stand after ws -/
structure MayS (h : List (List Int)) (n : Nat) (Ls : List (List Int)) (b : Nat) (ws : List Int) (ns : List Int) : Prop where
  up : ns.Pairwise (· < ·)
  mem : ∀ j, j ∈ ns ↔ ∃ L ∈ Ls, (mvs h L ws).getD b 0 = j
theorem MayS.one {Ls : List (List Int)} {b : Nat} {ws ns ms : List Int} (h1 : MayS h n Ls b ws ns) (h2 : MayS h n Ls b ws ms) : ns = ms := asc_eq h1.up h2.up fun x => (h1.mem x).trans (h2.mem x).symm
theorem getD_pth {L : List Int} {b : Nat} (hL : L.Perm (rg n)) (hbn : b < n) (ws : List Int) : (mvs h L ws).getD b 0 = pth h ws (L.getD b 0) := by
  have e := getD_perm hL (b := (b : Int)) ⟨by omega, by omega⟩
  rw [Int.toNat_natCast] at e
  rw [mvs_pth, List.getD_eq_getElem?_getD, List.getElem?_map, e]
  rfl
theorem MayS.len {Ls : List (List Int)} {b : Nat} {ws ns ms : List Int} (hb : Hb n h) (hL : ∀ L ∈ Ls, L.Perm (rg n)) (hbn : b < n) (hw : ∀ t ∈ ws, InR n t) (h1 : MayS h n Ls b ws ns) (h2 : MayS h n Ls b [] ms) : ns.length = ms.length := by
  have inM : ∀ x ∈ ms, InR n x := fun x hx => by
    obtain ⟨L, hl, rfl⟩ := (h2.mem x).mp hx
    rw [getD_pth (hL L hl) hbn]
    have := getD_inR (hL L hl) (b := (b : Int)) ⟨by omega, by omega⟩
    rw [Int.toNat_natCast] at this
    exact this
  have nd1 : ns.Nodup := h1.up.imp fun z => Int.ne_of_lt z
  have nd2 : (ms.map (pth h ws)).Nodup := by
    have nd : ms.Nodup := h2.up.imp fun z => Int.ne_of_lt z
    rw [List.nodup_iff_pairwise_ne, List.pairwise_map]
    refine (List.pairwise_iff_getElem.mpr fun i j hi hj ij e => ?_)
    have := pth_inj hb hw (inM _ (List.getElem_mem hi)) (inM _ (List.getElem_mem hj)) e
    exact (List.pairwise_iff_getElem.mp nd i j hi hj ij) this
  have pm : ns.Perm (ms.map (pth h ws)) := (List.perm_ext_iff_of_nodup nd1 nd2).mpr fun x => by
    rw [h1.mem, List.mem_map]
    constructor
    · rintro ⟨L, hl, rfl⟩
      exact ⟨L.getD b 0, (h2.mem _).mpr ⟨L, hl, rfl⟩, (getD_pth (hL L hl) hbn ws).symm⟩
    · rintro ⟨y, hy, rfl⟩
      obtain ⟨L, hl, rfl⟩ := (h2.mem y).mp hy
      exact ⟨L, hl, getD_pth (hL L hl) hbn ws⟩
  rw [pm.length_eq, List.length_map]
end
section
variable {P : Program} {w : World} {K : PySem.W.Frag} {mg : Str → Option Value} {base : Heap}
def spCkSought (K : PySem.W.Frag) (Cl Cn : Addr) : Sp := fun vs H Q E => ∃ (v u nv : V) (h : List (List Int)) (n : Nat) (b : Bool), vs = [v, u, nv] ∧ TII K H v h ∧ Hb n h ∧ LyK K H n u b ∧ Sw K H nv ∧
  (b = true → (nv = .non ∨ inV2 0 ((n : Int) - 1) nv = true) → ∀ H', Same H H' → Q .non H') ∧ (b = false → noE Cl H E) ∧ (b = true → nv ≠ .non → inV2 0 ((n : Int) - 1) nv = false → noE Cn H E)
theorem LyK.same {H H' : Hp} (e : Same H H') {n : Nat} {v : V} {b : Bool} (h : LyK K H n v b) : LyK K H' n v b := by
  cases h with
  | row h1 h2 => exact .row (h1.on e) h2
  | odd h1 h2 h3 h4 h5 => exact .odd (onT e h1) (h2.imp fun _ _ z => z.on e) h3 h4 h5
  | some h1 h2 h3 h4 => exact .some (h1.same e) h2 h3 h4
theorem ok_ck_sought {Ch Cl Cn : Addr} (F : Df K mg "check_sought" st_check_sought ["habit", "layouts", "name"]) (B : Bu mg) (CH : CalX P w K mg base 6 "check_habit" (spCheckHabitX K Ch)) (CL : CalX P w K mg base 6 "check_layouts" (spCheckLayouts K Cl)) (CN : CalX P w K mg base 4 "check_name" (spCheckName K Cn)) : CalX P w K mg base 7 "check_sought" (spCkSought K Cl Cn) := by
  refine mkCalX F sc_check_sought (fun vs H Q E h => ?_) (fun f cdv A outer s H vs Q E hr h => ?_)
  · obtain ⟨v, u, nv, h, n, b, rfl, _⟩ := h
    rfl
  · obtain ⟨v, u, nv, h, n, b, rfl, hT, hb, hk, hs, q0, q1, q2⟩ := h
    refine ⟨_, pss_cons (ps_expr (pcX CH passE hr (pa_cons (pv 0) pa_nil)))
      (pss_cons (ps_expr (pcX CL passE hr (pa_cons (pv 1) (pa_cons (pe_callB (cl_len K) (by rfl) B.len PySem.boot_len (pa_cons (pv 0) pa_nil)) pa_nil))))
      (pss_one (ps_if (pt_cmp (pc_notN (pv 2))) (pss_one (ps_expr (pcX CN passE hr (pa_cons (pv 2) (pa_cons (pe_callB (cl_len K) (by rfl) B.len PySem.boot_len (pa_cons (pv 0) pa_nil)) pa_nil))))) pss_nil))), ?_⟩
    obtain ⟨a, xs, rfl, hS, hE⟩ := id hT
    have lx : xs.length = n := hE.len.trans hb.len
    have n5 := hb.hi
    refine ⟨_, rfl, .ref a, _, rfl, hk_of hT hb, fun _ H1 s1 => ?_, fun pl e => ?_⟩
    · refine ⟨_, rfl, _, rfl, a, xs, rfl, .inr (onT s1 hS), u, n, b, by rw [lx]; rfl, hk.same s1, n5, fun e H2 s2 => ?_, fun e => (q1 e).on s1⟩
      have s12 := s1.trans s2
      cases nv with
      | non => exact ⟨_, rfl, _, rfl, ifF rfl (q0 e (.inl rfl) H2 s12)⟩
      | _ =>
        refine ⟨_, rfl, _, rfl, ifT rfl ⟨_, rfl, _, rfl, a, xs, rfl, .inr (onT s12 hS), _, n, by rw [lx]; rfl, hs.on s12, n5, fun e2 => q0 e (.inr e2) H2 s12, fun e2 => (q2 e (by simp) e2).on s12⟩⟩
    · rw [hb_ok hb] at e
      cases e
end
section
variable {P : Program} {w : World} {K : PySem.W.Frag} {mg : Str → Option Value} {base : Heap}
/-- least_looks, or what it refuses -/
def spLeast (K : PySem.W.Frag) (k : Nat) (Cl Cn : Addr) : Sp := fun vs H Q E => ∃ (v u nv : V) (h : List (List Int)) (n : Nat) (b : Bool), vs = [v, u, nv] ∧ TII K H v h ∧ Hb n h ∧ LyK K H n u b ∧ Sw K H nv ∧
  (b = true → (nv = .non ∨ inV2 0 ((n : Int) - 1) nv = true) → ∃ (Ls : List (List Int)) (nm : Option Nat), GK K H v u nv h n Ls nm ∧ Ls.length ≤ k + 1 ∧ k ≤ 23 ∧ ∀ H' y, Same H H' → (∃ t w, y = .ref t ∧ SqT K H' t [.int ((look h n nm k Ls).1 : Int), w] ∧ LkV K H' h n nm k Ls w) → Q y H') ∧
  (b = false → noE Cl H E) ∧ (b = true → nv ≠ .non → inV2 0 ((n : Int) - 1) nv = false → noE Cn H E)
theorem ok_least {Cl Cn : Addr} (F : Df K mg "least_looks" st_least_looks ["habit", "layouts", "name"]) (CSt : CalX P w K mg base 7 "check_sought" (spCkSought K Cl Cn)) (CLk : Cal P w K mg base 8 "least_looks_for" (spLook K 5)) : CalX P w K mg base 10 "least_looks" (spLeast K 5 Cl Cn) := by
  refine mkCalX F sc_least_looks (fun vs H Q E h => ?_) (fun f cdv A outer s H vs Q E hr h => ?_)
  · obtain ⟨v, u, nv, h, n, b, rfl, _⟩ := h
    rfl
  · obtain ⟨v, u, nv, h, n, b, rfl, hT, hb, hk, hs, q0, q1, q2⟩ := h
    refine ⟨_, pss_cons (ps_expr (pcX CSt passE hr (pa_cons (pv 0) (pa_cons (pv 1) (pa_cons (pv 2) pa_nil)))))
      (pss_one (ps_ret (pc CLk hr (pa_cons (pv 0) (pa_cons (pv 1) (pa_cons (pv 2) pa_nil)))))), ?_⟩
    refine ⟨_, rfl, _, rfl, _, rfl, v, u, nv, h, n, b, rfl, hT, hb, hk, hs, fun e1 e2 H1 s1 => ?_, q1, q2⟩
    obtain ⟨Ls, nm, g, l5, k23, q⟩ := q0 e1 e2
    exact ⟨_, rfl, _, rfl, _, rfl, v, u, nv, h, n, Ls, nm, rfl, g.same s1, l5, k23, fun H2 y s2 z => q H2 y (s1.trans s2) z⟩
/-- tells, whatever the value -/
def spTells (K : PySem.W.Frag) (k : Nat) : Sp := fun vs H Q _ => ∃ (v u nv tv : V) (h : List (List Int)) (n : Nat) (Ls : List (List Int)) (nm : Option Nat) (d : PyData), vs = [v, u, nv, tv] ∧ GK K H v u nv h n Ls nm ∧ Ls.length ≤ 24 ∧ rises Ls = true ∧ RK k d ∧ Dp K H tv d ∧ ∀ H', Same H H' → Q (.bl (tlD h n nm k Ls d)) H'
theorem nmv_sw {H : Hp} {nv : V} {n : Nat} {nm : Option Nat} (h : NmV nv n nm) : Sw K H nv ∧ (nv = .non ∨ inV2 0 ((n : Int) - 1) nv = true) := by
  rcases h with ⟨rfl, _⟩ | ⟨k, rfl, _, hk⟩
  · exact ⟨.non, .inl rfl⟩
  · exact ⟨.int _, .inr (inV2_yes0 (by omega) (by omega))⟩
theorem ok_tells {Cl Cn : Addr} (F : Df K mg "tells" st_tells ["habit", "layouts", "name", "value"]) (c20 : ∃ t, mg "MOST_LOOKS" = some (.int 20 t)) (CSt : CalX P w K mg base 7 "check_sought" (spCkSought K Cl Cn)) (CTl : Cal P w K mg base 12 "is_telling" (spTell K 5)) : CalX P w K mg base 14 "tells" (spTells K 5) := by
  refine mkCalX F sc_tells (fun vs H Q E h => ?_) (fun f cdv A outer s H vs Q E hr h => ?_)
  · obtain ⟨v, u, nv, tv, h, n, Ls, nm, d, rfl, _⟩ := h
    rfl
  · obtain ⟨v, u, nv, tv, h, n, Ls, nm, d, rfl, g, l24, hri, rk, hd, q⟩ := h
    refine ⟨_, pss_cons (ps_expr (pcX CSt passE hr (pa_cons (pv 0) (pa_cons (pv 1) (pa_cons (pv 2) pa_nil)))))
      (pss_one (ps_ret (pc CTl hr (pa_cons (pv 0) (pa_cons (pv 1) (pa_cons (pv 2) (pa_cons (pv 3) (pa_cons (pk c20) pa_nil)))))))), ?_⟩
    obtain ⟨hs, hi⟩ := nmv_sw (K := K) (H := H) g.hn
    refine ⟨_, rfl, _, rfl, _, rfl, v, u, nv, h, n, _, rfl, g.hT, g.hb, .some g.hLs g.hL g.l1 l24, hs, fun _ _ H1 s1 => ?_, fun e => (by rw [hri] at e; cases e), fun _ e1 e2 => ?_⟩
    · exact ⟨_, rfl, _, rfl, _, rfl, _, rfl, v, u, nv, tv, 20, h, n, Ls, nm, d, rfl, g.same s1, l24, by decide, by decide, rk, Dp.on s1 _ _ hd, fun H2 s2 => q H2 (s1.trans s2)⟩
    · rcases hi with hi | hi
      · exact absurd hi e1
      · rw [hi] at e2
        cases e2
/-- over a tuple -/
theorem tupScI {w : World} {K : PySem.W.Frag} {a : Addr} {xs : List V} {g : TG} {tt : TT} {te : TE} {vs : List Nat} {σ : L2.St} {H1 : Hp} {D : Addr} {Qd : Hp → Prop} (at_ : Nat → Hp → Prop) (start : at_ 0 (upd H1 D (SetO w D (fun _ => false) 0))) (stay : ∀ i H, i ≤ xs.length → at_ i H → SqT K H a xs)
    (turn : ∀ i x H, xs[i]? = some x → at_ i H → g x (wipe σ vs) H fun σ2 H2 => wipe σ2 vs = wipe σ vs ∧ tt σ2 H2 fun b H3 => if b = true then te σ2 H3 (addTurn w D (at_ (i + 1))) else at_ (i + 1) H3) (last : ∀ H, at_ xs.length H → Qd H) :
    ∃ W : Nat → Nat → Hp → Prop, (∃ m, W 0 m (upd H1 D (SetO w D (fun _ => false) 0))) ∧ ∀ i m H, W i m H → ((Itt K a).stop i H ∧ Qd H) ∨ ((Itt K a).go i H ∧ ∃ Nx : Hp → Prop, (∀ H', Nx H' → ∃ m', m' < m ∧ W (i + 1) m' H') ∧
      ∀ x H', (Itt K a).yld i H x H' → g x (wipe σ vs) H' fun σ2 H2 => wipe σ2 vs = wipe σ vs ∧ tt σ2 H2 fun b H3 => if b = true then te σ2 H3 (addTurn w D Nx) else Nx H3) := by
  refine ⟨fun i left H => left = xs.length - i ∧ i ≤ xs.length ∧ at_ i H, ⟨_, rfl, Nat.zero_le _, start⟩, fun i left H ⟨el, hi, p⟩ => ?_⟩
  have known := stay i H hi p
  by_cases here : i < xs.length
  · refine .inr ⟨⟨xs, _, known, List.getElem?_eq_getElem here⟩, at_ (i + 1), fun H' p' => ⟨xs.length - (i + 1), by omega, rfl, here, p'⟩, ?_⟩
    rintro x H' ⟨rfl, told⟩
    exact turn i x _ (told xs known) p
  · have : i = xs.length := Nat.le_antisymm hi (Nat.le_of_not_lt here)
    subst this
    exact .inl ⟨⟨xs, known, Nat.le_refl _⟩, last H p⟩
def spMay (K : PySem.W.Frag) : Sp := fun vs H Q _ => ∃ (v u wv : V) (h : List (List Int)) (n : Nat) (Ls : List (List Int)) (b : Nat) (ws : List Int), vs = [v, u, .int (b : Int), wv] ∧ TII K H v h ∧ Hb n h ∧ LsT K H u Ls ∧ (∀ L ∈ Ls, L.Perm (rg n)) ∧ 1 ≤ Ls.length ∧ Ls.length ≤ 24 ∧ rises Ls = true ∧ b < n ∧
  TI K H wv ws ∧ (∀ t ∈ ws, InR n t) ∧ ws.length < 64 ∧ ∀ H' t ns, Same H H' → MayS h n Ls b ws ns → SqT K H' t (ns.map V.int) → Q (.ref t) H'
theorem ok_may {Ch Cl Cn Cw : Addr} (F : Df K mg "may_stand" st_may_stand ["habit", "layouts", "name", "word"]) (B : Bu mg) (CH : CalX P w K mg base 6 "check_habit" (spCheckHabitX K Ch)) (CL : CalX P w K mg base 6 "check_layouts" (spCheckLayouts K Cl)) (CN : CalX P w K mg base 4 "check_name" (spCheckName K Cn)) (CW : CalX P w K mg base 6 "check_word" (spCheckWordX K Cw)) (CM : Cal P w K mg base 2 "move_along" (spMoveAlong K)) : CalX P w K mg base 7 "may_stand" (spMay K) := by
  refine mkCalX F sc_may_stand (fun vs H Q E h => ?_) (fun f cdv A outer s H vs Q E hr h => ?_)
  · obtain ⟨v, u, wv, h, n, Ls, b, ws, rfl, _⟩ := h
    rfl
  · obtain ⟨v, u, wv, h, n, Ls, b, ws, rfl, hT, hb, hLs, hL, l1, l24, hri, hbn, hW, hw, lw, q⟩ := h
    refine ⟨_, pss_cons (ps_expr (pcX CH passE hr (pa_cons (pv 0) pa_nil)))
      (pss_cons (ps_expr (pcX CL passE hr (pa_cons (pv 1) (pa_cons (pe_callB (cl_len K) (by rfl) B.len PySem.boot_len (pa_cons (pv 0) pa_nil)) pa_nil))))
      (pss_cons (ps_expr (pcX CN passE hr (pa_cons (pv 2) (pa_cons (pe_callB (cl_len K) (by rfl) B.len PySem.boot_len (pa_cons (pv 0) pa_nil)) pa_nil))))
      (pss_cons (ps_expr (pcX CW passE hr (pa_cons (pv 3) (pa_cons (pe_callB (cl_len K) (by rfl) B.len PySem.boot_len (pa_cons (pv 0) pa_nil)) pa_nil))))
      (pss_one (ps_ret (pe_tupleOf (by rfl) B.tuple (pe_callB (cr_sortedSet rfl) (by rfl) B.sorted (by decide +kernel) (pa_cons (pe_scI (own := [("layout", 4)]) (g := (gName 4)) (tt := tYes)  rfl sc_may_stand.nd (pi_tup (pv 1)) (blkOk_by (N := ["habit", "layouts", "name", "word", "layout"]) (sc := (defScope st_may_stand)) (by decide +kernel)) (fun _ _ _ _ _ => (pg_name (i := 4) sc_may_stand.nd rfl (Or.inl rfl))) (fun _ _ _ _ _ => pts_nil) (fun _ _ _ _ _ => (pe_ix (ixT K) (pc CM hr (pa_cons (pv 0) (pa_cons (pv 4) (pa_cons (pv 3) pa_nil)))) (pv 2) (fun _ _ => rfl)))) pa_nil)))))))), ?_⟩
    obtain ⟨a, xs, rfl, hS, hE⟩ := id hT
    have lx : xs.length = n := hE.len.trans hb.len
    have n5 := hb.hi
    refine ⟨_, rfl, .ref a, _, rfl, hk_of hT hb, fun _ H1 s1 => ?_, fun pl e => by rw [hb_ok hb] at e; cases e⟩
    refine ⟨_, rfl, _, rfl, a, xs, rfl, .inr (onT s1 hS), u, n, _, by rw [lx]; rfl, .some (hLs.same s1) hL l1 l24, n5, fun _ H2 s2' => ?_, fun e => by rw [hri] at e; cases e⟩
    have s2 := s1.trans s2'
    refine ⟨_, rfl, _, rfl, a, xs, rfl, .inr (onT s2 hS), .int (b : Int), n, by rw [lx]; rfl, .int _, n5, fun _ => ?_, fun e => by rw [inV2_yes0 (by omega) (by omega)] at e; cases e⟩
    obtain ⟨aw, rfl, hWs⟩ := id hW
    have wok : wrdW n (some (ws.map V.int)) = true := by
      show ((decide ((0 : Int) ≤ ((ws.map V.int).length : Int)) && decide (((ws.map V.int).length : Int) ≤ 400)) && (ws.map V.int).all _) = true
      rw [List.length_map, decide_eq_true (by omega), decide_eq_true (by omega), Bool.true_and, Bool.true_and, List.all_eq_true]
      intro z hz
      obtain ⟨i, hi, rfl⟩ := List.mem_map.mp hz
      exact inV2_yes0 (hw i hi).1 (hw i hi).2
    refine ⟨_, rfl, _, rfl, a, xs, rfl, .inr (onT s2 hS), .ref aw, some (ws.map V.int), n, by rw [lx]; rfl, ⟨.tup (onT s2 hWs), fun _ => wd_ints (onT s2 hWs) lw⟩, n5, fun _ H3 s3' => ?_, fun e => by rw [wok] at e; cases e⟩
    have s3 := s2.trans s3'
    obtain ⟨al, ls, rfl, hSl, hEl⟩ := (hLs.same s3)
    have ll := hEl.len
    refine ⟨_, rfl, al, rfl, ⟨_, hSl⟩, fun D hD => ?_⟩
    refine tupScI (xs := ls) (fun i H4 => Same H3 H4 ∧ ∃ m, m ≤ i ∧ H4 D = some (SetO w D (fun j => decide (j ∈ (Ls.take i).map fun L => (mvs h L ws).getD b 0)) m)) ⟨same_new hD, 0, Nat.le_refl _, upd_same⟩ (fun i H4 _ h4 => onT h4.1 hSl) (fun i x H4 hx h4 => ?_) (fun H4 h4 => ?_)
    · obtain ⟨sm, m, hm, e4⟩ := h4
      have ilt := (List.getElem?_eq_some_iff.mp hx).1
      obtain ⟨L, hl, bL, rfl, fL⟩ := hEl.at hx
      have s4 := s3.trans sm
      refine ⟨rfl, _, rfl, _, rfl, _, rfl, .ref a, h, n, bL, L, .ref aw, ws, rfl, ⟨hT.on (Same.tups s4), hb, fL.same sm, hL L (List.mem_of_getElem? hl), hW.on (Same.tups s4), hw, by omega⟩, fun H5 r s5 fr => ?_⟩
      have hp := hb.mvs_perm hw (hL L (List.mem_of_getElem? hl))
      have e := getD_perm hp (b := (b : Int)) ⟨by omega, by omega⟩
      rw [Int.toNat_natCast] at e
      refine ⟨_, rfl, r, _, (b : Int), .int ((mvs h L ws).getD b 0), rfl, rfl, fr.sqT, atI_nat (at_map e), _, _, m, rfl, s5 _ _ e4, Nat.lt_of_le_of_lt (show m + 1 ≤ 40 by omega) (by decide), ?_⟩
      refine ⟨sameU (sm.trans s5) hD, if decide ((mvs h L ws).getD b 0 ∈ (Ls.take i).map fun L => (mvs h L ws).getD b 0) = true then m else m + 1, ?_, ?_⟩
      rotate_right
      · rw [upd_same]
        congr 2
        funext j
        rw [List.take_add_one, hl, List.map_append, Bool.eq_iff_iff]
        simp only [Bool.or_eq_true, decide_eq_true_iff, List.mem_append]
        show _ ∨ _ ↔ _ ∨ j ∈ [(mvs h L ws).getD b 0]
        rw [List.mem_singleton]
      · split <;> omega
    · obtain ⟨sm, m, hm, e4⟩ := h4
      rw [ll, List.take_length] at e4
      refine ⟨D, _, m, rfl, e4, by omega, fun ns l up mem len hl => .inl ⟨l, _, rfl, lstAt upd_same, fun t2 ht2 => ?_⟩⟩
      refine q _ t2 ns (s3.trans (sm.trans ((same_new hl).trans (same_new ht2)))) ⟨up, fun j => ?_⟩ (tupAt upd_same)
      rw [mem, decide_eq_true_iff, List.mem_map]
end
end RH
set_option Elab.async false
set_option linter.all false
set_option maxRecDepth 100000
set_option maxHeartbeats 2000000
namespace RH
open PySem PySem.Spec PyProof.Rows L2
/-! ### layouts that the law draws -/
section
variable {P : Program} {w : World} {K : PySem.W.Frag} {mg : Str → Option Value} {base : Heap}
/-- some layouts, rising -/
structure Ly (K : PySem.W.Frag) (H : Hp) (u : V) (n : Nat) (Ls : List (List Int)) : Prop where
  t : LsT K H u Ls
  hL : ∀ L ∈ Ls, L.Perm (rg n)
  l1 : 1 ≤ Ls.length
  l6 : Ls.length ≤ 6
  ri : rises Ls = true
theorem each_of {H : Hp} : ∀ {L : List (Addr × List Int)}, (∀ r ∈ L, FT H r.1 r.2) → Each (TIF H) (L.map fun q => V.ref q.1) (L.map Prod.snd)
  | [], _ => .nil
  | r :: _, h => .cons ⟨r.1, rfl, h r (List.mem_cons_self ..)⟩ (each_of fun z hz => h z (List.mem_cons_of_mem _ hz))
theorem nodup_le {α : Type} : ∀ {a b : List α}, a.Nodup → (∀ x ∈ a, x ∈ b) → a.length ≤ b.length
  | [], _, _, _ => Nat.zero_le _
  | x :: a, b, nd, h => by
    obtain ⟨l, r, rfl⟩ := List.append_of_mem (h x (List.mem_cons_self ..))
    have := nodup_le (a := a) (b := l ++ r) (List.nodup_cons.mp nd).2 fun y hy => by
      have := h y (List.mem_cons_of_mem _ hy)
      rw [List.mem_append, List.mem_cons] at this
      rw [List.mem_append]
      rcases this with z | z | z
      · exact .inl z
      · subst z
        exact absurd hy (List.nodup_cons.mp nd).1
      · exact .inr z
    rw [List.length_cons, List.length_append, List.length_cons]
    rw [List.length_append] at this
    omega
theorem Ly.fix {H H' : Hp} (f : Fix H H') {u : V} {n : Nat} {Ls : List (List Int)} (h : Ly K H u n Ls) : Ly K H' u n Ls := by
  obtain ⟨⟨a, xs, e, hS, hE⟩, h2, h3, h4, h5⟩ := h
  exact ⟨⟨a, xs, e, f.tups _ _ hS, hE.imp fun _ _ z => z.fix f⟩, h2, h3, h4, h5⟩
def spSome (K : PySem.W.Frag) : Sp := fun vs H Q _ => ∃ (p : Addr) (n : Nat), vs = [.ref p, .int (n : Int)] ∧ Row K H p ∧ 2 ≤ n ∧ n ≤ 5 ∧ ∀ (H' : Hp) (u : V) (Ls : List (List Int)), But p H H' → Row K H' p → Ly K H' u n Ls → Q u H'
theorem ok_lsome (F : Df K mg "_law_some" st__law_some ["row", "many"]) (B : Bu mg) (n_set : mg "set" = none) (CT : Cal P w K mg base 1 "_law_taken" (spTaken K)) (CP : Cal P w K mg base 2 "_law_permutation" (spPermL K)) : Cal P w K mg base 3 "_law_some" (spSome K) := by
  refine mkCal F sc__law_some (fun vs H Q E h => ?_) (fun f cdv A outer s H vs Q E hr h => ?_)
  · obtain ⟨p, n, rfl, _⟩ := h
    rfl
  · obtain ⟨p, n, rfl, hR, h2, h5, q⟩ := h
    refine ⟨_, pss_cons (ps_setLc (i := 2) (own := [("turn", 3)]) (g := (gName 3)) (tt := tYes)  rfl sc__law_some.nd rfl rfl (sw_true rfl rfl rfl (by decide +kernel)) (pi_range1 (by rfl) B.range (pa_cons (pe_op op_add pe_int (pc CT hr (pa_cons (pv 0) (pa_cons pe_int pa_nil)))) pa_nil)) (blkOk_by (N := ["row", "many", "found", "turn"]) (sc := (defScope st__law_some)) (by decide +kernel)) (fun _ _ _ _ _ => (pg_name (i := 3) sc__law_some.nd rfl (Or.inl rfl))) (fun _ _ _ _ _ => pts_nil) (fun _ _ _ _ _ => (pc CP hr (pa_cons (pv 0) (pa_cons (pv 1) pa_nil)))))
      (pss_one (ps_ret (pe_tupleOf (by rfl) B.tuple (pe_callB (cr_sortedT rfl) (by rfl) B.sorted (by decide +kernel) (pa_cons (pe_callTy (cr_setOfT rfl hr.units) (by rfl) n_set (by decide +kernel) (pa_cons (pv 2) pa_nil)) pa_nil))))), ?_⟩
    refine ⟨_, rfl, p, 6, rfl, hR, by decide, by decide, fun k H1 k0 k6 hB1 hR1 => ⟨_, _, rfl, rfl, (1 + k : Int), rfl, by omega, by omega, fun D hD => ?_⟩⟩
    have hpD : p ≠ D := hR1.ne hD
    have f0 : HF K p D H1 n 0 (upd H1 D (.lst [])) := ⟨[], [], But.same (same_new hD), hR1.new hD, upd_same, .nil, rfl, fun _ z => nomatch z⟩
    refine lc_range (lo := 0) (n := (1 + k : Int).toNat) (fun i H' => HF K p D H1 n i H') f0 (fun i H' hi h' => ?_) (fun H' h' => ?_)
    · obtain ⟨xs, hs, hB, hR', _⟩ := id h'
      refine ⟨rfl, _, rfl, _, rfl, p, n, rfl, hR', by omega, fun H2 v ns hp hB2 hR2 hv => ?_⟩
      obtain ⟨xs2, e2, lx, more⟩ := h'.step hD hpD hB2 hR2
      exact ⟨xs2, e2, small1000 (by omega), more v ns H2 (Same.refl _) hv hp⟩
    · obtain ⟨xs, hs, hB, hR', e, hE, hl, hp⟩ := h'
      refine ⟨_, rfl, ?_⟩
      obtain ⟨ks, e1, e2, hks⟩ := each_ks hE
      have lk : ks.length = hs.length := by rw [e2, List.length_map]
      refine ⟨D, ks, rfl, lstAt (by rw [e, e1]), fun p hp => (hks p hp).sqT, by omega, fun a2 L0 ha2 sub all => ?_⟩
      have s2 := same_new (o := SetTO P w a2 L0) ha2
      refine ⟨a2, L0, n, 64, rfl, upd_same, fun p hp => onT s2 (hks p (sub p hp)).sqT, by omega, fun r hr => bd_perm (hp _ (by rw [e2]; exact List.mem_map.mpr ⟨r, sub r hr, rfl⟩)) h5, fun L' q1 pm nd few srt hq1 => ?_⟩
      have s3 := same_new (o := .lst (L'.map fun q => V.ref q.1)) hq1
      have inL : ∀ p ∈ L', p ∈ ks := fun p hp => sub p (pm.mem_iff.mp hp)
      refine .inl ⟨q1, _, rfl, lstAt upd_same, fun t ht => ?_⟩
      have s4 := same_new (o := .tup (L'.map fun q => V.ref q.1)) ht
      have s34 := s2.trans (s3.trans s4)
      have hpL : ∀ L ∈ L'.map Prod.snd, L.Perm (rg n) := fun L hL => by
        obtain ⟨r, hr, rfl⟩ := List.mem_map.mp hL
        exact hp _ (by rw [e2]; exact List.mem_map.mpr ⟨r, inL r hr, rfl⟩)
      have le : L'.length ≤ ks.length := by
        have sb : ∀ x ∈ L'.map Prod.snd, x ∈ ks.map Prod.snd := fun x hx => by
          obtain ⟨r, hr, rfl⟩ := List.mem_map.mp hx
          exact List.mem_map.mpr ⟨r, inL r hr, rfl⟩
        have := nodup_le nd sb
        rwa [List.length_map, List.length_map] at this
      have pos : 1 ≤ L'.length := by
        have k1 : 1 ≤ ks.length := by omega
        obtain ⟨r, hr⟩ := List.exists_mem_of_length_pos k1
        obtain ⟨z, hz, _⟩ := List.mem_map.mp (all r hr)
        exact List.length_pos_of_mem (pm.mem_iff.mpr hz)
      refine q _ (.ref t) (L'.map Prod.snd) (hB1.trans (hB.trans (But.same s34))) (hR'.same s34) ⟨⟨t, _, rfl, tupAt upd_same, ?_⟩, hpL, by rw [List.length_map]; exact pos, by rw [List.length_map]; omega, rises_of h5 hpL nd (List.pairwise_map.mpr srt)⟩
      exact each_of fun r hr => (hks r (inL r hr)).same s34
end
end RH
set_option Elab.async false
set_option linter.all false
set_option maxRecDepth 100000
set_option maxHeartbeats 2000000
namespace RH
open PySem PySem.Spec PyProof.Rows L2
/-! ### the tree tells; what may be asked of tells -/
section
variable {h : List (List Int)} {n : Nat} {nm : Option Nat}
theorem all_plD {L : List Int} (hL : ∀ i ∈ L, InR n i) : (L.map PyData.int).all (plD n) = true := by
  rw [List.all_eq_true]
  intro d hd
  obtain ⟨i, hi, rfl⟩ := List.mem_map.mp hd
  have := hL i hi
  show (decide (0 ≤ i) && decide (i ≤ (n : Int) - 1)) = true
  rw [decide_eq_true this.1, decide_eq_true (by have := this.2; omega)]
  rfl
theorem ans_sg {L : List Int} (hL : L.Perm (rg n)) (hk : ∀ k, nm = some k → k < n) : ansD n nm (sgD nm L) = true := by
  cases nm with
  | none =>
    show ((L.map PyData.int).all (plD n) && isLay n ((L.map PyData.int).map intD)) = true
    rw [all_plD fun i hi => rg_mem.mp (hL.mem_iff.mp hi), Bool.true_and]
    have : (L.map PyData.int).map intD = L := by
      rw [List.map_map]
      exact List.map_id' L
    rw [this]
    exact lay_yes hL
  | some k =>
    have hk := hk k rfl
    have := getD_inR hL (b := (k : Int)) ⟨by omega, by omega⟩
    rw [Int.toNat_natCast] at this
    show (decide (0 ≤ L.getD k 0) && decide (L.getD k 0 ≤ (n : Int) - 1)) = true
    rw [decide_eq_true this.1, decide_eq_true (by have := this.2; omega)]
    rfl
theorem ans_node (p : Int) (tr : List (Int × PyData)) : ansD n nm (nodeD p tr) = false := by
  cases nm with
  | none =>
    show ([PyData.int p, PyData.tuple _].all (plD n) && _) = false
    rw [List.all_cons, List.all_cons]
    show ((_ && (false && _)) && _) = false
    rw [Bool.false_and, Bool.and_false, Bool.false_and]
  | some k => rfl
theorem sg_refl (L : List Int) : PyData.eqv (sgD nm L) (sgD nm L) = true := by
  rw [sgD_eq, decide_eq_true rfl]
theorem zip_look {f : List (List Int) → PyData → Bool} {g : List (List Int) → PyData} : ∀ {l : List (Int × List (List Int))}, (∀ x ∈ l, f x.2 (g x.2) = true) → zipA f ((l.map fun x => (x.1, g x.2)).map fun x => PyData.tuple [.int x.1, x.2]) l = true
  | [], _ => rfl
  | x :: l, hx => by
    show ((decide (x.1 = x.1) && f x.2 (g x.2)) && zipA f _ l) = true
    rw [decide_eq_true rfl, hx x (List.mem_cons_self ..), zip_look fun y hy => hx y (List.mem_cons_of_mem _ hy)]
    rfl
theorem tl_look (hb : Hb n h) (hk : ∀ k, nm = some k → k < n) : ∀ (k : Nat) {Ls : List (List Int)}, (∀ L ∈ Ls, L.Perm (rg n)) → 1 ≤ Ls.length → Ls.length ≤ k + 1 → tlD h n nm k Ls (look h n nm k Ls).2 = true
  | 0, Ls, hL, l1, l2 => by
    have e := known_one (nm := nm) l2
    have a := ans_sg (nm := nm) (hL _ (head_mem (List.length_pos_iff.mp l1))) hk
    show (ansD n nm _ && (knownB nm Ls && PyData.eqv _ _)) = true
    rw [look_known e, a, e, sg_refl]
    rfl
  | k + 1, Ls, hL, l1, l2 => by
    cases e : knownB nm Ls with
    | true =>
      have a := ans_sg (nm := nm) (hL _ (head_mem (List.length_pos_iff.mp l1))) hk
      rw [look_known e, tl_ans a, e, sg_refl]
      rfl
    | false =>
      obtain ⟨p, rp, two, _, el⟩ := look_node (h := h) (k := k) hL e
      rw [el]
      show tlD h n nm (k + 1) Ls (.tuple [.int p, .tuple _]) = true
      rw [tl_node (ans_node p _) rp, List.length_map, List.length_map, decide_eq_true rfl, Bool.true_and]
      refine zip_look (g := fun l => (look h n nm k l).2) fun x hx => ?_
      obtain ⟨_, ex, ne⟩ := prts_mem.mp hx
      exact tl_look hb hk k (by rw [ex]; exact partL_perm hb rp hL) (List.length_pos_iff.mpr ne) (by have := prts_less hL two hx; omega)
theorem nd_sg (nm : Option Nat) (L : List Int) : ndD (sgD nm L) = none := by
  cases nm with
  | some k => rfl
  | none =>
    match L with
    | [] => rfl
    | [_] => rfl
    | [_, _] => rfl
    | _ :: _ :: _ :: _ => rfl
theorem lo_sg {L : List Int} (hl : L.length < 64) (nm : Option Nat) : LO (sgD nm L) := ⟨(SHp.sg nm L).mono (by decide), fun ds e => ⟨by
  cases nm with
  | some k => cases e
  | none =>
    cases e
    rw [List.length_map]
    exact hl, NL.sg nm L⟩⟩
theorem rk_sg {L : List Int} (hl : L.length < 64) (nm : Option Nat) : ∀ k : Nat, RK k (sgD nm L)
  | 0 => ⟨lo_sg hl nm, fun p ts e => by rw [nd_sg] at e; cases e⟩
  | k + 1 => ⟨lo_sg hl nm, fun p ts e => by rw [nd_sg] at e; cases e⟩
theorem rk_flat {d : PyData} (h : LO d) (hn : ndD d = none) : ∀ k : Nat, RK k d
  | 0 => ⟨h, fun p ts e => by rw [hn] at e; cases e⟩
  | k + 1 => ⟨h, fun p ts e => by rw [hn] at e; cases e⟩
theorem prts_few (h : List (List Int)) (n : Nat) (Ls : List (List Int)) (p : Int) : (prts h n Ls p).length ≤ n := by
  unfold prts
  refine Nat.le_trans (List.length_filterMap_le ..) ?_
  rw [rg_len]
  exact Nat.le_refl _
theorem rk_look (hb : Hb n h) : ∀ (k : Nat), k ≤ 9 → ∀ {Ls : List (List Int)}, (∀ L ∈ Ls, L.Perm (rg n)) → 1 ≤ Ls.length → RK k (look h n nm k Ls).2
  | 0, _, Ls, hL, l1 => by
    have n5 := hb.hi
    refine rk_sg ?_ nm 0
    rw [perm_len (hL _ (head_mem (List.length_pos_iff.mp l1)))]
    omega
  | k + 1, hk, Ls, hL, l1 => by
    have n5 := hb.hi
    cases e : knownB nm Ls with
    | true =>
      rw [look_known e]
      refine rk_sg ?_ nm (k + 1)
      rw [perm_len (hL _ (head_mem (List.length_pos_iff.mp l1)))]
      omega
    | false =>
      obtain ⟨p, rp, two, _, el⟩ := look_node (h := h) (k := k) hL e
      have hs := shp_look h n nm (k + 1) Ls
      have hn := nl_look h n nm (k + 1) Ls
      rw [el] at hs hn ⊢
      refine ⟨⟨hs.mono (by omega), fun ds e => ⟨?_, hn⟩⟩, fun p' ts e => ?_⟩
      · cases e
        show 2 < 64
        decide
      · have e : some (p, _) = some (p', ts) := e
        cases e
        rw [List.length_map, List.length_map]
        refine ⟨by have := prts_few h n Ls p; omega, fun t ht x y e => ?_⟩
        obtain ⟨z, hz, rfl⟩ := List.mem_map.mp ht
        obtain ⟨u, hu, rfl⟩ := List.mem_map.mp hz
        cases e
        refine ⟨⟨_, rfl⟩, ?_⟩
        obtain ⟨_, ex, ne⟩ := prts_mem.mp hu
        exact rk_look hb k (by omega) (by rw [ex]; exact partL_perm hb rp hL) (List.length_pos_iff.mpr ne)
/-! ### odd values -/
theorem lo_atom {d : PyData} (h : SHp 0 d) (hd : ∀ ds, d ≠ .tuple ds) : LO d := ⟨h.mono (by decide), fun ds e => absurd e (hd ds)⟩
theorem lo_tup {m : Nat} {ds : List PyData} (h : ∀ d ∈ ds, SHp m d) (hm : m < 30) (hl : ds.length < 64) (hn : ∀ d ∈ ds, NL d) : LO (.tuple ds) := ⟨(SHp.tup h).mono hm, fun ds' e => by cases e; exact ⟨hl, .tup hn⟩⟩
end
end RH
set_option Elab.async false
set_option linter.all false
set_option maxRecDepth 100000
set_option maxHeartbeats 2000000
namespace RH
open PySem PySem.Spec PyProof.Rows L2
/-! ### the law -/
abbrev NL86 : List Str := ["script", "row", "many", "habit", "layouts", "name", "told", "word", "book", "places", "layout", "place", "odd", "ends", "value", "e", "turn"]
def spLaw (K : PySem.W.Frag) : Sp := fun vs H Q _ => ∃ (a : Addr) (ns : List Int), vs = [.ref a] ∧ Fz K H a (ns.map V.int) ∧ ∀ H', Q (.bl true) H'
section
variable {P : Program} {w : World} {K : PySem.W.Frag} {mg : Str → Option Value} {base : Heap} {Cl Cn : Addr}
theorem op_catL {X : Cx} (K : PySem.W.Frag) (h : X.K = K := by rfl) : OpR X (binaryOp .Add) (rCatA K) := by
  subst h
  exact op_catA
theorem pcS {X : Cx} {k j : Nat} {x : Str} {sp : Sp} {W : WX} {p pos : Pos} {e : Expr} {es : List Expr} {t : TA} (c : CalX X.prog X.w X.K X.mg X.base k x sp) (tk : Takes X W) (hr : Room j X.A) (ha : PA X (e :: es) t) (hk : k ≤ j := by decide) (hg : Gl X x := by rfl)
    (hdb : (x == ("__debug__" : Str)) = false := by decide) (he : starEach (e :: es) X.env = (false, eval e X.env) :: starEach es X.env := by rfl) (hpl : (backTo pos (starEach es X.env)).any (·.1) = false := by rfl) :
    PE X (.Call (.Name x p) (e :: es) [] pos) (tCallS sp (WE W) t) := by
  obtain ⟨f, fd, ps, F, hm, kp, b⟩ := c.ex
  exact pe_callS F (hr.mono hk) hg hm kp b (fun σ => passAt tk σ) ha hdb he hpl
def spIs (K : PySem.W.Frag) : Sp := fun vs H Q _ => ∃ (a b : Bool), vs = [.bl a, .bl b] ∧ Q (.bl (decide (a = b))) H
theorem ok_lis (F : Df K mg "_law_is" st__law_is ["found", "due"]) (B : Bu mg) : Cal P w K mg base 1 "_law_is" (spIs K) := by
  refine mkCal F sc__law_is (fun vs H Q E h => ?_) (fun f cdv A outer s H vs Q E hr h => ?_)
  · obtain ⟨a, b, rfl, _⟩ := h
    rfl
  · obtain ⟨a, b, rfl, q⟩ := h
    refine ⟨_, pss_one (ps_ret (pe_and (pe_callB call_isi (by rfl) B.isi (by decide +kernel) (pa_cons (pv 0) (pa_cons (pe_bltn (v := .ty "bool") (by rfl) B.bool (by decide +kernel) rfl) pa_nil)))
      (pe_one (pe_cmpR (op_eqD hr.units) (pv 0) (pv 1) (nomark _))))), ?_⟩
    refine ⟨_, rfl, .bl a, .ty "bool", _, _, true, rfl, .ty "bool", .base (.bl a), kit_ty (by decide +kernel), true, rfl, _, rfl, _, rfl, .bool a, .bool b, .bl a, .bl b, rfl, rfl, ?_⟩
    have e : PyData.eqv (.bool a) (.bool b) = decide (a = b) := by cases a <;> cases b <;> rfl
    rw [e]
    exact q
/-- what the law has drawn -/
structure A86 (K : PySem.W.Frag) (H : Hp) (p : Addr) (n : Nat) (vH u : V) (h Ls : List (List Int)) : Prop where
  row : Row K H p
  hT : TII K H vH h
  hb : Hb n h
  ly : Ly K H u n Ls
theorem A86.but {H H' : Hp} {p : Addr} {n : Nat} {vH u : V} {h Ls : List (List Int)} (g : A86 K H p n vH u h Ls) (b : But p H H') (r : Row K H' p) : A86 K H' p n vH u h Ls := ⟨r, g.hT.on (g.row.fix b).tups, g.hb, g.ly.fix (g.row.fix b)⟩
theorem A86.same {H H' : Hp} {p : Addr} {n : Nat} {vH u : V} {h Ls : List (List Int)} (g : A86 K H p n vH u h Ls) (s : Same H H') : A86 K H' p n vH u h Ls := g.but (But.same s) (g.row.same s)
theorem A86.gk {H : Hp} {p : Addr} {n : Nat} {vH u nv : V} {h Ls : List (List Int)} {nm : Option Nat} (g : A86 K H p n vH u h Ls) (hn : NmV nv n nm) : GK K H vH u nv h n Ls nm := ⟨g.hT, g.hb, g.ly.t, g.ly.hL, g.ly.l1, hn⟩
/-- and what least_looks has told -/
structure B86 (K : PySem.W.Frag) (H : Hp) (p : Addr) (n : Nat) (vH u nv : V) (nm : Option Nat) (h Ls : List (List Int)) (t : Addr) (tw : V) : Prop extends A86 K H p n vH u h Ls where
  hn : NmV nv n nm
  tt : SqT K H t [.int ((look h n nm 5 Ls).1 : Int), tw]
  lk : LkV K H h n nm 5 Ls tw
theorem B86.but {H H' : Hp} {p : Addr} {n : Nat} {vH u nv : V} {nm : Option Nat} {h Ls : List (List Int)} {t : Addr} {tw : V} (g : B86 K H p n vH u nv nm h Ls t tw) (b : But p H H') (r : Row K H' p) : B86 K H' p n vH u nv nm h Ls t tw :=
  ⟨g.toA86.but b r, g.hn, (g.row.fix b).tups _ _ g.tt, LkV.fix (g.row.fix b) _ _ _ g.lk⟩
theorem B86.same {H H' : Hp} {p : Addr} {n : Nat} {vH u nv : V} {nm : Option Nat} {h Ls : List (List Int)} {t : Addr} {tw : V} (g : B86 K H p n vH u nv nm h Ls t tw) (s : Same H H') : B86 K H' p n vH u nv nm h Ls t tw := g.but (But.same s) (g.row.same s)
/-- a list is put anew -/
theorem B86.put {H : Hp} {p : Addr} {n : Nat} {vH u nv : V} {nm : Option Nat} {h Ls : List (List Int)} {t : Addr} {tw : V} (g : B86 K H p n vH u nv nm h Ls t tw) {D : Addr} {xs ys : List V} (e : H D = some (.lst xs)) (ne : p ≠ D) : B86 K (upd H D (.lst ys)) p n vH u nv nm h Ls t tw :=
  ⟨⟨g.row.lst_upd e ne, g.hT.on (Fix.lst e).tups, g.hb, g.ly.fix (Fix.lst e)⟩, g.hn, (Fix.lst e).tups _ _ g.tt, LkV.fix (Fix.lst e) _ _ _ g.lk⟩
theorem B86.gk {H : Hp} {p : Addr} {n : Nat} {vH u nv : V} {nm : Option Nat} {h Ls : List (List Int)} {t : Addr} {tw : V} (g : B86 K H p n vH u nv nm h Ls t tw) : GK K H vH u nv h n Ls nm := g.toA86.gk g.hn
/-- and a word -/
structure C86 (K : PySem.W.Frag) (H : Hp) (p : Addr) (n : Nat) (vH u nv : V) (nm : Option Nat) (h Ls : List (List Int)) (t : Addr) (tw : V) (aw : Addr) (ws : List Int) (b : Nat) : Prop extends B86 K H p n vH u nv nm h Ls t tw where
  hW : TI K H (.ref aw) ws
  hw : ∀ t ∈ ws, InR n t
  lw : ws.length ≤ 5
  bn : b < n
theorem C86.but {H H' : Hp} {p : Addr} {n : Nat} {vH u nv : V} {nm : Option Nat} {h Ls : List (List Int)} {t : Addr} {tw : V} {aw : Addr} {ws : List Int} {b : Nat} (g : C86 K H p n vH u nv nm h Ls t tw aw ws b) (bt : But p H H') (r : Row K H' p) : C86 K H' p n vH u nv nm h Ls t tw aw ws b :=
  ⟨g.toB86.but bt r, g.hW.on (g.row.fix bt).tups, g.hw, g.lw, g.bn⟩
theorem C86.same {H H' : Hp} {p : Addr} {n : Nat} {vH u nv : V} {nm : Option Nat} {h Ls : List (List Int)} {t : Addr} {tw : V} {aw : Addr} {ws : List Int} {b : Nat} (g : C86 K H p n vH u nv nm h Ls t tw aw ws b) (s : Same H H') : C86 K H' p n vH u nv nm h Ls t tw aw ws b := g.but (But.same s) (g.row.same s)
theorem C86.put {H : Hp} {p : Addr} {n : Nat} {vH u nv : V} {nm : Option Nat} {h Ls : List (List Int)} {t : Addr} {tw : V} {aw : Addr} {ws : List Int} {b : Nat} (g : C86 K H p n vH u nv nm h Ls t tw aw ws b) {D : Addr} {xs ys : List V} (e : H D = some (.lst xs)) (ne : p ≠ D) : C86 K (upd H D (.lst ys)) p n vH u nv nm h Ls t tw aw ws b :=
  ⟨g.toB86.put e ne, g.hW.on (Fix.lst e).tups, g.hw, g.lw, g.bn⟩
theorem NmV.lt {nv : V} {n : Nat} {nm : Option Nat} (h : NmV nv n nm) : ∀ k, nm = some k → k < n := fun k e => by
  rcases h with ⟨_, rfl⟩ | ⟨j, _, rfl, hj⟩
  · cases e
  · cases e
    exact hj
theorem okD_up (k : Nat) (L : List Int) (hl : L.length ≤ 1000) : okD (k + 1) (.tuple (L.map PyData.int)) := by
  refine ⟨by rw [List.length_map]; exact hl, fun d hd => ?_⟩
  obtain ⟨i, _, rfl⟩ := List.mem_map.mp hd
  cases k <;> exact True.intro
/-! odd values -/
def OdV (K : PySem.W.Frag) (p : Addr) (H : Hp) (v : V) (d : PyData) : Prop := RK 5 d ∧ ((NL d ∧ Dp K H v d) ∨ (d = .list [.int 0] ∧ ∃ a, v = .ref a ∧ a ≠ p ∧ H a = some (.lst [.int 0])))
theorem OdV.dp {p : Addr} {H : Hp} {v : V} {d : PyData} (q : OdV K p H v d) : Dp K H v d := by
  rcases q.2 with ⟨_, h⟩ | ⟨rfl, a, rfl, _, e⟩
  · exact h
  · exact dp_lst (ns := [0]) (lstAt e)
theorem OdV.but {p : Addr} {H H' : Hp} {v : V} {d : PyData} (q : OdV K p H v d) (r : Row K H p) (b : But p H H') : OdV K p H' v d := by
  refine ⟨q.1, ?_⟩
  rcases q.2 with ⟨n, h⟩ | ⟨e, a, ev, na, ea⟩
  · exact .inl ⟨n, Dp.fixN (r.fix b) h n⟩
  · exact .inr ⟨e, a, ev, na, b _ _ ea na⟩
theorem OdV.put {p D : Addr} {H : Hp} {v : V} {d : PyData} {xs ys : List V} (q : OdV K p H v d) (e : H D = some (.lst xs)) (l : 1 < xs.length) : OdV K p (upd H D (.lst ys)) v d := by
  refine ⟨q.1, ?_⟩
  rcases q.2 with ⟨n, h⟩ | ⟨ed, a, ev, na, ea⟩
  · exact .inl ⟨n, Dp.fixN (Fix.lst e) h n⟩
  · refine .inr ⟨ed, a, ev, na, ?_⟩
    rw [upd_ne]
    · exact ea
    · rintro rfl
      rw [e] at ea
      cases ea
      exact absurd l (by decide)
/-- pairs of a book and what is told of it -/
def PEd (e : PyData) : Prop := ∃ (i : Int) (y : PyData), e = .tuple [.int i, y] ∧ ((∃ c : Int, y = .int c) ∨ ∃ L : List Int, y = .tuple (L.map PyData.int) ∧ L.length ≤ 5)
theorem PEd.shp {e : PyData} (h : PEd e) : SHp 2 e := by
  obtain ⟨i, y, rfl, ⟨c, rfl⟩ | ⟨L, rfl, _⟩⟩ := h
  · exact .pair (.int c 1)
  · exact .pair (.tup (m := 0) fun d hd => by obtain ⟨z, _, rfl⟩ := List.mem_map.mp hd; exact .int z 0)
theorem PEd.nl {e : PyData} (h : PEd e) : NL e := by
  obtain ⟨i, y, rfl, ⟨c, rfl⟩ | ⟨L, rfl, _⟩⟩ := h
  · exact .pair (.int c)
  · exact .pair (.ints L)
theorem rk_pairs {c : Int} {es : List PyData} (h : ∀ e ∈ es, PEd e) (hl : es.length < 64) : RK 5 (.tuple [.int c, .tuple es]) := by
  refine ⟨⟨(SHp.pair (m := 3) (.tup fun e he => (h e he).shp)).mono (by decide), fun ds e => ?_⟩, fun p ts e => ?_⟩
  · cases e
    exact ⟨by show 2 < 64; decide, .pair (.tup fun e he => (h e he).nl)⟩
  · have e : some (c, es) = some (p, ts) := e
    cases e
    refine ⟨hl, fun t ht x y e => ?_⟩
    obtain ⟨i, y', e', hy⟩ := h t ht
    rw [e] at e'
    cases e'
    refine ⟨⟨i, rfl⟩, ?_⟩
    rcases hy with ⟨c, rfl⟩ | ⟨L, rfl, l5⟩
    · exact rk_flat (lo_atom (.int c 0) fun _ z => nomatch z) rfl 4
    · exact rk_sg (L := L) (by omega) none 4
theorem last_any {xs : List V} (h : 1 ≤ xs.length) : ∃ (z : V) (i : Nat), atI xs (-1) = some z ∧ xs[i]? = some z := by
  obtain ⟨l, z, rfl⟩ : ∃ l z, xs = l ++ [z] := ⟨xs.dropLast, xs.getLast (List.length_pos_iff.mp h), (List.dropLast_concat_getLast _).symm⟩
  exact ⟨z, l.length, atI_last _ _, by rw [List.getElem?_append_right (Nat.le_refl _), Nat.sub_self]; rfl⟩
theorem OdV.butAll {p : Addr} {H H' : Hp} {vs : List V} {ds : List PyData} (q : Each (OdV K p H) vs ds) (r : Row K H p) (b : But p H H') : Each (OdV K p H') vs ds := q.imp fun _ _ z => z.but r b
theorem each_app {α : Type} {R : V → α → Prop} : ∀ {xs ys : List V} {ds es : List α}, Each R xs ds → Each R ys es → Each R (xs ++ ys) (ds ++ es)
  | _, _, _, _, .nil, h => h
  | _, _, _, _, .cons h t, g => .cons h (each_app t g)
theorem each_rev {α : Type} {R : V → α → Prop} : ∀ {xs : List V} {ds : List α}, Each R xs ds → Each R xs.reverse ds.reverse
  | _, _, .nil => .nil
  | _, _, .cons h t => by
    rw [List.reverse_cons, List.reverse_cons]
    exact Each.snoc h (each_rev t)
theorem rises_twice {Ls : List (List Int)} (l1 : 1 ≤ Ls.length) : rises (Ls.reverse ++ Ls) = false := by
  rw [Bool.eq_false_iff]
  intro z
  match Ls, l1 with
  | L :: r, _ =>
    have h := rises_asc.mp z r.reverse.length L L
    rw [List.reverse_cons, List.append_assoc] at h
    have := h (by rw [List.getElem?_append_right (Nat.le_refl _), Nat.sub_self]; rfl) (by rw [List.getElem?_append_right (Nat.le_succ _), show r.reverse.length.succ - r.reverse.length = 1 by omega]; rfl)
    rw [lex_irr] at this
    cases this
theorem ok_law {f : Addr} {fd : FuncData} (F : Fun K "law" "law" st_law f fd) (B : Bu mg) (n_set : mg "set" = none) (gl : mg "BadLayouts" = some (.ref Cl)) (gn : mg "BadNames" = some (.ref Cn)) (en : PySem.W.exmOne K (.ref Cn) (.ref Cn) = some true) (el : PySem.W.exmOne K (.ref Cl) (.ref Cl) = some true)
    (CT : Cal P w K mg base 1 "_law_taken" (spTaken K)) (CPk : Cal P w K mg base 2 "_law_pick" (spPick K)) (CH : Cal P w K mg base 3 "_law_habit" (spHabF K)) (CSm : Cal P w K mg base 3 "_law_some" (spSome K)) (CA : Cal P w K mg base 18 "_law_alike" (spAlike K 17)) (CTr : Cal P w K mg base 8 "_law_tree" (spLTree K 5))
    (CF : Cal P w K mg base 2 "_law_follow" (spFollow K)) (CTc : Cal P w K mg base 1 "_law_touch" (spMove K)) (CIs : Cal P w K mg base 1 "_law_is" (spIs K)) (CTd : Cal P w K mg base 8 "_law_told" (spLTold K 5)) (XL : CalX P w K mg base 10 "least_looks" (spLeast K 5 Cl Cn)) (XT : CalX P w K mg base 14 "tells" (spTells K 5)) (XM : CalX P w K mg base 7 "may_stand" (spMay K)) :
    FnOk P w K mg base CX0 19 f fd ["script"] (spLaw K) := by
  refine F.ok sc_law (fun vs H Q E h => ?_) (fun cdv A outer s H vs Q E hr h => ?_)
  · obtain ⟨a, ns, rfl, _⟩ := h
    rfl
  · obtain ⟨a, scr, rfl, hZ, q⟩ := h
    refine ⟨_, PSs.nox (pss_cons (ps_set (i := 1) sc_law.nd rfl (.inr rfl) (pe_lst (pa_cons (pv 0) (pa_cons pe_int (pa_cons pe_int (pa_cons pe_int pa_nil))))))
      (pss_cons (ps_cutM (ps_set (i := 2) sc_law.nd rfl (.inr rfl) (pe_op op_add pe_int (pc CT hr (pa_cons (pv 1) (pa_cons pe_int pa_nil))))))
      (pss_cons (ps_cutM (ps_asg (pe_tup (pa_cons (pc CH hr (pa_cons (pv 1) (pa_cons (pv 2) pa_nil))) (pa_cons (pc CSm hr (pa_cons (pv 1) (pa_cons (pv 2) pa_nil))) pa_nil))) (pg_tup rfl (pgs_cons (pg_name (i := 3) sc_law.nd rfl (Or.inr rfl)) (pgs_cons (pg_name (i := 4) sc_law.nd rfl (Or.inr rfl)) pgs_nil)))))
      (pss_cons (ps_cutM (ps_set (i := 5) sc_law.nd rfl (.inr rfl) (pc CPk hr (pa_cons (pv 1) (pa_cons (pe_op op_cat (pe_listRg rfl (by rfl) B.list (prg_1 (by rfl) B.range (pv 2))) (pe_lst (pa_cons pe_non (pa_cons pe_non pa_nil)))) pa_nil)))))
      (pss_cons (ps_cutM (ps_set (i := 6) sc_law.nd rfl (.inr rfl) (pcX XL passL hr (pa_cons (pv 3) (pa_cons (pv 4) (pa_cons (pv 5) pa_nil))))))
      (pss_cons (ps_cutM (ps_if (pt_not (pt_val (pc CA hr (pa_cons (pv 6) (pa_cons (pc CTr hr (pa_cons (pv 3) (pa_cons (pe_callTy (cl_listOf K) (by rfl) B.list (by decide +kernel) (pa_cons (pv 4) pa_nil)) (pa_cons (pv 5) pa_nil)))) pa_nil))))) (pss_one (ps_ret pe_bl)) pss_nil))
      (pss_cons (ps_cutM (ps_if (pt_cmpR op_notBl (pcX XT passL hr (pa_cons (pv 3) (pa_cons (pv 4) (pa_cons (pv 5) (pa_cons (pe_ix (ixT K) (pv 6) pe_int (fun _ _ => rfl)) pa_nil))))) pe_bl (nomark _)) (pss_one (ps_ret pe_bl)) pss_nil))
      (pss_cons (ps_cutM (ps_if (pt_cmpR (op_neD hr.units) (pe_lc (own := [("layout", 10)]) (g := (gName 10))   rfl sc_law.nd (pi_tup (pv 4)) (blkOk_by (N := NL86) (sc := (defScope st_law)) (by decide +kernel)) (fun _ _ _ _ _ => (pg_name (i := 10) sc_law.nd rfl (Or.inl rfl))) (fun _ _ _ _ _ => (pts_one (pt_not (pt_val (pc CF hr (pa_cons (pv 3) (pa_cons (pv 10) (pa_cons (pe_ix (ixT K) (pv 6) pe_int (fun _ _ => rfl)) (pa_cons (pv 5) (pa_cons (pe_ix (ixT K) (pv 6) pe_int (fun _ _ => rfl)) pa_nil)))))))))) (fun _ _ _ _ _ => (pv 10))) (pe_lst pa_nil) (nomark _)) (pss_one (ps_ret pe_bl)) pss_nil))
      (pss_cons (ps_cutM (ps_if (pt_cmpR op_ge (pe_ix (ixT K) (pv 6) pe_int (fun _ _ => rfl)) (pv 2) (nomark _)) (pss_one (ps_ret pe_bl)) pss_nil))
      (pss_cons (ps_cutM (ps_par (i := 7) (j := 8) rfl sc_law.nd rfl rfl (by decide) rfl rfl (pa_cons (pe_tupleOf (by rfl) B.tuple (pe_lc (own := [("turn", 16)]) (g := (gName 16)) (tt := tYes)  rfl sc_law.nd (pi_range1 (by rfl) B.range (pa_cons (pc CT hr (pa_cons (pv 1) (pa_cons pe_int pa_nil))) pa_nil)) (blkOk_by (N := NL86) (sc := (defScope st_law)) (by decide +kernel)) (fun _ _ _ _ _ => (pg_name (i := 16) sc_law.nd rfl (Or.inl rfl))) (fun _ _ _ _ _ => pts_nil) (fun _ _ _ _ _ => (pc CT hr (pa_cons (pv 1) (pa_cons (pv 2) pa_nil)))))) (pa_cons (pc CT hr (pa_cons (pv 1) (pa_cons (pv 2) pa_nil))) pa_nil)) rfl))
      (pss_cons (ps_cutM (ps_set (i := 9) sc_law.nd rfl (.inl rfl) (pe_lst pa_nil)))
      (pss_cons (ps_cutM (ps_for PassesOwn.never rfl (pi_tup (pv 4)) (pg_name (i := 10) sc_law.nd rfl (Or.inl rfl)) (pss_cons (ps_for PassesOwn.never rfl (pi_tup (pv 7)) (pg_name (i := 11) sc_law.nd rfl (Or.inl rfl)) (pss_one (ps_set (i := 10) sc_law.nd rfl (.inl rfl) (pc CTc hr (pa_cons (pv 3) (pa_cons (pv 10) (pa_cons (pv 11) pa_nil)))))))
      (pss_one (ps_expr (pe_bm PySem.F.plainAttrs_list PySem.F.slot_list_append PySem.F.type_list_append mt_append (pv 9) (pa_cons (pe_ix (ixT K) (pv 10) (pv 8) (fun _ _ => rfl)) pa_nil)))))))
      (pss_cons (ps_cutM (ps_if (pt_not (pt_val (pc CA hr (pa_cons (pcX XM passL hr (pa_cons (pv 3) (pa_cons (pv 4) (pa_cons (pv 8) (pa_cons (pv 7) pa_nil))))) (pa_cons (pe_tupleOf (by rfl) B.tuple (pe_callB (cr_sortedSet rfl) (by rfl) B.sorted (by decide +kernel) (pa_cons (pe_callTy (call_setL rfl) (by rfl) n_set (by decide +kernel) (pa_cons (pv 9) pa_nil)) pa_nil))) pa_nil))))) (pss_one (ps_ret pe_bl)) pss_nil))
      (pss_cons (ps_cutM (ps_if (pt_cmpR op_ne (pe_callB (cl_len K) (by rfl) B.len PySem.boot_len (pa_cons (pcX XM passL hr (pa_cons (pv 3) (pa_cons (pv 4) (pa_cons (pv 8) (pa_cons (pv 7) pa_nil))))) pa_nil)) (pe_callB (cl_len K) (by rfl) B.len PySem.boot_len (pa_cons (pcX XM passL hr (pa_cons (pv 3) (pa_cons (pv 4) (pa_cons (pv 8) (pa_cons (pe_tup pa_nil) pa_nil))))) pa_nil)) (nomark _)) (pss_one (ps_ret pe_bl)) pss_nil))
      (pss_cons (ps_cutM (ps_set (i := 12) sc_law.nd rfl (.inl rfl) (pe_lst (pa_cons pe_non (pa_cons (pe_tup pa_nil) (pa_cons (pe_tup (pa_cons pe_int pa_nil)) (pa_cons (pe_tup (pa_cons (pv 2) (pa_cons (pe_tup pa_nil) pa_nil))) (pa_cons (pe_tup (pa_cons pe_int (pa_cons (pe_tup pa_nil) pa_nil))) (pa_cons (pe_tup (pa_cons pe_int (pa_cons (pe_tup (pa_cons (pe_tup (pa_cons pe_int (pa_cons pe_int pa_nil))) pa_nil)) pa_nil))) (pa_cons (pe_lst (pa_cons pe_int pa_nil)) (pa_cons pe_bl (pa_cons (pe_ix (ixT K) (pv 4) pe_int (fun _ _ => rfl)) (pa_cons (pe_ix (ixT K) (pe_ix (ixT K) (pv 4) pe_int (fun _ _ => rfl)) pe_int (fun _ _ => rfl)) (pa_cons (pe_tup (pa_cons (pe_ix (ixT K) (pv 6) pe_int (fun _ _ => rfl)) pa_nil)) pa_nil))))))))))))))
      (pss_cons (ps_cutM (ps_setLc (i := 13) (own := [("book", 8)]) (g := (gName 8)) (tt := tYes)  rfl sc_law.nd rfl rfl (sw_true rfl rfl rfl (by decide +kernel)) (pi_range1 (by rfl) B.range (pa_cons (pv 2) pa_nil)) (blkOk_by (N := NL86) (sc := (defScope st_law)) (by decide +kernel)) (fun _ _ _ _ _ => (pg_name (i := 8) sc_law.nd rfl (Or.inl rfl))) (fun _ _ _ _ _ => pts_nil) (fun _ _ _ _ _ => (pe_tup (pa_cons (pv 8) (pa_cons (pc CPk hr (pa_cons (pv 1) (pa_cons (pe_lst (pa_cons (pe_ix (ixT K) (pe_ix (ixT K) (pv 4) pe_int (fun _ _ => rfl)) pe_int (fun _ _ => rfl)) (pa_cons (pe_ix (ixT K) (pv 4) (pe_un un_neg pe_int) (fun _ _ => rfl)) pa_nil))) pa_nil))) pa_nil))))))
      (pss_cons (ps_cutM (ps_expr (pe_bm PySem.F.plainAttrs_list PySem.F.slot_list_append PySem.F.type_list_append mt_append (pv 12) (pa_cons (pe_tup (pa_cons (pc CT hr (pa_cons (pv 1) (pa_cons (pv 2) pa_nil))) (pa_cons (pe_tupleOf (by rfl) B.tuple (pv 13)) pa_nil))) pa_nil))))
      (pss_cons (ps_cutM (ps_set (i := 14) sc_law.nd rfl (.inl rfl) (pc CPk hr (pa_cons (pv 1) (pa_cons (pv 12) pa_nil)))))
      (pss_cons (ps_cutM (ps_if (pt_not (pt_val (pc CIs hr (pa_cons (pcX XT passL hr (pa_cons (pv 3) (pa_cons (pv 4) (pa_cons (pv 5) (pa_cons (pv 14) pa_nil))))) (pa_cons (pc CTd hr (pa_cons (pv 3) (pa_cons (pe_callTy (cl_listOf K) (by rfl) B.list (by decide +kernel) (pa_cons (pv 4) pa_nil)) (pa_cons (pv 5) (pa_cons (pv 14) pa_nil))))) pa_nil))))) (pss_one (ps_ret pe_bl)) pss_nil))
      (pss_cons (ps_cutM (ps_try_as (i := 15) (c := .ref Cl) (ts := fun a cls d => fun D σ H => 0 ≤ sizeLine ∧ ∀ x, H x = none → D.nx (σ.set 12 (some (.ref x))) (upd H x (.lst []))) (Wout := fun _ _ _ _ => False) rfl rfl sc_law.nd rfl rfl ⟨rfl, by decide, .inl gl⟩ takes0
        (fun W pn xe tk _ => pss_cons (ps_expr (pcS XL tk hr (pa_cons (pv 3) (pa_cons (pc CPk hr (pa_cons (pv 1) (pa_cons (pe_lst (pa_cons pe_non (pa_cons (pe_tup pa_nil) (pa_cons (pe_op (op_catL K) (pe_back K (pv 4)) (pv 4)) (pa_cons (pe_lst (pa_cons (pe_ix (ixT K) (pv 4) pe_int (fun _ _ => rfl)) pa_nil)) (pa_cons (pe_tup (pa_cons pe_int pa_nil)) pa_nil)))))) pa_nil))) (pa_cons (pv 5) pa_nil))))) (pss_one (ps_ret pe_bl)))
        (fun a oe cls d pn hz hf => pss_one (ps_set (i := 12) sc_law.nd rfl (.inl rfl) (pe_lst pa_nil)))))
      (pss_cons (ps_try_as (i := 15) (c := .ref Cn) (ts := fun a cls d => fun D σ H => D.rt (.bl true) H) (Wout := fun _ _ _ _ => False) rfl rfl sc_law.nd rfl rfl ⟨rfl, by decide, .inl gn⟩ takes0
        (fun W pn xe tk _ => pss_one (ps_expr (pcS XL tk hr (pa_cons (pv 3) (pa_cons (pv 4) (pa_cons (pc CPk hr (pa_cons (pv 1) (pa_cons (pe_lst (pa_cons (pv 2) (pa_cons (pe_op op_sub pe_int pe_int) (pa_cons pe_bl (pa_cons pe_str pa_nil))))) pa_nil))) pa_nil)))))) 
        (fun a oe cls d pn hz hf => pss_one (ps_ret pe_bl)))
      (pss_one (ps_ret pe_bl))))))))))))))))))))))), ?_⟩
    have bd : ∀ {H' : Hp} {p : Addr} {n : Nat} {vH u nv : V} {nm : Option Nat} {h Ls : List (List Int)} {t : Addr} {tw : V}, B86 K H' p n vH u nv nm h Ls t tw → Dp K H' (.ref t) (lkD (look h n nm 5 Ls)) ∧ okD 17 (lkD (look h n nm 5 Ls)) := fun {H' p n vH u nv nm h Ls t tw} g => by
      have n5 := g.hb.hi
      have n2 := g.hb.lo
      have l6 := g.ly.l6
      have hd := LkV.dp 5 Ls tw g.lk
      refine ⟨.tup g.tt (.cons (.int _) (.cons hd .nil)), ?_⟩
      refine ⟨by show 2 ≤ 1000; decide, fun d hd => ?_⟩
      rcases List.mem_cons.mp hd with rfl | hd
      · exact True.intro
      · rw [List.mem_singleton.mp hd]
        exact okD_look h n nm n5 5 Ls g.ly.hL g.ly.l1 g.hb
    -- row
    refine ⟨_, rfl, by show 4 ≤ sizeLine; decide, fun p hp => ?_⟩
    have sp := same_new (o := .lst [.ref a, .int 0, .int 7486, .int 0]) hp
    have hR1 : Row K (upd H p (.lst [.ref a, .int 0, .int 7486, .int 0])) p := ⟨a, scr, 0, 7486, 0, upd_same, hZ.on (Fix.same sp), Int.le_refl _⟩
    generalize (upd H p (.lst [.ref a, .int 0, .int 7486, .int 0])) = H1 at hR1 ⊢
    -- many
    refine ⟨fun σ' H' => ∃ n : Nat, σ' = [some (.ref a), some (.ref p), some (.int (n : Int)), none, none, none, none, none, none, none, none, none, none, none, none, none, none] ∧ Row K H' p ∧ 2 ≤ n ∧ n ≤ 5, fun σ2 H2 g2 => ?_, ?_⟩
    case refine_2 =>
      refine ⟨_, rfl, p, 3, rfl, hR1, by decide, by decide, fun k H2 k0 k1 hB hR => ⟨2, k, rfl, rfl, ?_⟩⟩
      obtain ⟨n, hn⟩ : ∃ n : Nat, 2 + k = (n : Int) := ⟨(2 + k).toNat, by omega⟩
      exact ⟨n, by rw [← hn]; rfl, hR, by omega, by omega⟩
    obtain ⟨n, rfl, hR2, n2, n5⟩ := g2
    -- habit, layouts
    refine ⟨fun σ' H' => ∃ (vH u : V) (h Ls : List (List Int)), σ' = [some (.ref a), some (.ref p), some (.int (n : Int)), some vH, some u, none, none, none, none, none, none, none, none, none, none, none, none] ∧ A86 K H' p n vH u h Ls, fun σ3 H3 g3 => ?_, ?_⟩
    case refine_2 =>
      refine ⟨_, rfl, _, rfl, p, n, rfl, hR2, n2, n5, fun H3 vH h hb hB3 hR3 tH => ?_⟩
      refine ⟨_, rfl, _, rfl, p, n, rfl, hR3, n2, n5, fun H4 u Ls hB4 hR4 ly => ⟨by show 2 ≤ sizeLine; decide, fun t ht => ?_⟩⟩
      have s5 := same_new (o := .tup [vH, u]) ht
      have c4 : A86 K H4 p n vH u h Ls := ⟨hR4, tH.ti.on (hR3.fix hB4).tups, hb, ly⟩
      exact ⟨t, _, rfl, tupAt upd_same, rfl, _, _, rfl, _, _, rfl, rfl, vH, u, h, Ls, rfl, c4.same s5⟩
    obtain ⟨vH, u, h, Ls, rfl, c3⟩ := g3
    -- name
    refine ⟨fun σ' H' => ∃ (nv : V) (nm : Option Nat), σ' = [some (.ref a), some (.ref p), some (.int (n : Int)), some vH, some u, some nv, none, none, none, none, none, none, none, none, none, none, none] ∧ A86 K H' p n vH u h Ls ∧ NmV nv n nm, fun σ4 H4 g4 => ?_, ?_⟩
    case refine_2 =>
      refine ⟨_, rfl, _, rfl, (n : Int), rfl, ⟨by omega, by omega, by omega, by omega, by omega⟩, fun l1 hl1 => ⟨by show 2 ≤ sizeLine; decide, fun l2 hl2 => ?_⟩⟩
      have e1 : (upd (upd H3 l1 (.lst (rgV 0 (n : Int)))) l2 (.lst [.non, .non])) l1 = some (.lst (rgV 0 (n : Int))) := by
        rw [upd_ne (ne_of_none upd_same hl2)]
        exact upd_same
      refine ⟨l1, l2, _, _, rfl, rfl, e1, upd_same, by rw [rgV_length, sizeLine_eq]; show _ + 2 ≤ _; omega, fun l3 hl3 => ?_⟩
      have sA := (same_new (o := .lst (rgV 0 (n : Int))) hl1).trans ((same_new (o := .lst [.non, .non]) hl2).trans (same_new (o := .lst (rgV 0 (n : Int) ++ [.non, .non])) hl3))
      have c4 := c3.same sA
      refine ⟨p, l3, _, rfl, c4.row, upd_same, fun e => ?_, ?_, ?_, fun i x H5 hi hB hR => ?_⟩
      · have := (c3.same ((same_new (o := .lst (rgV 0 (n : Int))) hl1).trans (same_new (o := .lst [.non, .non]) hl2))).row.ne hl3
        exact this e.symm
      · rw [List.length_append]
        show 0 < _ + 2
        omega
      · rw [List.length_append, rgV_length]
        show _ + 2 ≤ 1000
        omega
      · have hx := List.mem_of_getElem? hi
        rcases List.mem_append.mp hx with hx | hx
        · rw [rgV_rg] at hx
          obtain ⟨z, hz, rfl⟩ := List.mem_map.mp hx
          have hz := rg_mem.mp hz
          refine ⟨_, some z.toNat, rfl, c4.but hB hR, .inr ⟨z.toNat, ?_, rfl, by have := hz.1; have := hz.2; omega⟩⟩
          rw [show ((z.toNat : Nat) : Int) = z by have := hz.1; omega]
        · have : x = .non := by
            rcases List.mem_cons.mp hx with h | h
            · exact h
            · exact List.mem_singleton.mp h
          subst this
          exact ⟨_, none, rfl, c4.but hB hR, .inl ⟨rfl, rfl⟩⟩
    obtain ⟨nv, nm, rfl, c4, hn⟩ := g4
    -- told
    refine ⟨fun σ' H' => ∃ (t : Addr) (tw : V), σ' = [some (.ref a), some (.ref p), some (.int (n : Int)), some vH, some u, some nv, some (.ref t), none, none, none, none, none, none, none, none, none, none] ∧ B86 K H' p n vH u nv nm h Ls t tw, fun σ5 H5 g5 => ?_, ?_⟩
    case refine_2 =>
      obtain ⟨hs, hi⟩ := nmv_sw (K := K) (H := H4) hn
      refine ⟨_, rfl, _, rfl, _, rfl, vH, u, nv, h, n, _, rfl, c4.hT, c4.hb, .some c4.ly.t c4.ly.hL c4.ly.l1 (Nat.le_trans c4.ly.l6 (by decide)), hs, fun _ _ => ⟨Ls, nm, c4.gk hn, c4.ly.l6, by decide, fun H' y s ⟨t, tw, e, h1, h2⟩ => ?_⟩, fun e => (by rw [c4.ly.ri] at e; cases e), fun _ e1 e2 => ?_⟩
      · subst e
        exact ⟨t, tw, rfl, c4.same s, hn, h1, h2⟩
      · rcases hi with hi | hi
        · exact absurd hi e1
        · rw [hi] at e2
          cases e2
    obtain ⟨t, tw, rfl, c5⟩ := g5
    -- the tree
    refine ⟨fun σ' H' => σ' = [some (.ref a), some (.ref p), some (.int (n : Int)), some vH, some u, some nv, some (.ref t), none, none, none, none, none, none, none, none, none, none] ∧ B86 K H' p n vH u nv nm h Ls t tw, fun σ6 H6 g6 => ?_, ?_⟩
    case refine_2 =>
      obtain ⟨al, ls, rfl, hSl, hEl⟩ := id c5.ly.t
      refine ⟨_, rfl, _, rfl, _, rfl, al, ls, rfl, .inr hSl, fun l hl => ⟨_, rfl, ?_⟩⟩
      have s1 := same_new (o := .lst ls) hl
      have c6 := c5.same s1
      refine ⟨vH, .ref l, nv, h, n, Ls, nm, rfl, ⟨c6.hT, c6.hb, ⟨l, ls, rfl, upd_same, hEl.imp fun _ _ z => z.same s1⟩, c6.ly.hL, c6.ly.l1, c6.hn⟩, c6.ly.l6, by decide, fun H7 y s2 hy => ?_⟩
      have c7 := c6.same s2
      obtain ⟨b1, b2⟩ := bd c7
      exact ⟨_, _, _, rfl, b1, hy, b2, fun H8 s3 => ⟨_, rfl, ifF rfl ⟨rfl, c7.same s3⟩⟩⟩
    obtain ⟨rfl, c6⟩ := g6
    -- it tells
    have rk := rk_look (nm := nm) c6.hb 5 (by decide) c6.ly.hL c6.ly.l1
    refine ⟨fun σ' H' => σ' = [some (.ref a), some (.ref p), some (.int (n : Int)), some vH, some u, some nv, some (.ref t), none, none, none, none, none, none, none, none, none, none] ∧ B86 K H' p n vH u nv nm h Ls t tw, fun σ7 H7 g7 => ?_, ?_⟩
    case refine_2 =>
      refine ⟨_, rfl, _, rfl, _, rfl, _, rfl, t, _, (1 : Int), tw, rfl, rfl, c6.tt, rfl, vH, u, nv, tw, h, n, Ls, nm, _, rfl, c6.gk, Nat.le_trans c6.ly.l6 (by decide), c6.ly.ri, rk, LkV.dp 5 Ls tw c6.lk, fun H7 s => ?_⟩
      rw [tl_look c6.hb hn.lt 5 c6.ly.hL c6.ly.l1 c6.ly.l6]
      exact ⟨true, true, rfl, rfl, _, rfl, ifF rfl ⟨rfl, c6.same s⟩⟩
    obtain ⟨rfl, c7⟩ := g7
    -- each follows
    refine ⟨fun σ' H' => σ' = [some (.ref a), some (.ref p), some (.int (n : Int)), some vH, some u, some nv, some (.ref t), none, none, none, none, none, none, none, none, none, none] ∧ B86 K H' p n vH u nv nm h Ls t tw, fun σ8 H8 g8 => ?_, ?_⟩
    case refine_2 =>
      obtain ⟨al, ls, rfl, hSl, hEl⟩ := id c7.ly.t
      refine ⟨_, rfl, al, rfl, ⟨_, hSl⟩, fun D hD => ?_⟩
      refine lc_tup (xs := ls) (fun i H' => Same H7 H' ∧ H' D = some (.lst [])) ⟨same_new hD, upd_same⟩ (fun i H' _ h' => onT h'.1 hSl) (fun i x H' hx h' => ?_) (fun H' h' => ?_)
      · obtain ⟨sm, eD⟩ := h'
        obtain ⟨L, hl, b, rfl, fL⟩ := hEl.at hx
        have c8 := c7.same sm
        refine ⟨rfl, _, rfl, _, rfl, _, rfl, t, _, (1 : Int), tw, rfl, rfl, c8.tt, rfl, _, rfl, _, rfl, t, _, (0 : Int), .int ((look h n nm 5 Ls).1 : Int), rfl, rfl, c8.tt, rfl, ?_⟩
        have lf := look_few (nm := nm) c8.hb c8.ly.hL c8.ly.l6
        exact ⟨vH, nv, h, n, nm, _, b, L, tw, 5, Ls, rfl, by omega, ⟨c8.hT, c8.hb, c8.hn, c8.ly.hL, c8.ly.l6, by decide, List.mem_of_getElem? hl, fL.same sm, c8.lk, Nat.le_refl _⟩, fun H9 s9 => ⟨_, rfl, ifF rfl ⟨sm.trans s9, s9 _ _ eD⟩⟩⟩
      · obtain ⟨sm, eD⟩ := h'
        refine ⟨Nat.zero_le _, fun z hz => ?_⟩
        have sz := same_new (o := .lst []) hz
        refine ⟨_, _, Dp.on sz _ _ (dp_lst (ns := []) (lstAt eD)), dp_lst (ns := []) (lstAt upd_same), PySem.W.ke_shaped_ints [], PySem.W.ke_shaped_ints [], _, rfl, ifF rfl ⟨rfl, c7.same (sm.trans sz)⟩⟩
    obtain ⟨rfl, c8⟩ := g8
    -- fewer than places
    refine ⟨fun σ' H' => σ' = [some (.ref a), some (.ref p), some (.int (n : Int)), some vH, some u, some nv, some (.ref t), none, none, none, none, none, none, none, none, none, none] ∧ B86 K H' p n vH u nv nm h Ls t tw, fun σ9 H9 g9 => ?_, ?_⟩
    case refine_2 =>
      have lf := look_few (nm := nm) c8.hb c8.ly.hL c8.ly.l6
      exact ⟨_, rfl, t, _, (0 : Int), .int ((look h n nm 5 Ls).1 : Int), rfl, rfl, c8.tt, rfl, _, rfl, _, (n : Int), rfl, rfl, _, rfl, ifF (decide_eq_false (by omega)) ⟨rfl, c8⟩⟩
    obtain ⟨rfl, c9⟩ := g9
    -- a word, a book
    refine ⟨fun σ' H' => ∃ (aw : Addr) (ws : List Int) (b : Nat), σ' = [some (.ref a), some (.ref p), some (.int (n : Int)), some vH, some u, some nv, some (.ref t), some (.ref aw), some (.int (b : Int)), none, none, none, none, none, none, none, none] ∧ C86 K H' p n vH u nv nm h Ls t tw aw ws b, fun σ10 H10 g10 => ?_, ?_⟩
    case refine_2 =>
      refine ⟨_, rfl, p, 6, rfl, c9.row, by decide, by decide, fun k H5 k0 k1 hB hR => ?_⟩
      have c5 := c9.but hB hR
      refine ⟨k, rfl, by omega, by omega, fun D hD => ?_⟩
      have hpD := hR.ne hD
      refine lc_range (lo := 0) (n := k.toNat) (fun i H' => ∃ xs : List Int, But p H5 H' ∧ Row K H' p ∧ H' D = some (.lst (xs.map V.int)) ∧ xs.length = i ∧ ∀ x ∈ xs, InR n x) ⟨[], But.same (same_new hD), hR.new hD, upd_same, rfl, fun _ hm => absurd hm List.not_mem_nil⟩ (fun i H' hi h' => ?_) (fun H' h' => ?_)
      · obtain ⟨xs, hB1, hR1, eD, lx, hx⟩ := h'
        refine ⟨rfl, _, rfl, _, rfl, p, (n : Int), rfl, hR1, by omega, by omega, fun z H6 z0 z1 hB6 hR6 => ?_⟩
        have eD6 := hB6 _ _ eD (Ne.symm hpD)
        refine ⟨_, eD6, by rw [List.length_map]; exact small1000 (by omega), xs ++ [z], (hB1.trans hB6).fresh hD, hR6.lst_upd eD6 hpD, ?_, by rw [List.length_append, lx]; rfl, fun y hy => ?_⟩
        · rw [upd_same, List.map_append]
          rfl
        · rcases List.mem_append.mp hy with hy | hy
          · exact hx y hy
          · rw [List.mem_singleton.mp hy]
            exact ⟨z0, z1⟩
      · obtain ⟨xs, hB1, hR1, eD, lx, hx⟩ := h'
        refine .inl ⟨D, _, rfl, lstAt eD, fun aw haw => ?_⟩
        have s6 := same_new (o := .tup (xs.map V.int)) haw
        have c6 := (c5.but hB1 hR1).same s6
        refine ⟨_, rfl, _, rfl, p, (n : Int), rfl, c6.row, by omega, by omega, fun z H7 z0 z1 hB7 hR7 => ?_⟩
        refine ⟨_, _, rfl, aw, xs, z.toNat, ?_, c6.but hB7 hR7, ⟨aw, rfl, (c6.row.fix hB7).tups _ _ (tupAt upd_same)⟩, hx, by omega, by omega⟩
        rw [show ((z.toNat : Nat) : Int) = z by omega]
        rfl
    obtain ⟨aw, ws, b, rfl, c10⟩ := g10
    -- places
    refine ⟨fun σ' H' => ∃ D9 : Addr, σ' = [some (.ref a), some (.ref p), some (.int (n : Int)), some vH, some u, some nv, some (.ref t), some (.ref aw), some (.int (b : Int)), some (.ref D9), none, none, none, none, none, none, none] ∧ C86 K H' p n vH u nv nm h Ls t tw aw ws b ∧ H' D9 = some (.lst []) ∧ p ≠ D9, fun σ11 H11 g11 => ?_, ?_⟩
    case refine_2 => exact ⟨Nat.zero_le _, fun D9 hD => ⟨D9, rfl, c10.same (same_new hD), upd_same, c10.row.ne hD⟩⟩
    obtain ⟨D9, rfl, c11, e11, pD9⟩ := g11
    -- where the book stands after the word
    refine ⟨fun σ' H' => ∃ y10 y11, σ' = [some (.ref a), some (.ref p), some (.int (n : Int)), some vH, some u, some nv, some (.ref t), some (.ref aw), some (.int (b : Int)), some (.ref D9), y10, y11, none, none, none, none, none] ∧ C86 K H' p n vH u nv nm h Ls t tw aw ws b ∧ H' D9 = some (.lst ((Ls.map fun L => (mvs h L ws).getD b 0).map V.int)), fun σ12 H12 g12 => ?_, ?_⟩
    case refine_2 =>
      obtain ⟨al, ls, rfl, hSl, hEl⟩ := id c11.ly.t
      have ll := hEl.len
      have l6 := c11.ly.l6
      refine ⟨_, rfl, al, rfl, ⟨_, hSl⟩, ?_⟩
      refine for_tup (xs := ls) (fun i σ H' => ∃ y10 y11, σ = [some (.ref a), some (.ref p), some (.int (n : Int)), some vH, some (.ref al), some nv, some (.ref t), some (.ref aw), some (.int (b : Int)), some (.ref D9), y10, y11, none, none, none, none, none] ∧ Fix H11 H' ∧ C86 K H' p n vH (.ref al) nv nm h Ls t tw aw ws b ∧ H' D9 = some (.lst (((Ls.take i).map fun L => (mvs h L ws).getD b 0).map V.int)))
        ⟨none, none, rfl, Fix.refl _, c11, e11⟩ (fun i σ H' _ h' => let ⟨_, _, _, f, _⟩ := h'; f.tups _ _ hSl) (fun i x σ H' hx h' => ?_) (fun σ H' h' => ?_)
      · obtain ⟨y10, y11, rfl, fx, c, e9⟩ := h'
        obtain ⟨L, hl, bL, rfl, fL⟩ := hEl.at hx
        have ilt := (List.getElem?_eq_some_iff.mp hx).1
        obtain ⟨aw2, ea, hWs⟩ := id c.hW
        obtain rfl := V.ref.inj ea
        have hL := c.ly.hL L (List.mem_of_getElem? hl)
        refine ⟨_, rfl, aw, rfl, ⟨_, hWs⟩, ?_⟩
        refine for_tup (xs := ws.map V.int) (fun j σ H2 => Same H' H2 ∧ ∃ q1 y, σ = [some (.ref a), some (.ref p), some (.int (n : Int)), some vH, some (.ref al), some nv, some (.ref t), some (.ref aw), some (.int (b : Int)), some (.ref D9), some (.ref q1), y, none, none, none, none, none] ∧ FT H2 q1 (mvs h L (ws.take j))) ⟨Same.refl H', bL, y11, rfl, fL.fix fx⟩ (fun j σ H2 _ h2 => onT h2.1 hWs) (fun j x σ H2 hx2 h2 => ?_) (fun σ H2 h2 => ?_)
        · obtain ⟨tt, ht, rfl⟩ := map_at hx2
          obtain ⟨sm, q1, y, rfl, f1⟩ := h2
          have hp1 := c.hb.mvs_perm (ws := ws.take j) (fun u hu => c.hw u (List.mem_of_mem_take hu)) hL
          refine ⟨_, rfl, _, rfl, _, rfl, vH, h, n, q1, _, tt, rfl, (c.same sm).hT, c.hb, f1.sq, fun u hu => perm_in hp1 hu, by rw [perm_len hp1]; omega, c.hw tt (List.mem_of_getElem? ht), fun H3 q2 s2 _ f2 => ⟨sm.trans s2, q2, _, rfl, ?_⟩⟩
          rw [mvs_more ht]
          exact f2
        · obtain ⟨sm, q1, y, rfl, f1⟩ := h2
          rw [List.length_map, List.take_length] at f1
          have hp := c.hb.mvs_perm c.hw hL
          have e := getD_perm hp (b := (b : Int)) ⟨by omega, by have := c.bn; omega⟩
          rw [Int.toNat_natCast] at e
          have e9' := sm _ _ e9
          have c2 := c.same sm
          refine ⟨_, rfl, .inl ⟨rfl, _, lstAt e9'⟩, _, rfl, _, rfl, q1, _, (b : Int), .int ((mvs h L ws).getD b 0), rfl, rfl, f1.sqT, atI_nat (at_map e), D9, _, _, rfl, rfl, e9', by rw [List.length_map, List.length_map, List.length_take]; exact small1000 (by omega), ?_⟩
          refine ⟨_, _, rfl, fx.trans ((Fix.same sm).trans (Fix.lst e9')), c2.put e9' pD9, ?_⟩
          rw [upd_same, List.take_add_one, hl, List.map_append, List.map_append]
          rfl
      · obtain ⟨y10, y11, rfl, _, c, e9⟩ := h'
        rw [ll, List.take_length] at e9
        exact ⟨y10, y11, rfl, c, e9⟩
    obtain ⟨y10, y11, rfl, c12, e12⟩ := g12
    -- may_stand
    refine ⟨fun σ' H' => σ' = [some (.ref a), some (.ref p), some (.int (n : Int)), some vH, some u, some nv, some (.ref t), some (.ref aw), some (.int (b : Int)), some (.ref D9), y10, y11, none, none, none, none, none] ∧ C86 K H' p n vH u nv nm h Ls t tw aw ws b, fun σ13 H13 g13 => ?_, ?_⟩
    case refine_2 =>
      have l6 := c12.ly.l6
      refine ⟨_, rfl, _, rfl, _, rfl, _, rfl, vH, u, .ref aw, h, n, Ls, b, ws, rfl, c12.hT, c12.hb, c12.ly.t, c12.ly.hL, c12.ly.l1, by omega, c12.ly.ri, c12.bn, c12.hW, c12.hw, by have := c12.lw; omega, fun H5 t1 ns s5 my sq1 => ?_⟩
      refine ⟨_, rfl, D9, _, rfl, lstAt (s5 _ _ e12), by rw [List.length_map]; omega, fun a2 m2 ha2 hm2 => ?_⟩
      rw [List.length_map] at hm2
      have s2 := same_new (o := SetO w a2 (fun j => decide (j ∈ Ls.map fun L => (mvs h L ws).getD b 0)) m2) ha2
      refine ⟨a2, _, m2, rfl, upd_same, by omega, fun ns2 q1 up mem l2 hq1 => .inl ⟨q1, _, rfl, lstAt upd_same, fun t2 ht2 => ?_⟩⟩
      have s3 := same_new (o := .lst (ns2.map V.int)) hq1
      have s4 := same_new (o := .tup (ns2.map V.int)) ht2
      have s234 := s2.trans (s3.trans s4)
      have e : ns = ns2 := my.one ⟨up, fun j => by rw [mem, decide_eq_true_iff, List.mem_map]⟩
      subst e
      exact ⟨_, _, .tuple (ns.map PyData.int), rfl, dp_tup (onT s234 sq1), dp_tup (tupAt upd_same), okD_up 16 ns (by omega), fun H8 s8 => ⟨_, rfl, ifF rfl ⟨rfl, c12.same (s5.trans (s234.trans s8))⟩⟩⟩
    obtain ⟨rfl, c13⟩ := g13
    -- as many places as before
    refine ⟨fun σ' H' => σ' = [some (.ref a), some (.ref p), some (.int (n : Int)), some vH, some u, some nv, some (.ref t), some (.ref aw), some (.int (b : Int)), some (.ref D9), y10, y11, none, none, none, none, none] ∧ C86 K H' p n vH u nv nm h Ls t tw aw ws b, fun σ14 H14 g14 => ?_, ?_⟩
    case refine_2 =>
      have l6 := c13.ly.l6
      refine ⟨_, rfl, _, rfl, _, rfl, _, rfl, vH, u, .ref aw, h, n, Ls, b, ws, rfl, c13.hT, c13.hb, c13.ly.t, c13.ly.hL, c13.ly.l1, by omega, c13.ly.ri, c13.bn, c13.hW, c13.hw, by have := c13.lw; omega, fun H5 t1 ns s5 my sq1 => ?_⟩
      refine ⟨t1, _, rfl, .inr sq1, _, rfl, _, rfl, _, rfl, Nat.zero_le _, fun t3 h3 => ?_⟩
      have s3 := same_new (o := .tup []) h3
      have c := c13.same (s5.trans s3)
      refine ⟨vH, u, .ref t3, h, n, Ls, b, [], rfl, c.hT, c.hb, c.ly.t, c.ly.hL, c.ly.l1, by omega, c.ly.ri, c.bn, ⟨t3, rfl, tupAt upd_same⟩, (fun _ z => nomatch z), by decide, fun H6 t4 ms s6 my2 sq2 => ?_⟩
      have el := my.len c.hb c.ly.hL c.bn c.hw my2
      refine ⟨t4, _, rfl, .inr sq2, rfl, _, rfl, ifF ?_ ⟨rfl, c.same s6⟩⟩
      rw [List.length_map, List.length_map, el]
      simp
    obtain ⟨rfl, c14⟩ := g14
    -- odd values
    refine ⟨fun σ' H' => ∃ (lo : Addr) (vs : List V) (ds : List PyData), σ' = [some (.ref a), some (.ref p), some (.int (n : Int)), some vH, some u, some nv, some (.ref t), some (.ref aw), some (.int (b : Int)), some (.ref D9), y10, y11, some (.ref lo), none, none, none, none] ∧ C86 K H' p n vH u nv nm h Ls t tw aw ws b ∧ lo ≠ p ∧ H' lo = some (.lst vs) ∧ vs.length = 11 ∧ Each (OdV K p H') vs ds, fun σ15 H15 g15 => ?_, ?_⟩
    case refine_2 =>
      obtain ⟨al, ls, rfl, hSl, hEl⟩ := id c14.ly.t
      have ll := hEl.len
      have l1 := c14.ly.l1
      obtain ⟨x0, hx0⟩ : ∃ x0, ls[0]? = some x0 := ⟨_, List.getElem?_eq_getElem (by omega)⟩
      obtain ⟨L0, hL0, b0, rfl, f0⟩ := hEl.at hx0
      have pL0 := c14.ly.hL L0 (List.mem_of_getElem? hL0)
      obtain ⟨z0, hz0⟩ : ∃ z0, L0[0]? = some z0 := ⟨_, List.getElem?_eq_getElem (by rw [perm_len pL0]; omega)⟩
      refine ⟨Nat.zero_le _, fun t1 h1 => ⟨by show 1 ≤ sizeLine; decide, fun t2 h2 => ⟨_, rfl, Nat.zero_le _, fun t3 h3 => ⟨by show 2 ≤ sizeLine; decide, fun t4 h4 => ⟨Nat.zero_le _, fun t5 h5 => ⟨by show 2 ≤ sizeLine; decide, fun t6 h6 => ⟨by show 2 ≤ sizeLine; decide, fun t7 h7 => ⟨by show 1 ≤ sizeLine; decide, fun t8 h8 => ⟨by show 2 ≤ sizeLine; decide, fun t9 h9 => ⟨by show 1 ≤ sizeLine; decide, fun la hla => ?_⟩⟩⟩⟩⟩⟩⟩⟩⟩⟩
      have s1 := same_new (o := .tup []) h1
      have s2 := same_new (o := .tup [.int 0]) h2
      have s3 := same_new (o := .tup []) h3
      have s4 := same_new (o := .tup [.int (n : Int), .ref t3]) h4
      have s5 := same_new (o := .tup []) h5
      have s6 := same_new (o := .tup [.int 0, .ref t5]) h6
      have s7 := same_new (o := .tup [.int 0, .int 0]) h7
      have s8 := same_new (o := .tup [.ref t7]) h8
      have s9 := same_new (o := .tup [.int 0, .ref t8]) h9
      have sa := same_new (o := .lst [.int 0]) hla
      have rA := s1.trans (s2.trans (s3.trans (s4.trans (s5.trans (s6.trans (s7.trans (s8.trans (s9.trans sa))))))))
      have cA := c14.same rA
      have fA := f0.same rA
      refine ⟨_, rfl, al, ls, 0, .ref b0, rfl, rfl, onT rA hSl, atI_nat hx0, _, rfl, al, ls, 0, .ref b0, rfl, rfl, onT rA hSl, atI_nat hx0, b0, _, 0, .int z0, rfl, rfl, fA.sqT, atI_nat (at_map hz0), _, rfl, t, _, (1 : Int), tw, rfl, rfl, cA.tt, rfl, by show 1 ≤ sizeLine; decide, fun t10 h10 => ⟨by show 11 ≤ sizeLine; decide, fun lo hlo => ?_⟩⟩
      have s10 := same_new (o := .tup [tw]) h10
      have so := same_new (o := .lst [.non, .ref t1, .ref t2, .ref t4, .ref t6, .ref t9, .ref la, .bl true, .ref b0, .int z0, .ref t10]) hlo
      have ra := s10.trans so
      have r9 := sa.trans ra
      have r8 := s9.trans r9
      have r7 := s8.trans r8
      have r6 := s7.trans r7
      have r5 := s6.trans r6
      have r4 := s5.trans r5
      have r3 := s4.trans r4
      have r2 := s3.trans r3
      have r1 := s2.trans r2
      have cF := cA.same ra
      have nlo : lo ≠ p := fun e => (cA.same s10).row.ne hlo e.symm
      have nla : la ≠ p := fun e => (c14.same (s1.trans (s2.trans (s3.trans (s4.trans (s5.trans (s6.trans (s7.trans (s8.trans s9))))))))).row.ne hla e.symm
      have n5 := c14.hb.hi
      have lk := LkV.dp 5 Ls tw cF.lk
      have shL := shp_look h n nm 5 Ls
      have nlL := nl_look h n nm 5 Ls
      refine ⟨lo, _, [.none, .tuple [], .tuple [.int 0], .tuple [.int (n : Int), .tuple []], .tuple [.int 0, .tuple []], .tuple [.int 0, .tuple [.tuple [.int 0, .int 0]]], .list [.int 0], .bool true, .tuple (L0.map PyData.int), .int z0, .tuple [(look h n nm 5 Ls).2]], rfl, cF, nlo, upd_same, rfl, ?_⟩
      refine .cons ⟨rk_flat (lo_atom (d := .none) ⟨rfl, Nat.zero_le _⟩ (fun _ z => nomatch z)) rfl 5, .inl ⟨.none, .non⟩⟩ ?_
      refine .cons ⟨rk_flat (lo_tup (m := 0) (ds := []) (fun _ z => nomatch z) (by decide) (by decide) (fun _ z => nomatch z)) rfl 5, .inl ⟨.tup (fun _ z => nomatch z), Dp.on r1 _ _ (.tup (tupAt upd_same) .nil)⟩⟩ ?_
      refine .cons ⟨rk_flat (lo_tup (m := 0) (fun d z => by rw [List.mem_singleton.mp z]; exact .int 0 0) (by decide) (by show 1 < 64; decide) (fun d z => by rw [List.mem_singleton.mp z]; exact .int 0)) rfl 5, .inl ⟨.ints [0], Dp.on r2 _ _ (.tup (tupAt upd_same) (.cons (.int 0) .nil))⟩⟩ ?_
      refine .cons ⟨rk_pairs (fun _ z => nomatch z) (by decide), .inl ⟨.pair (.tup (fun _ z => nomatch z)), Dp.on r4 _ _ (.tup (tupAt upd_same) (.cons (.int _) (.cons (Dp.on s4 _ _ (.tup (tupAt upd_same) .nil)) .nil)))⟩⟩ ?_
      refine .cons ⟨rk_pairs (fun _ z => nomatch z) (by decide), .inl ⟨.pair (.tup (fun _ z => nomatch z)), Dp.on r6 _ _ (.tup (tupAt upd_same) (.cons (.int _) (.cons (Dp.on s6 _ _ (.tup (tupAt upd_same) .nil)) .nil)))⟩⟩ ?_
      have pe0 : ∀ e ∈ [PyData.tuple [.int 0, .int 0]], PEd e := fun e z => by rw [List.mem_singleton.mp z]; exact ⟨0, .int 0, rfl, .inl ⟨0, rfl⟩⟩
      refine .cons ⟨rk_pairs pe0 (by decide), .inl ⟨.pair (.tup fun e z => (pe0 e z).nl), Dp.on r9 _ _ (.tup (tupAt upd_same) (.cons (.int _) (.cons (Dp.on s9 _ _ (.tup (tupAt upd_same) (.cons (Dp.on s8 _ _ (.tup (tupAt upd_same) (.cons (.int 0) (.cons (.int 0) .nil)))) .nil))) .nil)))⟩⟩ ?_
      refine .cons ⟨rk_flat ⟨(SHp.lst (m := 0) fun d z => by rw [List.mem_singleton.mp z]; exact .int 0 0).mono (by decide), (fun _ z => nomatch z)⟩ rfl 5, .inr ⟨rfl, la, rfl, nla, ra _ _ upd_same⟩⟩ ?_
      refine .cons ⟨rk_flat (lo_atom (d := .bool true) ⟨rfl, Nat.zero_le _⟩ (fun _ z => nomatch z)) rfl 5, .inl ⟨.bl true, .bl true⟩⟩ ?_
      refine .cons ⟨rk_sg (L := L0) (by rw [perm_len pL0]; omega) none 5, .inl ⟨.ints L0, dp_tup (fA.same ra).sqT⟩⟩ ?_
      refine .cons ⟨rk_flat (lo_atom (d := .int z0) (.int z0 0) (fun _ z => nomatch z)) rfl 5, .inl ⟨.int z0, .int z0⟩⟩ ?_
      refine .cons ⟨rk_flat (lo_tup (m := 16) (fun d z => by rw [List.mem_singleton.mp z]; exact shL) (by decide) (by show 1 < 64; decide) (fun d z => by rw [List.mem_singleton.mp z]; exact nlL)) rfl 5, .inl ⟨.tup fun d z => by rw [List.mem_singleton.mp z]; exact nlL, .tup (onT so (tupAt upd_same)) (.cons lk .nil)⟩⟩ .nil
    obtain ⟨lo, vs, ds, rfl, c15, nlo, elo, l11, hO⟩ := g15
    -- ends
    refine ⟨fun σ' H' => ∃ (le : Addr) (us : List V) (es : List PyData), σ' = [some (.ref a), some (.ref p), some (.int (n : Int)), some vH, some u, some nv, some (.ref t), some (.ref aw), some (.int (b : Int)), some (.ref D9), y10, y11, some (.ref lo), some (.ref le), none, none, none] ∧ C86 K H' p n vH u nv nm h Ls t tw aw ws b ∧ H' lo = some (.lst vs) ∧ Each (OdV K p H') vs ds ∧ le ≠ p ∧ H' le = some (.lst us) ∧ DpAll K H' us es ∧ (∀ e ∈ es, PEd e) ∧ es.length < 64, fun σ16 H16 g16 => ?_, ?_⟩
    case refine_2 =>
      obtain ⟨al, ls, rfl, hSl, hEl⟩ := id c15.ly.t
      have ll := hEl.len
      have l1 := c15.ly.l1
      have n5 := c15.hb.hi
      obtain ⟨x0, hx0⟩ : ∃ x0, ls[0]? = some x0 := ⟨_, List.getElem?_eq_getElem (by omega)⟩
      obtain ⟨L0, hL0, b0, rfl, f0⟩ := hEl.at hx0
      have pL0 := c15.ly.hL L0 (List.mem_of_getElem? hL0)
      obtain ⟨z0, hz0⟩ : ∃ z0, L0[0]? = some z0 := ⟨_, List.getElem?_eq_getElem (by rw [perm_len pL0]; omega)⟩
      obtain ⟨xl, il, hxl, hxi⟩ := last_any (xs := ls) (by omega)
      obtain ⟨Ll, hLl, bl, rfl, fl⟩ := hEl.at hxi
      have pLl := c15.ly.hL Ll (List.mem_of_getElem? hLl)
      refine ⟨_, rfl, (n : Int), rfl, by omega, by omega, fun D hD => ?_⟩
      have hpD := c15.row.ne hD
      refine lc_range (lo := 0) (n := (n : Int).toNat) (fun i H' => ∃ (us : List V) (es : List PyData), But p H15 H' ∧ Row K H' p ∧ H' D = some (.lst us) ∧ DpAll K H' us es ∧ (∀ e ∈ es, PEd e) ∧ es.length = i) ⟨[], [], But.same (same_new hD), c15.row.new hD, upd_same, .nil, (fun _ z => nomatch z), rfl⟩ (fun i H' hi h' => ?_) (fun H' h' => ?_)
      · obtain ⟨us, es, hB1, hR1, eD, hU, hP, le⟩ := h'
        have f1 := c15.row.fix hB1
        have c := c15.but hB1 hR1
        refine ⟨rfl, _, rfl, _, rfl, _, rfl, al, ls, 0, .ref b0, rfl, rfl, f1.tups _ _ hSl, atI_nat hx0, b0, _, 0, .int z0, rfl, rfl, (f0.fix f1).sqT, atI_nat (at_map hz0), _, rfl, 1, rfl, al, ls, -1, .ref bl, rfl, rfl, f1.tups _ _ hSl, hxl, by show 2 ≤ sizeLine; decide, fun l hl => ?_⟩
        have sl := same_new (o := .lst [.int z0, .ref bl]) hl
        refine ⟨p, l, _, rfl, hR1.same sl, upd_same, fun e => hR1.ne hl e.symm, by show 0 < 2; decide, by show 2 ≤ 1000; decide, fun j x H5 hj hB5 hR5 => ⟨by show 2 ≤ sizeLine; decide, fun tt htt => ?_⟩⟩
        have st := same_new (o := .tup [.int (0 + (i : Int)), x]) htt
        have f2 : Fix H' _ := (Fix.same sl).trans ((hR1.same sl).fix hB5 |>.trans (Fix.same st))
        have e5 := st _ _ (hB5 _ _ (sl _ _ eD) (Ne.symm hpD))
        have lu : us.length = es.length := dpAll_len hU
        have hx : ∃ y, Dp K (upd H5 tt (.tup [.int (0 + (i : Int)), x])) x y ∧ PEd (.tuple [.int (0 + (i : Int)), y]) := by
          match j, hj with
          | 0, hj =>
            cases hj
            exact ⟨.int z0, .int z0, _, _, rfl, .inl ⟨_, rfl⟩⟩
          | 1, hj =>
            cases hj
            exact ⟨.tuple (Ll.map PyData.int), dp_tup ((fl.fix f1).fix f2).sqT, _, _, rfl, .inr ⟨Ll, rfl, by rw [perm_len pLl]; omega⟩⟩
          | j + 2, hj => simp at hj
        obtain ⟨y, hy, hpe⟩ := hx
        refine ⟨us, e5, small1000 (by omega), us ++ [.ref tt], es ++ [.tuple [.int (0 + (i : Int)), y]], (hB1.trans ((But.same sl).trans (hB5.trans (But.same st)))).fresh hD, (hR5.same st).lst_upd e5 hpD, upd_same, ?_, fun e he => ?_, by rw [List.length_append, le]; rfl⟩
        · refine DpAll.snoc (Dp.fixN (Fix.lst e5) (.tup (tupAt upd_same) (.cons (.int _) (.cons hy .nil))) hpe.nl) ?_
          exact DpAll.fixN (f2.trans (Fix.lst e5)) hU fun d hd => (hP d hd).nl
        · rcases List.mem_append.mp he with he | he
          · exact hP e he
          · rw [List.mem_singleton.mp he]
            exact hpe
      · obtain ⟨us, es, hB1, hR1, eD, hU, hP, le⟩ := h'
        exact ⟨D, us, es, rfl, c15.but hB1 hR1, hB1 _ _ elo nlo, OdV.butAll hO c15.row hB1, Ne.symm hpD, eD, hU, hP, by omega⟩
    obtain ⟨le, us, es, rfl, c16, elo, hO, nle, ele, hU, hP, les⟩ := g16
    -- one more
    refine ⟨fun σ' H' => ∃ (vs : List V) (ds : List PyData), σ' = [some (.ref a), some (.ref p), some (.int (n : Int)), some vH, some u, some nv, some (.ref t), some (.ref aw), some (.int (b : Int)), some (.ref D9), y10, y11, some (.ref lo), some (.ref le), none, none, none] ∧ C86 K H' p n vH u nv nm h Ls t tw aw ws b ∧ H' lo = some (.lst vs) ∧ Each (OdV K p H') vs ds ∧ vs.length = 12, fun σ17 H17 g17 => ?_, ?_⟩
    case refine_2 =>
      refine ⟨_, rfl, .inl ⟨rfl, _, lstAt elo⟩, _, rfl, _, rfl, p, (n : Int), rfl, c16.row, by omega, by omega, fun z H5 z0 z1 hB hR => ?_⟩
      have f1 := c16.row.fix hB
      refine ⟨_, rfl, .inl ⟨le, us, rfl, lstAt (hB _ _ ele nle), fun t1 h1 => ⟨by show 2 ≤ sizeLine; decide, fun t2 h2 => ?_⟩⟩⟩
      have s1 := same_new (o := .tup us) h1
      have s2 := same_new (o := .tup [.int z, .ref t1]) h2
      have s12 := s1.trans s2
      have e5 := s12 _ _ (hB _ _ elo nlo)
      have c := (c16.but hB hR).same s12
      refine ⟨lo, vs, _, rfl, rfl, e5, by rw [l11]; decide +kernel, vs ++ [.ref t2], ds ++ [.tuple [.int z, .tuple es]], rfl, c.put e5 (Ne.symm nlo), upd_same, ?_, by rw [List.length_append, l11]; rfl⟩
      have hd : OdV K p (upd (upd H5 t1 (.tup us)) t2 (.tup [.int z, .ref t1])) (.ref t2) (.tuple [.int z, .tuple es]) :=
        ⟨rk_pairs hP les, .inl ⟨.pair (.tup fun e he => (hP e he).nl), .tup (tupAt upd_same) (.cons (.int z) (.cons (.tup (onT s2 (tupAt upd_same)) (DpAll.fixN (f1.trans (Fix.same s12)) hU fun e he => (hP e he).nl)) .nil))⟩⟩
      exact Each.snoc (hd.put e5 (by omega)) ((OdV.butAll (OdV.butAll hO c16.row hB) hR (But.same s12)).imp fun _ _ z => z.put e5 (by omega))
    obtain ⟨vs, ds, rfl, c17, elo, hO, l12⟩ := g17
    -- a value
    refine ⟨fun σ' H' => ∃ (x : V) (d : PyData), σ' = [some (.ref a), some (.ref p), some (.int (n : Int)), some vH, some u, some nv, some (.ref t), some (.ref aw), some (.int (b : Int)), some (.ref D9), y10, y11, some (.ref lo), some (.ref le), some x, none, none] ∧ C86 K H' p n vH u nv nm h Ls t tw aw ws b ∧ RK 5 d ∧ Dp K H' x d, fun σ18 H18 g18 => ?_, ?_⟩
    case refine_2 =>
      refine ⟨_, rfl, _, rfl, p, lo, vs, rfl, c17.row, elo, nlo, by omega, by omega, fun i x H5 hi hB hR => ?_⟩
      obtain ⟨d, hd, hq⟩ := hO.at hi
      have hq := hq.but c17.row hB
      exact ⟨x, d, rfl, c17.but hB hR, hq.1, hq.dp⟩
    obtain ⟨x, d, rfl, c18, rkd, hd⟩ := g18
    -- tells as the law tells
    refine ⟨fun σ' H' => σ' = [some (.ref a), some (.ref p), some (.int (n : Int)), some vH, some u, some nv, some (.ref t), some (.ref aw), some (.int (b : Int)), some (.ref D9), y10, y11, some (.ref lo), some (.ref le), some x, none, none] ∧ C86 K H' p n vH u nv nm h Ls t tw aw ws b, fun σ19 H19 g19 => ?_, ?_⟩
    case refine_2 =>
      have l6 := c18.ly.l6
      refine ⟨_, rfl, _, rfl, _, rfl, _, rfl, vH, u, nv, x, h, n, Ls, nm, d, rfl, c18.gk, by omega, c18.ly.ri, rkd, hd, fun H5 s5 => ?_⟩
      have c := c18.same s5
      obtain ⟨al, ls, rfl, hSl, hEl⟩ := id c.ly.t
      refine ⟨_, rfl, _, rfl, al, ls, rfl, .inr hSl, fun l hl => ⟨_, rfl, _, rfl, ?_⟩⟩
      have s1 := same_new (o := .lst ls) hl
      have c6 := c.same s1
      refine ⟨vH, .ref l, nv, x, h, n, Ls, nm, d, rfl, ⟨c6.hT, c6.hb, ⟨l, ls, rfl, upd_same, hEl.imp fun _ _ z => z.same s1⟩, c6.ly.hL, c6.ly.l1, c6.hn⟩, by omega, rkd, Dp.on (s5.trans s1) _ _ hd, fun H7 s7 => ?_⟩
      exact ⟨_, _, rfl, _, rfl, ifF (by rw [decide_eq_true rfl]; rfl) ⟨rfl, c6.same s7⟩⟩
    obtain ⟨rfl, c19⟩ := g19
    -- layouts that are none
    refine ⟨fun σ' H' => ∃ y12, σ' = [some (.ref a), some (.ref p), some (.int (n : Int)), some vH, some u, some nv, some (.ref t), some (.ref aw), some (.int (b : Int)), some (.ref D9), y10, y11, y12, some (.ref le), some x, none, none] ∧ C86 K H' p n vH u nv nm h Ls t tw aw ws b, fun σ20 H20 g20 => ?_, ?_⟩
    case refine_2 =>
      obtain ⟨al, ls, rfl, hSl, hEl⟩ := id c19.ly.t
      have ll := hEl.len
      have l1 := c19.ly.l1
      have l6 := c19.ly.l6
      obtain ⟨x0, hx0⟩ : ∃ x0, ls[0]? = some x0 := ⟨_, List.getElem?_eq_getElem (by omega)⟩
      refine ⟨_, rfl, _, rfl, Nat.zero_le _, fun t1 h1 => ?_⟩
      have s1 := same_new (o := .tup []) h1
      refine ⟨_, rfl, al, ls, rfl, onT s1 hSl, fun t2 h2 => ⟨_, rfl, ?_⟩⟩
      have s2 := same_new (o := .tup ls.reverse) h2
      have s12 := s1.trans s2
      refine catT_ok (tupAt upd_same) (onT s12 hSl) (by rw [List.length_reverse]; omega) fun t3 H5 s3 hS3 => ?_
      have s13 := s12.trans s3
      refine ⟨_, rfl, al, ls, 0, x0, rfl, rfl, onT s13 hSl, atI_nat hx0, by show 1 ≤ sizeLine; decide, fun l4 h4 => ⟨by show 1 ≤ sizeLine; decide, fun t5 h5 => ⟨by show 5 ≤ sizeLine; decide, fun l hl => ?_⟩⟩⟩
      have s4 := same_new (o := .lst [x0]) h4
      have s5 := same_new (o := .tup [.int 1]) h5
      have s6 := same_new (o := .lst [.non, .ref t1, .ref t3, .ref l4, .ref t5]) hl
      have sA := s13.trans (s4.trans (s5.trans s6))
      have c20 := c19.same sA
      have n4 : l4 ≠ p := fun e => (c19.same s13).row.ne h4 e.symm
      have nl : l ≠ p := fun e => (c19.same (s13.trans (s4.trans s5))).row.ne hl e.symm
      refine ⟨p, l, _, rfl, c20.row, upd_same, nl, by show 0 < 5; decide, by show 5 ≤ 1000; decide, fun i x H6 hi hB hR => ?_⟩
      have c21 := c20.but hB hR
      have fB := c20.row.fix hB
      obtain ⟨hs, _⟩ := nmv_sw (K := K) (H := H6) c21.hn
      suffices hk : LyK K H6 n x false by
        exact ⟨_, rfl, vH, x, nv, h, n, false, rfl, c21.hT, c21.hb, hk, hs, (fun e => nomatch e), (fun _ H7 s7 => ⟨true, el, (fun _ a ha => ⟨Nat.zero_le _, fun lx hlx => ⟨_, rfl, (c21.same s7).same (same_new hlx)⟩⟩), (fun z => nomatch z)⟩), (fun e => nomatch e)⟩
      match i, hi with
      | 0, hi =>
        cases hi
        exact .row .non rfl
      | 1, hi =>
        cases hi
        exact .row (.tup (fB.tups _ _ (onT (s2.trans (s3.trans (s4.trans (s5.trans s6)))) (tupAt upd_same)))) rfl
      | 2, hi =>
        cases hi
        have : LyK K H6 n (.ref t3) (rises (Ls.reverse ++ Ls)) := .some ⟨t3, _, rfl, fB.tups _ _ (onT (s4.trans (s5.trans s6)) hS3), (each_app (each_rev hEl) hEl).imp fun _ _ z => (z.same sA).fix fB⟩ (fun L hL => by
          rcases List.mem_append.mp hL with hL | hL
          · exact c19.ly.hL L (List.mem_reverse.mp hL)
          · exact c19.ly.hL L hL) (by rw [List.length_append]; omega) (by rw [List.length_append, List.length_reverse]; omega)
        rw [rises_twice l1] at this
        exact this
      | 3, hi =>
        cases hi
        exact .row (.lst (lstAt (hB _ _ ((s5.trans s6) _ _ upd_same) n4))) rfl
      | 4, hi =>
        cases hi
        exact .odd (xs := [.int 1]) (wos := [none]) (fB.tups _ _ (tupAt (s6 _ _ upd_same))) (.cons ⟨.int 1, (fun _ z => nomatch z), (fun _ z => nomatch z)⟩ .nil) (by decide) (by decide) ⟨none, List.mem_singleton.mpr rfl, rfl⟩
      | i + 5, hi => simp at hi
    obtain ⟨y12, rfl, c20⟩ := g20
    -- a name that is none
    refine ⟨_, rfl, _, rfl, _, rfl, _, rfl, 0, 1, rfl, rfl, by show 4 ≤ sizeLine; decide, fun l hl => ?_⟩
    have s1 := same_new (o := .lst [.int (n : Int), .int (0 - 1), .bl true, .str "0"]) hl
    have c21 := c20.same s1
    have nl : l ≠ p := fun e => c20.row.ne hl e.symm
    have l6 := c20.ly.l6
    refine ⟨p, l, _, rfl, c21.row, upd_same, nl, by show 0 < 4; decide, by show 4 ≤ 1000; decide, fun i x H6 hi hB hR => ?_⟩
    have c22 := c21.but hB hR
    suffices hk : Sw K H6 x ∧ x ≠ .non ∧ inV2 0 ((n : Int) - 1) x = false by
      obtain ⟨k1, k2, k3⟩ := hk
      exact ⟨vH, u, x, h, n, _, rfl, c22.hT, c22.hb, .some c22.ly.t c22.ly.hL c22.ly.l1 (by omega), k1, (fun _ e => by
        rcases e with e | e
        · exact absurd e k2
        · rw [k3] at e
          cases e), (fun e => by rw [c22.ly.ri] at e; cases e), (fun _ _ _ H7 s7 => ⟨true, en, (fun _ a ha => q H7), (fun z => nomatch z)⟩)⟩
    match i, hi with
    | 0, hi =>
      cases hi
      refine ⟨.int _, (fun z => nomatch z), ?_⟩
      show (decide ((0 : Int) ≤ (n : Int)) && decide ((n : Int) ≤ (n : Int) - 1)) = false
      rw [decide_eq_false (show ¬ ((n : Int) ≤ (n : Int) - 1) by omega), Bool.and_false]
    | 1, hi =>
      cases hi
      exact ⟨.int _, (fun z => nomatch z), rfl⟩
    | 2, hi =>
      cases hi
      exact ⟨.bl true, (fun z => nomatch z), rfl⟩
    | 3, hi =>
      cases hi
      exact ⟨.str _, (fun z => nomatch z), rfl⟩
    | i + 4, hi => simp at hi
end
end RH
set_option Elab.async false
set_option linter.all false
set_option maxRecDepth 100000
set_option maxHeartbeats 2000000
namespace RH
open PySem PySem.Spec PyProof.Rows L2
/-! ### what the top has left -/
theorem df_mk {K : PySem.W.Frag} {h : Heap} {mg : Str → Option Value} (X : K.In h) (G : h.Ns mainGlobals mg) {x : Str} {st : Stmt} {ps : List Str} {f : Addr} {od an : Option Addr} {sl : Array (Option Value)} {oc kV dc pm cd ct : Value}
    (a : PySem.W.nsIn K mainGlobals x = some (some (.ref f))) (l : K.lookup f = some ⟨oc, od, .func (PySem.W.fnOf x x (defArgs st) (defBody st) (defScope st) .none kV dc pm an cd ct), sl⟩) (c : PySem.W.codeIn K cd x = true) (k : PySem.W.keepIn K (.ref f) = true)
    (b : ∀ (kV doc pm : Value) (an : Option Addr) (cdv ct : Value) (us : List Value), us.length = ps.length → bindArgs (PySem.W.fnOf x x (defArgs st) (defBody st) (defScope st) .none kV doc pm an cdv ct) ⟨us, []⟩ = pure (ps.zip us)) : Df K mg x st ps := by
  have F := fun_mk (st := st) l c k
  exact ⟨f, _, F, PySem.W.mg_of X G a, F.binds b⟩
/-- the written part that is meant -/
abbrev kOf {K : PySem.W.Frag} {h : Heap} (_ : K.In h) : PySem.W.Frag := K
theorem const_mk {K : PySem.W.Frag} {h : Heap} {mg : Str → Option Value} (X : K.In h) (G : h.Ns mainGlobals mg) {x : Str} {i : Int} {t : Tok} (a : PySem.W.nsIn K mainGlobals x = some (some (.int i t))) : ∃ t, mg x = some (.int i t) := ⟨t, PySem.W.mg_of X G a⟩
/-- the code object's file is the law's -/
def fileV (P : Program) : Option Value → Bool
  | some (Value.str file _) => (P.main.file : Str) == file
  | _ => false
def fileOk (P : Program) (o : Obj) : Bool := match o.data with
  | Data.fields vs => fileV P vs[2]?
  | _ => false
theorem fileOk_ex {P : Program} {K : PySem.W.Frag} {c : Addr} {o : Obj} (l : K.lookup c = some o) (h : fileOk P o = true) : ∃ (ccl : Value) (cdd : Option Addr) (vs : Array Value) (ccs : Array (Option Value)) (file : Str) (tf : Tok), K.lookup c = some ⟨ccl, cdd, .fields vs, ccs⟩ ∧ vs[2]? = some (.str file tf) ∧ ((P.main.file : Str) == file) = true := by
  obtain ⟨a, b, d, e⟩ := o
  unfold fileOk at h
  dsimp only at h
  split at h
  · rename_i vs0 vs
    cases hv : vs[2]? with
    | none =>
      rw [hv] at h
      cases h
    | some u =>
      rw [hv] at h
      cases u <;> first | (cases h; done) | skip
      rename_i file tf
      exact ⟨a, b, vs, e, file, tf, l, hv, h⟩
  · cases h
/-- the errors, as the top has left them -/
theorem errs_mk {K : PySem.W.Frag} {h : Heap} {mg : Str → Option Value} (P : Program) (X : K.In h) (G : h.Ns mainGlobals mg) {S c0 c1 c2 c3 : Addr} (aS : PySem.W.nsIn K mainGlobals "ShelfError" = some (some (.ref S)))
    (a0 : PySem.W.nsIn K mainGlobals "BadHabit" = some (some (.ref c0)))
    (a1 : PySem.W.nsIn K mainGlobals "BadWord" = some (some (.ref c1)))
    (a2 : PySem.W.nsIn K mainGlobals "BadNames" = some (some (.ref c2)))
    (a3 : PySem.W.nsIn K mainGlobals "BadLayouts" = some (some (.ref c3)))
    (kp0 : PySem.W.keepIn K (.ref c0) = true) (b0 : PySem.W.subIn K (.ref c0) (.type "BaseException") = some true) (t0 : PySem.W.typeIn K (.ref c0) = some (.type "type"))
    (xg0 : PySem.W.findIn K (.ref c0) "__getattribute__" = some (some (.builtin "BaseException.__getattribute__"))) (xk0 : PySem.W.findIn K (.ref c0) "__getattr__" = some none) (xd0 : PySem.W.hasDictIn K c0 = true) (xa0 : PySem.W.findIn K (.ref c0) "__class__" = some (some (.builtin "object.__class__"))) (xm0 : PySem.W.mroIn K c0 (.type "object") = some true) (es0 : PySem.W.exmOne K (.ref c0) (.ref S) = some true)
    (q1 : PySem.W.excIn K c1 [.type "ValueError", .type "Exception", .type "BaseException", .type "object"] "ValueError.__new__" = true)
    (kp1 : PySem.W.keepIn K (.ref c1) = true) (b1 : PySem.W.subIn K (.ref c1) (.type "BaseException") = some true) (t1 : PySem.W.typeIn K (.ref c1) = some (.type "type"))
    (xg1 : PySem.W.findIn K (.ref c1) "__getattribute__" = some (some (.builtin "BaseException.__getattribute__"))) (xk1 : PySem.W.findIn K (.ref c1) "__getattr__" = some none) (xd1 : PySem.W.hasDictIn K c1 = true) (xa1 : PySem.W.findIn K (.ref c1) "__class__" = some (some (.builtin "object.__class__"))) (xm1 : PySem.W.mroIn K c1 (.type "object") = some true) (es1 : PySem.W.exmOne K (.ref c1) (.ref S) = some true)
    (q2 : PySem.W.excIn K c2 [.type "ValueError", .type "Exception", .type "BaseException", .type "object"] "ValueError.__new__" = true)
    (kp2 : PySem.W.keepIn K (.ref c2) = true) (b2 : PySem.W.subIn K (.ref c2) (.type "BaseException") = some true) (t2 : PySem.W.typeIn K (.ref c2) = some (.type "type"))
    (xg2 : PySem.W.findIn K (.ref c2) "__getattribute__" = some (some (.builtin "BaseException.__getattribute__"))) (xk2 : PySem.W.findIn K (.ref c2) "__getattr__" = some none) (xd2 : PySem.W.hasDictIn K c2 = true) (xa2 : PySem.W.findIn K (.ref c2) "__class__" = some (some (.builtin "object.__class__"))) (xm2 : PySem.W.mroIn K c2 (.type "object") = some true) (es2 : PySem.W.exmOne K (.ref c2) (.ref S) = some true)
    (q3 : PySem.W.excIn K c3 [.type "ValueError", .type "Exception", .type "BaseException", .type "object"] "ValueError.__new__" = true)
    (kp3 : PySem.W.keepIn K (.ref c3) = true) (b3 : PySem.W.subIn K (.ref c3) (.type "BaseException") = some true) (t3 : PySem.W.typeIn K (.ref c3) = some (.type "type"))
    (xg3 : PySem.W.findIn K (.ref c3) "__getattribute__" = some (some (.builtin "BaseException.__getattribute__"))) (xk3 : PySem.W.findIn K (.ref c3) "__getattr__" = some none) (xd3 : PySem.W.hasDictIn K c3 = true) (xa3 : PySem.W.findIn K (.ref c3) "__class__" = some (some (.builtin "object.__class__"))) (xm3 : PySem.W.mroIn K c3 (.type "object") = some true) (es3 : PySem.W.exmOne K (.ref c3) (.ref S) = some true)
    (ex2_2 : PySem.W.exmOne K (.ref c2) (.ref c2) = some true)
    (ex3_3 : PySem.W.exmOne K (.ref c3) (.ref c3) = some true)
    (xn : PySem.W.specialIn K (.builtin "object.__class__") "__get__" = some (some (.builtin "getset_descriptor.__get__"))) (xt : PySem.W.takesIn K (.builtin "object.__class__") = some true)
    {nm0 q0 : Str} {N0 : Addr} {bs0 bm0 : List Value} {sn0 : List Str} {sub0 : List Value} {ab0 : Bool} {col0 : Option Bool} {dd0 : Option Addr} {m0_0 m1_0 m2_0 m3_0 m5_0 : Option Value} {f0 cc0 cda0 : Addr} {oc0 kV0 dc0 pm0 ct0 ccl0 : Value} {od0 an0 cdd0 : Option Addr} {sl0 csl0 : Array (Option Value)} {oo0 : Obj}
    (yL0 : K.lookup c0 = some (excClassObj nm0 q0 c0 N0 bs0 bm0 true sn0 sub0 ab0 col0 dd0 m0_0 m1_0 m2_0 m3_0 m5_0 "ValueError.__new__")) (yR0 : PySem.HandSPX.refsVE bm0 = true) (ysa0 : PySem.W.findIn K (.ref c0) "__setattr__" = some (some (.builtin "object.__setattr__"))) (yno0 : PySem.W.findIn K (.ref c0) "place" = some none)
    (yi0 : PySem.W.findIn K (.ref c0) "__init__" = some (some (.ref f0))) (yt0 : PySem.W.typeIn K (.ref f0) = some (.type "function")) (yl0 : K.lookup f0 = some ⟨oc0, od0, .func (PySem.W.fnX "__init__" "BadHabit.__init__" (defArgs st_e_BadHabit) (defBody st_e_BadHabit) (defScope st_e_BadHabit) [("__class__", cc0)] .none kV0 dc0 pm0 an0 (.ref cda0) ct0), sl0⟩) (yc0 : PySem.W.codeIn K (.ref cda0) "BadHabit.__init__" = true)
    (yo0 : K.lookup cda0 = some oo0) (yf0 : fileOk P oo0 = true) (yk0 : K.lookup cc0 = some ⟨ccl0, cdd0, .cell (some (.ref c0)), csl0⟩) (ym0 : PySem.W.mroIn K c0 (.ref c0) = some true)
    (ys0 : PySem.W.ks_superIn K c0 c0 "__init__" = some (some (.builtin "ValueError.__init__"))) (yv0 : PySem.W.subIn K (.ref c0) (.type "ValueError") = some true)
    (ya : PySem.W.nsIn K cStatics "thirdparty.any" = some none) (yg : PySem.W.nsIn K mainGlobals "super" = some none) (yp : (P.main.scope.names.lookup ("super" : Str)).isSome = false)
    : ∃ (S c0 c1 c2 c3 : Addr), (mg "ShelfError" = some (.ref S)) ∧ (mg "BadNames" = some (.ref c2)) ∧ (mg "BadLayouts" = some (.ref c3)) ∧ (PySem.W.exmOne K (.ref c2) (.ref c2) = some true) ∧ (PySem.W.exmOne K (.ref c3) (.ref c3) = some true) ∧ (∀ w base, BhX P w K mg base "BadHabit" "place" c0 (spBI "place" c0)) ∧ (ExO K mg "BadWord" c1) ∧ (ExO K mg "BadNames" c2) ∧ (ExO K mg "BadLayouts" c3) := by
  have mS := PySem.W.mg_of X G aS
  have m0 := PySem.W.mg_of X G a0
  have m1 := PySem.W.mg_of X G a1
  have m2 := PySem.W.mg_of X G a2
  have m3 := PySem.W.mg_of X G a3
  have x0 : ExcC K c0 := ⟨xg0, xk0, b0, xd0, xa0, xn, xt, xm0⟩
  have x1 : ExcC K c1 := ⟨xg1, xk1, b1, xd1, xa1, xn, xt, xm1⟩
  have x2 : ExcC K c2 := ⟨xg2, xk2, b2, xd2, xa2, xn, xt, xm2⟩
  have x3 : ExcC K c3 := ⟨xg3, xk3, b3, xd3, xa3, xn, xt, xm3⟩
  have ox0 : OexC K c0 := ⟨⟨_, _, _, _, _, _, _, _, _, _, _, _, _, _, _, yL0, yR0⟩, ysa0, b0, t0, kp0⟩
  have M0 : SupC P K mg c0 "BadHabit.__init__" st_e_BadHabit f0 _ cc0 cda0 := ⟨ox0, ⟨_, _, _, _, _, _, _, _, rfl, yl0⟩, yc0, fileOk_ex yo0 yf0, ⟨_, _, _, yk0⟩, ym0, ya, ys0, yv0, PySem.W.mg_none_of X G yg, yp⟩

  have bh0 : ∀ w base, BhX P w K mg base "BadHabit" "place" c0 (spBI "place" c0) := fun w base => ⟨ox0, m0, f0, _, ok_BadHabit M0 yno0, yi0, yt0, .all fun us hl => match us, hl with | [_, _], _ => rfl⟩
  have X1 : ExO K mg "BadWord" c1 := ⟨q1, m1, kp1, b1, t1⟩
  have X2 : ExO K mg "BadNames" c2 := ⟨q2, m2, kp2, b2, t2⟩
  have X3 : ExO K mg "BadLayouts" c3 := ⟨q3, m3, kp3, b3, t3⟩
  exact ⟨S, c0, c1, c2, c3, mS, m2, m3, ex2_2, ex3_3, bh0, X1, X2, X3⟩
theorem top {P : Program} {w : World} {K : PySem.W.Frag} {mg : Str → Option Value} {fa : Addr} (hfa : mg "law" = some (.ref fa)) (B : Bu mg) (c_FEWEST_PLACES : ∃ t, mg "FEWEST_PLACES" = some (.int 2 t)) (c_MOST_PLACES : ∃ t, mg "MOST_PLACES" = some (.int 5 t)) (c_MOST_TOUCHES : ∃ t, mg "MOST_TOUCHES" = some (.int 400 t)) (c_MOST_START_LAYOUTS : ∃ t, mg "MOST_START_LAYOUTS" = some (.int 24 t)) (c_MOST_LOOKS : ∃ t, mg "MOST_LOOKS" = some (.int 20 t)) (n_set : mg "set" = none) (n_dict : mg "dict" = none)
    {S c0 c1 c2 c3 : Addr} (gS : mg "ShelfError" = some (.ref S)) (gn : mg "BadNames" = some (.ref c2)) (gl : mg "BadLayouts" = some (.ref c3)) (en : PySem.W.exmOne K (.ref c2) (.ref c2) = some true) (el : PySem.W.exmOne K (.ref c3) (.ref c3) = some true) (b0 : ∀ base, BhX P w K mg base "BadHabit" "place" c0 (spBI "place" c0)) (X1 : ExO K mg "BadWord" c1) (X2 : ExO K mg "BadNames" c2) (X3 : ExO K mg "BadLayouts" c3)
    (F_is_integer : Df K mg "is_integer" st_is_integer ["value"])
    (F_is_number : Df K mg "is_number" st_is_number ["value", "low", "high"])
    (F_is_row : Df K mg "is_row" st_is_row ["value", "low", "high"])
    (F_is_place : Df K mg "is_place" st_is_place ["value", "places"])
    (F_are_places : Df K mg "are_places" st_are_places ["value", "places"])
    (F_is_rising : Df K mg "is_rising" st_is_rising ["row"])
    (F_is_layout : Df K mg "is_layout" st_is_layout ["value", "places"])
    (F_is_word : Df K mg "is_word" st_is_word ["value", "places"])
    (F_check_habit : Df K mg "check_habit" st_check_habit ["habit"])
    (F_check_layouts : Df K mg "check_layouts" st_check_layouts ["layouts", "places"])
    (F_check_name : Df K mg "check_name" st_check_name ["name", "places"])
    (F_check_word : Df K mg "check_word" st_check_word ["word", "places"])
    (F_places_of_habit : Df K mg "places_of_habit" st_places_of_habit ["habit"])
    (F_move : Df K mg "move" st_move ["habit", "layout", "place"])
    (F_move_along : Df K mg "move_along" st_move_along ["habit", "layout", "word"])
    (F_may_stand : Df K mg "may_stand" st_may_stand ["habit", "layouts", "name", "word"])
    (F_least_looks : Df K mg "least_looks" st_least_looks ["habit", "layouts", "name"])
    (F_tells : Df K mg "tells" st_tells ["habit", "layouts", "name", "value"])
    (F_check_sought : Df K mg "check_sought" st_check_sought ["habit", "layouts", "name"])
    (F_sought_in : Df K mg "sought_in" st_sought_in ["layout", "name"])
    (F_is_known : Df K mg "is_known" st_is_known ["layouts", "name"])
    (F_parts_shown : Df K mg "parts_shown" st_parts_shown ["habit", "layouts", "place"])
    (F_least_looks_for : Df K mg "least_looks_for" st_least_looks_for ["habit", "layouts", "name"])
    (F_is_telling : Df K mg "is_telling" st_is_telling ["habit", "layouts", "name", "value", "looks_left"])
    (F_is_answer : Df K mg "is_answer" st_is_answer ["value", "name", "places"])
    (F__law_taken : Df K mg "_law_taken" st__law_taken ["row", "many"])
    (F__law_pick : Df K mg "_law_pick" st__law_pick ["row", "things"])
    (F__law_alike : Df K mg "_law_alike" st__law_alike ["found", "due"])
    (F__law_is : Df K mg "_law_is" st__law_is ["found", "due"])
    (F__law_permutation : Df K mg "_law_permutation" st__law_permutation ["row", "many"])
    (F__law_habit : Df K mg "_law_habit" st__law_habit ["row", "many"])
    (F__law_touch : Df K mg "_law_touch" st__law_touch ["habit", "layout", "place"])
    (F__law_some : Df K mg "_law_some" st__law_some ["row", "many"])
    (F__law_parted : Df K mg "_law_parted" st__law_parted ["habit", "layouts", "place"])
    (F__law_end : Df K mg "_law_end" st__law_end ["layouts", "name"])
    (F__law_tree : Df K mg "_law_tree" st__law_tree ["habit", "layouts", "name"])
    (F__law_follow : Df K mg "_law_follow" st__law_follow ["habit", "layout", "tree", "name", "most"])
    (F__law_told : Df K mg "_law_told" st__law_told ["habit", "layouts", "name", "value"])
    (F_law : Df K mg "law" st_law ["script"])
    : ∃ fd : FuncData, (∀ (s : Shared) (v : Value), BindsTo s fd ⟨[v], []⟩ [("script", v)]) ∧ ∀ base : Heap, FnOk P w K mg base CX0 19 fa fd ["script"] (spLaw K) := by
  obtain ⟨f, fd, F, g, b⟩ := F_law.ex
  have e := hfa.symm.trans g
  cases e
  refine ⟨fd, fun s v => ?_, fun base  => ?_⟩
  · obtain ⟨oc, od, kV, doc, pm, an, cdv, ct, osl, rfl, _⟩ := F.ex
    exact .of_eq rfl
  · have D1 := ok_is_integerW (P := P) (w := w) (K := K) (base := base) F_is_integer B
    have D2 := ok_is_numberW F_is_number D1
    have DR := ok_is_rowW (P := P) (w := w) (K := K) (base := base) F_is_row B
    have D3 := ok_is_placeW F_is_place D2
    have D4 := ok_are_placesW F_are_places B D3
    have D5 := ok_is_layoutW F_is_layout B D4
    have DW := ok_is_wordW F_is_word c_MOST_TOUCHES DR D4
    have CRi := ok_rises (P := P) (w := w) (K := K) (base := base) F_is_rising B
    have XH := ok_check_habitX F_check_habit B c_FEWEST_PLACES c_MOST_PLACES (b0 base) DR D5
    have XLy := ok_check_layouts F_check_layouts B c_MOST_START_LAYOUTS X3 DR D5 CRi
    have XNm := ok_check_name F_check_name X2 D3
    have XW := ok_check_wordX F_check_word X1 DW
    have CO := ok_places_of (P := P) (w := w) (K := K) (base := base) F_places_of_habit B
    have CM := ok_move (P := P) (w := w) (K := K) (base := base) F_move B
    have CMA := ok_move_along F_move_along CM
    have CSo := ok_sought (P := P) (w := w) (K := K) (base := base) F_sought_in
    have CK := ok_known F_is_known B CSo
    have CPs := ok_parts F_parts_shown B CO CM
    have L0 := ok_look0 F_least_looks_for B CK CSo
    have L1 := ok_lookS 0 F_least_looks_for B CK CSo CO CPs L0
    have L2 := ok_lookS 1 F_least_looks_for B CK CSo CO CPs L1
    have L3 := ok_lookS 2 F_least_looks_for B CK CSo CO CPs L2
    have L4 := ok_lookS 3 F_least_looks_for B CK CSo CO CPs L3
    have L5 := ok_lookS 4 F_least_looks_for B CK CSo CO CPs L4
    have CAn := ok_ans F_is_answer D5 D3
    have T0 := ok_tell0 F_is_telling B DR D3 CAn CK CSo CPs
    have T1 := ok_tellS 0 F_is_telling B DR D3 CAn CK CSo CPs D1 T0
    have T2 := ok_tellS 1 F_is_telling B DR D3 CAn CK CSo CPs D1 T1
    have T3 := ok_tellS 2 F_is_telling B DR D3 CAn CK CSo CPs D1 T2
    have T4 := ok_tellS 3 F_is_telling B DR D3 CAn CK CSo CPs D1 T3
    have T5 := ok_tellS 4 F_is_telling B DR D3 CAn CK CSo CPs D1 T4
    have XSt := ok_ck_sought F_check_sought B XH XLy XNm
    have XL := ok_least F_least_looks XSt L5
    have XT := ok_tells F_tells c_MOST_LOOKS XSt T5
    have XM := ok_may F_may_stand B XH XLy XNm XW CMA
    have CT := ok_taken (P := P) (w := w) (K := K) (base := base) F__law_taken B
    have CP := ok_lperm F__law_permutation B CT
    have CTc := ok_ltouch (P := P) (w := w) (K := K) (base := base) F__law_touch B
    have CE := ok_lend (P := P) (w := w) (K := K) (base := base) F__law_end B n_set
    have CPd := ok_lparted F__law_parted B CTc
    have R0 := ok_ltree0 F__law_tree CE
    have R1 := ok_ltreeS 0 F__law_tree B CE CPd R0
    have R2 := ok_ltreeS 1 F__law_tree B CE CPd R1
    have R3 := ok_ltreeS 2 F__law_tree B CE CPd R2
    have R4 := ok_ltreeS 3 F__law_tree B CE CPd R3
    have R5 := ok_ltreeS 4 F__law_tree B CE CPd R4
    have K0 := ok_ltold0 F__law_told B CE CPd
    have K1 := ok_ltoldS 0 F__law_told B CE CPd K0
    have K2 := ok_ltoldS 1 F__law_told B CE CPd K1
    have K3 := ok_ltoldS 2 F__law_told B CE CPd K2
    have K4 := ok_ltoldS 3 F__law_told B CE CPd K3
    have K5 := ok_ltoldS 4 F__law_told B CE CPd K4
    have CA := ok_alikeS 16 F__law_alike B (ok_alikeS 15 F__law_alike B (ok_alikeS 14 F__law_alike B (ok_alikeS 13 F__law_alike B (ok_alikeS 12 F__law_alike B (ok_alikeS 11 F__law_alike B (ok_alikeS 10 F__law_alike B (ok_alikeS 9 F__law_alike B (ok_alikeS 8 F__law_alike B (ok_alikeS 7 F__law_alike B (ok_alikeS 6 F__law_alike B (ok_alikeS 5 F__law_alike B (ok_alikeS 4 F__law_alike B (ok_alikeS 3 F__law_alike B (ok_alikeS 2 F__law_alike B (ok_alikeS 1 F__law_alike B (ok_alikeS 0 F__law_alike B (ok_alike0 (P := P) (w := w) (K := K) (base := base) F__law_alike B)))))))))))))))))
    exact ok_law F B n_set gl gn en el CT (ok_pick F__law_pick B CT) (ok_habF F__law_habit B CT CP) (ok_lsome F__law_some B n_set CT CP) CA R5 (ok_follow F__law_follow B n_dict CTc) CTc (ok_lis (P := P) (w := w) (K := K) (base := base) F__law_is B) K5 XL XT XM
end RH
set_option Elab.async false
set_option linter.all false
open PySem PySem.W PyProof.Rows
set_option maxRecDepth 100000 in
set_option maxHeartbeats 0 in
theorem PySem.Challenge.cw_restlesshelf_k86_whole_finding_holds : PySem.Challenge.rw_restlesshelf_k86_whole_finding.Holds := by
  w_on; o_law; k_head; (case hw => w_witness2)
  k_fill
  refine L2.walk_of (l := PySem.Challenge.rw_restlesshelf_k86_whole_finding) (n := 63) (k := 19) (x := "script") (CX := fun _ => L2.CX0) (sp := fun w => RH.spLaw _) rfl (by decide) rfl ⟨rfl, by decide, by decide⟩ (fun w h Y => PySem.W.kIn_of Y) ?F (fun _ _ a ns hl ho hS => ⟨a, ns, rfl, RH.Fz.of ho hS, fun _ => rfl⟩) (fun _ _ _ _ _ h => h)
  case F =>
    intro w mg fa h KX G hmg
    have B : RH.Bu mg := by
      refine' RH.Bu.mk (PySem.W.mg_none_of KX G ?z0) (PySem.W.mg_none_of KX G ?z1) (PySem.W.mg_none_of KX G ?z2) (PySem.W.mg_none_of KX G ?z3) (PySem.W.mg_none_of KX G ?z4) (PySem.W.mg_none_of KX G ?z5) (PySem.W.mg_none_of KX G ?z6) (PySem.W.mg_none_of KX G ?z7) (PySem.W.mg_none_of KX G ?z8) (PySem.W.mg_none_of KX G ?z9) (PySem.W.mg_none_of KX G ?z10) (PySem.W.mg_none_of KX G ?z11) (PySem.W.mg_none_of KX G ?z12)
      (case z0 => k_is); (case z1 => k_is); (case z2 => k_is); (case z3 => k_is); (case z4 => k_is); (case z5 => k_is); (case z6 => k_is); (case z7 => k_is); (case z8 => k_is); (case z9 => k_is); (case z10 => k_is); (case z11 => k_is); (case z12 => k_is)
    have c_FEWEST_PLACES : ∃ t, mg "FEWEST_PLACES" = some (.int 2 t) := by
      refine' RH.const_mk KX G ?a
      (case a => k_is)
    have c_MOST_PLACES : ∃ t, mg "MOST_PLACES" = some (.int 5 t) := by
      refine' RH.const_mk KX G ?a
      (case a => k_is)
    have c_MOST_TOUCHES : ∃ t, mg "MOST_TOUCHES" = some (.int 400 t) := by
      refine' RH.const_mk KX G ?a
      (case a => k_is)
    have c_MOST_START_LAYOUTS : ∃ t, mg "MOST_START_LAYOUTS" = some (.int 24 t) := by
      refine' RH.const_mk KX G ?a
      (case a => k_is)
    have c_MOST_LOOKS : ∃ t, mg "MOST_LOOKS" = some (.int 20 t) := by
      refine' RH.const_mk KX G ?a
      (case a => k_is)
    have n_set : mg "set" = none := by
      refine' PySem.W.mg_none_of KX G ?a
      (case a => k_is)
    have n_dict : mg "dict" = none := by
      refine' PySem.W.mg_none_of KX G ?a
      (case a => k_is)
    have F_is_integer : RH.Df (RH.kOf KX) mg "is_integer" RH.st_is_integer ["value"] := by
      refine' RH.df_mk KX G ?a ?l ?c ?k (fun _ _ _ _ _ _ us hl => match us, hl with | [_], _ => rfl)
      (case a => k_is); (case l => k_is); (case c => k_is); (case k => k_is)
    have F_is_number : RH.Df (RH.kOf KX) mg "is_number" RH.st_is_number ["value", "low", "high"] := by
      refine' RH.df_mk KX G ?a ?l ?c ?k (fun _ _ _ _ _ _ us hl => match us, hl with | [_, _, _], _ => rfl)
      (case a => k_is); (case l => k_is); (case c => k_is); (case k => k_is)
    have F_is_row : RH.Df (RH.kOf KX) mg "is_row" RH.st_is_row ["value", "low", "high"] := by
      refine' RH.df_mk KX G ?a ?l ?c ?k (fun _ _ _ _ _ _ us hl => match us, hl with | [_, _, _], _ => rfl)
      (case a => k_is); (case l => k_is); (case c => k_is); (case k => k_is)
    have F_is_place : RH.Df (RH.kOf KX) mg "is_place" RH.st_is_place ["value", "places"] := by
      refine' RH.df_mk KX G ?a ?l ?c ?k (fun _ _ _ _ _ _ us hl => match us, hl with | [_, _], _ => rfl)
      (case a => k_is); (case l => k_is); (case c => k_is); (case k => k_is)
    have F_are_places : RH.Df (RH.kOf KX) mg "are_places" RH.st_are_places ["value", "places"] := by
      refine' RH.df_mk KX G ?a ?l ?c ?k (fun _ _ _ _ _ _ us hl => match us, hl with | [_, _], _ => rfl)
      (case a => k_is); (case l => k_is); (case c => k_is); (case k => k_is)
    have F_is_rising : RH.Df (RH.kOf KX) mg "is_rising" RH.st_is_rising ["row"] := by
      refine' RH.df_mk KX G ?a ?l ?c ?k (fun _ _ _ _ _ _ us hl => match us, hl with | [_], _ => rfl)
      (case a => k_is); (case l => k_is); (case c => k_is); (case k => k_is)
    have F_is_layout : RH.Df (RH.kOf KX) mg "is_layout" RH.st_is_layout ["value", "places"] := by
      refine' RH.df_mk KX G ?a ?l ?c ?k (fun _ _ _ _ _ _ us hl => match us, hl with | [_, _], _ => rfl)
      (case a => k_is); (case l => k_is); (case c => k_is); (case k => k_is)
    have F_is_word : RH.Df (RH.kOf KX) mg "is_word" RH.st_is_word ["value", "places"] := by
      refine' RH.df_mk KX G ?a ?l ?c ?k (fun _ _ _ _ _ _ us hl => match us, hl with | [_, _], _ => rfl)
      (case a => k_is); (case l => k_is); (case c => k_is); (case k => k_is)
    have F_check_habit : RH.Df (RH.kOf KX) mg "check_habit" RH.st_check_habit ["habit"] := by
      refine' RH.df_mk KX G ?a ?l ?c ?k (fun _ _ _ _ _ _ us hl => match us, hl with | [_], _ => rfl)
      (case a => k_is); (case l => k_is); (case c => k_is); (case k => k_is)
    have F_check_layouts : RH.Df (RH.kOf KX) mg "check_layouts" RH.st_check_layouts ["layouts", "places"] := by
      refine' RH.df_mk KX G ?a ?l ?c ?k (fun _ _ _ _ _ _ us hl => match us, hl with | [_, _], _ => rfl)
      (case a => k_is); (case l => k_is); (case c => k_is); (case k => k_is)
    have F_check_name : RH.Df (RH.kOf KX) mg "check_name" RH.st_check_name ["name", "places"] := by
      refine' RH.df_mk KX G ?a ?l ?c ?k (fun _ _ _ _ _ _ us hl => match us, hl with | [_, _], _ => rfl)
      (case a => k_is); (case l => k_is); (case c => k_is); (case k => k_is)
    have F_check_word : RH.Df (RH.kOf KX) mg "check_word" RH.st_check_word ["word", "places"] := by
      refine' RH.df_mk KX G ?a ?l ?c ?k (fun _ _ _ _ _ _ us hl => match us, hl with | [_, _], _ => rfl)
      (case a => k_is); (case l => k_is); (case c => k_is); (case k => k_is)
    have F_places_of_habit : RH.Df (RH.kOf KX) mg "places_of_habit" RH.st_places_of_habit ["habit"] := by
      refine' RH.df_mk KX G ?a ?l ?c ?k (fun _ _ _ _ _ _ us hl => match us, hl with | [_], _ => rfl)
      (case a => k_is); (case l => k_is); (case c => k_is); (case k => k_is)
    have F_move : RH.Df (RH.kOf KX) mg "move" RH.st_move ["habit", "layout", "place"] := by
      refine' RH.df_mk KX G ?a ?l ?c ?k (fun _ _ _ _ _ _ us hl => match us, hl with | [_, _, _], _ => rfl)
      (case a => k_is); (case l => k_is); (case c => k_is); (case k => k_is)
    have F_move_along : RH.Df (RH.kOf KX) mg "move_along" RH.st_move_along ["habit", "layout", "word"] := by
      refine' RH.df_mk KX G ?a ?l ?c ?k (fun _ _ _ _ _ _ us hl => match us, hl with | [_, _, _], _ => rfl)
      (case a => k_is); (case l => k_is); (case c => k_is); (case k => k_is)
    have F_may_stand : RH.Df (RH.kOf KX) mg "may_stand" RH.st_may_stand ["habit", "layouts", "name", "word"] := by
      refine' RH.df_mk KX G ?a ?l ?c ?k (fun _ _ _ _ _ _ us hl => match us, hl with | [_, _, _, _], _ => rfl)
      (case a => k_is); (case l => k_is); (case c => k_is); (case k => k_is)
    have F_least_looks : RH.Df (RH.kOf KX) mg "least_looks" RH.st_least_looks ["habit", "layouts", "name"] := by
      refine' RH.df_mk KX G ?a ?l ?c ?k (fun _ _ _ _ _ _ us hl => match us, hl with | [_, _, _], _ => rfl)
      (case a => k_is); (case l => k_is); (case c => k_is); (case k => k_is)
    have F_tells : RH.Df (RH.kOf KX) mg "tells" RH.st_tells ["habit", "layouts", "name", "value"] := by
      refine' RH.df_mk KX G ?a ?l ?c ?k (fun _ _ _ _ _ _ us hl => match us, hl with | [_, _, _, _], _ => rfl)
      (case a => k_is); (case l => k_is); (case c => k_is); (case k => k_is)
    have F_check_sought : RH.Df (RH.kOf KX) mg "check_sought" RH.st_check_sought ["habit", "layouts", "name"] := by
      refine' RH.df_mk KX G ?a ?l ?c ?k (fun _ _ _ _ _ _ us hl => match us, hl with | [_, _, _], _ => rfl)
      (case a => k_is); (case l => k_is); (case c => k_is); (case k => k_is)
    have F_sought_in : RH.Df (RH.kOf KX) mg "sought_in" RH.st_sought_in ["layout", "name"] := by
      refine' RH.df_mk KX G ?a ?l ?c ?k (fun _ _ _ _ _ _ us hl => match us, hl with | [_, _], _ => rfl)
      (case a => k_is); (case l => k_is); (case c => k_is); (case k => k_is)
    have F_is_known : RH.Df (RH.kOf KX) mg "is_known" RH.st_is_known ["layouts", "name"] := by
      refine' RH.df_mk KX G ?a ?l ?c ?k (fun _ _ _ _ _ _ us hl => match us, hl with | [_, _], _ => rfl)
      (case a => k_is); (case l => k_is); (case c => k_is); (case k => k_is)
    have F_parts_shown : RH.Df (RH.kOf KX) mg "parts_shown" RH.st_parts_shown ["habit", "layouts", "place"] := by
      refine' RH.df_mk KX G ?a ?l ?c ?k (fun _ _ _ _ _ _ us hl => match us, hl with | [_, _, _], _ => rfl)
      (case a => k_is); (case l => k_is); (case c => k_is); (case k => k_is)
    have F_least_looks_for : RH.Df (RH.kOf KX) mg "least_looks_for" RH.st_least_looks_for ["habit", "layouts", "name"] := by
      refine' RH.df_mk KX G ?a ?l ?c ?k (fun _ _ _ _ _ _ us hl => match us, hl with | [_, _, _], _ => rfl)
      (case a => k_is); (case l => k_is); (case c => k_is); (case k => k_is)
    have F_is_telling : RH.Df (RH.kOf KX) mg "is_telling" RH.st_is_telling ["habit", "layouts", "name", "value", "looks_left"] := by
      refine' RH.df_mk KX G ?a ?l ?c ?k (fun _ _ _ _ _ _ us hl => match us, hl with | [_, _, _, _, _], _ => rfl)
      (case a => k_is); (case l => k_is); (case c => k_is); (case k => k_is)
    have F_is_answer : RH.Df (RH.kOf KX) mg "is_answer" RH.st_is_answer ["value", "name", "places"] := by
      refine' RH.df_mk KX G ?a ?l ?c ?k (fun _ _ _ _ _ _ us hl => match us, hl with | [_, _, _], _ => rfl)
      (case a => k_is); (case l => k_is); (case c => k_is); (case k => k_is)
    have F__law_taken : RH.Df (RH.kOf KX) mg "_law_taken" RH.st__law_taken ["row", "many"] := by
      refine' RH.df_mk KX G ?a ?l ?c ?k (fun _ _ _ _ _ _ us hl => match us, hl with | [_, _], _ => rfl)
      (case a => k_is); (case l => k_is); (case c => k_is); (case k => k_is)
    have F__law_pick : RH.Df (RH.kOf KX) mg "_law_pick" RH.st__law_pick ["row", "things"] := by
      refine' RH.df_mk KX G ?a ?l ?c ?k (fun _ _ _ _ _ _ us hl => match us, hl with | [_, _], _ => rfl)
      (case a => k_is); (case l => k_is); (case c => k_is); (case k => k_is)
    have F__law_alike : RH.Df (RH.kOf KX) mg "_law_alike" RH.st__law_alike ["found", "due"] := by
      refine' RH.df_mk KX G ?a ?l ?c ?k (fun _ _ _ _ _ _ us hl => match us, hl with | [_, _], _ => rfl)
      (case a => k_is); (case l => k_is); (case c => k_is); (case k => k_is)
    have F__law_is : RH.Df (RH.kOf KX) mg "_law_is" RH.st__law_is ["found", "due"] := by
      refine' RH.df_mk KX G ?a ?l ?c ?k (fun _ _ _ _ _ _ us hl => match us, hl with | [_, _], _ => rfl)
      (case a => k_is); (case l => k_is); (case c => k_is); (case k => k_is)
    have F__law_permutation : RH.Df (RH.kOf KX) mg "_law_permutation" RH.st__law_permutation ["row", "many"] := by
      refine' RH.df_mk KX G ?a ?l ?c ?k (fun _ _ _ _ _ _ us hl => match us, hl with | [_, _], _ => rfl)
      (case a => k_is); (case l => k_is); (case c => k_is); (case k => k_is)
    have F__law_habit : RH.Df (RH.kOf KX) mg "_law_habit" RH.st__law_habit ["row", "many"] := by
      refine' RH.df_mk KX G ?a ?l ?c ?k (fun _ _ _ _ _ _ us hl => match us, hl with | [_, _], _ => rfl)
      (case a => k_is); (case l => k_is); (case c => k_is); (case k => k_is)
    have F__law_touch : RH.Df (RH.kOf KX) mg "_law_touch" RH.st__law_touch ["habit", "layout", "place"] := by
      refine' RH.df_mk KX G ?a ?l ?c ?k (fun _ _ _ _ _ _ us hl => match us, hl with | [_, _, _], _ => rfl)
      (case a => k_is); (case l => k_is); (case c => k_is); (case k => k_is)
    have F__law_some : RH.Df (RH.kOf KX) mg "_law_some" RH.st__law_some ["row", "many"] := by
      refine' RH.df_mk KX G ?a ?l ?c ?k (fun _ _ _ _ _ _ us hl => match us, hl with | [_, _], _ => rfl)
      (case a => k_is); (case l => k_is); (case c => k_is); (case k => k_is)
    have F__law_parted : RH.Df (RH.kOf KX) mg "_law_parted" RH.st__law_parted ["habit", "layouts", "place"] := by
      refine' RH.df_mk KX G ?a ?l ?c ?k (fun _ _ _ _ _ _ us hl => match us, hl with | [_, _, _], _ => rfl)
      (case a => k_is); (case l => k_is); (case c => k_is); (case k => k_is)
    have F__law_end : RH.Df (RH.kOf KX) mg "_law_end" RH.st__law_end ["layouts", "name"] := by
      refine' RH.df_mk KX G ?a ?l ?c ?k (fun _ _ _ _ _ _ us hl => match us, hl with | [_, _], _ => rfl)
      (case a => k_is); (case l => k_is); (case c => k_is); (case k => k_is)
    have F__law_tree : RH.Df (RH.kOf KX) mg "_law_tree" RH.st__law_tree ["habit", "layouts", "name"] := by
      refine' RH.df_mk KX G ?a ?l ?c ?k (fun _ _ _ _ _ _ us hl => match us, hl with | [_, _, _], _ => rfl)
      (case a => k_is); (case l => k_is); (case c => k_is); (case k => k_is)
    have F__law_follow : RH.Df (RH.kOf KX) mg "_law_follow" RH.st__law_follow ["habit", "layout", "tree", "name", "most"] := by
      refine' RH.df_mk KX G ?a ?l ?c ?k (fun _ _ _ _ _ _ us hl => match us, hl with | [_, _, _, _, _], _ => rfl)
      (case a => k_is); (case l => k_is); (case c => k_is); (case k => k_is)
    have F__law_told : RH.Df (RH.kOf KX) mg "_law_told" RH.st__law_told ["habit", "layouts", "name", "value"] := by
      refine' RH.df_mk KX G ?a ?l ?c ?k (fun _ _ _ _ _ _ us hl => match us, hl with | [_, _, _, _], _ => rfl)
      (case a => k_is); (case l => k_is); (case c => k_is); (case k => k_is)
    have F_law : RH.Df (RH.kOf KX) mg "law" RH.st_law ["script"] := by
      refine' RH.df_mk KX G ?a ?l ?c ?k (fun _ _ _ _ _ _ us hl => match us, hl with | [_], _ => rfl)
      (case a => k_is); (case l => k_is); (case c => k_is); (case k => k_is)
    obtain ⟨S, c0, c1, c2, c3, gS, gn, gl, en, el, b0, X1, X2, X3⟩ : ∃ (S c0 c1 c2 c3 : PySem.Addr), (mg "ShelfError" = some (.ref S)) ∧ (mg "BadNames" = some (.ref c2)) ∧ (mg "BadLayouts" = some (.ref c3)) ∧ (PySem.W.exmOne (RH.kOf KX) (.ref c2) (.ref c2) = some true) ∧ (PySem.W.exmOne (RH.kOf KX) (.ref c3) (.ref c3) = some true) ∧ (∀ w base, RH.BhX (PySem.Challenge.rw_restlesshelf_k86_whole_finding).prog w (RH.kOf KX) mg base "BadHabit" "place" c0 (RH.spBI "place" c0)) ∧ (RH.ExO (RH.kOf KX) mg "BadWord" c1) ∧ (RH.ExO (RH.kOf KX) mg "BadNames" c2) ∧ (RH.ExO (RH.kOf KX) mg "BadLayouts" c3) := by
      refine' Exists.elim (RH.errs_mk (PySem.Challenge.rw_restlesshelf_k86_whole_finding).prog KX G ?aS ?a0 ?a1 ?a2 ?a3 ?kp0 ?b0 ?t0 ?xg0 ?xk0 ?xd0 ?xa0 ?xm0 ?es0 ?q1 ?kp1 ?b1 ?t1 ?xg1 ?xk1 ?xd1 ?xa1 ?xm1 ?es1 ?q2 ?kp2 ?b2 ?t2 ?xg2 ?xk2 ?xd2 ?xa2 ?xm2 ?es2 ?q3 ?kp3 ?b3 ?t3 ?xg3 ?xk3 ?xd3 ?xa3 ?xm3 ?es3 ?ex2_2 ?ex3_3 ?xn ?xt ?yL0 ?yR0 ?ysa0 ?yno0 ?yi0 ?yt0 ?yl0 ?yc0 ?yo0 ?yf0 ?yk0 ?ym0 ?ys0 ?yv0 ?ya ?yg ?yp) (fun C hC => ⟨C, hC⟩)
      (case aS => k_is); (case a0 => k_is); (case a1 => k_is); (case a2 => k_is); (case a3 => k_is); (case kp0 => k_is); (case b0 => k_is); (case t0 => k_is)
      (case xg0 => k_is); (case xk0 => k_is); (case xd0 => k_is); (case xa0 => k_is); (case xm0 => k_is); (case es0 => kts_exm); (case q1 => k_exc); (case kp1 => k_is)
      (case b1 => k_is); (case t1 => k_is); (case xg1 => k_is); (case xk1 => k_is); (case xd1 => k_is); (case xa1 => k_is); (case xm1 => k_is); (case es1 => kts_exm)
      (case q2 => k_exc); (case kp2 => k_is); (case b2 => k_is); (case t2 => k_is); (case xg2 => k_is); (case xk2 => k_is); (case xd2 => k_is); (case xa2 => k_is)
      (case xm2 => k_is); (case es2 => kts_exm); (case q3 => k_exc); (case kp3 => k_is); (case b3 => k_is); (case t3 => k_is); (case xg3 => k_is); (case xk3 => k_is)
      (case xd3 => k_is); (case xa3 => k_is); (case xm3 => k_is); (case es3 => kts_exm); (case ex2_2 => kts_exm); (case ex3_3 => kts_exm); (case xn => k_is); (case xt => k_is)
      (case yL0 => k_is); (case yR0 => first | rfl | decide +kernel | kernel_rfl); (case ysa0 => k_is); (case yno0 => k_is); (case yi0 => k_is); (case yt0 => k_is); (case yl0 => k_is); (case yc0 => k_is)
      (case yo0 => k_is); (case yf0 => first | rfl | decide +kernel | kernel_rfl); (case yk0 => k_is); (case ym0 => k_is); (case ys0 => ks_is); (case yv0 => k_is); (case ya => k_is); (case yg => k_is)
      (case yp => first | rfl | decide +kernel | kernel_rfl)
    obtain ⟨fd, hb, hF⟩ := RH.top (P := (PySem.Challenge.rw_restlesshelf_k86_whole_finding).prog) (w := w) hmg B c_FEWEST_PLACES c_MOST_PLACES c_MOST_TOUCHES c_MOST_START_LAYOUTS c_MOST_LOOKS n_set n_dict gS gn gl en el (b0 w) X1 X2 X3 F_is_integer F_is_number F_is_row F_is_place F_are_places F_is_rising F_is_layout F_is_word F_check_habit F_check_layouts F_check_name F_check_word F_places_of_habit F_move F_move_along F_may_stand F_least_looks F_tells F_check_sought F_sought_in F_is_known F_parts_shown F_least_looks_for F_is_telling F_is_answer F__law_taken F__law_pick F__law_alike F__law_is F__law_permutation F__law_habit F__law_touch F__law_some F__law_parted F__law_end F__law_tree F__law_follow F__law_told F_law
    exact ⟨fd, hb, fun base _ _ => hF base⟩
