import PyProof.Rows.All
import Wide.All
import OpenK.AllK
import Wide.FinOn
import HandS.ForMost
import HandS.Exc
import HandS.TryOnly
import HandS.ExcOwn
import HandS.WordsExc
import HandS.IsInst
import HandS.Conv
import HandS.Sort
import HandS.SortInts
import HandS.Zip
import HandS.Zip0
import HandS.Wide
import HandS.Deep
import HandS.Flow
import HandS.Style
import HandS.TupAny
import KE.GoesEnum
import KE.KEqSeq
import KE.KEqDeep
import PyProof.TupleOfSeq
import HandS.Lambda
import HandS.Nested
import HandS.EndTab
import KE.KDictDisplayH
import KE.KDictCopyH
import KE.KIndexOf
import HandS.Dict
import HandS.DictTup
import HandS.TupLen
import HandS.Defaults
import HandS.SortRule
import KE.GoesZip
import HandS.ExcIs
import HandS.RaiseMore
import HandS.FStr
import HandS.Property
import KE.KExcSuper
import HandS.ExcInit
import HandS.ExcField
import HandS.TupMul
import PyProof.FString2
import HandS.Strs
import HandS.SetFor
import HandS.SetBool
import HandS.SetIn
import HandS.More
import KE.KDictSum
import PySem.Challenge.RW_restlesshelf_k04_whole_runs
set_option Elab.async false
set_option linter.all false
set_option maxRecDepth 100000
set_option maxHeartbeats 2000000
/-! Two rules more: a walk over enumerate of a tuple, sorted of a tuple of ints. -/
namespace RH
open PySem PySem.Spec PyProof.Rows L2
theorem made_enumB {v : Value} {o : Obj} {H : Heap → Prop} (B : Begins v o H) :
    Meets (Builtin.«enumerate.__new__» ⟨[.type "enumerate", v], []⟩) (fun _ R s => H s.heap ∧
      R (.ok (.ret (.ref (s.heap.push o).objs.size))) { s with heap := (s.heap.push o).push { cls := .type "enumerate", data := .fields #[.none, .bool false, .ref s.heap.objs.size, rawInt 0, .none, .none] } }) :=
  .of_wp fun prog w A R s h => by
    obtain ⟨hp, g, d, tz, oz⟩ := s; obtain ⟨h1, h⟩ := h
    have hsub := sub_enumerate
    have q1 : ∀ {A' : Around} {E : Value → Shared → Prop} {Q : Value → Shared → Prop}, Q (.ref hp.objs.size) ⟨hp.push o, g, d, tz, oz⟩ → wpAny (model prog w) A' (pyIter v) Q E ⟨hp, g, d, tz, oz⟩ :=
      fun q => B.iter prog w _ _ ⟨hp, g, d, tz, oz⟩ _ h1 q
    wp_walk using q1
    refine wpAny_stack_any fun st => wpAny_pure ?_
    split
    · rename_i c _ _ _ _ _
      cases (c == Value.type "enumerate")
      · wp_walk using q1
        exact ⟨_, rfl, h⟩
      · wp_walk using q1
        exact ⟨_, rfl, h⟩
    · wp_walk using q1
      exact ⟨_, rfl, h⟩
section
variable {prog : Program} {w : World} {A : Around} {E : Value → Shared → Prop} {s : Shared}
theorem enum_one {v : Value} {o : Obj} {H : Heap → Prop} {Q : Value → Shared → Prop} (B : Begins v o H) (h1 : H s.heap)
    (h : ∀ h', IsEnum h' (s.heap.objs.size + 1) s.heap.objs.size 0 .none → h'.get? s.heap.objs.size = some o → h'.objs.size = s.heap.objs.size + 2 →
      (∀ b o, s.heap.get? b = some o → h'.get? b = some o) → Q (.ref (s.heap.objs.size + 1)) { s with heap := h' }) :
    wpAny (model prog w) A (call (.type "enumerate") [v]) Q E s := by
  refine callType_new F.called_enumerate (by decide) (F.typeCall_enumerate_1 _) (F.newCall_enumerate_1 _) (fun obj => F.args_object_init_2 obj _) F.entry_enumerate_new
    (made_enumB B) ⟨h1, ?_⟩
  have hZ : (s.heap.push o).objs.size = s.heap.objs.size + 1 := Heap.size_push ..
  show _ ∧ _
  rw [hZ]
  have he : IsEnum ((s.heap.push o).push { cls := .type "enumerate", data := .fields #[.none, .bool false, .ref s.heap.objs.size, rawInt 0, .none, .none] }) (s.heap.objs.size + 1) s.heap.objs.size 0 .none := by
    have := Heap.get?_push_size (s.heap.push o) (o := { cls := .type "enumerate", data := .fields #[.none, .bool false, .ref s.heap.objs.size, rawInt 0, .none, .none] }) rfl
    rw [hZ] at this; exact this
  refine ⟨⟨_, he, rfl⟩, h _ he (Heap.get?_push_of_some _ (Heap.get?_push_size _ B.free)) (by rw [Heap.size_push, hZ]) fun b o x => Heap.get?_push_of_some _ (Heap.get?_push_of_some _ x)⟩
end
/-- the tuple at a, each item with vz number in a new pair -/
def IteT (K : PySem.W.Frag) (a : Addr) : It :=
  ⟨fun i H => ∃ (xs : List V) (x : V), SqT K H a xs ∧ xs[i]? = some x, fun i H v H' => ∃ T x, v = .ref T ∧ H T = none ∧ H' = upd H T (.tup [.int (i : Nat), x]) ∧ ∀ xs, SqT K H a xs → xs[i]? = some x, fun i H => ∃ xs : List V, SqT K H a xs ∧ xs.length ≤ i⟩
theorem ne_enum {h : Heap} {e it a : Addr} {i : Int} {old : Value} {vz : Array Value} (he : IsEnum h e it i old) (p : IsTup h a vz) : e ≠ a := fun z => by
  obtain ⟨o, hO, hC, _⟩ := p
  rw [← z, he] at hO
  cases hO
  exact absurd (Value.type.inj hC) (by decide)
theorem turn_enumT {P : Program} {w : World} {K : PySem.W.Frag} {elts : List Expr} {kk : Nat} {tpos : Pos} (a e it : Addr) :
    Turn P w K (.Tuple elts kk tpos) (IteT K a) [e, it] e (fun i h => (∃ old, IsEnum h e it ((i : Nat) : Int) old) ∧ h.IsTupleIter it a i ∧ e ≠ it ∧ a ≠ it) where
  mem := by simp
  obj := fun i h st b hb => by
    obtain ⟨⟨old, he⟩, ⟨o, hO, hC, hD⟩, _⟩ := st
    have e' : b = e ∨ b = it := by simpa using hb
    rcases e' with z | z
    · rw [z]; exact ⟨_, he, fun v q => nomatch q⟩
    · rw [z]; exact ⟨o, hO, fun v q => by rw [hD] at q; cases q⟩
  keep := fun i h h' st k => let ⟨⟨old, he⟩, hi, nEI⟩ := st; ⟨⟨old, k e (by simp) _ he⟩, hi.at fun o q => k it (by simp) o q, nEI⟩
  item := by
    intro X hP hw hK hC i pins s σ H E I hf st hg
    subst hP hw hK
    obtain ⟨⟨old, he⟩, hIt, nEI, nAI⟩ := st
    obtain ⟨xs, x, hSq, hx⟩ := hg
    obtain ⟨vz, rz, p, hZ⟩ := I.tuple hSq
    obtain ⟨u, hu, ru⟩ := rz.get hx
    have ltE : e < s.heap.objs.size := Heap.lt_size he
    have ltI : it < s.heap.objs.size := by obtain ⟨_, q, _⟩ := hIt; exact Heap.lt_size q
    have hlt : i < vz.toArray.size := by
      have := (List.getElem?_eq_some_iff.mp hu).1
      simpa using this
    refine wpAny_pyNext_enum_itemD (Draws.tuple (show X.A.in1.handled = none from I.ok.hd hC) it a nAI vz.toArray) he ⟨hIt, p⟩ hlt nEI (by
      intro hm
      have e' : e = it ∨ e = a := by simpa using hm
      rcases e' with z | z
      · exact nEI z
      · exact ne_enum he p z) fun x' h' tz hP' hO hit' hT hSz kp => ?_
    have ex : x' = u := by
      have h2 : vz.toArray[i]? = some u := by simpa using hu
      rw [h2] at hP'
      exact (Option.some.inj hP').symm
    subst ex
    refine ⟨_, rfl, wpAny_letOwnedTupleGo_enum (s := { s with heap := h', toks := tz + 1 }) hO fun h'' he' sbu => ?_⟩
    have hT2 : h''.get? s.heap.objs.size = some { cls := .type "tuple", data := .seq #[.int i tz, x'] } := (sbu.2 _ (Nat.ne_of_gt ltE)).trans hT
    have new : ObjOk X.prog X.w (upd H s.heap.objs.size (.tup [.int (i : Nat), x])) h'' s.heap.objs.size (.tup [.int (i : Nat), x]) :=
      ⟨by show 2 ≤ sizeLine; decide, [.int i tz, x'], .cons ⟨_, rfl⟩ (.cons ru .nil), ⟨_, hT2, rfl, _, rfl⟩⟩
    have I1 : Inv X pins σ (upd H s.heap.objs.size (.tup [.int (i : Nat), x])) { s with heap := h'', toks := tz + 1 } :=
      I.turnedNew (ch := [e, it]) (fun b ob hb q => (sbu.2 b (fun z => hb (by simp [z]))).trans (kp b ob (fun z => hb (by simp [z])) (fun z => hb (by simp [z])) q)) hf (Nat.le_refl _) new
    refine ⟨.ref s.heap.objs.size, _, I1, rfl, ⟨_, x, rfl, I.hok.fresh (Nat.le_refl _), rfl, fun ys hy => by rw [I.tuple_inj hy hSq]; exact hx⟩, ⟨⟨x', ?_⟩, hit'.1.at fun o q => (sbu.2 it (Ne.symm nEI)).trans q, nEI, nAI⟩, fun b hb => ?_⟩
    · have e1 : ((i + 1 : Nat) : Int) = (i : Int) + 1 := by omega
      rw [e1]; exact he'
    · have hb' : b < s.heap.objs.size := by
        have e' : b = e ∨ b = it := by simpa using hb
        rcases e' with z | z
        · rw [z]; exact ltE
        · rw [z]; exact ltI
      rw [upd_ne (Nat.ne_of_lt hb')]
      exact (hf b hb).1
  done := by
    intro X hP hw hK hC i pins s σ H E I hf st hg
    subst hP hw hK
    obtain ⟨⟨old, he⟩, hIt, nEI, nAI⟩ := st
    obtain ⟨xs, hSq, hx⟩ := hg
    obtain ⟨vz, rz, p, hZ⟩ := I.tuple hSq
    obtain ⟨f0, f1, f2, f3, f4, f5⟩ := hf it (by simp)
    have hl := rz.length
    have hT : s.TypeIs (.ref e) "enumerate" := ⟨_, he, rfl⟩
    unfold pyNext
    refine wpAny_bind (wpAny_attempt (wpAny_callSpecial?_slot (name := Str.ofString "__next__") hT F.slot_enumerate_next
      (wpAny_call_entry F.slot_enumerate_next hT F.entry_enumerate_next ?_ (F.args_enumerate_next_1 _))))
    show wpAny _ _ (field (.ref e) 2 >>= _) _ _ _
    refine wpAny_bind (wpAny_field he rfl (x := .ref it) rfl ?_)
    refine wpAny_bind (wpAny_nextOf_tuple_end (show X.A.in1.handled = none from I.ok.hd hC) hIt p (by simp; omega) fun h' x he' hx' => ?_)
    obtain ⟨o, hO, hc'⟩ := hx'
    refine wpAny_bind (wpAny_isInstance (T := "StopIteration") (b := true) ⟨o, hO, hc'⟩ isSubtype_stop ?_)
    exact wpAny_pure ⟨rfl, I.turned (t' := s.toks) (fun b o hb q => he' b o hb q) f0 f1 f3 f4 f5⟩
  self := fun A i s Q E st h => let ⟨⟨_, he⟩, _⟩ := st; wpAny_pyIter_enum he h
def iEnumT (K : PySem.W.Frag) (ta : TA) : TI := fun σ H R => ta σ H fun vs H1 => ∃ a xs, vs = [.ref a] ∧ SqT K H1 a xs ∧ R (IteT K a) H1
theorem pi_enumT {X : Cx} {e : Expr} {ta : TA} {p pos tpos : Pos} {elts : List Expr} {kk : Nat} (hg : Gl X "enumerate") (hm : X.mg "enumerate" = none) (ha : PA X [e] ta) (hs : starEach [e] X.env = [(false, eval e X.env)] := by rfl) :
    PI X (.Tuple elts kk tpos) (.Call (.Name "enumerate" p) [e] [] pos) (iEnumT X.K ta) := by
  refine ⟨fun pins s σ H R I h => ?_⟩
  refine Call_ (ld_blt I hg hm boot_enumerate (PyProof.Rows.callWith_type1 (thn (ha.run pos pins s σ H _ I h) fun us s1 ⟨vs, H1, I1, r1, q1⟩ => ?_) hs rfl))
  obtain ⟨a, xs, ex, hSq, q⟩ := q1
  subst ex
  cases r1 with
  | cons r rr =>
    cases rr
    cases r
    obtain ⟨vz, rz, p', hZ⟩ := I1.tuple hSq
    have hal : a < s1.heap.objs.size := by obtain ⟨_, q', _⟩ := id p'; exact Heap.lt_size q'
    refine enum_one (begins_tuple a vz.toArray) p' fun h' he hIt hSz kp => wpAny_pyIter_enum he ?_
    have I2 : Inv X pins σ H1 { s1 with heap := h' } := I1.kept (t' := s1.toks) kp
    refine ⟨s1.heap.objs.size + 1, [s1.heap.objs.size + 1, s1.heap.objs.size], _, _, H1, rfl, I2, turn_enumT a (s1.heap.objs.size + 1) s1.heap.objs.size, ⟨⟨.none, he⟩, ⟨_, hIt, rfl, rfl⟩, Nat.succ_ne_self _, Nat.ne_of_lt hal⟩, fun b hb => ?_, q⟩
    have e' : b = s1.heap.objs.size + 1 ∨ b = s1.heap.objs.size := by simpa using hb
    have hle : s1.heap.objs.size ≤ b := by
      rcases e' with z | z
      · rw [z]; exact Nat.le_add_right _ _
      · rw [z]; exact Nat.le_refl _
    exact I1.fpOk hle (I1.hok.fresh hle)
/-! ### sorted(a tuple of ints) -/
def rSortedTup (K : PySem.W.Frag) : List V → Hp → VK → Prop := fun vs H Q => ∃ (a : Addr) (ns : List Int), vs = [V.ref a] ∧ SqT K H a (ns.map V.int) ∧ ns.length < 64 ∧
  ∀ (ns' : List Int) (p : Addr), ns'.Perm ns → ns'.Pairwise (· ≤ ·) → H p = none → Q (.ref p) (upd H p (.lst (ns'.map V.int)))
section
variable {prog : Program} {w : World} {A : Around} {E : Value → Shared → Prop} {s : Shared}
theorem collect_tup {l : Addr} {vs : List Value} {Q : List Value → Shared → Prop} (hl : IsTup s.heap l vs.toArray)
    (h : Q vs { s with heap := (s.heap.push (seqObj "list" #[] 0)).update s.heap.objs.size (Obj.mapSeq (· ++ vs.toArray)) }) (hSz : vs.length ≤ sizeLine := by size_fits) :
    wpAny (model prog w) A (collect (.ref l)) Q E s := by
  obtain ⟨o, hO, hC, n, hD⟩ := id hl
  unfold collect
  refine wpAny_bind (wpAny_runValue (codeAny_builtin F.entry_proto_collect ?_))
  rw [Around.under_plainId F.plain_proto_collect _]
  show wpAny _ A.in1 (newList [] >>= fun l' => again (.builtin "list.__iadd__" ⟨[l', .ref l], []⟩)) _ _ s
  refine wpAny_bind (wpAny_newList (wpAny_pure ⟨plainId_quiet F.plain_list_iadd _, codeAny_builtin F.entry_list_iadd ?_⟩))
  rw [Around.under_plainId F.plain_list_iadd _]
  show wpAny _ _ (Builtin.List.listExtendWith (.ref s.heap.objs.size) (.ref l) (.ref s.heap.objs.size)) _ _ { s with heap := s.heap.push (seqObj "list" #[] 0) }
  unfold Builtin.List.listExtendWith
  have ho' : (s.heap.push (seqObj "list" #[] 0)).get? l = some o := Heap.get?_push_of_some _ hO
  refine wpAny_bind (wpAny_typeOf (T := "tuple") ⟨o, ho', hC⟩ ?_)
  have hT0 : (Value.type "tuple" == Value.type "tuple") = true := by rfl
  rw [if_pos (by rw [hT0]; simp)]
  refine wpAny_bind (listItems_at ho' hD ?_)
  refine wpAny_bind (listItems_at (xs := #[]) (n := 0) (Heap.get?_push_size _ rfl) rfl ?_)
  rw [if_neg (by simp)]
  refine wpAny_bind (listUpdate_at (xs := #[]) (n := 0) (Heap.get?_push_size _ rfl) rfl ?_ (Nat.zero_le _) (by show (#[] ++ vs.toArray).size ≤ sizeLine + 1; simp only [Array.size_append, List.size_toArray, List.length_nil]; omega))
  refine wpAny_pure ?_
  show wpAny (model prog w) A (do
      let o ← load s.heap.objs.size
      match o.data with
      | .seq xs _ => pure xs.toList
      | _ => unsupported "internal:collect") Q E { s with heap := (s.heap.push (seqObj "list" #[] 0)).update s.heap.objs.size (Obj.mapSeq (· ++ vs.toArray)) }
  refine wpAny_bind (wpAny_load (get?_update_seq (Heap.get?_push_size _ rfl) _) ?_)
  show wpAny _ _ (pure ((#[] : Array Value) ++ vs.toArray).toList) Q E _
  rw [show ((#[] : Array Value) ++ vs.toArray).toList = vs by simp]
  exact wpAny_pure h
theorem sorted_intsT {l : Addr} {vs : List Value} {ns : List Int} {Q : Value → Shared → Prop} (hl : IsTup s.heap l vs.toArray) (hI : IntsAre vs ns) (h64 : vs.length < 64)
    (h : ∀ (out : Array Value) (ns' : List Int), IntsAre out.toList ns' → ns'.Perm ns → ns'.Pairwise (· ≤ ·) → Q (.ref (s.heap.objs.size + 1)) { s with heap := sortedAll s.heap vs out }) :
    wpAny (model prog w) A (call (.builtin "sorted") [.ref l]) Q E s := by
  refine Calls.call_function_entry kind_sorted plain_sorted entry_sorted (args_sorted1 _) ?_
  unfold Builtin.«sorted»
  refine wpAny_bind (m := checkCount "sorted" 1 1 _) (wpAny_pure ?_)
  have hsz0 : vs.length ≤ sizeLine := by
    rw [sizeLine_eq]
    omega
  refine wpAny_bind (collect_tup (hSz := hsz0) hl ?_)
  refine wpAny_bind (wpAny_newList ?_)
  have hSz : ((s.heap.push (seqObj "list" #[] 0)).update s.heap.objs.size (Obj.mapSeq (· ++ vs.toArray))).objs.size = s.heap.objs.size + 1 := by
    rw [Heap.size_update, size_push']
  have hOL : (((s.heap.push (seqObj "list" #[] 0)).update s.heap.objs.size (Obj.mapSeq (· ++ vs.toArray))).push (seqObj "list" vs.toArray 0)).get? (s.heap.objs.size + 1) = some (seqObj "list" vs.toArray 0) := by
    rw [← hSz]; exact Heap.get?_push_size _ rfl
  show wpAny _ _ _ _ _ { s with heap := ((s.heap.push (seqObj "list" #[] 0)).update s.heap.objs.size (Obj.mapSeq (· ++ vs.toArray))).push (seqObj "list" vs.toArray 0) }
  rw [hSz]
  refine wpAny_bind (wpAny_holding (wpAny_call_entry slot_list_sort ⟨_, hOL, rfl⟩ entry_list_sort (list_sort_tree hOL hI h64 fun out ns' a1 a2 a3 => ⟨_, rfl, ?_⟩) (args_list_sort _)))
  exact wpAny_pure ⟨_, rfl, h out ns' a1 a2 a3⟩
end
theorem cr_sortedTup {X : Cx} : CallR X (.builtin "sorted") (rSortedTup X.K) := by
  intro pins s σ H vs us Q I r h
  obtain ⟨a, ns, rfl, hs, h64, q⟩ := h
  obtain ⟨vz, rz, hl, _⟩ := I.tuple hs
  rw [Vals.ref1 r]
  have hi := rz.ints
  refine sorted_intsT hl hi (by rw [hi.length]; exact h64) fun out ns' h1 h2 h3 => ?_
  obtain ⟨ep, he'⟩ := PyProof.Rows.sortedAll_at s.heap vz out
  have hLn : (ns'.map V.int).length ≤ sizeLine := by rw [List.length_map, h2.length_eq]; exact small64 h64
  exact ⟨.ref _, upd H (s.heap.objs.size + 1) (.lst (ns'.map V.int)), I.laid (t' := s.toks) (fun _ _ => PyProof.Rows.sortedAll_old) (Nat.le_succ _) ⟨hLn, out.toList, ep, vals_of_ints h1, he'⟩, rfl, q ns' _ h2 h3 (I.hok.fresh (Nat.le_succ _))⟩
end RH
set_option Elab.async false
set_option linter.all false
set_option maxRecDepth 100000
set_option maxHeartbeats 2000000
/-! Lambdas with parameters and captured names, as values: made, handed to a def of the text, called there. -/
namespace RH
open PySem PySem.Spec PyProof.Rows L2
open LamX (Tabs TabS TabB ExtN CodeO codeO_ne inv_table among_app)
open NdefX (NF CellsAt NScope startF ncx inv_startN codeO_at slotAt Caps cells_of upd_none)
/-- a lambda's words, what it captured, its code object -/
structure LF where
  qual : Str
  params : Arguments
  body : Expr
  scope : Scope
  cl : List (Str × Addr)
  c : Addr
abbrev LF.fd (F : LF) (pm ctv : Value) : FuncData := PySem.W.kla_fn "<lambda>" F.qual F.params F.body F.scope F.cl pm (.ref F.c) ctv
/-- the object at f is this lambda -/
def FnL (f : Addr) (F : LF) : HO := .ext fun h => ∃ (od : Option Addr) (sl : Array (Option Value)) (pm ctv : Value), h.get? f = some (⟨.type "function", od, .func (F.fd pm ctv), sl⟩ : Obj)
theorem fnL_ne {f : Addr} {F : LF} (ps : Array Value) : FnL f F ≠ .tbl ps := fun z => by
  unfold FnL at z
  cases z
/-! ### what a lambda promises -/
/-! ### a def that is handed things that can be called -/
end RH
set_option Elab.async false
set_option linter.all false
set_option maxRecDepth 100000
set_option maxHeartbeats 2000000
/-! Dicts with tuples for keys: one pair written out, their values; where an int stands in a tuple. -/
set_option Elab.async false
set_option linter.all false
set_option maxRecDepth 100000
set_option maxHeartbeats 2000000
/-! Tuples told by their very object, and dicts whose keys are such tuples of ints. -/
namespace RH
open PySem PySem.Spec PyProof.Rows L2
def keyOf (s : List Int) : List L2.Key := s.map Sum.inl
theorem keyOf_kV (s : List Int) : (keyOf s).map kV = s.map V.int := by
  unfold keyOf
  rw [List.map_map]
  rfl
theorem mapInt_inj : ∀ {s t : List Int}, s.map V.int = t.map V.int → s = t
  | [], [], _ => rfl
  | [], _ :: _, e => by simp at e
  | _ :: _, [], e => by simp at e
  | a :: s, b :: t, e => by
    rw [List.map_cons, List.map_cons] at e
    injection e with e1 e2
    rw [V.int.inj e1, mapInt_inj e2]
theorem keyOf_inj {s t : List Int} (h : keyOf s = keyOf t) : s = t := by
  have e : (keyOf s).map kV = (keyOf t).map kV := by rw [h]
  rw [keyOf_kV, keyOf_kV] at e
  exact mapInt_inj e
/-- b is a tuple of these ints -/
def KX (H : Hp) (b : Addr) (s : List Int) : Prop := Rd H b (.tup (s.map V.int))
/-- the same, and its very object is known, one without a dict -/
def FT (H : Hp) (b : Addr) (s : List Int) : Prop := ∃ ob, H b = some (.frz ob (.tup (s.map V.int))) ∧ ob.dict = none
theorem FT.kx {H : Hp} {b : Addr} {s : List Int} (h : FT H b s) : KX H b s := let ⟨ob, h, _⟩ := h; .inr ⟨ob, h⟩
inductive XS : List (List Int × V) → List Addr → List (List L2.Key × Addr × Value) → Prop
  | nil : XS [] [] []
  | cons {q : List Int × V} {b : Addr} {u : Value} {as : List (List Int × V)} {bs : List Addr} {xs : List (List L2.Key × Addr × Value)} : RelV q.2 u → XS as bs xs → XS (q :: as) (b :: bs) ((keyOf q.1, b, u) :: xs)
inductive KB (H : Hp) : List (List Int × V) → List Addr → Prop
  | nil : KB H [] []
  | cons {q : List Int × V} {b : Addr} {as : List (List Int × V)} {bs : List Addr} : KX H b q.1 → KB H as bs → KB H (q :: as) (b :: bs)
theorem KB.snoc {H : Hp} {q : List Int × V} {b : Addr} (h : KX H b q.1) : ∀ {as : List (List Int × V)} {bs : List Addr}, KB H as bs → KB H (as ++ [q]) (bs ++ [b])
  | _, _, .nil => .cons h .nil
  | _, _, .cons g t => .cons g (t.snoc h)
theorem KB.imp {H H' : Hp} (f : ∀ b s, KX H b s → KX H' b s) : ∀ {as : List (List Int × V)} {bs : List Addr}, KB H as bs → KB H' as bs
  | _, _, .nil => .nil
  | _, _, .cons g t => .cons (f _ _ g) (t.imp f)
theorem XS.len : ∀ {as : List (List Int × V)} {bs : List Addr} {xs : List (List L2.Key × Addr × Value)}, XS as bs xs → xs.length = as.length
  | _, _, _, .nil => rfl
  | _, _, _, .cons _ t => congrArg (· + 1) t.len
theorem XS.snoc {q : List Int × V} {b : Addr} {u : Value} (h : RelV q.2 u) : ∀ {as : List (List Int × V)} {bs : List Addr} {xs : List (List L2.Key × Addr × Value)}, XS as bs xs → XS (as ++ [q]) (bs ++ [b]) (xs ++ [(keyOf q.1, b, u)])
  | _, _, _, .nil => .cons h .nil
  | _, _, _, .cons g t => .cons g (t.snoc h)
theorem atKey_neg {x : List L2.Key × Addr × Value} {xs : List (List L2.Key × Addr × Value)} {k : List L2.Key} (e : ¬ x.1 = k) : atKey (x :: xs) k = atKey xs k := by simp [atKey, List.find?_cons, e]
theorem XS.no {s : List Int} : ∀ {as : List (List Int × V)} {bs : List Addr} {xs : List (List L2.Key × Addr × Value)}, XS as bs xs → s ∉ as.map Prod.fst → atKey xs (keyOf s) = none
  | _, _, _, .nil, _ => rfl
  | _, _, _, .cons g t, h => (atKey_neg fun e => h (by rw [← keyOf_inj e]; exact List.mem_cons_self ..)).trans (t.no fun z => h (List.mem_cons_of_mem _ z))
theorem key_ofR {P : Program} {w : World} {H : Hp} {h : Heap} {a : Addr} {s : List Int} (ok : HOk P w H h) (e : KX H a s) : (tupleKind (mixKind P w)).is h (keyOf s) a := by
  obtain ⟨_, its, r, o, h1, h2, n, h3⟩ := (show ObjOk P w H h a (.tup (s.map V.int)) from e.ok ok)
  rw [← keyOf_kV] at r
  exact ⟨o, its.toArray, n, h1, h2, h3, by simpa using items_are r⟩
theorem XS.keys {P : Program} {w : World} {H : Hp} {h : Heap} (ok : HOk P w H h) : ∀ {as : List (List Int × V)} {bs : List Addr} {xs : List (List L2.Key × Addr × Value)}, XS as bs xs → KB H as bs → ∀ x ∈ xs, (tupleKind (mixKind P w)).is h x.1 x.2.1
  | _, _, _, .nil, _, x, hx => nomatch hx
  | _, _, _, .cons g t, .cons k r, x, hx => by
    rcases List.mem_cons.mp hx with e | hx
    · subst e
      exact key_ofR ok k
    · exact t.keys ok r x hx
/-- the dict at d: as with its values, bs its keys' tuples -/
abbrev DE (P : Program) (w : World) (as : List (List Int × V)) (bs : List Addr) (d : Addr) : HO := .ext fun h => (d == sysModules) = false ∧ as.length ≤ sizeLine ∧ ∃ xs : List (List L2.Key × Addr × Value), XS as bs xs ∧
  ∃ o es ep, h.get? d = some o ∧ o.ExactDict ∧ o.data = .dict es ep ∧ es.toList = xs.map (entryOfKey (tupleKind (mixKind P w))) ∧ (xs.map (·.1)).Nodup
theorem DE.ok {P : Program} {w : World} {H : Hp} {h : Heap} {as : List (List Int × V)} {bs : List Addr} {d : Addr} {xs : List (List L2.Key × Addr × Value)} (hd : (d == sysModules) = false) (hl : as.length ≤ sizeLine) (hx : XS as bs xs) (dd : h.DictOfH (tupleKind (mixKind P w)) d xs) : ObjOk P w H h d (DE P w as bs d) := by
  obtain ⟨o, es, ep, h1, h2, h3, h4, _, h5⟩ := dd
  refine ⟨⟨hd, hl, xs, hx, o, es, ep, h1, h2, h3, h4, h5⟩, ⟨o, h1⟩, fun h1 h2 ⟨a1, a2, xs, a3, o, es, ep, b1, b2⟩ k => ⟨a1, a2, xs, a3, o, es, ep, k _ b1, b2⟩⟩
/-! ### the rules -/
section
variable {X : Cx} {o i k v value : Expr} {pos pos' tpos : Pos} {td ty tk tv : TE}
/-- tuple(xs) of a list, told by its very object -/
def kTupF (K : PySem.W.Frag) (x : V) (H : Hp) (Q : VK) : Prop := ∃ p xs, x = .ref p ∧ SqL K H p xs ∧ ∀ q ob, H q = none → ob.dict = none → Q (.ref q) (upd H q (.frz ob (.tup xs)))
theorem pe_tupleF {a : Expr} {ta : TE} {p : Pos} (hg : Gl X "tuple") (hm : X.mg "tuple" = none) (ha : PE X a ta) (na : starEach [a] X.env = (false, eval a X.env) :: starEach [] X.env := by rfl) : PE X (.Call (.Name "tuple" p) [a] [] pos) (tThen ta (kTupF X.K)) := by
  refine ⟨fun pins s σ H Q I h => ?_⟩
  refine Call_ (ld_blt I hg hm boot_tuple (PyProof.Rows.callWith_type1 (one_arg ha I h (fun v s2 x H2 I2 r q => ?_) na) na))
  obtain ⟨p, xs, rfl, hs, q⟩ := q
  obtain rfl : v = .ref p := r
  obtain ⟨its, rv, pl, hz⟩ := I2.list hs
  refine call_tuple_list pl.isList (fun h' hk => ?_) (by rw [List.size_toArray, ← rv.length]; exact hz)
  have I3 : Inv X pins σ H2 { s2 with heap := h' } := I2.kept (t' := s2.toks) hk
  have e : (h'.push { cls := .type "tuple", data := .seq its.toArray }).get? h'.objs.size = some { cls := .type "tuple", data := .seq its.toArray } := Heap.get?_push_size _ rfl
  have I4 : Inv X pins σ (upd H2 h'.objs.size (.frz { cls := .type "tuple", data := .seq its.toArray } (.tup xs))) { s2 with heap := h'.push { cls := .type "tuple", data := .seq its.toArray } } :=
    I3.laid (t' := s2.toks) (fun b o e => Heap.get?_push_of_some _ e) (Nat.le_refl _) ⟨e, hz, its, rv, IsTup.new _ _⟩
  exact ⟨.ref h'.objs.size, _, I4, rfl, q _ _ (I3.hok.fresh (Nat.le_refl _)) rfl⟩
end
end RH
set_option Elab.async false
set_option linter.all false
set_option maxRecDepth 100000
set_option maxHeartbeats 2000000
/-! Sorted lists of tuples of ints, of any length; more rules for dicts whose keys are such tuples. -/
namespace RH
open PySem PySem.Spec PyProof.Rows L2
open SrtO (Swo Srtd Stb SortableO Cmp lt2)
open TS (TupInts intsOf code Bd lex_ints firsts_of)
/-- each of xs is a tuple of the ints -/
inductive EX (H : Hp) : List V → List (List Int) → Prop
  | nil : EX H [] []
  | cons {b : Addr} {s : List Int} {xs : List V} {ls : List (List Int)} : KX H b s → EX H xs ls → EX H (.ref b :: xs) (s :: ls)
theorem EX.len {H : Hp} : ∀ {xs : List V} {ls : List (List Int)}, EX H xs ls → xs.length = ls.length
  | _, _, .nil => rfl
  | _, _, .cons _ t => congrArg (· + 1) t.len
theorem EX.imp {H H' : Hp} (f : ∀ b s, KX H b s → KX H' b s) : ∀ {xs : List V} {ls : List (List Int)}, EX H xs ls → EX H' xs ls
  | _, _, .nil => .nil
  | _, _, .cons g t => .cons (f _ _ g) (t.imp f)
theorem EX.snoc {H : Hp} {b : Addr} {s : List Int} (h : KX H b s) : ∀ {xs : List V} {ls : List (List Int)}, EX H xs ls → EX H (xs ++ [.ref b]) (ls ++ [s])
  | _, _, .nil => .cons h .nil
  | _, _, .cons g t => .cons g (t.snoc h)
theorem EX.at {H : Hp} : ∀ {xs : List V} {ls : List (List Int)} {i : Nat} {s : List Int}, EX H xs ls → ls[i]? = some s → ∃ b, xs[i]? = some (V.ref b) ∧ KX H b s
  | _, _, _, _, .nil, e => by simp at e
  | _, _, 0, _, .cons h _, e => by
    cases Option.some.inj e
    exact ⟨_, rfl, h⟩
  | _, _, i + 1, _, .cons _ t, e => t.at (i := i) e
theorem EX.of {P : Program} {w : World} {H : Hp} {h : Heap} : ∀ {out : List Value}, (∀ v ∈ out, ∃ b, v = Value.ref b ∧ KX H b (intsOf h v)) → Vals (out.map backV) out ∧ EX H (out.map backV) (out.map (intsOf h))
  | [], _ => ⟨.nil, .nil⟩
  | v :: out, hv => by
    obtain ⟨r, e⟩ := EX.of (P := P) (w := w) (H := H) (h := h) (out := out) fun u hu => hv u (List.mem_cons_of_mem _ hu)
    obtain ⟨b, rfl, k⟩ := hv v (List.mem_cons_self ..)
    exact ⟨.cons rfl r, .cons k e⟩
end RH
set_option Elab.async false
set_option linter.all false
set_option maxRecDepth 100000
set_option maxHeartbeats 2000000
namespace RH
open PySem PySem.Spec PyProof.Rows L2
open SrtO (Swo Srtd Stb SortableO Cmp lt2)
open TS (TupInts intsOf code Bd lex_ints firsts_of)
theorem KB.ex {H : Hp} : ∀ {as : List (List Int × V)} {bs : List Addr}, KB H as bs → EX H (bs.map V.ref) (as.map Prod.fst)
  | _, _, .nil => .nil
  | _, _, .cons g t => .cons g t.ex
/-! ### get, in, a new one, [..] = -/
end RH
set_option Elab.async false
set_option linter.all false
set_option maxRecDepth 100000
set_option maxHeartbeats 2000000
/-! Lambdas that a def hands back: the cells that they caught are tracked from then on. -/
namespace RH
open PySem PySem.Spec PyProof.Rows L2
open LamX (Tabs TabS TabB ExtN CodeO codeO_ne)
open NdefX (NF CellsAt NScope startF ncx codeO_at slotAt Caps cells_of)
/-- the cell at c holds v -/
def CellO (c : Addr) (v : V) : HO := .ext fun h => ∃ u, L2.RelV v u ∧ h.IsCell c (some u)
theorem cellO_ne {c : Addr} {v : V} : (∀ y, CellO c v ≠ .own y) ∧ (∀ xs, CellO c v ≠ .tup xs) ∧ (∀ o u, CellO c v ≠ .frz o u) ∧ (∀ ps, CellO c v ≠ .tbl ps) := by
  unfold CellO
  exact ⟨fun _ z => (nomatch z), fun _ z => (nomatch z), fun _ _ z => (nomatch z), fun _ z => (nomatch z)⟩
abbrev CL := List (Addr × V)
/-- without the cells, with them -/
def era (l : CL) (H : Hp) : Hp := fun b => match l.lookup b with
  | some _ => none
  | none => H b
def lay (l : CL) (H : Hp) : Hp := fun b => match l.lookup b with
  | some v => some (CellO b v)
  | none => H b
theorem era_in {l : CL} {H : Hp} {b : Addr} {v : V} (e : l.lookup b = some v) : era l H b = none := by
  unfold era
  rw [e]
theorem era_no {l : CL} {H : Hp} {b : Addr} (e : l.lookup b = none) : era l H b = H b := by
  unfold era
  rw [e]
theorem lay_in {l : CL} {H : Hp} {b : Addr} {v : V} (e : l.lookup b = some v) : lay l H b = some (CellO b v) := by
  unfold lay
  rw [e]
theorem lay_no {l : CL} {H : Hp} {b : Addr} (e : l.lookup b = none) : lay l H b = H b := by
  unfold lay
  rw [e]
/-- the cells stand -/
def Stand (l : CL) (H : Hp) : Prop := ∀ b v, l.lookup b = some v → H b = some (CellO b v)
theorem Stand.ext {l : CL} {H H' : Hp} (s : Stand l H) (e : ExtN H H') : Stand l H' := fun b v q => e b _ (s b v q) cellO_ne.2.2.2
theorem Stand.same {l : CL} {H H' : Hp} (s : Stand l H) (e : Same H H') : Stand l H' := fun b v q => e b _ (s b v q)
theorem Stand.cases {l : CL} {H : Hp} (s : Stand l H) {b : Addr} {o : HO} (e : H b = some o) : (∃ v, l.lookup b = some v ∧ o = CellO b v) ∨ (l.lookup b = none ∧ era l H b = some o) := by
  cases q : l.lookup b with
  | some v => exact .inl ⟨v, rfl, Option.some.inj (e.symm.trans (s b v q))⟩
  | none => exact .inr ⟨rfl, (era_no q).trans e⟩
theorem Stand.tup {l : CL} {H : Hp} (s : Stand l H) {b : Addr} {xs : List V} (e : H b = some (.tup xs)) : era l H b = some (.tup xs) := by
  rcases s.cases e with ⟨v, _, z⟩ | ⟨_, z⟩
  · exact absurd z.symm (cellO_ne.2.1 xs)
  · exact z
theorem Stand.frz {l : CL} {H : Hp} (s : Stand l H) {b : Addr} {o : Obj} {u : HO} (e : H b = some (.frz o u)) : era l H b = some (.frz o u) := by
  rcases s.cases e with ⟨v, _, z⟩ | ⟨_, z⟩
  · exact absurd z.symm (cellO_ne.2.2.1 o u)
  · exact z
theorem Stand.rd {l : CL} {H : Hp} (s : Stand l H) {b : Addr} {xs : List V} (e : Rd H b (.tup xs)) : Rd (era l H) b (.tup xs) := by
  rcases e with e | ⟨o, e⟩
  · exact .inl (s.tup e)
  · exact .inr ⟨o, s.frz e⟩
/-- the heap with the cells goes on as the one without them does -/
theorem Stand.on {l : CL} {H H2 : Hp} (s : Stand l H) (e : Same (era l H) H2) : Same H (RH.lay l H2) := fun b o q => by
  rcases s.cases q with ⟨v, z, rfl⟩ | ⟨z, y⟩
  · exact lay_in z
  · exact (lay_no z).trans (e b o y)
theorem Stand.hok {P : Program} {w : World} {l : CL} {H : Hp} {h : Heap} (s : Stand l H) (k : HOk P w H h) : HOk P w (era l H) h := fun a o e => by
  cases q : l.lookup a with
  | some v =>
    rw [era_in q] at e
    cases e
  | none =>
    rw [era_no q] at e
    refine (k a o e).stay (fun _ _ _ z => z) (fun b z => ?_) fun b xs z => s.tup z
    rcases s.cases z with ⟨v, _, y⟩ | ⟨_, y⟩
    · exact absurd y.symm (cellO_ne.1 a)
    · exact y
/-- the lambda at f stands, with its code and its cells -/
structure LiveK (f : Addr) (F : LF) (l : CL) (H : Hp) : Prop where
  fn : H f = some (FnL f F)
  code : H F.c = some (CodeO F.c F.qual)
  st : Stand l H
theorem LiveK.same {f : Addr} {F : LF} {l : CL} {H H' : Hp} (k : LiveK f F l H) (e : Same H H') : LiveK f F l H' := ⟨e _ _ k.fn, e _ _ k.code, k.st.same e⟩
theorem LiveK.ext {f : Addr} {F : LF} {l : CL} {H H' : Hp} (k : LiveK f F l H) (e : ExtN H H') : LiveK f F l H' := ⟨e _ _ k.fn (fun ps => fnL_ne ps), e _ _ k.code (fun ps => codeO_ne ps), k.st.ext e⟩
/-! ### a body that ends with a return, its names kept -/
end RH
set_option Elab.async false
set_option linter.all false
set_option maxRecDepth 100000
set_option maxHeartbeats 2000000
/-! A walk over zip of a tuple and a list. -/
set_option Elab.async false
set_option linter.all false
set_option maxRecDepth 100000
set_option maxHeartbeats 2000000
/-! Defs and methods that may raise, lambdas handed back that are called without arguments and may raise, what an except suite asks of its error. -/
namespace RH
open PySem PySem.Spec PyProof.Rows L2
open LamX (Tabs TabS TabB ExtN CodeO codeO_ne)
open NdefX (NF CellsAt NScope startF ncx codeO_at slotAt Caps cells_of)
section
variable {P : Program} {w : World} {K : PySem.W.Frag} {mg : Str → Option Value} {base : Heap}
/-- a method that errors may leave -/
structure MetX (P : Program) (w : World) (K : PySem.W.Frag) (mg : Str → Option Value) (base : Heap) (k : Nat) (C : Addr) (m : Str) (sp : Sp) : Prop where
  ex : ∃ (f : Addr) (fd : FuncData) (ps : List Str), FnOk P w K mg base (L2.CX P w) k f fd ps sp ∧ Meth K C m f ∧ Binds K fd ps []
end
section
variable {X : Cx} {C : Addr} {m : Str} {sp : Sp} {E : XK} {k j : Nat} {pos apos : Pos} {e o : Expr} {es : List Expr} {ta : TE} {t : TA}
theorem pmX {pl : Sem Bool} (M : MetX X.prog X.w X.K X.mg X.base k C m sp) (c : Cls X.K C) (hx : Passes (L2.CX X.prog X.w) X E) (hr : Room j X.A) (he : PE X o ta) (ha : PA X (e :: es) t) (hk : k ≤ j := by decide)
    (hst : starEach (e :: es) X.env = (false, eval e X.env) :: starEach es X.env := by rfl) (hpl : (backTo pos (starEach es X.env)).any (·.1) = false := by rfl)
    (ht : eval (.Call (.Attribute o m apos) (e :: es) [] pos) X.env = (do
      let ov ← eval o X.env
      standAt apos.atName
      let (f, first) ← holding [ov] (getMethod ov m pl)
      callWith pos f first (backTo pos (starEach (e :: es) X.env)) (backToKw pos (keywordEach [] X.env))) := by rfl) :
    PE X (.Call (.Attribute o m apos) (e :: es) [] pos) (tMeth C m sp [] E ta t) := by
  obtain ⟨f, fd, ps, F, hm, b⟩ := M.ex
  exact pe_meth he c hm F (hr.mono hk) b .nil hx ha hst hpl ht
end
/-! ### a lambda that was handed back, called without arguments -/
/-! ### what an except suite asks of its error -/
/-! ### list.count of flat things -/
/-- what leaves a def that may raise -/
theorem passE {P : Program} {w : World} {K : PySem.W.Frag} {mg : Str → Option Value} {base : Heap} {N : List Str} {qual : Str} {scope : Scope} {f : Addr} {cd : Value} {A : Around} {outer : List Env} {s : Shared} {H : Hp} {E : XK} :
    Passes (L2.CX P w) (cxOf (L2.CX P w) P w K mg base N qual scope f cd A outer s H E) E := passes_call (W := fun cls d _ H => E cls d H) (takes_of rfl rfl rfl rfl) (fun _ _ _ _ h => h)
theorem takesE {P : Program} {w : World} {K : PySem.W.Frag} {mg : Str → Option Value} {base : Heap} {N : List Str} {qual : Str} {scope : Scope} {f : Addr} {cd : Value} {A : Around} {outer : List Env} {s : Shared} {H : Hp} {E : XK} :
    Takes (cxOf (L2.CX P w) P w K mg base N qual scope f cd A outer s H E) (fun cls d _ H => E cls d H) := takes_of rfl rfl rfl rfl
end RH
set_option Elab.async false
set_option linter.all false
set_option maxRecDepth 100000
set_option maxHeartbeats 4000000
/-! own errors whose __init__ asks super().__init__ first -/
namespace L2
open PySem PySem.Calls PySem.Spec PyProof.Rows PySem.W
open NdefX (NScope NF CellsAt startF ncx envF inv_startN)
section
variable {X : Cx} {pins : List (Addr × Obj)} {σ : St} {H : Hp} {s : Shared} {a C u : Addr} {E : Value → Shared → Prop} {A : Around}
/-- the bound ValueError.__init__ is called: nothing of it is told -/
theorem call_mw {us : List Value} {Q : Value → Shared → Prop} (T : OexC X.K C) (I : Inv X pins σ H s) (hu : s.heap.get? u = some (kxs_mw "ValueError.__init__" a)) (e : H a = some (exo a C none)) (hl : us.length ≤ sizeLine) (h : ∀ s', Inv X pins σ H s' → Q .none s') :
    wpAny (model X.prog X.w) A (call (.ref u) us) Q E s := by
  obtain ⟨nm, q, N, bs, bm, sn, sub, ab, col, dd, k0, k1, k2, k3, k5, hC, hbm⟩ := T.cls
  obtain ⟨t1, ho⟩ := exo_at I.hok e
  obtain ⟨hp, g, d, t, os⟩ := s
  refine wpAny_call (codeAny_of_tree ?_)
  show wpAny _ A.in1 (callAny (.ref u) ⟨us, []⟩) _ _ _
  simp only [callAny]
  refine wpAny_bind (wpAny_load hu ?_)
  simp only [kxs_mw, show (Value.type "method-wrapper" == Value.type "method" || Value.type "method-wrapper" == Value.type "builtin_function_or_method" || Value.type "method-wrapper" == Value.type "method-wrapper") = true by decide, if_true]
  refine KFB.if_so (by decide) ?_
  refine wpAny_bind (check_bound_init PySem.F.excBase_ValueError.toExcCallFacts (I.kIn _ _ hC) ho rfl ?_)
  refine wpAny_bind (wpAny_pure (wpAny_pure ?_))
  refine ⟨plainId_quiet PySem.F.excBase_ValueError.init.plain _, codeAny_builtin PySem.F.excBase_ValueError.initEntry ?_⟩
  refine exc_init_tree (cls := .ref C) (t0 := t1) (dv := none) (c2 := .none) (c3 := .none) (b4 := .bool false) ho hl fun h' k hx _ => ?_
  have J := I.write (t' := t) (x := a) (e := a) (o := exo a C none) (by rw [e]; exact True.intro) (.inl rfl) k ⟨_, hx⟩ (exo_ok hx)
  have eu : upd H a (exo a C none) = H := by
    funext b
    by_cases hb : b = a
    · rw [hb, upd_same, e]
    · rw [upd_ne hb]
  rw [eu] at J
  exact h _ J
end
theorem mw_args {M : Model} {i : String} {a u : Addr} {s : Shared} {A : Around} {E : Value → Shared → Prop} {pos : Pos} {env : Env} {e : Expr} {es : List Expr} {Q : Value → Shared → Prop}
    (h : wpAny M A (spliced (backTo pos (starEach (e :: es) env))) (fun vs s₁ => KxsAt i u a s₁.heap ∧ wpAny M A (call (.ref u) vs) Q E s₁) E s)
    (he : starEach (e :: es) env = (false, eval e env) :: starEach es env) (hp : (backTo pos (starEach es env)).any (·.1) = false) : wpAny M A (callWith pos (.ref u) [] (backTo pos (starEach (e :: es) env)) []) Q E s := by
  rw [he] at h ⊢
  exact kxs_callWith (i := i) (x := a) (by show (false || (backTo pos (starEach es env)).any (·.1)) = false; rw [hp]; rfl) (evalArgs_plain h)
/-- the class C with an own __init__ that asks super().__init__ first -/
structure SupC (P : Program) (K : Frag) (mg : Str → Option Value) (C : Addr) (qual : Str) (st : Stmt) (f : Addr) (fd : FuncData) (cc cda : Addr) : Prop where
  t : OexC K C
  ex : ∃ (oc : Value) (od : Option Addr) (kV doc pm : Value) (an : Option Addr) (ct : Value) (osl : Array (Option Value)), fd = fnX "__init__" qual (defArgs st) (defBody st) (defScope st) [("__class__", cc)] .none kV doc pm an (.ref cda) ct ∧ K.lookup f = some ⟨oc, od, .func fd, osl⟩
  code : codeIn K (.ref cda) qual = true
  rec_ : ∃ (ccl : Value) (cdd : Option Addr) (vs : Array Value) (ccs : Array (Option Value)) (file : Str) (tf : Tok), K.lookup cda = some ⟨ccl, cdd, .fields vs, ccs⟩ ∧ vs[2]? = some (.str file tf) ∧ ((P.main.file : Str) == file) = true
  cell : ∃ (cl : Value) (cld : Option Addr) (csl : Array (Option Value)), K.lookup cc = some ⟨cl, cld, .cell (some (.ref C)), csl⟩
  mro : mroIn K C (.ref C) = some true
  any : nsIn K cStatics "thirdparty.any" = some none
  sup : ks_superIn K C C "__init__" = some (some (.builtin "ValueError.__init__"))
  ve : subIn K (.ref C) (.type "ValueError") = some true
  gs : mg "super" = none
  top : (P.main.scope.names.lookup ("super" : Str)).isSome = false
def supF (qual : Str) (st : Stmt) (cc cda : Addr) : NF := ⟨"__init__", qual, defArgs st, defBody st, defScope st, [("__class__", cc)], cda⟩
section
variable {P : Program} {w : World} {K : Frag} {mg : Str → Option Value} {base : Heap}
theorem fn_super {pl : Env → Sem Bool} {CX : CXT} {N ps : List Str} {k : Nat} {sp : Sp} {C f cc cda : Addr} {fd : FuncData} {qual self : Str} {st : Stmt} {rest : List Stmt} {e : Expr} {es : List Expr} {p0 p1 p2 p3 p4 : Pos} {ar : Arg} (M : SupC P K mg C qual st f fd cc cda) (S : NScope N ps ["__class__"] (defScope st))
    (hps : ps[0]? = some self) (har : ((defArgs st).posonlyargs ++ (defArgs st).args).head? = some ar) (hse : ar.arg = self) (hks : (defScope st).names.lookup ("super" : Str) = some .globalImplicit)
    (hb0 : defBody st = .Expr (.Call (.Attribute (.Call (.Name "super" p0) [] [] p1) "__init__" p2) (e :: es) [] p3) p4 :: rest) (len : ∀ vs H Q E, sp vs H Q E → vs.length = ps.length)
    (hbody : ∀ (A : Around) (outer : List Env) (s : Shared) (H : Hp) (vs : List V) (Q : VK) (E : XK), Room k (A.deeper (envF (supF qual st cc cda) f s.heap.objs.size)) → sp vs H Q E →
      ∃ (a : Addr) (ta : TA) (t : TS), vs[0]? = some (.ref a) ∧ H a = some (exo a C none) ∧ PA (ncx CX P w K mg base N (supF qual st cc cda) f A outer s H E) (e :: es) ta ∧ PSs (ncx CX P w K mg base N (supF qual st cc cda) f A outer s H E) rest t ∧
        ta (startF N vs [some (.ref C)]) H (fun us H1 => us.length ≤ 1000 ∧ H1 a = some (exo a C none) ∧ t { nx := fun _ H' => Q .non H', rt := Q } (startF N vs [some (.ref C)]) H1))
    (he : ∀ env, starEach (e :: es) env = (false, eval e env) :: starEach es env := by intro _; rfl) (hpl : ∀ env, (backTo p3 (starEach es env)).any (·.1) = false := by intro _; rfl)
    (hev : ∀ env : Env, eval (.Call (.Attribute (.Call (.Name "super" p0) [] [] p1) "__init__" p2) (e :: es) [] p3) env = (do
      let ov ← attributeBase (.Call (.Name "super" p0) [] [] p1) "__init__" env (eval (.Call (.Name "super" p0) [] [] p1) env)
      standAt p2.atName
      let (f, first) ← holding [ov] (getMethod ov "__init__" (pl env))
      callWith p3 f first (backTo p3 (starEach (e :: es) env)) []) := by intro _; rfl)
    (hsw : ∀ env, swapsWith (.Call (.Attribute (.Call (.Name "super" p0) [] [] p1) "__init__" p2) (e :: es) [] p3) none p4.line env = pure false := by intro _; rfl) :
    FnOk P w K mg base CX (k + 1) f fd ps sp := by
  obtain ⟨oc, od, kV, doc, pm, an, ct, osl, efd, lk⟩ := M.ex
  obtain ⟨ccl, cdd, fvs, ccs, file, tf, hcode, hvs, hfile⟩ := M.rec_
  obtain ⟨cl, cld, csl, hcell⟩ := M.cell
  obtain ⟨nm, qn, Nn, bs, bm, sn, sub, ab, col, dd, k0, k1, k2, k3, k5, hC, hbm⟩ := M.t.cls
  subst efd
  refine ⟨len, fun A outer s H args us vs Q E hr e0 hb r hsp => ?_⟩
  have hl := len _ _ _ _ hsp
  have KX : K.In s.heap := e0.mod.kin.keeps fun b o e => (e0.bs b o e).1
  have lim : s.heap.NoLimit := e0.mod.nolimit.keeps fun b o e => (e0.bs b o e).1
  have kH : ∀ b o, K.lookup b = some o → H b = none := fun b o e => (e0.bs b o (e0.mod.kin _ _ e)).2
  have hkc : (defScope st).names.lookup ("__class__" : Str) = some .free := S.frk _ (List.mem_singleton.mpr rfl)
  have CA : CellsAt (supF qual st cc cda).cl ["__class__"] [some (.ref C)] s.heap H := by
    have one : ∀ y c, ([("__class__", cc)] : List (Str × Addr)).lookup y = some c → y = ("__class__" : Str) ∧ c = cc := fun y c e => by
      have := PySem.mem_of_lookup e
      obtain ⟨rfl, rfl⟩ := Prod.mk.inj (List.mem_singleton.mp this)
      exact ⟨rfl, rfl⟩
    have ic : s.heap.IsCell cc (some (.ref C)) := ⟨_, KX _ _ hcell, rfl⟩
    refine ⟨rfl, fun y c e => ?_, fun x y c e1 e2 => (one x c e1).1.trans (one y c e2).1.symm, fun i y hi => ?_⟩
    · obtain ⟨_, rfl⟩ := one y c e
      exact ⟨kH _ _ hcell, _, ic⟩
    · match i, hi with
      | 0, hi =>
        cases Option.some.inj hi
        refine ⟨cc, by show ([("__class__", cc)] : List (Str × Addr)).lookup ("__class__" : Str) = some cc; rw [List.lookup_cons]; simp, fun v hv => ?_⟩
        cases Option.some.inj (Option.some.inj hv)
        exact ⟨_, rfl, ic⟩
      | i + 1, hi => simp at hi
  refine ks_codeAny_call_defAt (body := defBody st) (binds := ps.zip us) hr.depth (KX _ _ lk) rfl lim (codeRec_of KX M.code) rfl hb S.nocell (fun ⟨n, _⟩ hy => S.par n (List.of_mem_zip hy).1) (fun h₁ hns kp => ?_) S.co S.gen S.kind
  show _root_.PySem.wpAt _ (A.deeper (envF (supF qual st cc cda) f s.heap.objs.size)) (.func (defBody st) (envF (supF qual st cc cda) f s.heap.objs.size)) (execs (defBody st) (envF (supF qual st cc cda) f s.heap.objs.size)) _ _ _
  obtain ⟨a, ta, t, hv0, ha0, hA, ht, hT⟩ := hbody A outer s H vs Q E (hr.deeper _) hsp
  have I : Inv (ncx CX P w K mg base N (supF qual st cc cda) f A outer s H E) [] (startF N vs [some (.ref C)]) H { s with heap := h₁, toks := s.toks + (ps.zip us).length } := inv_startN S hr.hd e0 hl r CA hns kp
  have hx := r.get hv0
  obtain ⟨ux, hux, rx⟩ := hx
  obtain rfl : ux = Value.ref a := rx
  have ndP : ps.Nodup := by
    have q := S.nd.sublist (List.take_sublist (ps.length + (["__class__"] : List Str).length) N)
    rw [S.pre] at q
    exact (List.nodup_append.mp q).1
  have hself : (ps.zip us).reverse.lookup self = some (Value.ref a) := NdefX.zip_look ndP hps hux
  have hka : (defScope st).names.lookup self = some .local := S.par self (List.mem_of_getElem? hps)
  have K1 : K.In h₁ := KX.keeps kp
  have hD1 := K1 _ _ hC
  obtain ⟨t1, hxo⟩ := exo_at I.hok ha0
  have hcl : clsIn K C = some { name := nm, bases := bs, mro := .ref C :: bm, ns := Nn, qualname := qn, hasDict := true, slotNames := sn, subclasses := sub, abstract := ab, collection := col, hasDel := false } := by unfold clsIn; rw [hC] <;> rfl
  have hsup := M.sup
  unfold ks_superIn at hsup
  rw [hcl, Option.bind_some] at hsup
  have IA : InstAt h₁ a { cls := .ref C, dict := none, data := .fields #[.ref t1, .none, .none, .none, .bool false, .none] } C none := ⟨hxo, rfl, rfl, trivial⟩
  rw [hb0]
  refine ks_wpAt_execs_cons (ks_wpAt_Expr_any (ks_wpAt_MethodCall ?_ (hev _)) I.quiet (hsw _))
  refine ks_wpAt_super_base (env := envF (supF qual st cc cda) f s.heap.objs.size) hks hkc (by decide) rfl (K1 _ _ lk) rfl har rfl (K1 _ _ hcode) rfl hvs hfile M.top ?_
  obtain ⟨mb, h1, h2⟩ := I.mod.blt
  refine ks_loadName_global S.kind hks (loadGlobal_builtin (I.mod.glob.keeps I.bk) M.gs (h1.keeps I.bk) ((h2 "super" (by decide)).trans (by first | boot_by_name | rfl | kernel_rfl)) ⟨rfl, ?_⟩)
  refine wpAny_loadName_free S.kind hkc (by show ([("__class__", cc)] : List (Str × Addr)).lookup ("__class__" : Str) = some cc; rw [List.lookup_cons]; simp) ⟨_, K1 _ _ hcell, rfl⟩ ?_
  rw [hse]
  refine wpAny_loadName_local S.kind hka hns hself ?_
  refine ks_wpAny_isType_cls hD1 rfl ⟨rfl, ?_⟩
  refine ks_wpAny_call_super hD1 rfl hxo rfl (fun c z => nomatch z) (looks_mroIn K1 M.mro) (fun h2 eso k2 => ?_)
  have I1 := I.kept (t' := s.toks + (ps.zip us).length) k2
  have K2 : K.In h2 := K1.keeps k2
  have IA2 : InstAt h2 a { cls := .ref C, dict := none, data := .fields #[.ref t1, .none, .none, .none, .bool false, .none] } C none := ⟨k2 _ _ hxo, rfl, rfl, trivial⟩
  have hI : Looks (model P w) h2 (isInstance (.ref a) (.type "ValueError")) true := IA2.type.andThen (looks_subIn K2 M.ve)
  refine kxs_getMethod kxs_ValueError eso (looks_opaque K2 M.any) (l₀ := .ref C :: bm) ?_ rfl K2 hsup hI (ks_ne K1 IA hcl) (by decide) ?_
  · exact fun A Q E s k q => wpAny_bind ((looks_clsIn K2 hcl) A _ E s k (wpAny_pure q))
  have k3 : ∀ b o, h2.get? b = some o → (h2.push (kxs_mw "ValueError.__init__" a)).get? b = some o := fun b o e => Heap.get?_push_of_some _ e
  have I2 := I1.kept (t' := s.toks + (ps.zip us).length + 1) k3
  have hu : (h2.push (kxs_mw "ValueError.__init__" a)).get? h2.objs.size = some (kxs_mw "ValueError.__init__" a) := Heap.get?_push_at rfl rfl
  have I3 : Inv (ncx CX P w K mg base N (supF qual st cc cda) f A outer s H E) [(h2.objs.size, kxs_mw "ValueError.__init__" a)] (startF N vs [some (.ref C)]) H _ := I2.pins_of fun p hp => by
    rw [List.mem_singleton.mp hp]
    exact ⟨hu, I1.hok.fresh (Nat.le_refl _), (Nat.ne_of_lt I1.lt).symm, I1.nofs (Nat.le_refl _), fun v z => nomatch z⟩
  refine mw_args (i := "ValueError.__init__") (a := a) ?_ (he _) (hpl _)
  refine thn (hA.run p3 [(h2.objs.size, kxs_mw "ValueError.__init__" a)] _ (startF N vs [some (.ref C)]) H _ I3 hT) fun us1 s1 ⟨vs1, H1, J, r1, hl1, ha1, q1⟩ => ?_
  have hu1 : s1.heap.get? h2.objs.size = some (kxs_mw "ValueError.__init__" a) := (J.pin _ (List.mem_append_right _ (List.mem_singleton.mpr rfl))).1
  refine ⟨hu1, call_mw M.t J hu1 ha1 (by rw [← Paired.length r1, sizeLine_eq]; omega) fun s2 J2 => ?_⟩
  have J3 : Inv (ncx CX P w K mg base N (supF qual st cc cda) f A outer s H E) [] (startF N vs [some (.ref C)]) H1 s2 := J2.pins_of fun p hp => absurd hp (by simp)
  refine wpAt_of_wpAny (wpAny_mono (ht.run [] s2 (startF N vs [some (.ref C)]) H1 _ J3 q1) (fun fl s' hs => ?_) fun e s' hs => hs)
  have fin : ∀ {σ' : L2.St} {H' : Hp} {v : V} {u : Value}, Inv (ncx CX P w K mg base N (supF qual st cc cda) f A outer s H E) [] σ' H' s' → L2.RelV v u → Q v H' → CE outer P w H s Q u s' :=
    fun {σ' H' v u} J rv q => ⟨v, H', J.os, J.bare, J.base, J.hok, rv, q⟩
  cases fl with
  | ret u =>
    obtain ⟨v, σ', H', J, rv, q⟩ := hs
    exact fin J rv q
  | next =>
    obtain ⟨σ', H', J, q⟩ := hs
    exact fin (v := V.non) (u := Value.none) J rfl q
  | brk =>
    obtain ⟨_, _, _, q⟩ := hs
    exact False.elim q
  | cont =>
    obtain ⟨_, _, _, q⟩ := hs
    exact False.elim q
end
end L2
/-! ### isinstance of an error with a dict -/
namespace PySem.W
open PySem PySem.Spec PySem.Calls PyProof.Rows
end PySem.W
namespace L2
open PySem PySem.Spec PyProof.Rows
/-! ### f-strings with None -/
def tFmtN (te : TE) : TE := fun σ H Q => te σ H fun x H1 => (x = .non ∧ Q (.str "None") H1) ∨ ∃ i : Int, x = .int i ∧ i.natAbs.log2 < 1920 ∧ Q (.str (toString i)) H1
theorem pe_fmtN {X : Cx} {e : Expr} {te : TE} {pos : Pos} (he : PE X e te) : PE X (.FormattedValue e (-1) none pos) (tFmtN te) := by
  refine ⟨fun pins s σ H Q I h => ?_⟩
  refine wpAny_FormattedValue_plain (thn (he.run pins s σ H _ I h) fun v s1 hv => ?_)
  obtain ⟨x, H1, I1, r1, q⟩ := hv
  rcases q with ⟨rfl, q⟩ | ⟨i, rfl, hz, q⟩
  · obtain rfl : v = Value.none := r1
    exact wpAny_formatField_none ⟨.str "None", H1, I1.tok _, ⟨_, rfl⟩, q⟩
  · obtain ⟨t, rfl⟩ := r1
    exact wpAny_formatField_int hz ⟨.str (toString i), H1, I1.tok _, ⟨_, rfl⟩, q⟩
end L2
set_option Elab.async false
set_option linter.all false
set_option maxRecDepth 100000
set_option maxHeartbeats 2000000
/-! Sets of ints, made of a list, of a display, of a comprehension; the tuple of a dict's keys. -/
namespace RH
open PySem PySem.Spec PyProof.Rows L2
/-! ### the tuple of a dict's keys -/
section
variable {M : Program} {w : World} {A : Around} {E : Value → Shared → Prop} {s : Shared} {T : String} {r d : Addr} {n : Nat} {Pk : Nat → Value → Prop} {OK : Heap → Prop}
theorem tupK_new {Q : Value → Shared → Prop} (src : PySem.W.KdlSrc M w T r d n Pk OK) (free : A.handled = none) (ok : OK s.heap) (few : n ≤ sizeLine) (hw : s.TypeIs (.ref r) T) (nt : T = "dict")
    (fin : ∀ (h2 : Heap) (k2 : Nat) (out : Array Value), (∀ b o, s.heap.get? b = some o → h2.get? b = some o) → ItemsOf Pk out n → Q (.ref h2.objs.size) { s with heap := h2.push { cls := .type "tuple", data := .seq out }, toks := k2 }) :
    codeAny (model M w) A (.call (.builtin "tuple.__new__") ⟨[.type "tuple", .ref r], []⟩) (wants Q E) s := by
  subst nt
  refine codeAny_of_tree ?_
  show wpAny _ A.in1 (do checkBuiltinCall "tuple.__new__" ⟨[.type "tuple", .ref r], []⟩; again (.builtin "tuple.__new__" ⟨[.type "tuple", .ref r], []⟩)) _ _ s
  refine wpAny_bind (wpAny_of_eq (F.newCall_tuple_1 _) (wpAny_pure ⟨plainId_quiet F.plain_tuple_new _, codeAny_builtin F.entry_tuple_new ?_⟩))
  rw [Around.under_plainId F.plain_tuple_new _]
  have z1 := sub_tuple_self
  have z2 := init_tuple_lookup
  have z3 := madeHere_tuple
  have free1 : A.in1.handled = none := free
  wp_walk using wpAny_typeOf hw, PySem.W.kdu_collect (A := A.in1) src free1 ok few
  intro h2 k2 out keep items
  show wpAny _ _ (Builtin.Tuple.tupleExact out.toList.toArray >>= fun v => ret v) _ _ _
  unfold Builtin.Tuple.tupleExact
  refine wpAny_bind (wpAny_newObj_type ?_ (by show out.toList.toArray.size ≤ sizeLine; rw [Array.toArray_toList, items.1]; exact few))
  refine wpAny_pure ?_
  rw [Array.toArray_toList]
  exact fin h2 k2 out keep items
theorem tupK_call {Q : Value → Shared → Prop} (src : PySem.W.KdlSrc M w T r d n Pk OK) (free : A.handled = none) (ok : OK s.heap) (few : n ≤ sizeLine) (hw : s.TypeIs (.ref r) T) (nt : T = "dict")
    (fin : ∀ (h2 : Heap) (k2 : Nat) (out : Array Value), (∀ b o, s.heap.get? b = some o → h2.get? b = some o) → ItemsOf Pk out n → Q (.ref h2.objs.size) { s with heap := h2.push { cls := .type "tuple", data := .seq out }, toks := k2 }) :
    wpAny (model M w) A (call (.type "tuple") [.ref r]) Q E s := by
  refine callType_codes (Q₁ := fun obj s1 => s1.TypeIs obj "tuple" ∧ Q obj s1) F.called_tuple (F.typeCall_tuple_1 _) F.entry_object_init
    (tupK_new (A := A.in1) src free ok few hw nt fun h2 k2 out keep items => ⟨⟨_, Heap.get?_push_size _ rfl, rfl⟩, fin h2 k2 out keep items⟩) fun obj s1 both => ?_
  exact ⟨both.1, F.args_object_init_2 obj _, object_init_meets F.called_tuple.init.lookup F.called_tuple.made (by decide) M w A.in1 _ s1 ⟨both.1, rfl, both.2⟩⟩
end
/-- tuple(d) -/
def kTupD (x : V) (H : Hp) (Q : VK) : Prop := ∃ (a : Addr) (kvs : List (Key × V)), x = .ref a ∧ H a = some (.dK kvs) ∧ ∀ p, H p = none → Q (.ref p) (upd H p (.tup (kvs.map fun kv => kV kv.1)))
section
variable {X : Cx} {e : Expr} {te : TE}
theorem pe_tupD {p pos : Pos} (hc : X.calm = true) (hg : Gl X "tuple") (hm : X.mg "tuple" = none) (he : PE X e te) (na : starEach [e] X.env = (false, eval e X.env) :: starEach [] X.env := by rfl) :
    PE X (.Call (.Name "tuple" p) [e] [] pos) (tThen te kTupD) := by
  refine ⟨fun pins s σ H Q I h => ?_⟩
  refine Call_ (ld_blt I hg hm boot_tuple (PyProof.Rows.callWith_type1 (one_arg he I h (fun v s2 x H2 I2 rx q => ?_) na) na))
  obtain ⟨a, kvs, rfl, hd, q⟩ := q
  obtain rfl : v = .ref a := rx
  obtain ⟨few, lo, vs, rel, dd⟩ := dk_of I2.hok hd
  obtain ⟨ep, at1⟩ := dd.dictAt
  have eq1 : (kvs.map fun kv => kV kv.1) = vs.map fun z => kV z.1 := by
    have z := congrArg (List.map kV) rel.keys
    rwa [List.map_map, List.map_map] at z
  refine tupK_call (PySem.W.kdl_dict (knd := mixKind X.prog X.w) (kvs := vs) (ep := ep) lo) (I2.ok.hd hc) at1 (by rw [← rel.length]; exact few) dd.typeIs rfl fun h2 k2 out keep items => ?_
  have vals : Vals (vs.map fun z => kV z.1) out.toList := keys_at (by rw [Array.length_toList]; exact items.1) fun j v ej => items.2 j v (by rw [← Array.getElem?_toList]; exact ej)
  have I3 : Inv X pins σ H2 { s2 with heap := h2, toks := k2 } := I2.kept (t' := k2) keep
  have I4 : Inv X pins σ (upd H2 h2.objs.size (.tup (kvs.map fun kv => kV kv.1))) { s2 with heap := h2.push { cls := .type "tuple", data := .seq out }, toks := k2 } :=
    I3.laid (t' := k2) (fun b o eb => Heap.get?_push_of_some _ eb) (Nat.le_refl _) (show ObjOk X.prog X.w _ _ _ (.tup (kvs.map fun kv => kV kv.1)) from ⟨by rw [List.length_map]; exact few, out.toList, by rw [eq1]; exact vals, by rw [Array.toArray_toList]; exact IsTup.new _ _⟩)
  exact ⟨.ref h2.objs.size, _, I4, rfl, q _ (I3.hok.fresh (Nat.le_refl _))⟩
end
/-! ### a set display of two ints -/
def tSet2 (w : World) (t1 t2 : TE) : TE := fun σ H Q => ∀ D, H D = none → t1 σ (upd H D (SetO w D (fun _ => false) 0)) fun x H1 => t2 σ H1 fun y H2 => H2 D = some (SetO w D (fun _ => false) 0) ∧ ∃ i j : Int, x = .int i ∧ y = .int j ∧
  ∀ n, n ≤ 2 → Q (.ref D) (upd H2 D (SetO w D (fun k => (false || decide (k = i)) || decide (k = j)) n))
section
variable {X : Cx} {e1 e2 : Expr} {t1 t2 : TE}
theorem addI_ok {pins : List (Addr × Obj)} {σ : L2.St} {H : Hp} {s : Shared} {E : Value → Shared → Prop} {A : Around} {D : Addr} {S : Int → Bool} {n : Nat} {k : Int} {tk : Tok} {Q : Bool → Shared → Prop} (I : Inv X pins σ H s) (hD : H D = some (SetO X.w D S n)) (room : n + 1 < scanBound)
    (fin : ∀ b s2, Inv X pins σ (upd H D (SetO X.w D (fun j => S j || decide (j = k)) (if S k = true then n else n + 1))) s2 → Q b s2) : wpAny (model X.prog X.w) A (setAdd D (.int k tk)) Q E s := by
  have R := setO_get I hD
  unfold setAdd
  refine wpAny_holding (wpAny_bind ((intKind X.prog X.w).pyHash (intKind_is X.prog X.w k tk) ?_))
  refine setR_add_hashed (s := { s with toks := s.toks + 1 }) R room fun h2 sb new => ?_
  obtain ⟨o, _, _, _, ho, _⟩ := id new
  exact fin _ _ (I.write (e := D) (t' := s.toks + 1) (by rw [hD]; trivial) (.inl rfl) (fun b u ne hu => (sb.2 b ne).trans hu) ⟨o, ho⟩ (setO_new new))
theorem disp_new {A : Around} {E : Value → Shared → Prop} {s : Shared} {b : Bool} {parts : List (Bool × Sem Value)} {codes : List (Sem Value)} {Q : Value → Shared → Prop} (plain : parts.findIdx? (·.1) = none) (short : parts.length ≤ 30) (same : parts.map (·.2) = codes)
    (go : wpAny (model X.prog X.w) A (evalAll codes) (fun us s2 => PySem.W.KdsFill (model X.prog X.w) A E false s.heap.objs.size Q us s2) E
      { s with heap := s.heap.push { cls := .type "set", dict := none, data := .set #[] 0 (.fresh 0 0 (!X.w.params.followText "set-order")) } }) : wpAny (model X.prog X.w) A (setDisplay .oneByOne b parts) Q E s := by
  have cnt : (if parts.length > 30 then 0 else (parts.findIdx? (·.1)).getD parts.length) = parts.length := by
    rw [if_neg (by omega), plain]
    rfl
  unfold setDisplay
  try dsimp only
  rw [if_neg (by decide)]
  refine wpAny_bind (PpSet.newSet_ok ?_)
  dsimp only
  rw [cnt, List.take_length, List.drop_length, same]
  refine wpAny_bind (wpAny_holding (wpAny_bind (wpAny_mono go (fun us s2 full => ?_) fun _ _ z => z)))
  refine wpAny_bind (wpAny_holding (wpAny_bind (wpAny_mono (PySem.W.kds_for (u := false) (d := s.heap.objs.size) (Q := Q) (E := E) (fun u R s4 one => ?_) us s2 full) (fun _ s3 done => ?_) fun _ _ z => z)))
  · refine wpAny_bind (wpAny_mono one (fun _ s5 r => ?_) fun _ _ z => z)
    first | exact wpAny_pure ⟨rfl, r⟩ | exact wpAny_bind (wpAny_pure (wpAny_pure ⟨rfl, r⟩))
  · have done : Q (.ref s.heap.objs.size) s3 := by simpa [PySem.W.KdsFill] using done
    rw [if_neg (by decide)]
    refine wpAny_pure ?_
    rw [List.forIn_nil]
    exact wpAny_pure (wpAny_pure done)
theorem pe_set2 {pos : Pos} (hcd : PySem.W.kdsCode X.K X.env.code = true) (h1 : PE X e1 t1) (h2 : PE X e2 t2) (pl : [e1, e2].all PySem.W.kdsPlain = true := by rfl) : PE X (.Set [e1, e2] 0 pos) (tSet2 X.w t1 t2) := by
  refine ⟨fun pins s σ H Q I q => ?_⟩
  have fresh := I.hok.fresh (Nat.le_refl s.heap.objs.size)
  have q := q _ fresh
  rw [arm_eval_Set]
  refine wpAny_bind (wpAny_standAt ?_)
  refine wpAny_bind (PySem.W.kds_main I.kIn hcd fun b => ?_)
  rw [PySem.W.kds_star _ pl, List.map_map]
  rw [show displayRoad 0 [e1, e2] = DisplayRoad.oneByOne from rfl]
  have I1 : Inv X pins σ (upd H s.heap.objs.size (SetO X.w s.heap.objs.size (fun _ => false) 0)) { s with heap := s.heap.push { cls := .type "set", dict := none, data := .set #[] 0 (.fresh 0 0 (!X.w.params.followText "set-order")) } } :=
    I.laid (t' := s.toks) (fun b o e => Heap.get?_push_of_some _ e) (Nat.le_refl _) (setO_new (setR_fresh X.w))
  refine disp_new (codes := (evalEach [e1, e2] X.env).map fun t => do let v ← t; standAt pos; pure v) ?_ (by rw [List.length_map, PySem.W.kds_len]; exact Nat.le_of_ble_eq_true rfl) (by rw [List.map_map]; try rfl) ?_
  · refine List.findIdx?_eq_none_iff.mpr fun x hx => ?_
    obtain ⟨t, _, rfl⟩ := List.mem_map.mp hx
    rfl
  generalize s.heap.objs.size = D at I1 q ⊢
  refine PySem.W.kds_all pos [e1, e2] _ _ (thn (h1.run pins _ σ _ _ I1 q) fun u s2 ⟨x, H1, I2, rx, q1⟩ => thn (h2.run pins s2 σ H1 _ I2 q1) fun u2 s3 ⟨y, H2, I3, ry, e, i, j, ex, ey, q2⟩ => ?_)
  subst ex ey
  obtain ⟨k1, rfl⟩ := rx
  obtain ⟨k2, rfl⟩ := ry
  refine PySem.W.kds_fill_cons (addI_ok I3 e (by decide) fun _ s4 I4 => PySem.W.kds_fill_cons (addI_ok I4 upd_same (by split <;> decide) fun _ s5 I5 => PySem.W.kds_fill_nil rfl ?_))
  rw [upd_upd] at I5
  exact ⟨.ref D, _, I5, rfl, q2 _ (by split <;> split <;> omega)⟩
end
/-! ### set(xs) of a list of ints -/
section
variable {M : Program} {w : World} {A : Around} {E : Value → Shared → Prop} {s : Shared}
/-- what a new set is -/
abbrev bare (w : World) : Obj := { cls := .type "set", dict := none, data := .set #[] 0 (.fresh 0 0 (!w.params.followText "set-order")) }
theorem bare_get (h : Heap) (w : World) : (h.push (bare w)).get? h.objs.size = some (bare w) := Heap.get?_push_size _ rfl
set_option maxHeartbeats 3200000 in
theorem setL_call {l : Addr} {cells : Array Value} (ns : List Int) {Q : Value → Shared → Prop} (free : A.handled = none) (isl : s.heap.IsList l cells) (nums : IntsAre cells.toList ns) (room : ns.length + 1 < scanBound)
    (fin : ∀ (h2 : Heap) (k2 c : Nat), SetR w h2 s.heap.objs.size (fun j => decide (j ∈ ns)) c → c ≤ ns.length → (∀ b o, s.heap.get? b = some o → h2.get? b = some o) → Q (.ref s.heap.objs.size) { s with heap := h2, toks := k2 }) :
    wpAny (model M w) A (call (.type "set") [.ref l]) Q E s := by
  have many : cells.size = ns.length := by
    have z := nums.length
    rwa [Array.length_toList] at z
  obtain ⟨c, tl, hmro⟩ := F.called_set.mro
  have y1 := F.called_set.made
  have y2 := F.called_set.sub
  refine wpAny_call (codeAny_of_tree ?_)
  show wpAny _ _ (callAny (.type "set") _) _ _ _
  refine wpAny_pure ⟨Code.quiet_builtin _ (by decide +kernel), codeAny_builtin F.entry_type_call ?_⟩
  rw [Around.under_plain (weight_type_call_type "set" [.ref l] []) rfl]
  have y3 := F.called_set.notType
  have y4 := F.called_set.canCreate
  have y5 := F.typeCall_set_1 (.ref l)
  repeat (any_goals (first | assumption | wp_step))
  refine codeAny_mono (code_set_led1 (.ref l) (E := E) (Q₁ := fun obj s1 => obj = .ref s.heap.objs.size ∧ s1 = { s with heap := s.heap.push (bare w) }) ⟨rfl, rfl⟩) fun r s1 got => ?_
  cases r with
  | error e => exact got
  | ok fl =>
    cases fl with
    | ret obj =>
      obtain ⟨rfl, rfl⟩ := got
      have there := bare_get s.heap w
      have kind : Shared.TypeIs { s with heap := s.heap.push (bare w) } (.ref s.heap.objs.size) "set" := ⟨_, there, rfl⟩
      have y6 := F.called_set.init.lookup
      have y7 := F.called_set.init.bind (.ref s.heap.objs.size)
      repeat (any_goals (first | assumption | wp_step))
      refine codeAny_mono (codeAny_call_builtin (R := wants (fun r s2 => r = .none ∧ ∃ h2 k2 c, s2 = { s with heap := h2, toks := k2 } ∧ SetR w h2 s.heap.objs.size (fun j => decide (j ∈ ns)) c ∧ c ≤ ns.length ∧
          (∀ b o, s.heap.get? b = some o → h2.get? b = some o)) E) F.called_set.init.plain F.entry_set_init (check_set_init_1 kind ?_)) fun r2 s2 got2 => ?_
      · obtain ⟨⟨ocls, odict, odata, oslots⟩, hol, hcl, nl, hdl⟩ := isl
        simp only at hcl hdl
        subst hcl; subst hdl
        have hol2 : (s.heap.push (bare w)).get? l = some { cls := .type "list", dict := odict, data := .seq cells nl, slots := oslots } := Heap.get?_push_of_some _ hol
        have y8 := F.sub_list_set
        have y9 := F.sub_list_frozenset
        have y10 : (Value.type "list" == Value.type "dict") = false := by decide
        have isl2 : (s.heap.push (bare w)).IsList l cells := ⟨_, hol2, rfl, nl, rfl⟩
        unfold Builtin.«set.__init__» noKeywords Builtin.Frozenset.updateFrom
        generalize hPI : pyIter = PI
        wp_walk
        subst hPI
        refine wpAny_pyIter_list isl2 (wpAny_bind (wpAny_runValue ?_))
        have below : l < s.heap.objs.size := Heap.lt_size hol
        have free3 : A.in1.in1.in1.handled = none := by simp [free]
        have other : l ≠ (s.heap.push (bare w)).objs.size := fun z => by
          rw [Heap.size_push] at z
          exact Nat.lt_irrefl _ (Nat.lt_trans (z ▸ below) (Nat.lt_succ_self _))
        have apart : s.heap.objs.size ∉ [(s.heap.push (bare w)).objs.size, l] := by
          rw [Heap.size_push, List.mem_cons, List.mem_singleton]
          rintro (z | z)
          · exact absurd z (Nat.ne_of_lt (Nat.lt_succ_self _))
          · exact Nat.lt_irrefl _ (z ▸ below)
        have vals : ∀ (i : Nat) (v : Value), cells[i]? = some v → ∃ k t, ns[i]? = some k ∧ v = .int k t := fun i v hv => by
          have lt : i < ns.length := by rw [← many]; exact (Array.getElem?_eq_some_iff.mp hv).1
          obtain ⟨t, e⟩ := IntsAre.int_at nums i v (by rw [Array.getElem?_toList]; exact hv)
          exact ⟨ns[i], t, List.getElem?_eq_getElem lt, by rw [e, List.getD_eq_getElem?_getD, List.getElem?_eq_getElem lt] <;> rfl⟩
        refine set_update_ints ((Walks.list free3 _ l other cells).toS) s.heap.objs.size apart ns many room vals (cells.size - 0) 0 _ (by omega) (Nat.zero_le _)
          ⟨⟨_, Heap.get?_push_size _ rfl, rfl, rfl⟩, (isl2.push _)⟩ ⟨0, Nat.le_refl 0, setR_new_at (Heap.get?_push_of_some _ there)⟩ fun s3 c3 mv few R => ?_
        obtain ⟨h3, g3, d3, k3, o3⟩ := s3
        obtain rfl : g3 = s.gens := mv.gens
        obtain rfl : d3 = s.drawn := mv.drawn
        obtain rfl : o3 = s.os := mv.os
        show wpAny _ _ _ _ _ _
        refine wpAny_pure ?_
        show wpAny _ _ (ret Value.none) _ _ _
        rw [many] at few
        refine wpAny_pure ⟨rfl, h3, k3, c3, rfl, R, few, fun b o e => mv.heap b o ?_ (Heap.get?_push_of_some _ (Heap.get?_push_of_some _ e))⟩
        have lt := Heap.lt_size e
        rw [List.mem_cons, List.mem_singleton, Heap.size_push]
        rintro (z | z)
        · exact Nat.lt_irrefl _ (z ▸ lt)
        · exact Nat.lt_irrefl _ (Nat.lt_trans (z ▸ lt) (Nat.lt_succ_self _))
      · cases r2 with
        | error e => exact got2
        | ok fl2 =>
          cases fl2 with
          | ret r =>
            obtain ⟨rfl, h2, k2, c2, rfl, R, few, keep⟩ := got2
            repeat (any_goals (first | assumption | wp_step))
            exact fin _ _ _ R few keep
          | _ => exact got2.elim
    | _ => exact got.elim
end
def rSetL (K : PySem.W.Frag) (w : World) : List V → Hp → VK → Prop := fun xs H Q => ∃ (l : Addr) (ns : List Int), xs = [.ref l] ∧ SqL K H l (ns.map V.int) ∧ ns.length ≤ 1000 ∧ ∀ D n, H D = none → n ≤ ns.length → Q (.ref D) (upd H D (SetO w D (fun j => decide (j ∈ ns)) n))
theorem call_setL {X : Cx} (hc : X.calm = true) : CallR X (.type "set") (rSetL X.K X.w) := by
  intro pins s σ H xs us Q I r h
  obtain ⟨l, ns, rfl, hl, few, q⟩ := h
  rw [Vals.ref1 r]
  obtain ⟨its, rv, pl, hz⟩ := I.list hl
  refine setL_call (w := X.w) ns (I.ok.hd hc) pl.isList (by simpa using intsAre_of rv) (by unfold scanBound; omega) fun h2 k2 c R le keep => ?_
  exact ⟨.ref s.heap.objs.size, _, I.laid (t' := k2) keep (Nat.le_refl _) (setO_new R), rfl, q _ c (I.hok.fresh (Nat.le_refl _)) le⟩
end RH
set_option Elab.async false
set_option linter.all false
set_option maxRecDepth 100000
set_option maxHeartbeats 2000000
/-! A set comprehension whose members are ints. -/
namespace RH
open PySem PySem.Spec PyProof.Rows L2
/-- what a turn of the comprehension leaves: x is added -/
def addTurn (w : World) (D : Addr) (Nx : Hp → Prop) : VK := fun y H => ∃ (c : Int) (S : Int → Bool) (n : Nat), y = .int c ∧ H D = some (SetO w D S n) ∧ n + 1 < scanBound ∧ Nx (upd H D (SetO w D (fun j => S j || decide (j = c)) (if S c = true then n else n + 1)))
def tScI (w : World) (wi : TI) (g : TG) (tt : TT) (te : TE) (vs : List Nat) : TE := fun σ H Q => wi σ H fun J H1 => ∀ D, H1 D = none → ∃ W : Nat → Nat → Hp → Prop, (∃ m, W 0 m (upd H1 D (SetO w D (fun _ => false) 0))) ∧ ∀ i m H, W i m H →
  (J.stop i H ∧ Q (.ref D) H) ∨ (J.go i H ∧ ∃ Nx : Hp → Prop, (∀ H', Nx H' → ∃ m', m' < m ∧ W (i + 1) m' H') ∧ ∀ x H', J.yld i H x H' → g x (wipe σ vs) H' fun σ2 H2 => wipe σ2 vs = wipe σ vs ∧ tt σ2 H2 fun b H3 =>
    if b = true then te σ2 H3 (addTurn w D Nx) else Nx H3)
section
variable {X : Cx} {elt tg iter : Expr} {ifs : List Expr} {scope : Scope} {own : List (PySem.Str × Nat)} {wi : TI} {g : TG} {tt : TT} {te : TE}
theorem addI_call {pins : List (Addr × Obj)} {σ : L2.St} {H : Hp} {s : Shared} {E : Value → Shared → Prop} {D : Addr} {S : Int → Bool} {n : Nat} {k : Int} {tk : Tok} {Q : Value → Shared → Prop} (I : Inv X pins σ H s) (hD : H D = some (SetO X.w D S n)) (room : n + 1 < scanBound)
    (fin : ∀ s2, Inv X pins σ (upd H D (SetO X.w D (fun j => S j || decide (j = k)) (if S k = true then n else n + 1))) s2 → Q .none s2) : wpAny (model X.prog X.w) X.A (call (.builtin "set.add") [.ref D, .int k tk]) Q E s := by
  refine setR_add (setO_get I hD) room fun h2 sb new => ?_
  obtain ⟨o, _, _, _, ho, _⟩ := id new
  exact fin _ (I.write (e := D) (t' := s.toks + 1) (by rw [hD]; trivial) (.inl rfl) (fun b u ne hu => (sb.2 b ne).trans hu) ⟨o, ho⟩ (setO_new new))
theorem scI_run {pins : List (Addr × Obj)} {s : Shared} {σ : L2.St} {H : Hp} {Q : VK} {pos pos' : Pos} {use : Option (Value → Sem Unit)} {Qf : Value → Shared → Prop}
    (calm : X.calm = true) (nd : X.N.Nodup) (I : Inv X pins σ H s) (iw : PI X tg iter wi) (blk : BlkOk X.N X.env.scope scope own)
    (pgs : ∀ (s : Shared) (H : Hp) (C : Addr) (cl : List (PySem.Str × Addr)) (fp : List Addr), PG (X.blk s H scope (compEnvC scope cl C X.env) fp) tg g) (pts : ∀ (s : Shared) (H : Hp) (C : Addr) (cl : List (PySem.Str × Addr)) (fp : List Addr), PTs (X.blk s H scope (compEnvC scope cl C X.env) fp) ifs tt)
    (pes : ∀ (s : Shared) (H : Hp) (C : Addr) (cl : List (PySem.Str × Addr)) (fp : List Addr), PE (X.blk s H scope (compEnvC scope cl C X.env) fp) elt te) (nof : ∀ x, foldedSetIterable iter X.env x = pure x) (h : tScI X.w wi g tt te (own.map (·.2)) σ H Q)
    (back : ∀ D C s' m H', Inv X pins σ H' s' → Q (.ref D) H' → s'.heap.Ns C m → FpOk X pins H' C → compPost (model X.prog X.w) X.A X.xe use Qf (.ref D) C (.ok .next) s') :
    wpAny (model X.prog X.w) X.A (comprehension (.SetComp elt [⟨tg, iter, ifs, 0⟩] scope pos) scope X.env pos' (newSet (.type "set")) false (eval iter X.env) use) Qf X.xe s := by
  have cells : ∀ y ∈ scope.names, y.2 = .free → ∃ c, X.env.cells.lookup y.1 = some c := fun y hy e => (blk.free y hy e).elim (fun k => I.ok.has _ (.inl k)) (fun k => I.ok.has _ (.inr k))
  refine wpAny_comprehension_free (use := use) rfl nof (closure_ok cells) blk.kind (fun y hy e => by rw [blk.uniq y hy, e]) (thn (iw.run pins s σ H _ I h) fun _ s1 one => thn one fun _ s2 two => ?_)
  obtain ⟨it, fp, tn, J, H2, rfl, I2, T, st2, f2, q⟩ := two
  refine PpSet.newSet_ok (newEnv_comp ?_)
  generalize eD : s2.heap.objs.size = D
  have freshD : H2 D = none := I2.hok.fresh (Nat.le_of_eq eD)
  obtain ⟨W, ⟨m0, w0⟩, turn⟩ := q D freshD
  generalize e3 : ({ s2 with heap := s2.heap.push { cls := .type "set", dict := none, data := .set #[] 0 (.fresh 0 0 (!X.w.params.followText "set-order")) } } : Shared) = s3
  have heap3 : s3.heap = s2.heap.push (bare X.w) := by rw [← e3]
  have I3 : Inv X pins σ (upd H2 D (SetO X.w D (fun _ => false) 0)) s3 := by
    rw [← e3]
    refine I2.laid (t' := s2.toks) (fun b o e => Heap.get?_push_of_some _ e) (Nat.le_of_eq eD) ?_
    rw [← eD]
    exact setO_new (setR_fresh X.w)
  have f3 : ∀ b ∈ fp, FpOk X pins (upd H2 D (SetO X.w D (fun _ => false) 0)) b ∧ b < s3.heap.objs.size := fun b hb => by
    obtain ⟨o, e, _⟩ := T.obj _ _ st2 b hb
    have lt := Heap.lt_size e
    refine ⟨⟨?_, (f2 b hb).2⟩, by rw [heap3, Heap.size_push]; exact Nat.lt_succ_of_lt lt⟩
    rw [upd_ne (fun z => Nat.lt_irrefl _ ((z.trans eD.symm) ▸ lt))]
    exact (f2 b hb).1
  have I4 := block_start I3 blk nd f3
  generalize upd H2 D (SetO X.w D (fun _ => false) 0) = H3 at I3 I4 w0 f3
  have pg := pgs s3 H3 s3.heap.objs.size (cellsFrom (s3.heap.objs.size + 1) scope.names (cloFrom X.env.cells scope.names [])) fp
  have pt := pts s3 H3 s3.heap.objs.size (cellsFrom (s3.heap.objs.size + 1) scope.names (cloFrom X.env.cells scope.names [])) fp
  have pe := pes s3 H3 s3.heap.objs.size (cellsFrom (s3.heap.objs.size + 1) scope.names (cloFrom X.env.cells scope.names [])) fp
  have st3 : tn 0 s3.heap := T.keep _ _ _ st2 fun b _ o e => by rw [heap3]; exact Heap.get?_push_of_some _ e
  have none3 : ∀ b ∈ fp, H3 b = none := fun b hb => (f3 b hb).1.1
  show codeAny _ _ (.compStart (.SetComp elt [⟨tg, iter, ifs, 0⟩] scope pos) 0 (.ref it) (.ref D) (compEnvC scope (cellsFrom (s3.heap.objs.size + 1) scope.names (cloFrom X.env.cells scope.names [])) s3.heap.objs.size X.env)) (compPost (model X.prog X.w) X.A X.xe use Qf (.ref D) s3.heap.objs.size) { s3 with heap := pushCells (s3.heap.push { cls := .type "dict", data := .dict #[] }) scope.names }
  generalize ee : compEnvC scope (cellsFrom (s3.heap.objs.size + 1) scope.names (cloFrom X.env.cells scope.names [])) s3.heap.objs.size X.env = ce at I4 pg pt pe ⊢
  have loc : ce.locals = s3.heap.objs.size := by
    subst ee
    rfl
  generalize e4 : ({ s3 with heap := pushCells (s3.heap.push { cls := .type "dict", data := .dict #[] }) scope.names } : Shared) = s4 at I4 ⊢
  have st4 : tn 0 s4.heap := T.keep _ _ _ st3 fun b _ o e => by rw [← e4]; exact pushCells_keeps _ _ _ _ (Heap.get?_push_of_some _ e)
  have quiet : ∀ {σ' : L2.St} {H' : Hp} {s' : Shared}, Inv (X.blk s3 H3 scope ce fp) [] σ' H' s' → (∀ b ∈ fp, H' b = none) → ∀ b ∈ fp, FpOk (X.blk s3 H3 scope ce fp) [] H' b := fun I' hn b hb =>
    ⟨hn b hb, (I'.ok.exf b hb).1, I'.ok.exfs b hb, .inl hb, fun x c e => (I'.ok.exf b hb).2 x c e, fun p hp => absurd (show p ∈ ([] : List (Addr × Obj)) ++ [] from hp) (by simp)⟩
  have loop : codeAny (model X.prog X.w) X.A (.compLoop (.SetComp elt [⟨tg, iter, ifs, 0⟩] scope pos) 0 (.ref it) (.ref D) ce) (compPost (model X.prog X.w) X.A X.xe use Qf (.ref D) s3.heap.objs.size) s4 := by
    refine PpSet.compLoopS_any (fun n s' => ∃ i H', Inv (X.blk s3 H3 scope ce fp) [] (wipe σ (own.map (·.2))) H' s' ∧ tn i s'.heap ∧ (∀ b ∈ fp, H' b = none) ∧ W i n H') ?_ m0 ⟨0, H3, I4, st4, none3, w0⟩
    rintro n s5 ⟨i, H5, I5, st5, n5, w5⟩
    rcases turn i n H5 w5 with ⟨stop, last⟩ | ⟨go, Nx, next, step⟩
    · refine thnF (T.done (X.blk s3 H3 scope ce fp) rfl rfl rfl calm i [] s5 _ H5 (fun _ _ => False) I5 (quiet I5 n5) st5 stop) fun r s6 ⟨er, I6⟩ => ?_
      subst er
      have out : Inv X pins σ H5 s6 := I3.call' (ch := fp) I6.os I6.base I6.hok I6.bare fun b hb => ⟨(f3 b hb).1.2.2.2.1, (f3 b hb).1.2.1, (f3 b hb).1.2.2.2.2.1, (f3 b hb).1.2.2.2.2.2⟩
      have free : H5 s3.heap.objs.size = none := loc ▸ (show H5 ce.locals = none from I6.free)
      obtain ⟨m, ns, _⟩ := I6.loc
      have ns : s6.heap.Ns ce.locals m := ns
      exact back D s3.heap.objs.size s6 m H5 out last (loc ▸ ns) (I3.fpOk (Nat.le_refl _) free)
    · refine thnF (T.item (X.blk s3 H3 scope ce fp) rfl rfl rfl calm i [] s5 _ H5 (fun _ _ => False) I5 (quiet I5 n5) st5 go) fun r s6 ⟨u, er, six⟩ => ?_
      subst er
      refine thnF six fun _ s7 ⟨x, H7, I7, r7, y7, st7, n7⟩ => ?_
      refine thnF (pg.run _ s7 _ H7 x u _ (I7.pinned (quiet I7 n7) (T.obj _ _ st7)) r7 (step x H7 y7)) fun _ s8 ⟨σ8, H8, I8, same8, q8⟩ => ?_
      refine thnF (pt.run _ s8 σ8 H8 _ I8 q8) fun b s9 ⟨H9, I9, q9⟩ => ?_
      have ends : ∀ {s' : Shared} {H' : Hp}, Inv (X.blk s3 H3 scope ce fp) ([] ++ pinsAt fp s7.heap) σ8 H' s' → Nx H' → ∃ m, m < n ∧ ∃ i H', Inv (X.blk s3 H3 scope ce fp) [] (wipe σ (own.map (·.2))) H' s' ∧ tn i s'.heap ∧ (∀ b ∈ fp, H' b = none) ∧ W i m H' := fun {s' H'} I' nx => by
        obtain ⟨m', lt, w'⟩ := next H' nx
        have held : ∀ b ∈ fp, ∀ o, s7.heap.get? b = some o → s'.heap.get? b = some o ∧ H' b = none := fun b hb o e =>
          (fun z => ⟨z.1, z.2.1⟩) (I'.pin (b, o) (List.mem_append_right _ (List.mem_append_right _ (mem_pinsAt hb e))))
        refine ⟨m', lt, i + 1, H', (I'.unpinned (pins := [])).weak (by rw [← same8, wipe_length]) (fun j v e => ?_), T.keep _ _ _ st7 fun b hb o e => (held b hb o e).1, fun b hb => ?_, w'⟩
        · rw [← same8] at e
          exact (wipe_some e).1
        · obtain ⟨o, e, _⟩ := T.obj _ _ st7 b hb
          exact (held b hb o e).2
      cases b with
      | false =>
        simp only [Bool.false_eq_true, if_false] at q9 ⊢
        exact ends I9 q9
      | true =>
        simp only [if_true] at q9 ⊢
        refine thnF (pe.run _ s9 σ8 H9 _ I9 q9) fun z s10 ⟨yv, H10, I10, r10, c, S0, n0, ey, at10, room, nx⟩ => ?_
        subst ey
        obtain ⟨tk, rfl⟩ := r10
        exact addI_call (X := X.blk s3 H3 scope ce fp) I10 at10 room fun s11 I11 => ends I11 nx
  exact PpSet.codeAny_compStart_set loop (T.self X.A 0 _ _ _ st4 loop)
theorem pe_scI {pos : Pos} (calm : X.calm = true) (nd : X.N.Nodup) (iw : PI X tg iter wi) (blk : BlkOk X.N X.env.scope scope own)
    (pgs : ∀ (s : Shared) (H : Hp) (C : Addr) (cl : List (PySem.Str × Addr)) (fp : List Addr), PG (X.blk s H scope (compEnvC scope cl C X.env) fp) tg g) (pts : ∀ (s : Shared) (H : Hp) (C : Addr) (cl : List (PySem.Str × Addr)) (fp : List Addr), PTs (X.blk s H scope (compEnvC scope cl C X.env) fp) ifs tt)
    (pes : ∀ (s : Shared) (H : Hp) (C : Addr) (cl : List (PySem.Str × Addr)) (fp : List Addr), PE (X.blk s H scope (compEnvC scope cl C X.env) fp) elt te) (nof : ∀ x, foldedSetIterable iter X.env x = pure x := by intro _; rfl) :
    PE X (.SetComp elt [⟨tg, iter, ifs, 0⟩] scope pos) (tScI X.w wi g tt te (own.map (·.2))) := by
  refine ⟨fun pins s σ H Q I h => ?_⟩
  rw [PpSet.eval_SetComp]
  refine scI_run calm nd I iw blk pgs pts pes nof h fun D C s' m H' I' q ns f => ⟨m, ns, fun h2 sb => ?_⟩
  obtain ⟨f0, f1, _, f3, f4, f5⟩ := f
  exact ⟨.ref D, H', I'.turned (t' := s'.toks) (fun b o ne e => (sb.2 b ne).trans e) f0 f1 f3 f4 f5, rfl, q⟩
end
/-- over a list that the block leaves as it is -/
theorem lstScI {w : World} {K : PySem.W.Frag} {a : Addr} {xs : List V} {g : TG} {tt : TT} {te : TE} {vs : List Nat} {σ : L2.St} {H1 : Hp} {D : Addr} {Qd : Hp → Prop} (at_ : Nat → Hp → Prop) (start : at_ 0 (upd H1 D (SetO w D (fun _ => false) 0))) (stay : ∀ i H, i ≤ xs.length → at_ i H → SqL K H a xs)
    (turn : ∀ i x H, xs[i]? = some x → at_ i H → g x (wipe σ vs) H fun σ2 H2 => wipe σ2 vs = wipe σ vs ∧ tt σ2 H2 fun b H3 => if b = true then te σ2 H3 (addTurn w D (at_ (i + 1))) else at_ (i + 1) H3) (last : ∀ H, at_ xs.length H → Qd H) :
    ∃ W : Nat → Nat → Hp → Prop, (∃ m, W 0 m (upd H1 D (SetO w D (fun _ => false) 0))) ∧ ∀ i m H, W i m H → ((Itl K a).stop i H ∧ Qd H) ∨ ((Itl K a).go i H ∧ ∃ Nx : Hp → Prop, (∀ H', Nx H' → ∃ m', m' < m ∧ W (i + 1) m' H') ∧
      ∀ x H', (Itl K a).yld i H x H' → g x (wipe σ vs) H' fun σ2 H2 => wipe σ2 vs = wipe σ vs ∧ tt σ2 H2 fun b H3 => if b = true then te σ2 H3 (addTurn w D Nx) else Nx H3) := by
  refine ⟨fun i m H => m + i = xs.length ∧ at_ i H, ⟨xs.length, rfl, start⟩, fun i m H h => ?_⟩
  obtain ⟨e, p⟩ := h
  have q := stay i H (by omega) p
  cases m with
  | zero =>
    obtain rfl : i = xs.length := by omega
    exact .inl ⟨⟨xs, q, Nat.le_refl _⟩, last H p⟩
  | succ m =>
    have lt : i < xs.length := by omega
    refine .inr ⟨⟨xs, xs[i], q, List.getElem?_eq_getElem lt⟩, at_ (i + 1), fun H' p' => ⟨m, Nat.lt_succ_self m, by omega, p'⟩, fun x H' y => ?_⟩
    obtain ⟨rfl, y⟩ := y
    exact turn i x _ (y xs q) p
end RH
set_option Elab.async false
set_option linter.all false
set_option maxRecDepth 100000
set_option maxHeartbeats 2000000
namespace RH
open PySem PySem.Spec PyProof.Rows L2
def topS (i : Nat) : Stmt := PySem.Challenge.pw_restlesshelf_k04_whole_runs.main.body.getD i (.Pass ⟨0, 0, 0, 0⟩)
abbrev st_e_BadHabit : Stmt := inClass (topS 2) 0
theorem sc_e_BadHabit : NdefX.NScope ["self", "place", "__class__"] ["self", "place"] ["__class__"] (defScope st_e_BadHabit) := NdefX.nscope_by (by decide +kernel)
abbrev st_e_BadProgram : Stmt := inClass (topS 3) 0
theorem sc_e_BadProgram : NdefX.NScope ["self", "index", "__class__"] ["self", "index"] ["__class__"] (defScope st_e_BadProgram) := NdefX.nscope_by (by decide +kernel)
abbrev st_is_integer : Stmt := topS 16
theorem sc_is_integer : FnScope ["value"] ["value"] (defScope st_is_integer) :=
  ⟨rfl, rfl, rfl, by decide +kernel, rfl, by decide +kernel, by decide +kernel⟩
abbrev st_is_number : Stmt := topS 17
theorem sc_is_number : FnScope ["value", "low", "high"] ["value", "low", "high"] (defScope st_is_number) :=
  ⟨rfl, rfl, rfl, by decide +kernel, rfl, by decide +kernel, by decide +kernel⟩
abbrev st_is_row : Stmt := topS 18
theorem sc_is_row : FnScope ["value", "low", "high"] ["value", "low", "high"] (defScope st_is_row) :=
  ⟨rfl, rfl, rfl, by decide +kernel, rfl, by decide +kernel, by decide +kernel⟩
abbrev st_is_place : Stmt := topS 19
theorem sc_is_place : FnScope ["value", "places"] ["value", "places"] (defScope st_is_place) :=
  ⟨rfl, rfl, rfl, by decide +kernel, rfl, by decide +kernel, by decide +kernel⟩
abbrev st_are_places : Stmt := topS 20
theorem sc_are_places : FnScope ["value", "places", "place"] ["value", "places"] (defScope st_are_places) :=
  ⟨rfl, rfl, rfl, by decide +kernel, rfl, by decide +kernel, by decide +kernel⟩
abbrev st_is_layout : Stmt := topS 21
theorem sc_is_layout : FnScope ["value", "places"] ["value", "places"] (defScope st_is_layout) :=
  ⟨rfl, rfl, rfl, by decide +kernel, rfl, by decide +kernel, by decide +kernel⟩
abbrev st_is_instruction : Stmt := topS 22
theorem sc_is_instruction : FnScope ["value", "places", "count", "is_restless", "word"] ["value", "places", "count", "is_restless"] (defScope st_is_instruction) :=
  ⟨rfl, rfl, rfl, by decide +kernel, rfl, by decide +kernel, by decide +kernel⟩
abbrev st_check_number : Stmt := topS 23
theorem sc_check_number : FnScope ["value", "low", "high"] ["value", "low", "high"] (defScope st_check_number) :=
  ⟨rfl, rfl, rfl, by decide +kernel, rfl, by decide +kernel, by decide +kernel⟩
abbrev st_check_places : Stmt := topS 24
theorem sc_check_places : FnScope ["places"] ["places"] (defScope st_check_places) :=
  ⟨rfl, rfl, rfl, by decide +kernel, rfl, by decide +kernel, by decide +kernel⟩
abbrev st_check_habit : Stmt := topS 25
theorem sc_check_habit : FnScope ["habit", "place", "moves"] ["habit"] (defScope st_check_habit) :=
  ⟨rfl, rfl, rfl, by decide +kernel, rfl, by decide +kernel, by decide +kernel⟩
abbrev st_check_program : Stmt := topS 26
theorem sc_check_program : FnScope ["program", "places", "most", "is_restless", "index", "instruction"] ["program", "places", "most", "is_restless"] (defScope st_check_program) :=
  ⟨rfl, rfl, rfl, by decide +kernel, rfl, by decide +kernel, by decide +kernel⟩
abbrev st_check_still : Stmt := topS 27
theorem sc_check_still : FnScope ["program", "places"] ["program", "places"] (defScope st_check_still) :=
  ⟨rfl, rfl, rfl, by decide +kernel, rfl, by decide +kernel, by decide +kernel⟩
abbrev st_check_restless : Stmt := topS 28
theorem sc_check_restless : FnScope ["program", "places"] ["program", "places"] (defScope st_check_restless) :=
  ⟨rfl, rfl, rfl, by decide +kernel, rfl, by decide +kernel, by decide +kernel⟩
abbrev st_check_inputs : Stmt := topS 29
theorem sc_check_inputs : FnScope ["inputs", "number"] ["inputs"] (defScope st_check_inputs) :=
  ⟨rfl, rfl, rfl, by decide +kernel, rfl, by decide +kernel, by decide +kernel⟩
abbrev st_is_access : Stmt := topS 31
theorem sc_is_access : FnScope ["instruction"] ["instruction"] (defScope st_is_access) :=
  ⟨rfl, rfl, rfl, by decide +kernel, rfl, by decide +kernel, by decide +kernel⟩
abbrev st_has_ended : Stmt := topS 32
theorem sc_has_ended : FnScope ["program", "at"] ["program", "at"] (defScope st_has_ended) :=
  ⟨rfl, rfl, rfl, by decide +kernel, rfl, by decide +kernel, by decide +kernel⟩
abbrev st_nexts_of : Stmt := topS 33
theorem sc_nexts_of : FnScope ["program", "at", "word"] ["program", "at"] (defScope st_nexts_of) :=
  ⟨rfl, rfl, rfl, by decide +kernel, rfl, by decide +kernel, by decide +kernel⟩
abbrev st_found_in_order : Stmt := topS 34
theorem sc_found_in_order : FnScope ["program", "is_found", "level", "further", "at", "goal"] ["program"] (defScope st_found_in_order) :=
  ⟨rfl, rfl, rfl, by decide +kernel, rfl, by decide +kernel, by decide +kernel⟩
abbrev st_reached_of : Stmt := topS 35
theorem sc_reached_of : FnScope ["program"] ["program"] (defScope st_reached_of) :=
  ⟨rfl, rfl, rfl, by decide +kernel, rfl, by decide +kernel, by decide +kernel⟩
abbrev st_names_used : Stmt := topS 36
theorem sc_names_used : FnScope ["program", "accesses", "at", "_", "name"] ["program"] (defScope st_names_used) :=
  ⟨rfl, rfl, rfl, by decide +kernel, rfl, by decide +kernel, by decide +kernel⟩
abbrev st_flow_of : Stmt := topS 37
theorem sc_flow_of : FnScope ["program", "at", "goal"] ["program"] (defScope st_flow_of) :=
  ⟨rfl, rfl, rfl, by decide +kernel, rfl, by decide +kernel, by decide +kernel⟩
abbrev st_m___init__ : Stmt := inClass (topS 41) 0
theorem sc_m___init__ : FnScope ["self", "habit", "program", "inputs"] ["self", "habit", "program", "inputs"] (defScope st_m___init__) :=
  ⟨rfl, rfl, rfl, by decide +kernel, rfl, by decide +kernel, by decide +kernel⟩
abbrev st_m_is_done : Stmt := inClass (topS 41) 1
theorem sc_m_is_done : FnScope ["self"] ["self"] (defScope st_m_is_done) :=
  ⟨rfl, rfl, rfl, by decide +kernel, rfl, by decide +kernel, by decide +kernel⟩
abbrev st_m_step : Stmt := inClass (topS 41) 2
theorem sc_m_step : FnScope ["self", "instruction", "word"] ["self"] (defScope st_m_step) :=
  ⟨rfl, rfl, rfl, by decide +kernel, rfl, by decide +kernel, by decide +kernel⟩
abbrev st_m_next_input : Stmt := inClass (topS 41) 3
theorem sc_m_next_input : FnScope ["self"] ["self"] (defScope st_m_next_input) :=
  ⟨rfl, rfl, rfl, by decide +kernel, rfl, by decide +kernel, by decide +kernel⟩
abbrev st_m_use : Stmt := inClass (topS 41) 4
theorem sc_m_use : FnScope ["self", "word", "place"] ["self", "word", "place"] (defScope st_m_use) :=
  ⟨rfl, rfl, rfl, by decide +kernel, rfl, by decide +kernel, by decide +kernel⟩
abbrev st_m_be_moved : Stmt := inClass (topS 41) 5
theorem sc_m_be_moved : FnScope ["self", "moves", "held", "stood", "goal"] ["self", "moves"] (defScope st_m_be_moved) :=
  ⟨rfl, rfl, rfl, by decide +kernel, rfl, by decide +kernel, by decide +kernel⟩
abbrev st_run : Stmt := topS 42
theorem sc_run : FnScope ["habit", "program", "inputs", "most", "machine", "_", "word"] ["habit", "program", "inputs", "most"] (defScope st_run) :=
  ⟨rfl, rfl, rfl, by decide +kernel, rfl, by decide +kernel, by decide +kernel⟩
abbrev st_run_still : Stmt := topS 43
theorem sc_run_still : FnScope ["places", "program", "inputs", "most", "never_moves"] ["places", "program", "inputs", "most"] (defScope st_run_still) :=
  ⟨rfl, rfl, rfl, by decide +kernel, rfl, by decide +kernel, by decide +kernel⟩
abbrev st_run_restless : Stmt := topS 44
theorem sc_run_restless : FnScope ["habit", "program", "inputs", "most"] ["habit", "program", "inputs", "most"] (defScope st_run_restless) :=
  ⟨rfl, rfl, rfl, by decide +kernel, rfl, by decide +kernel, by decide +kernel⟩
abbrev st_reached : Stmt := topS 45
theorem sc_reached : FnScope ["places", "program"] ["places", "program"] (defScope st_reached) :=
  ⟨rfl, rfl, rfl, by decide +kernel, rfl, by decide +kernel, by decide +kernel⟩
abbrev st_used : Stmt := topS 46
theorem sc_used : FnScope ["places", "program"] ["places", "program"] (defScope st_used) :=
  ⟨rfl, rfl, rfl, by decide +kernel, rfl, by decide +kernel, by decide +kernel⟩
abbrev st_flow : Stmt := topS 47
theorem sc_flow : FnScope ["places", "program"] ["places", "program"] (defScope st_flow) :=
  ⟨rfl, rfl, rfl, by decide +kernel, rfl, by decide +kernel, by decide +kernel⟩
abbrev st__law_taken : Stmt := topS 49
theorem sc__law_taken : FnScope ["row", "many", "found", "cell"] ["row", "many"] (defScope st__law_taken) :=
  ⟨rfl, rfl, rfl, by decide +kernel, rfl, by decide +kernel, by decide +kernel⟩
abbrev st__law_pick : Stmt := topS 50
theorem sc__law_pick : FnScope ["row", "things"] ["row", "things"] (defScope st__law_pick) :=
  ⟨rfl, rfl, rfl, by decide +kernel, rfl, by decide +kernel, by decide +kernel⟩
abbrev st__law_program : Stmt := topS 51
theorem sc__law_program : FnScope ["row", "places", "many", "size", "found", "words", "at", "word"] ["row", "places", "many"] (defScope st__law_program) :=
  ⟨rfl, rfl, rfl, by decide +kernel, rfl, by decide +kernel, by decide +kernel⟩
abbrev st__law_inputs : Stmt := topS 52
theorem sc__law_inputs : FnScope ["row", "turn"] ["row"] (defScope st__law_inputs) :=
  ⟨rfl, rfl, rfl, by decide +kernel, rfl, by decide +kernel, by decide +kernel⟩
abbrev st__law_alike : Stmt := topS 53
theorem sc__law_alike : FnScope ["found", "due", "k"] ["found", "due"] (defScope st__law_alike) :=
  ⟨rfl, rfl, rfl, by decide +kernel, rfl, by decide +kernel, by decide +kernel⟩
abbrev st__law_run : Stmt := topS 54
theorem sc__law_run : FnScope ["program", "inputs", "most", "places", "habit", "cells", "hand", "at", "said", "left", "done", "word", "k", "more", "old", "spot", "over"] ["program", "inputs", "most", "places", "habit"] (defScope st__law_run) :=
  ⟨rfl, rfl, rfl, by decide +kernel, rfl, by decide +kernel, by decide +kernel⟩
abbrev st__law_order : Stmt := topS 55
theorem sc__law_order : FnScope ["row", "many", "left", "found"] ["row", "many"] (defScope st__law_order) :=
  ⟨rfl, rfl, rfl, by decide +kernel, rfl, by decide +kernel, by decide +kernel⟩
abbrev st__law_habit : Stmt := topS 56
theorem sc__law_habit : FnScope ["row", "places", "way", "found", "place", "moved", "other", "spot"] ["row", "places"] (defScope st__law_habit) :=
  ⟨rfl, rfl, rfl, by decide +kernel, rfl, by decide +kernel, by decide +kernel⟩
abbrev st__law_nexts : Stmt := topS 57
theorem sc__law_nexts : FnScope ["program", "at", "word"] ["program", "at"] (defScope st__law_nexts) :=
  ⟨rfl, rfl, rfl, by decide +kernel, rfl, by decide +kernel, by decide +kernel⟩
abbrev st__law_reached : Stmt := topS 58
theorem sc__law_reached : FnScope ["program", "found", "last", "longer", "at", "other"] ["program"] (defScope st__law_reached) :=
  ⟨rfl, rfl, rfl, by decide +kernel, rfl, by decide +kernel, by decide +kernel⟩
abbrev st_law : Stmt := topS 59
theorem sc_law : FnScope ["script", "row", "places", "program", "turn", "inputs", "most", "habit", "restless", "change", "due", "every", "accesses", "pairs", "at", "word", "other"] ["script"] (defScope st_law) :=
  ⟨rfl, rfl, rfl, by decide +kernel, rfl, by decide +kernel, by decide +kernel⟩
/-! ### what the top has written -/
/-- the def x of the text stands in the module under its name -/
structure Df (K : PySem.W.Frag) (mg : Str → Option Value) (x : Str) (st : Stmt) (ps : List Str) : Prop where
  ex : ∃ (f : Addr) (fd : FuncData), Fun K x x st f fd ∧ mg x = some (.ref f) ∧ Binds K fd ps []
/-- names of the interpreter that the module leaves alone -/
structure Bu (mg : Str → Option Value) : Prop where
  isi : mg "isinstance" = none
  int : mg "int" = none
  bool : mg "bool" = none
  str : mg "str" = none
  tuple : mg "tuple" = none
  list : mg "list" = none
  len : mg "len" = none
  all : mg "all" = none
  zip : mg "zip" = none
  range : mg "range" = none
  sorted : mg "sorted" = none
  enumerate : mg "enumerate" = none
  max : mg "max" = none
section
variable {P : Program} {w : World} {K : PySem.W.Frag} {mg : Str → Option Value} {base : Heap}
/-- a def that may be called by its name -/
structure Cal (P : Program) (w : World) (K : PySem.W.Frag) (mg : Str → Option Value) (base : Heap) (k : Nat) (x : Str) (sp : Sp) : Prop where
  ex : ∃ (f : Addr) (fd : FuncData) (ps : List Str), FnOk P w K mg base CX0 k f fd ps sp ∧ mg x = some (.ref f) ∧ PySem.W.keepIn K (.ref f) = true ∧ Binds K fd ps []
theorem mkCal {x : Str} {st : Stmt} {N ps : List Str} {k : Nat} {sp : Sp} (F : Df K mg x st ps) (S : FnScope N ps (defScope st)) (len : ∀ vs H Q E, sp vs H Q E → vs.length = ps.length)
    (hbody : ∀ (f : Addr) (cdv : Value) (A : Around) (outer : List Env) (s : Shared) (H : Hp) (vs : List V) (Q : VK) (E : XK), Room k (A.deeper (envOfC x (defScope st) s.heap.objs.size f cdv)) → sp vs H Q E →
      ∃ t, PSs (cxOf CX0 P w K mg base N x (defScope st) f cdv A outer s H E).nox (defBody st) t ∧ t { nx := fun _ H' => Q .non H', rt := Q } (start N vs) H) : Cal P w K mg base (k + 1) x sp := by
  obtain ⟨f, fd, F, g, b⟩ := F.ex
  exact ⟨f, fd, ps, F.ok S len (hbody f), g, F.kp, b⟩
theorem Cal.imp {k : Nat} {x : Str} {sp sp' : Sp} (c : Cal P w K mg base k x sp) (h : ∀ vs H Q E, sp' vs H Q E → sp vs H Q E) : Cal P w K mg base k x sp' := by
  obtain ⟨f, fd, ps, F, g, kp, b⟩ := c.ex
  exact ⟨f, fd, ps, F.imp h, g, kp, b⟩
end
theorem pc {X : Cx} {k j : Nat} {x : Str} {sp : Sp} {p pos : Pos} {e : Expr} {es : List Expr} {t : TA} (c : Cal X.prog X.w X.K X.mg X.base k x sp) (hr : Room j X.A) (ha : PA X (e :: es) t) (hk : k ≤ j := by decide) (hg : Gl X x := by rfl)
    (hdb : (x == ("__debug__" : Str)) = false := by decide) (he : starEach (e :: es) X.env = (false, eval e X.env) :: starEach es X.env := by rfl) (hpl : (backTo pos (starEach es X.env)).any (·.1) = false := by rfl) :
    PE X (.Call (.Name x p) (e :: es) [] pos) (tCall sp [] E0 t) := by
  obtain ⟨f, fd, ps, F, hm, kp, b⟩ := c.ex
  exact pe_call F (hr.mono hk) hg hm kp b .nil pass0 ha hdb he hpl
/-! ### heaps, tuples of ints, and of such -/
theorem same_new {H : Hp} {p : Addr} {o : HO} (h : H p = none) : Same H (upd H p o) := fun b x e => by
  rw [upd_ne (ne_of_none e h)]
  exact e
theorem seqT {K : PySem.W.Frag} {H H' : Hp} {a : Addr} {xs : List V} (e : ∀ o, H a = some o → H' a = some o) (h : SqT K H a xs) : SqT K H' a xs := by
  rcases h with (h | ⟨o, h⟩) | h
  · exact .inl (.inl (e _ h))
  · exact .inl (.inr ⟨o, e _ h⟩)
  · exact .inr h
theorem onT {K : PySem.W.Frag} {H H' : Hp} {a : Addr} {xs : List V} (e : Same H H') (h : SqT K H a xs) : SqT K H' a xs := seqT (fun o => e a o) h
theorem tupAt {K : PySem.W.Frag} {H : Hp} {a : Addr} {xs : List V} (h : H a = some (.tup xs)) : SqT K H a xs := .inl (.inl h)
theorem lstAt {K : PySem.W.Frag} {H : Hp} {a : Addr} {xs : List V} (h : H a = some (.lst xs)) : SqL K H a xs := .inl (.inl h)
/-- a tuple's type -/
theorem ty_tup {K : PySem.W.Frag} {H : Hp} {a : Addr} {xs : List V} (h : SqT K H a xs) : TyX K H (.ref a) (.type "tuple") := by
  rcases h with (h | ⟨o, h⟩) | ⟨o, its, n, h, c, _⟩
  · exact .base (.tup h)
  · exact .fTuple h
  · exact .kTuple h c
/-- each by each -/
inductive Each {α : Type} (R : V → α → Prop) : List V → List α → Prop
  | nil : Each R [] []
  | cons {v : V} {d : α} {vs : List V} {ds : List α} : R v d → Each R vs ds → Each R (v :: vs) (d :: ds)
theorem Each.len {α : Type} {R : V → α → Prop} : ∀ {vs : List V} {ds : List α}, Each R vs ds → vs.length = ds.length
  | _, _, .nil => rfl
  | _, _, .cons _ t => congrArg (· + 1) t.len
theorem Each.imp {α : Type} {R R' : V → α → Prop} (f : ∀ v d, R v d → R' v d) : ∀ {vs : List V} {ds : List α}, Each R vs ds → Each R' vs ds
  | _, _, .nil => .nil
  | _, _, .cons h t => .cons (f _ _ h) (t.imp f)
theorem Each.at {α : Type} {R : V → α → Prop} : ∀ {vs : List V} {ds : List α} {i : Nat} {v : V}, Each R vs ds → vs[i]? = some v → ∃ d, ds[i]? = some d ∧ R v d
  | _, _, _, _, .nil, e => by simp at e
  | _, _, 0, _, .cons h _, e => by
    have e' := Option.some.inj e
    subst e'
    exact ⟨_, rfl, h⟩
  | _, _, i + 1, _, .cons _ t, e => t.at (i := i) e
theorem Each.of {α : Type} {R : V → α → Prop} : ∀ {vs : List V} {ds : List α} {i : Nat} {d : α}, Each R vs ds → ds[i]? = some d → ∃ v, vs[i]? = some v ∧ R v d
  | _, _, _, _, .nil, e => by simp at e
  | _, _, 0, _, .cons h _, e => by
    have e' := Option.some.inj e
    subst e'
    exact ⟨_, rfl, h⟩
  | _, _, i + 1, _, .cons _ t, e => t.of (i := i) e
theorem Each.snoc {α : Type} {R : V → α → Prop} {v : V} {d : α} (h : R v d) : ∀ {vs : List V} {ds : List α}, Each R vs ds → Each R (vs ++ [v]) (ds ++ [d])
  | _, _, .nil => .cons h .nil
  | _, _, .cons g t => .cons g (t.snoc h)
/-- a tuple of ints -/
def TI (K : PySem.W.Frag) (H : Hp) (v : V) (ns : List Int) : Prop := ∃ a, v = .ref a ∧ SqT K H a (ns.map V.int)
/-- a tuple of such -/
def TII (K : PySem.W.Frag) (H : Hp) (v : V) (nss : List (List Int)) : Prop := ∃ a vs, v = .ref a ∧ SqT K H a vs ∧ Each (TI K H) vs nss
def THs (K : PySem.W.Frag) (H : Hp) (v : V) (hs : List (List (List Int))) : Prop := ∃ a vs, v = .ref a ∧ SqT K H a vs ∧ Each (TII K H) vs hs
/-- all tuples stand -/
def Tups (K : PySem.W.Frag) (H H' : Hp) : Prop := ∀ a xs, SqT K H a xs → SqT K H' a xs
theorem Same.tups {K : PySem.W.Frag} {H H' : Hp} (e : Same H H') : Tups K H H' := fun _ _ h => onT e h
theorem TI.on {K : PySem.W.Frag} {H H' : Hp} {v : V} {ns : List Int} (e : Tups K H H') (h : TI K H v ns) : TI K H' v ns := let ⟨a, h1, h2⟩ := h; ⟨a, h1, e _ _ h2⟩
theorem TII.on {K : PySem.W.Frag} {H H' : Hp} {v : V} {nss : List (List Int)} (e : Tups K H H') (h : TII K H v nss) : TII K H' v nss := let ⟨a, vs, h1, h2, h3⟩ := h; ⟨a, vs, h1, e _ _ h2, h3.imp fun _ _ z => z.on e⟩
theorem THs.on {K : PySem.W.Frag} {H H' : Hp} {v : V} {hs : List (List (List Int))} (e : Tups K H H') (h : THs K H v hs) : THs K H' v hs := let ⟨a, vs, h1, h2, h3⟩ := h; ⟨a, vs, h1, e _ _ h2, h3.imp fun _ _ z => z.on e⟩
theorem at_map {ns : List Int} {i : Nat} {n : Int} (h : ns[i]? = some n) : (ns.map V.int)[i]? = some (.int n) := by
  rw [List.getElem?_map, h]
  rfl
theorem all_snoc {α : Type} (f : α → Bool) {l : List α} {i : Nat} {x : α} (h : l[i]? = some x) : (l.take (i + 1)).map f = (l.take i).map f ++ [f x] := by
  rw [List.take_add_one, h, List.map_append]
  rfl
/-! ### lists of ints, compared -/
theorem dpAll_ints {K : PySem.W.Frag} {H : Hp} : ∀ ns : List Int, DpAll K H (ns.map V.int) (ns.map PyData.int)
  | [] => .nil
  | n :: ns => .cons (.int n) (dpAll_ints ns)
theorem dp_lst {K : PySem.W.Frag} {H : Hp} {a : Addr} {ns : List Int} (h : SqL K H a (ns.map V.int)) : Dp K H (.ref a) (.list (ns.map PyData.int)) := .lst h (dpAll_ints ns)
theorem dp_tup {K : PySem.W.Frag} {H : Hp} {a : Addr} {ns : List Int} (h : SqT K H a (ns.map V.int)) : Dp K H (.ref a) (.tuple (ns.map PyData.int)) := .tup h (dpAll_ints ns)
theorem eqv_lst (ns ms : List Int) : PyData.eqv (.list (ns.map PyData.int)) (.list (ms.map PyData.int)) = decide (ns = ms) := by
  rw [PyData.eqv]
  exact PySem.W.ked_eqvAll ns ms
def rg (n : Nat) : List Int := (List.range n).map fun i : Nat => (i : Int)
theorem rgV_rg (n : Nat) : rgV 0 (n : Int) = (rg n).map V.int := by
  unfold rgV rg
  rw [List.map_map, Int.sub_zero, Int.toNat_natCast]
  refine List.map_congr_left fun i _ => ?_
  show V.int (0 + (i : Int)) = V.int (i : Int)
  rw [Int.zero_add]
theorem rg_len (n : Nat) : (rg n).length = n := by
  unfold rg
  rw [List.length_map, List.length_range]
theorem rg_mem {n : Nat} {x : Int} : x ∈ rg n ↔ 0 ≤ x ∧ x < n := by
  unfold rg
  rw [List.mem_map]
  constructor
  · rintro ⟨i, h, rfl⟩
    have := List.mem_range.mp h
    omega
  · rintro ⟨h1, h2⟩
    exact ⟨x.toNat, List.mem_range.mpr (by omega), by omega⟩
theorem rg_at {n i : Nat} (h : i < n) : (rg n)[i]? = some (i : Int) := by
  unfold rg
  rw [List.getElem?_map, List.getElem?_range h]
  rfl
/-! ### walks over enumerate and zip of tuples -/
section
variable {K : PySem.W.Frag} {a b : Addr} {xs ys : List V}
theorem for_enumT {g : TG} {tb : TS} {D : Ends} {σ : L2.St} {H : Hp} (Pv : Nat → L2.St → Hp → Prop) (h0 : Pv 0 σ H) (hl : ∀ i σ H, Pv i σ H → SqT K H a xs)
    (hs : ∀ i x T σ H, xs[i]? = some x → Pv i σ H → H T = none → g (.ref T) σ (upd H T (.tup [.int (i : Nat), x])) fun σ2 H2 => tb { D with nx := Pv (i + 1), ct := Pv (i + 1), bk := D.nx } σ2 H2) (hd : ∀ σ H, Pv xs.length σ H → D.nx σ H) :
    ∃ W : Nat → Nat → L2.St → Hp → Prop, (∃ m, W 0 m σ H) ∧ ∀ i m σ H, W i m σ H →
      ((IteT K a).stop i H ∧ D.nx σ H) ∨ ((IteT K a).go i H ∧ ∃ N : L2.St → Hp → Prop, (∀ σ' H', N σ' H' → ∃ m', m' < m ∧ W (i + 1) m' σ' H') ∧ ∀ x H', (IteT K a).yld i H x H' → g x σ H' fun σ2 H2 => tb { D with nx := N, ct := N, bk := D.nx } σ2 H2) := by
  refine ⟨fun i m σ H => m = xs.length - i ∧ i ≤ xs.length ∧ Pv i σ H, ⟨xs.length, rfl, Nat.zero_le _, h0⟩, ?_⟩
  rintro i m σ H ⟨rfl, hi, p⟩
  have q := hl i σ H p
  by_cases hlt : i < xs.length
  · have hx : xs[i]? = some xs[i] := List.getElem?_eq_getElem hlt
    refine .inr ⟨⟨xs, _, q, hx⟩, Pv (i + 1), fun σ' H' p' => ⟨xs.length - (i + 1), by omega, rfl, hlt, p'⟩, fun v H' y => ?_⟩
    obtain ⟨T, x', rfl, hT, rfl, f1⟩ := y
    exact hs i x' T σ H (f1 xs q) p hT
  · have e : i = xs.length := by omega
    subst e
    exact .inl ⟨⟨xs, q, Nat.le_refl _⟩, hd σ H p⟩
end
end RH
set_option Elab.async false
set_option linter.all false
set_option maxRecDepth 100000
set_option maxHeartbeats 2000000
set_option Elab.async false
set_option linter.all false
set_option maxRecDepth 100000
set_option maxHeartbeats 2000000
namespace RH
open PySem PySem.Spec PyProof.Rows L2
section
variable {P : Program} {w : World} {K : PySem.W.Frag} {mg : Str → Option Value} {base : Heap}
/-- all are places -/
def inP (p : Int) (ns : List Int) : Bool := ns.all fun i => decide (0 ≤ i) && decide (i ≤ p - 1)
end
end RH
set_option Elab.async false
set_option linter.all false
set_option maxRecDepth 100000
set_option maxHeartbeats 2000000
namespace RH
open PySem PySem.Spec PyProof.Rows L2
/-! ### slices and constants -/
theorem cut_from (xs : List V) (k : Nat) : cutV xs (some (k : Int)) none = xs.drop k := by
  unfold cutV
  rw [HT.sIx_nat, HT.sIx_none]
  rcases Nat.le_total k xs.length with h | h
  · rw [Nat.min_eq_left h]
    exact List.take_of_length_le (by rw [List.length_drop]; exact Nat.le_refl _)
  · rw [Nat.min_eq_right h, Nat.sub_self, List.take_zero, List.drop_eq_nil_of_le h]
theorem cut_to (xs : List V) (k : Nat) : cutV xs none (some (k : Int)) = xs.take k := by
  unfold cutV
  rw [HT.sIx_nat, HT.sIx_none, List.drop_zero, Nat.sub_zero]
  rcases Nat.le_total k xs.length with h | h
  · rw [Nat.min_eq_left h]
  · rw [Nat.min_eq_right h, List.take_length, List.take_of_length_le h]
/-- a number that the module keeps -/
theorem pk {X : Cx} {x : Str} {i : Int} {pos : Pos} (h : ∃ t, X.mg x = some (.int i t)) (hg : Gl X x := by rfl) (hn : x ≠ "__name__" := by decide) (hd : (x == ("__debug__" : Str)) = false := by decide) : PE X (.Name x pos) (tC (.int i)) := by
  obtain ⟨t, h⟩ := h
  exact pe_glob (v := .int i) hg h ⟨_, rfl⟩ hd
/-! ### rules within a comprehension: the written part is told -/
def rLenK (K : PySem.W.Frag) : List V → Hp → VK → Prop := fun xs H Q => ∃ p ys, xs = [.ref p] ∧ (SqL K H p ys ∨ SqT K H p ys) ∧ Q (.int ys.length) H
theorem cl_len {X : Cx} (K : PySem.W.Frag) (h : X.K = K := by rfl) : CallR X (.builtin "len") (rLenK K) := by
  subst h
  exact call_len_seq
theorem ixT {X : Cx} (K : PySem.W.Frag) (h : X.K = K := by rfl) : IxR X (rIxT K) := by
  subst h
  exact ix_tup
theorem opIn {X : Cx} (K : PySem.W.Frag) (h : X.K = K := by rfl) : OpR X (compareOp .In) (rIn K false) := by
  subst h
  exact op_in_seq
/-! ### rising, a layout, a habit -/
def isLay (p : Nat) (ns : List Int) : Bool := ns.isPerm (rg p)
def isHab (nss : List (List Int)) : Bool := decide (2 ≤ nss.length) && decide (nss.length ≤ 5) && nss.all (isLay nss.length)
theorem rg_le (p : Nat) : (rg p).Pairwise (· ≤ ·) := by
  unfold rg
  rw [List.pairwise_map]
  exact (List.pairwise_lt_range (n := p)).imp fun h => by omega
end RH
set_option Elab.async false
set_option linter.all false
set_option maxRecDepth 100000
set_option maxHeartbeats 2000000
namespace RH
open PySem PySem.Spec PyProof.Rows L2
/-! ### the mathematics of marks -/
theorem ifT {c : Bool} {A B : Prop} (hc : c = true) (h : A) : if c = true then A else B := by
  rw [if_pos hc]
  exact h
theorem ifF {c : Bool} {A B : Prop} (hc : c = false) (h : B) : if c = true then A else B := by
  rw [hc, if_neg Bool.false_ne_true]
  exact h
/-- a habit of n places -/
structure Hb (n : Nat) (h : List (List Int)) : Prop where
  len : h.length = n
  perm : ∀ ns ∈ h, ns.Perm (rg n)
  lo : 2 ≤ n
  hi : n ≤ 5
theorem Hb.is {n : Nat} {h : List (List Int)} (q : Hb n h) : isHab h = true := by
  unfold isHab
  simp only [Bool.and_eq_true, decide_eq_true_eq, List.all_eq_true]
  refine ⟨⟨by have := q.len; have := q.lo; omega, by have := q.len; have := q.hi; omega⟩, fun ns hm => ?_⟩
  unfold isLay
  rw [q.len, List.isPerm_iff]
  exact q.perm ns hm
theorem Hb.short {n : Nat} {h : List (List Int)} (q : Hb n h) {ns : List Int} (hm : ns ∈ h) : ns.length = n := by
  rw [(q.perm ns hm).length_eq, rg_len]
def mv (h : List (List Int)) (t s : Int) : Int := (h.getD t.toNat []).getD s.toNat 0
theorem Hb.at {n : Nat} {h : List (List Int)} (q : Hb n h) {t s : Int} (t0 : 0 ≤ t) (t1 : t < n) (s0 : 0 ≤ s) (s1 : s < n) :
    ∃ ns, h[t.toNat]? = some ns ∧ ns[s.toNat]? = some (mv h t s) ∧ 0 ≤ mv h t s ∧ mv h t s < n := by
  have h1 : t.toNat < h.length := by rw [q.len]; omega
  have e1 : h[t.toNat]? = some h[t.toNat] := List.getElem?_eq_getElem h1
  have hm : h[t.toNat] ∈ h := List.getElem_mem h1
  have h2 : s.toNat < h[t.toNat].length := by rw [q.short hm]; omega
  have e2 : h[t.toNat][s.toNat]? = some h[t.toNat][s.toNat] := List.getElem?_eq_getElem h2
  have e4 : h.getD t.toNat [] = h[t.toNat] := by
    rw [List.getD_eq_getElem?_getD, e1]
    rfl
  have e3 : mv h t s = h[t.toNat][s.toNat] := by
    unfold mv
    rw [e4, List.getD_eq_getElem?_getD, e2]
    rfl
  have h4 := rg_mem.mp ((q.perm _ hm).mem_iff.mp (List.getElem_mem h2))
  rw [← e3] at h4
  exact ⟨_, e1, by rw [e3]; exact e2, h4⟩
def InR (n : Nat) (i : Int) : Prop := 0 ≤ i ∧ i < n
/-- an item of an int's place -/
theorem at_int {α : Type} {xs : List α} {z : Int} {v : α} (h0 : 0 ≤ z) (h : xs[z.toNat]? = some v) : atI xs z = some v := by
  have e : z = ((z.toNat : Nat) : Int) := by omega
  rw [e]
  exact atI_nat h
end RH
set_option Elab.async false
set_option linter.all false
set_option maxRecDepth 100000
set_option maxHeartbeats 2000000
set_option Elab.async false
set_option linter.all false
set_option maxRecDepth 100000
set_option maxHeartbeats 2000000
namespace RH
open PySem PySem.Spec PyProof.Rows L2
/-! ### the law's own row of draws -/
/-- all but what stands at p is as it was -/
def But (p : Addr) (H H' : Hp) : Prop := ∀ b o, H b = some o → b ≠ p → H' b = some o
theorem But.refl (p : Addr) (H : Hp) : But p H H := fun _ _ e _ => e
theorem But.trans {p : Addr} {H H1 H2 : Hp} (a : But p H H1) (b : But p H1 H2) : But p H H2 := fun c o e n => b c o (a c o e n) n
theorem But.same {p : Addr} {H H1 : Hp} (a : Same H H1) : But p H H1 := fun c o e _ => a c o e
theorem But.upd {p : Addr} {H H1 : Hp} {o : HO} (a : But p H H1) : But p H (upd H1 p o) := fun c u e n => by
  rw [upd_ne n]
  exact a c u e n
/-- all that is no list is as it was -/
def Fix (H H' : Hp) : Prop := ∀ b o, H b = some o → (∀ xs, o ≠ .lst xs) → H' b = some o
theorem Fix.refl (H : Hp) : Fix H H := fun _ _ e _ => e
theorem Fix.trans {H H1 H2 : Hp} (a : Fix H H1) (b : Fix H1 H2) : Fix H H2 := fun c o e n => b c o (a c o e n) n
theorem Fix.same {H H1 : Hp} (a : Same H H1) : Fix H H1 := fun c o e _ => a c o e
theorem Fix.lst {H : Hp} {p : Addr} {xs : List V} {o : HO} (h : H p = some (.lst xs)) : Fix H (L2.upd H p o) := fun b u e n => by
  by_cases z : b = p
  · subst z
    rw [h] at e
    cases e
    exact absurd rfl (n _)
  · rw [upd_ne z]
    exact e
theorem Fix.tups {K : PySem.W.Frag} {H H' : Hp} (b : Fix H H') : Tups K H H' := fun a xs hS => by
  rcases hS with (hS | ⟨u, hS⟩) | hS
  · exact .inl (.inl (b _ _ hS (fun _ z => nomatch z)))
  · exact .inl (.inr ⟨u, b _ _ hS (fun _ z => nomatch z)⟩)
  · exact .inr hS
theorem But.fix {H H' : Hp} {p : Addr} {xs : List V} (h : H p = some (.lst xs)) (b : But p H H') : Fix H H' := fun c o e n => b c o e fun z => by
  subst z
  rw [h] at e
  cases e
  exact n _ rfl
/-- a list that never changes -/
def Fz (K : PySem.W.Frag) (H : Hp) (a : Addr) (xs : List V) : Prop := (∃ o, H a = some (.frz o (.lst xs))) ∨ ∀ H', SqL K H' a xs
theorem Fz.seq {K : PySem.W.Frag} {H : Hp} {a : Addr} {xs : List V} (h : Fz K H a xs) : SqL K H a xs := by
  rcases h with ⟨o, h⟩ | h
  · exact .inl (.inr ⟨o, h⟩)
  · exact h H
theorem Fz.on {K : PySem.W.Frag} {H H' : Hp} {a : Addr} {xs : List V} (f : Fix H H') (h : Fz K H a xs) : Fz K H' a xs := by
  rcases h with ⟨o, h⟩ | h
  · exact .inl ⟨o, f _ _ h (fun _ z => nomatch z)⟩
  · exact .inr h
theorem Fz.of {K : PySem.W.Frag} {H : Hp} {a : Addr} {xs : List V} (o : Only H) (h : SqL K H a xs) : Fz K H a xs := by
  rcases h with (h | h) | h
  · rcases o a with e | ⟨u, ys, e⟩
    · rw [e] at h
      cases h
    · rw [e] at h
      cases h
  · exact .inl h
  · exact .inr fun H' => .inr h
/-- row: the script, how many of it are taken, the running number, what is left of a great one -/
structure RowA (K : PySem.W.Frag) (H : Hp) (p a : Addr) (ns : List Int) (i r c : Int) : Prop where
  at_ : H p = some (.lst [.ref a, .int i, .int r, .int c])
  fz : Fz K H a (ns.map V.int)
  pos : 0 ≤ i
theorem RowA.scr {K : PySem.W.Frag} {H : Hp} {p a : Addr} {ns : List Int} {i r c : Int} (h : RowA K H p a ns i r c) : SqL K H a (ns.map V.int) := h.fz.seq
def Row (K : PySem.W.Frag) (H : Hp) (p : Addr) : Prop := ∃ a ns i r c, RowA K H p a ns i r c
theorem RowA.put {K : PySem.W.Frag} {H : Hp} {p a : Addr} {ns : List Int} {i r c i' r' c' : Int} (h : RowA K H p a ns i r c) (hi : 0 ≤ i') :
    RowA K (upd H p (.lst [.ref a, .int i', .int r', .int c'])) p a ns i' r' c' :=
  ⟨upd_same, h.fz.on (Fix.lst h.at_), hi⟩
theorem RowA.row {K : PySem.W.Frag} {H : Hp} {p a : Addr} {ns : List Int} {i r c : Int} (h : RowA K H p a ns i r c) : Row K H p := ⟨_, _, _, _, _, h⟩
theorem Row.lst {K : PySem.W.Frag} {H : Hp} {p : Addr} (h : Row K H p) : ∃ xs, H p = some (.lst xs) := by
  obtain ⟨a, ns, i, r, c, h⟩ := h
  exact ⟨_, h.at_⟩
theorem Row.fix {K : PySem.W.Frag} {H H' : Hp} {p : Addr} (h : Row K H p) (b : But p H H') : Fix H H' := by
  obtain ⟨xs, e⟩ := h.lst
  exact But.fix e b
theorem Row.on {K : PySem.W.Frag} {H H' : Hp} {p : Addr} (h : Row K H p) (f : Fix H H') (e : H' p = H p) : Row K H' p := by
  obtain ⟨a, ns, i, r, c, h⟩ := h
  exact ⟨a, ns, i, r, c, e.trans h.at_, h.fz.on f, h.pos⟩
theorem Row.same {K : PySem.W.Frag} {H H' : Hp} {p : Addr} (h : Row K H p) (s : Same H H') : Row K H' p := by
  obtain ⟨xs, e⟩ := h.lst
  exact h.on (Fix.same s) ((s _ _ e).trans e.symm)
/-- another list is written -/
theorem Row.lst_upd {K : PySem.W.Frag} {H : Hp} {p q : Addr} {xs : List V} {o : HO} (h : Row K H p) (e : H q = some (.lst xs)) (n : p ≠ q) : Row K (upd H q o) p := h.on (Fix.lst e) (upd_ne n)
/-- a new object -/
theorem Row.new {K : PySem.W.Frag} {H : Hp} {p q : Addr} {o : HO} (h : Row K H p) (e : H q = none) : Row K (upd H q o) p := h.same (same_new e)
theorem Row.ne {K : PySem.W.Frag} {H : Hp} {p q : Addr} (h : Row K H p) (e : H q = none) : p ≠ q := by
  obtain ⟨xs, e'⟩ := h.lst
  exact ne_of_none e' e
section
variable {P : Program} {w : World} {K : PySem.W.Frag} {mg : Str → Option Value} {base : Heap}
def spTaken (K : PySem.W.Frag) : Sp := fun vs H Q _ => ∃ (p : Addr) (m : Int), vs = [.ref p, .int m] ∧ Row K H p ∧ 0 < m ∧ m < 1048576 ∧ ∀ k H', 0 ≤ k → k < m → But p H H' → Row K H' p → Q (.int k) H'
theorem ok_taken (F : Df K mg "_law_taken" st__law_taken ["row", "many"]) (B : Bu mg) : Cal P w K mg base 1 "_law_taken" (spTaken K) := by
  refine mkCal F sc__law_taken (fun vs H Q E h => ?_) (fun f cdv A outer s H vs Q E hr h => ?_)
  · obtain ⟨p, m, rfl, _⟩ := h
    rfl
  · obtain ⟨p, m, rfl, ⟨a, ns, i, r, c, hR⟩, m0, m1, q⟩ := h
    refine ⟨_, pss_cons (ps_if (pt_cmpR op_gt (pe_ix ix_list (pv 0) pe_int (fun _ _ => rfl)) pe_int (nomark _))
        (pss_cons (ps_set (i := 2) sc__law_taken.nd rfl (.inl rfl) (pe_op op_mod (pe_callTy call_int1 (by rfl) B.int (by decide +kernel) (pa_cons (pe_ix ix_list (pv 0) pe_int (fun _ _ => rfl)) pa_nil)) (pv 1)))
        (pss_cons (ps_asg (pe_op op_fdiv (pe_ix ix_list (pv 0) pe_int (fun _ _ => rfl)) (pv 1)) (pg_sub (pv 0) pe_int set_list))
        (pss_one (ps_ret (pv 2))))) pss_nil)
      (pss_cons (ps_asg (pe_op op_add (pe_ix ix_list (pv 0) pe_int (fun _ _ => rfl)) pe_int) (pg_sub (pv 0) pe_int set_list))
      (pss_cons (ps_if (pt_cmpR op_gt (pe_ix ix_list (pv 0) pe_int (fun _ _ => rfl)) (pe_callB (cl_len K) (by rfl) B.len PySem.boot_len (pa_cons (pe_ix ix_list (pv 0) pe_int (fun _ _ => rfl)) pa_nil)) (nomark _))
        (pss_cons (ps_asg (pe_op op_mod (pe_callTy call_int1 (by rfl) B.int (by decide +kernel) (pa_cons (pe_op op_add (pe_op op_mul (pe_ix ix_list (pv 0) pe_int (fun _ _ => rfl)) pe_int) pe_int) pa_nil)) pe_int) (pg_sub (pv 0) pe_int set_list))
        (pss_one (ps_ret (pe_op op_mod (pe_callTy call_int1 (by rfl) B.int (by decide +kernel) (pa_cons (pe_op op_fdiv (pe_ix ix_list (pv 0) pe_int (fun _ _ => rfl)) pe_int) pa_nil)) (pv 1))))) pss_nil)
      (pss_cons (ps_set (i := 3) sc__law_taken.nd rfl (.inl rfl) (pe_ix ix_list (pe_ix ix_list (pv 0) pe_int (fun _ _ => rfl)) (pe_op op_sub (pe_ix ix_list (pv 0) pe_int (fun _ _ => rfl)) pe_int) (fun _ _ => rfl)))
      (pss_cons (ps_asg (pe_op op_mod (pe_callTy call_int1 (by rfl) B.int (by decide +kernel) (pa_cons (pe_op op_add (pe_op op_add (pe_op op_mul (pe_ix ix_list (pv 0) pe_int (fun _ _ => rfl)) pe_int) (pv 3)) pe_int) pa_nil)) pe_int) (pg_sub (pv 0) pe_int set_list))
      (pss_cons (ps_if (pt_cmpR op_ge (pv 3) (pe_op op_pow pe_int pe_int) (nomark _))
        (pss_one (ps_asg (pe_op op_fdiv (pv 3) (pv 1)) (pg_sub (pv 0) pe_int set_list))) pss_nil)
      (pss_one (ps_ret (pe_op op_mod (pe_callTy call_int1 (by rfl) B.int (by decide +kernel) (pa_cons (pv 3) pa_nil)) (pv 1))))))))), ?_⟩
    have L := hR.at_
    refine ⟨_, rfl, p, _, 3, .int c, rfl, rfl, lstAt L, rfl, c, 0, rfl, rfl, _, rfl, ite2 (fun e => ?_) (fun e => ?_)⟩
    · refine ⟨_, rfl, p, _, 3, .int c, rfl, rfl, lstAt L, rfl, .inl ⟨c, rfl, _, rfl, c, m, rfl, rfl, m0, ?_⟩⟩
      refine ⟨_, rfl, p, _, 3, .int c, rfl, rfl, lstAt L, rfl, _, rfl, c, m, rfl, rfl, ⟨m0, by omega⟩, _, rfl, p, _, 3, 3, rfl, rfl, L, rfl, ?_⟩
      exact ⟨_, rfl, q (c % m) _ (Int.emod_nonneg _ (by omega)) (Int.emod_lt_of_pos _ m0) (But.upd (But.refl p H)) (hR.put hR.pos).row⟩
    · refine ⟨_, rfl, p, _, 1, .int i, rfl, rfl, lstAt L, rfl, i, 1, rfl, rfl, _, rfl, p, _, 1, 1, rfl, rfl, L, rfl, ?_⟩
      have R1 : RowA K (upd H p (.lst [.ref a, .int (i + 1), .int r, .int c])) p a ns (i + 1) r c := hR.put (by have := hR.pos; omega)
      have L1 := R1.at_
      refine ⟨_, rfl, p, _, 1, .int (i + 1), rfl, rfl, lstAt L1, rfl, _, rfl, p, _, 0, .ref a, rfl, rfl, lstAt L1, rfl, a, _, rfl, .inl R1.scr, _, _, rfl, rfl, _, rfl, ite2 (fun e1 => ?_) (fun e1 => ?_)⟩
      · refine ⟨_, rfl, p, _, 2, .int r, rfl, rfl, lstAt L1, rfl, r, 48271, rfl, rfl, .inr ⟨by decide, by decide⟩, _, 11, rfl, rfl, .inl ⟨_, rfl, _, _, rfl, rfl, (by show (0 : Int) < 2147483647; decide), _, rfl, p, _, 2, 2, rfl, rfl, L1, rfl, ?_⟩⟩
        have R2 : RowA K (upd (upd H p (.lst [.ref a, .int (i + 1), .int r, .int c])) p (.lst [.ref a, .int (i + 1), .int ((r * 48271 + 11) % 2147483647), .int c])) p a ns (i + 1) ((r * 48271 + 11) % 2147483647) c := R1.put R1.pos
        refine ⟨_, rfl, p, _, 2, _, rfl, rfl, lstAt R2.at_, rfl, _, 7, rfl, rfl, ⟨by decide, by decide⟩, .inl ⟨_, rfl, _, rfl, _, m, rfl, rfl, m0, ?_⟩⟩
        exact q _ _ (Int.emod_nonneg _ (by omega)) (Int.emod_lt_of_pos _ m0) (But.upd (But.upd (But.refl p H))) R2.row
      · have hi : i < (ns.length : Int) := by
          rw [List.length_map] at e1
          have e9 : i + 1 ≤ (ns.length : Int) := by simpa using e1
          omega
        have hi0 := hR.pos
        obtain ⟨z, hz⟩ : ∃ z, ns[i.toNat]? = some z := ⟨ns[i.toNat]'(by omega), List.getElem?_eq_getElem (by omega)⟩
        refine ⟨_, rfl, p, _, 0, .ref a, rfl, rfl, lstAt L1, rfl, _, rfl, p, _, 1, .int (i + 1), rfl, rfl, lstAt L1, rfl, _, 1, rfl, rfl, a, _, i + 1 - 1, .int z, rfl, rfl, R1.scr, at_int (by omega) (at_map (by rw [show (i + 1 - 1).toNat = i.toNat by omega]; exact hz)), ?_⟩
        refine ⟨_, rfl, p, _, 2, .int r, rfl, rfl, lstAt L1, rfl, r, 48271, rfl, rfl, .inr ⟨by decide, by decide⟩, _, rfl, _, z, rfl, rfl, _, 11, rfl, rfl, .inl ⟨_, rfl, _, _, rfl, rfl, (by show (0 : Int) < 2147483647; decide), _, rfl, p, _, 2, 2, rfl, rfl, L1, rfl, ?_⟩⟩
        have R2 : RowA K (upd (upd H p (.lst [.ref a, .int (i + 1), .int r, .int c])) p (.lst [.ref a, .int (i + 1), .int ((r * 48271 + z + 11) % 2147483647), .int c])) p a ns (i + 1) ((r * 48271 + z + 11) % 2147483647) c := R1.put R1.pos
        refine ⟨_, rfl, 10, 18, rfl, rfl, ⟨by decide, by decide, by decide⟩, z, _, rfl, rfl, _, rfl, ite2 (fun e2 => ?_) (fun e2 => ?_)⟩
        · refine ⟨_, rfl, _, rfl, z, m, rfl, rfl, ⟨m0, by omega⟩, _, rfl, p, _, 3, 3, rfl, rfl, R2.at_, rfl, ?_⟩
          refine ⟨_, rfl, .inl ⟨z, rfl, _, rfl, z, m, rfl, rfl, m0, ?_⟩⟩
          exact q _ _ (Int.emod_nonneg _ (by omega)) (Int.emod_lt_of_pos _ m0) (But.upd (But.upd (But.upd (But.refl p H)))) (R2.put R2.pos).row
        · refine ⟨_, rfl, .inl ⟨z, rfl, _, rfl, z, m, rfl, rfl, m0, ?_⟩⟩
          exact q _ _ (Int.emod_nonneg _ (by omega)) (Int.emod_lt_of_pos _ m0) (But.upd (But.upd (But.refl p H))) R2.row
end
end RH
set_option Elab.async false
set_option linter.all false
set_option maxRecDepth 100000
set_option maxHeartbeats 2000000
namespace RH
open PySem PySem.Spec PyProof.Rows L2
theorem ix_nat {n : Nat} {k : Int} (h0 : 0 ≤ k) (h1 : k < n) : seqIndex? k n = some k.toNat := by
  unfold seqIndex?
  have e : (if k < 0 then k + (n : Int) else k) = k := if_neg (by omega)
  simp only [e]
  rw [if_pos]
  simp [h0, h1]
theorem But.fresh {p l : Addr} {H H1 : Hp} {o : HO} (a : But p H H1) (e : H l = none) : But p H (L2.upd H1 l o) := fun c u h n => by
  rw [upd_ne (ne_of_none h e)]
  exact a c u h n
theorem map_erase (ns : List Int) (k : Nat) : (ns.map V.int).eraseIdx k = (ns.eraseIdx k).map V.int := by
  induction ns generalizing k with
  | nil => rfl
  | cons n ns ih =>
    cases k with
    | zero => rfl
    | succ k =>
      show V.int n :: (ns.map V.int).eraseIdx k = V.int n :: (ns.eraseIdx k).map V.int
      rw [ih]
theorem perm_erase : ∀ {ls : List Int} {k : Nat} {y : Int}, ls[k]? = some y → ls.Perm (y :: ls.eraseIdx k)
  | [], k, y, h => by simp at h
  | a :: ls, 0, y, h => by
    have e : a = y := Option.some.inj h
    subst e
    exact List.Perm.refl _
  | a :: ls, k + 1, y, h => by
    have ih := perm_erase (ls := ls) (k := k) (y := y) h
    exact (ih.cons a).trans (List.Perm.swap ..)
section
variable {P : Program} {w : World} {K : PySem.W.Frag} {mg : Str → Option Value} {base : Heap}
def spPick (K : PySem.W.Frag) : Sp := fun vs H Q _ => ∃ (p l : Addr) (xs : List V), vs = [.ref p, .ref l] ∧ Row K H p ∧ H l = some (.lst xs) ∧ l ≠ p ∧ 0 < xs.length ∧ xs.length ≤ 1000 ∧
  ∀ (i : Nat) x H', xs[i]? = some x → But p H H' → Row K H' p → Q x H'
theorem ok_pick (F : Df K mg "_law_pick" st__law_pick ["row", "things"]) (B : Bu mg) (CT : Cal P w K mg base 1 "_law_taken" (spTaken K)) : Cal P w K mg base 2 "_law_pick" (spPick K) := by
  refine mkCal F sc__law_pick (fun vs H Q E h => ?_) (fun f cdv A outer s H vs Q E hr h => ?_)
  · obtain ⟨p, l, xs, rfl, _⟩ := h
    rfl
  · obtain ⟨p, l, xs, rfl, hR, hl, hlp, l0, l1, q⟩ := h
    refine ⟨_, pss_one (ps_ret (pe_ix ix_list (pv 1) (pc CT hr (pa_cons (pv 0) (pa_cons (pe_callB (cl_len K) (by rfl) B.len PySem.boot_len (pa_cons (pv 1) pa_nil)) pa_nil))) (fun _ _ => rfl))), ?_⟩
    refine ⟨_, rfl, _, rfl, _, rfl, l, xs, rfl, .inl (lstAt hl), p, xs.length, rfl, hR, by omega, by omega, fun k H' k0 k1 hB hR' => ?_⟩
    have hk : k.toNat < xs.length := by omega
    exact ⟨l, xs, k, _, rfl, rfl, lstAt (hB _ _ hl hlp), at_int k0 (List.getElem?_eq_getElem hk), q _ _ H' (List.getElem?_eq_getElem hk) hB hR'⟩
def spOrder (K : PySem.W.Frag) : Sp := fun vs H Q _ => ∃ (p : Addr) (n : Nat), vs = [.ref p, .int n] ∧ Row K H p ∧ n ≤ 1000 ∧ ∀ (H' : Hp) (q : Addr) (ns : List Int), ns.Perm (rg n) → But p H H' → Row K H' p → H q = none → FT H' q ns → Q (.ref q) H'
theorem ok_order (F : Df K mg "_law_order" st__law_order ["row", "many"]) (B : Bu mg) (CT : Cal P w K mg base 1 "_law_taken" (spTaken K)) : Cal P w K mg base 2 "_law_order" (spOrder K) := by
  refine mkCal F sc__law_order (fun vs H Q E h => ?_) (fun f cdv A outer s H vs Q E hr h => ?_)
  · obtain ⟨p, n, rfl, _⟩ := h
    rfl
  · obtain ⟨p, n, rfl, hR, hn, q⟩ := h
    refine ⟨_, pss_cons (ps_par (i := 2) (j := 3) rfl sc__law_order.nd rfl rfl (by decide) rfl rfl (pa_cons (pe_listRg rfl (by rfl) B.list (prg_1 (by rfl) B.range (pv 1))) (pa_cons (pe_lst pa_nil) pa_nil)) rfl)
      (pss_cons (ps_while PassesOwn.never (pt_cmpR (op_neD hr.units) (pv 2) (pe_lst pa_nil) (nomark _))
        (pss_one (ps_expr (pe_bm PySem.F.plainAttrs_list PySem.F.slot_list_append PySem.F.type_list_append mt_append (pv 3) (pa_cons (pe_bm PySem.F.plainAttrs_list PySem.F.slot_list_pop PySem.F.type_list_pop mt_popAt (pv 2)
          (pa_cons (pc CT hr (pa_cons (pv 0) (pa_cons (pe_callB (cl_len K) (by rfl) B.len PySem.boot_len (pa_cons (pv 2) pa_nil)) pa_nil))) pa_nil)) pa_nil)))))
      (pss_one (ps_ret (pe_tupleF (by rfl) B.tuple (pv 3))))), ?_⟩
    refine ⟨_, rfl, n, rfl, ⟨by omega, by omega, by omega, by omega, by omega⟩, fun l hl => ⟨Nat.zero_le _, fun g hg => ⟨_, _, rfl, ?_⟩⟩⟩
    have hlg : l ≠ g := ne_of_none upd_same hg
    have hgH : H g = none := by
      rw [upd_ne (Ne.symm hlg)] at hg
      exact hg
    have hpl : p ≠ l := hR.ne hl
    have hpg : p ≠ g := hR.ne hgH
    refine ⟨fun m σ H' => ∃ ls fs : List Int, m = ls.length ∧ σ = [some (.ref p), some (.int n), some (.ref l), some (.ref g)] ∧ But p H H' ∧ Row K H' p ∧ H' l = some (.lst (ls.map V.int)) ∧ H' g = some (.lst (fs.map V.int)) ∧ (fs ++ ls).Perm (rg n),
      ⟨(rg n).length, rg n, [], rfl, rfl, But.same (Same.trans (same_new hl) (same_new hg)), (hR.new hl).new hg, ?_, upd_same, List.Perm.refl _⟩, ?_⟩
    · rw [upd_ne hlg, upd_same, rgV_rg]
    rintro m σ H1 ⟨ls, fs, rfl, rfl, hB, hR1, e1, e2, hpm⟩
    refine ⟨_, rfl, Nat.zero_le _, fun z hz => ?_⟩
    have sz : Same H1 (upd H1 z (.lst [])) := same_new hz
    refine ⟨_, _, dp_lst (ns := ls) (lstAt (sz _ _ e1)), dp_lst (ns := []) (lstAt upd_same), PySem.W.ke_shaped_ints _, PySem.W.ke_shaped_ints _, _, rfl, ?_⟩
    rw [eqv_lst]
    have len1 : fs.length + ls.length = n := by
      have := hpm.length_eq
      rw [List.length_append, rg_len] at this
      exact this
    cases ls with
    | nil =>
      refine ifF rfl ⟨_, rfl, g, _, rfl, lstAt (sz _ _ e2), fun t ob ht hob => ?_⟩
      rw [List.append_nil] at hpm
      have st : Same H1 (upd (upd H1 z (.lst [])) t (.frz ob (.tup (fs.map V.int)))) := sz.trans (same_new ht)
      refine q _ t fs hpm (hB.trans (But.same st)) (hR1.same st) ?_ ⟨ob, upd_same, hob⟩
      cases e : H t with
      | none => rfl
      | some o =>
        exfalso
        by_cases zp : t = p
        · obtain ⟨xs, ep⟩ := hR1.lst
          rw [zp, sz _ _ ep] at ht
          cases ht
        · rw [sz _ _ (hB _ _ e zp)] at ht
          cases ht
    | cons y ls =>
      have hRz : Row K (upd H1 z (.lst [])) p := hR1.same sz
      have e1z := sz _ _ e1
      have e2z := sz _ _ e2
      refine ifT rfl ⟨fun σ' H' => ∃ m', m' < (y :: ls).length ∧ ∃ ls fs : List Int, m' = ls.length ∧ σ' = [some (.ref p), some (.int n), some (.ref l), some (.ref g)] ∧ But p H H' ∧ Row K H' p ∧ H' l = some (.lst (ls.map V.int)) ∧ H' g = some (.lst (fs.map V.int)) ∧ (fs ++ ls).Perm (rg n), fun _ _ h => h, ?_⟩
      refine ⟨_, rfl, .inl ⟨rfl, _, lstAt e2z⟩, _, rfl, .inl ⟨rfl, _, lstAt e1z⟩, _, rfl, _, rfl, l, _, rfl, .inl (lstAt e1z), p, _, rfl, hRz, ?_, ?_, fun k H3 k0 k1 hB3 hR3 => ?_⟩
      · rw [List.length_map, List.length_cons]
        omega
      · rw [List.length_map]
        omega
      rw [List.length_map] at k1
      have e1' := hB3 _ _ e1z (Ne.symm hpl)
      have e2' := hB3 _ _ e2z (Ne.symm hpg)
      have hk : k.toNat < (y :: ls).length := by omega
      obtain ⟨v, hv⟩ : ∃ v, (y :: ls)[k.toNat]? = some v := ⟨_, List.getElem?_eq_getElem hk⟩
      have e2u : (upd H3 l (.lst (((y :: ls).map V.int).eraseIdx k.toNat))) g = some (.lst (fs.map V.int)) := by
        rw [upd_ne (Ne.symm hlg)]
        exact e2'
      refine ⟨l, _, k, k.toNat, .int v, rfl, rfl, e1', by omega, by omega, ?_, at_map hv, g, _, .int v, rfl, rfl, e2u, ?_, ?_⟩
      · rw [List.length_map]
        exact ix_nat k0 k1
      · rw [List.length_map]
        exact small1000 (by have := List.length_cons (a := y) (as := ls); omega)
      · refine ⟨((y :: ls).eraseIdx k.toNat).length, ?_, (y :: ls).eraseIdx k.toNat, fs ++ [v], rfl, rfl, ?_, ?_, ?_, ?_, ?_⟩
        · rw [List.length_eraseIdx_of_lt hk]
          omega
        · exact (((hB.trans (But.same sz)).trans hB3).fresh hl).fresh hgH
        · exact (hR3.lst_upd e1' hpl).lst_upd e2u hpg
        · rw [upd_ne hlg, upd_same, map_erase]
        · rw [upd_same, List.map_append]
          rfl
        · have hp2 := perm_erase hv
          refine List.Perm.trans ?_ hpm
          rw [List.append_assoc]
          exact List.Perm.append_left fs hp2.symm
end
end RH
set_option Elab.async false
set_option linter.all false
set_option maxRecDepth 100000
set_option maxHeartbeats 2000000
namespace RH
open PySem PySem.Spec PyProof.Rows L2
/-! ### _law_alike of equal data -/
theorem Dp.on {K : PySem.W.Frag} {H H' : Hp} (s : Same H H') : ∀ (d : PyData) (v : V), Dp K H v d → Dp K H' v d
  | d, v, h => by
    refine Dp.rec (motive_1 := fun v d _ => Dp K H' v d) (motive_2 := fun vs ds _ => DpAll K H' vs ds) .non .bl .int .str ?_ ?_ .nil ?_ h
    · intro a xs ds h1 _ h2
      exact .lst (s.seq h1) h2
    · intro a xs ds h1 _ h2
      exact .tup (onT s h1) h2
    · intro v vs d ds _ _ h1 h2
      exact .cons h1 h2
theorem DpAll.len {K : PySem.W.Frag} {H : Hp} : ∀ {vs : List V} {ds : List PyData}, DpAll K H vs ds → vs.length = ds.length
  | _, _, .nil => rfl
  | _, _, .cons _ t => congrArg (· + 1) (DpAll.len t)
theorem DpAll.of {K : PySem.W.Frag} {H : Hp} : ∀ {vs : List V} {ds : List PyData} {i : Nat} {d : PyData}, DpAll K H vs ds → ds[i]? = some d → ∃ v, vs[i]? = some v ∧ Dp K H v d
  | _, _, _, _, .nil, e => by simp at e
  | _, _, 0, _, .cons h _, e => by
    have e' := Option.some.inj e
    subst e'
    exact ⟨_, rfl, h⟩
  | _, _, i + 1, _, .cons _ t, e => DpAll.of (i := i) t e
def okD : Nat → PyData → Prop
  | 0, .none => True
  | 0, .bool _ => True
  | 0, .int _ => True
  | 0, .str _ => True
  | 0, _ => False
  | _ + 1, .none => True
  | _ + 1, .bool _ => True
  | _ + 1, .int _ => True
  | _ + 1, .str _ => True
  | k + 1, .list ds => ds.length ≤ 1000 ∧ ∀ d ∈ ds, okD k d
  | k + 1, .tuple ds => ds.length ≤ 1000 ∧ ∀ d ∈ ds, okD k d
  | _ + 1, .dict _ => False
theorem kit2 {K : PySem.W.Frag} {t : String} {b1 b2 : Bool} (h1 : kitB t "tuple" = some b1) (h2 : kitB t "list" = some b2) : PySem.W.kitAny K (.type t) [.type "tuple", .type "list"] = some (b1 || b2) := by
  cases b1 with
  | true => exact kitAny_cons (kit_ty h1) (fun z => nomatch z) (fun _ => rfl)
  | false =>
    cases b2 with
    | true => exact kitAny_cons (kit_ty h1) (fun _ => kitAny_cons (kit_ty h2) (fun z => nomatch z) (fun _ => rfl)) (fun z => nomatch z)
    | false => exact kitAny_cons (kit_ty h1) (fun _ => kitAny_cons (kit_ty h2) (fun _ => kitAny_nil) (fun z => nomatch z)) (fun z => nomatch z)
theorem cls2 : Paired ClsV [V.ty "tuple", V.ty "list"] [Value.type "tuple", Value.type "list"] := .cons (.ty _) (.cons (.ty _) .nil)
theorem ixS {X : Cx} (K : PySem.W.Frag) (h : X.K = K := by rfl) : IxR X (rIx K) := by
  subst h
  exact ix_seq
/-- a list or a tuple -/
structure Sq2 (K : PySem.W.Frag) (H : Hp) (a : Addr) (xs : List V) (T : String) (b : Bool) : Prop where
  ty : TyX K H (.ref a) (.type T)
  sq : SqL K H a xs ∨ SqT K H a xs
  k1 : PySem.W.kitAny K (.type T) [.type "tuple", .type "list"] = some true
  k2 : PySem.W.kitOne K (.type T) (.type "list") = some b
  ix : ∀ (i : Nat) (x : V) (Q : VK), xs[i]? = some x → Q x H → rIx K (.ref a) (.int (i : Int)) H Q
theorem sq2T {K : PySem.W.Frag} {H : Hp} {a : Addr} {xs : List V} (h : SqT K H a xs) : Sq2 K H a xs "tuple" false :=
  ⟨ty_tup h, .inr h, kit2 (b1 := true) (b2 := false) (by decide +kernel) (by decide +kernel), kit_ty (by decide +kernel), fun i x Q e q => .inr (.inl ⟨a, xs, i, x, rfl, rfl, h, atI_nat e, q⟩)⟩
theorem ty_lst {K : PySem.W.Frag} {H : Hp} {a : Addr} {xs : List V} (h : SqL K H a xs) : TyX K H (.ref a) (.type "list") := by
  rcases h with (h | ⟨o, h⟩) | ⟨o, vz, n, h, c, _⟩
  · exact .base (.lst h)
  · exact .base (.frz h)
  · exact .kList h c
theorem sq2L {K : PySem.W.Frag} {H : Hp} {a : Addr} {xs : List V} (h : SqL K H a xs) : Sq2 K H a xs "list" true :=
  ⟨ty_lst h, .inl h, kit2 (b1 := false) (b2 := true) (by decide +kernel) (by decide +kernel), kit_ty (by decide +kernel), fun i x Q e q => .inl ⟨a, xs, i, x, rfl, rfl, h, atI_nat e, q⟩⟩
theorem pss_no {X : Cx} {sts : List Stmt} : PSs X sts (fun _ _ _ => False) := ⟨fun _ _ _ _ _ _ h => h.elim⟩
section
variable {P : Program} {w : World} {K : PySem.W.Frag} {mg : Str → Option Value} {base : Heap}
def spAlike (K : PySem.W.Frag) (k : Nat) : Sp := fun vs H Q _ => ∃ (v u : V) (d : PyData), vs = [v, u] ∧ Dp K H v d ∧ Dp K H u d ∧ okD k d ∧ ∀ H', Same H H' → Q (.bl true) H'
theorem ok_alike0 (F : Df K mg "_law_alike" st__law_alike ["found", "due"]) (B : Bu mg) : Cal P w K mg base 1 "_law_alike" (spAlike K 0) := by
  refine mkCal F sc__law_alike (fun vs H Q E h => ?_) (fun f cdv A outer s H vs Q E hr h => ?_)
  · obtain ⟨v, u, d, rfl, _⟩ := h
    rfl
  · obtain ⟨v, u, d, rfl, hv, hu, hk, q⟩ := h
    refine ⟨_, pss_cons (ps_if (pt_val (pe_callB call_isiT (by rfl) B.isi (by decide +kernel) (pa_cons (pv 1) (pa_cons (pe_tup (pa_cons (pe_bltn (v := .ty "tuple") (by rfl) B.tuple (by decide +kernel) rfl) (pa_cons (pe_bltn (v := .ty "list") (by rfl) B.list (by decide +kernel) rfl) pa_nil))) pa_nil)))) pss_no pss_nil)
      (pss_cons (ps_if (PW.pt (pw_or (pt_cmp (pc_isN (pv 1))) (pw_or1 (pt_val (pe_callB call_isi (by rfl) B.isi (by decide +kernel) (pa_cons (pv 1) (pa_cons (pe_bltn (v := .ty "str") (by rfl) B.str (by decide +kernel) rfl) pa_nil)))))))
        (pss_one (ps_ret (pe_and (pe_cmpR op_eq (pv 0) (pv 1) (nomark _)) (pe_one (pe_cmpR op_eq (pe_callB call_isi (by rfl) B.isi (by decide +kernel) (pa_cons (pv 0) (pa_cons (pe_bltn (v := .ty "str") (by rfl) B.str (by decide +kernel) rfl) pa_nil)))
          (pe_callB call_isi (by rfl) B.isi (by decide +kernel) (pa_cons (pv 1) (pa_cons (pe_bltn (v := .ty "str") (by rfl) B.str (by decide +kernel) rfl) pa_nil))) (nomark _)))))) pss_nil)
      (pss_one (ps_ret (pe_and (pe_callB call_isi (by rfl) B.isi (by decide +kernel) (pa_cons (pv 0) (pa_cons (pe_bltn (v := .ty "int") (by rfl) B.int (by decide +kernel) rfl) pa_nil)))
        (pe_and (pe_cmpR op_eq (pe_callB call_isi (by rfl) B.isi (by decide +kernel) (pa_cons (pv 0) (pa_cons (pe_bltn (v := .ty "bool") (by rfl) B.bool (by decide +kernel) rfl) pa_nil)))
          (pe_callB call_isi (by rfl) B.isi (by decide +kernel) (pa_cons (pv 1) (pa_cons (pe_bltn (v := .ty "bool") (by rfl) B.bool (by decide +kernel) rfl) pa_nil))) (nomark _)) (pe_one (pe_cmpR op_eq (pv 0) (pv 1) (nomark _)))))))), ?_⟩
    cases hv with
    | non =>
      cases hu
      refine ⟨_, rfl, (by show 2 ≤ sizeLine; decide), fun t ht => ⟨.non, t, _, _, _, false, rfl, upd_same, cls2, .base .non, kit2 (b1 := false) (b2 := false) (by decide +kernel) (by decide +kernel), _, rfl, ifF rfl ?_⟩⟩
      refine ⟨_, rfl, _, rfl, ifT (decide_eq_true rfl) (ifT rfl ?_)⟩
      exact ⟨_, rfl, _, rfl, rfl, _, rfl, ifT (decide_eq_true rfl) ⟨_, rfl, .non, .ty "str", _, _, false, rfl, .ty "str", .base .non, kit_ty (by decide +kernel), _, rfl, .non, .ty "str", _, _, false, rfl, .ty "str", .base .non, kit_ty (by decide +kernel), rfl, q _ (same_new ht)⟩⟩
    | bl b =>
      cases hu
      refine ⟨_, rfl, (by show 2 ≤ sizeLine; decide), fun t ht => ⟨.bl b, t, _, _, _, false, rfl, upd_same, cls2, .base (.bl b), kit2 (b1 := false) (b2 := false) (by decide +kernel) (by decide +kernel), _, rfl, ifF rfl ?_⟩⟩
      refine ⟨_, rfl, _, rfl, ifF (decide_eq_false (fun z => nomatch z)) ⟨_, rfl, .bl b, .ty "str", _, _, false, rfl, .ty "str", .base (.bl b), kit_ty (by decide +kernel), _, rfl, ifF rfl ?_⟩⟩
      refine ⟨_, rfl, .bl b, .ty "int", _, _, true, rfl, .ty "int", .base (.bl b), kit_ty (by decide +kernel), _, rfl, ifT rfl ?_⟩
      refine ⟨_, rfl, .bl b, .ty "bool", _, _, true, rfl, .ty "bool", .base (.bl b), kit_ty (by decide +kernel), _, rfl, .bl b, .ty "bool", _, _, true, rfl, .ty "bool", .base (.bl b), kit_ty (by decide +kernel), rfl, _, rfl, ifT (decide_eq_true rfl) ?_⟩
      refine ⟨_, rfl, _, rfl, rfl, ?_⟩
      rw [decide_eq_true (rfl : V.bl b = V.bl b)]
      exact q _ (same_new ht)
    | int i =>
      cases hu
      refine ⟨_, rfl, (by show 2 ≤ sizeLine; decide), fun t ht => ⟨.int i, t, _, _, _, false, rfl, upd_same, cls2, .base (.int i), kit2 (b1 := false) (b2 := false) (by decide +kernel) (by decide +kernel), _, rfl, ifF rfl ?_⟩⟩
      refine ⟨_, rfl, _, rfl, ifF (decide_eq_false (fun z => nomatch z)) ⟨_, rfl, .int i, .ty "str", _, _, false, rfl, .ty "str", .base (.int i), kit_ty (by decide +kernel), _, rfl, ifF rfl ?_⟩⟩
      refine ⟨_, rfl, .int i, .ty "int", _, _, true, rfl, .ty "int", .base (.int i), kit_ty (by decide +kernel), _, rfl, ifT rfl ?_⟩
      refine ⟨_, rfl, .int i, .ty "bool", _, _, false, rfl, .ty "bool", .base (.int i), kit_ty (by decide +kernel), _, rfl, .int i, .ty "bool", _, _, false, rfl, .ty "bool", .base (.int i), kit_ty (by decide +kernel), rfl, _, rfl, ifT (decide_eq_true rfl) ?_⟩
      refine ⟨_, rfl, _, rfl, rfl, ?_⟩
      rw [decide_eq_true (rfl : V.int i = V.int i)]
      exact q _ (same_new ht)
    | str x =>
      cases hu
      refine ⟨_, rfl, (by show 2 ≤ sizeLine; decide), fun t ht => ⟨.str x, t, _, _, _, false, rfl, upd_same, cls2, .base (.str x), kit2 (b1 := false) (b2 := false) (by decide +kernel) (by decide +kernel), _, rfl, ifF rfl ?_⟩⟩
      refine ⟨_, rfl, _, rfl, ifF (decide_eq_false (fun z => nomatch z)) ⟨_, rfl, .str x, .ty "str", _, _, true, rfl, .ty "str", .base (.str x), kit_ty (by decide +kernel), _, rfl, ifT rfl ?_⟩⟩
      exact ⟨_, rfl, _, rfl, rfl, _, rfl, ifT (decide_eq_true rfl) ⟨_, rfl, .str x, .ty "str", _, _, true, rfl, .ty "str", .base (.str x), kit_ty (by decide +kernel), _, rfl, .str x, .ty "str", _, _, true, rfl, .ty "str", .base (.str x), kit_ty (by decide +kernel), rfl, q _ (same_new ht)⟩⟩
    | lst _ _ => exact hk.elim
    | tup _ _ => exact hk.elim
end
end RH
set_option Elab.async false
set_option linter.all false
set_option maxRecDepth 100000
set_option maxHeartbeats 2000000
namespace RH
open PySem PySem.Spec PyProof.Rows L2
theorem alike_cases {K : PySem.W.Frag} {H : Hp} {k : Nat} {v u : V} {d : PyData} (hv : Dp K H v d) (hu : Dp K H u d) (hk : okD (k + 1) d) : okD 0 d ∨ ∃ (a b : Addr) (xs ys : List V) (ds : List PyData) (T : String) (bl : Bool), v = .ref a ∧ u = .ref b ∧
    (∀ H', Same H H' → Sq2 K H' a xs T bl) ∧ (∀ H', Same H H' → Sq2 K H' b ys T bl) ∧ DpAll K H xs ds ∧ DpAll K H ys ds ∧ ds.length ≤ 1000 ∧ ∀ d ∈ ds, okD k d := by
  cases hv with
  | non => exact .inl True.intro
  | bl _ => exact .inl True.intro
  | int _ => exact .inl True.intro
  | str _ => exact .inl True.intro
  | @lst a xs ds h1 h2 =>
    cases hu with
    | @lst b ys _ h3 h4 => exact .inr ⟨a, b, xs, ys, ds, "list", true, rfl, rfl, fun _ s => sq2L (s.seq h1), fun _ s => sq2L (s.seq h3), h2, h4, hk.1, hk.2⟩
  | @tup a xs ds h1 h2 =>
    cases hu with
    | @tup b ys _ h3 h4 => exact .inr ⟨a, b, xs, ys, ds, "tuple", false, rfl, rfl, fun _ s => sq2T (onT s h1), fun _ s => sq2T (onT s h3), h2, h4, hk.1, hk.2⟩
section
variable {P : Program} {w : World} {K : PySem.W.Frag} {mg : Str → Option Value} {base : Heap}
theorem ok_alikeS (k : Nat) (F : Df K mg "_law_alike" st__law_alike ["found", "due"]) (B : Bu mg) (C : Cal P w K mg base (k + 1) "_law_alike" (spAlike K k)) : Cal P w K mg base (k + 2) "_law_alike" (spAlike K (k + 1)) := by
  refine mkCal F sc__law_alike (fun vs H Q E h => ?_) (fun f cdv A outer s H vs Q E hr h => ?_)
  · obtain ⟨v, u, d, rfl, _⟩ := h
    rfl
  · obtain ⟨v, u, d, rfl, hv, hu, hk, q⟩ := h
    refine ⟨_, pss_cons (ps_if (pt_val (pe_callB call_isiT (by rfl) B.isi (by decide +kernel) (pa_cons (pv 1) (pa_cons (pe_tup (pa_cons (pe_bltn (v := .ty "tuple") (by rfl) B.tuple (by decide +kernel) rfl) (pa_cons (pe_bltn (v := .ty "list") (by rfl) B.list (by decide +kernel) rfl) pa_nil))) pa_nil))))
        (pss_cons (ps_if (PW.pt (pw_or (pt_not (pt_val (pe_callB call_isiT (by rfl) B.isi (by decide +kernel) (pa_cons (pv 0) (pa_cons (pe_tup (pa_cons (pe_bltn (v := .ty "tuple") (by rfl) B.tuple (by decide +kernel) rfl) (pa_cons (pe_bltn (v := .ty "list") (by rfl) B.list (by decide +kernel) rfl) pa_nil))) pa_nil)))))
            (pw_or1 (pt_cmpR op_ne (pe_callB call_isi (by rfl) B.isi (by decide +kernel) (pa_cons (pv 0) (pa_cons (pe_bltn (v := .ty "list") (by rfl) B.list (by decide +kernel) rfl) pa_nil)))
              (pe_callB call_isi (by rfl) B.isi (by decide +kernel) (pa_cons (pv 1) (pa_cons (pe_bltn (v := .ty "list") (by rfl) B.list (by decide +kernel) rfl) pa_nil))) (nomark _))))) (pss_one (ps_ret pe_bl)) pss_nil)
        (pss_cons (ps_if (pt_cmpR op_ne (pe_callB (cl_len K) (by rfl) B.len PySem.boot_len (pa_cons (pv 0) pa_nil)) (pe_callB (cl_len K) (by rfl) B.len PySem.boot_len (pa_cons (pv 1) pa_nil)) (nomark _)) (pss_one (ps_ret pe_bl)) pss_nil)
        (pss_one (ps_ret (pe_cmpR (op_eqD hr.units) (pe_lc (own := [("k", 2)]) (g := gName 2) rfl sc__law_alike.nd (pi_range1 (by rfl) B.range (pa_cons (pe_callB (cl_len K) (by rfl) B.len PySem.boot_len (pa_cons (pv 1) pa_nil)) pa_nil))
          (blkOk_by (N := ["found", "due", "k"]) (sc := defScope st__law_alike) (by decide +kernel)) (fun _ _ _ _ _ => pg_name (i := 2) sc__law_alike.nd rfl (Or.inl rfl))
          (fun _ _ _ _ _ => pts_one (pt_not (pt_val (pc C hr (pa_cons (pe_ix (ixS K) (pv 0) (pv 2) (fun _ _ => rfl)) (pa_cons (pe_ix (ixS K) (pv 1) (pv 2) (fun _ _ => rfl)) pa_nil)) (hk := Nat.le_refl _))))) (fun _ _ _ _ _ => pv 2)) (pe_lst pa_nil) (nomark _)))))) pss_nil)
      (pss_cons (ps_if (PW.pt (pw_or (pt_cmp (pc_isN (pv 1))) (pw_or1 (pt_val (pe_callB call_isi (by rfl) B.isi (by decide +kernel) (pa_cons (pv 1) (pa_cons (pe_bltn (v := .ty "str") (by rfl) B.str (by decide +kernel) rfl) pa_nil)))))))
        (pss_one (ps_ret (pe_and (pe_cmpR op_eq (pv 0) (pv 1) (nomark _)) (pe_one (pe_cmpR op_eq (pe_callB call_isi (by rfl) B.isi (by decide +kernel) (pa_cons (pv 0) (pa_cons (pe_bltn (v := .ty "str") (by rfl) B.str (by decide +kernel) rfl) pa_nil)))
          (pe_callB call_isi (by rfl) B.isi (by decide +kernel) (pa_cons (pv 1) (pa_cons (pe_bltn (v := .ty "str") (by rfl) B.str (by decide +kernel) rfl) pa_nil))) (nomark _)))))) pss_nil)
      (pss_one (ps_ret (pe_and (pe_callB call_isi (by rfl) B.isi (by decide +kernel) (pa_cons (pv 0) (pa_cons (pe_bltn (v := .ty "int") (by rfl) B.int (by decide +kernel) rfl) pa_nil)))
        (pe_and (pe_cmpR op_eq (pe_callB call_isi (by rfl) B.isi (by decide +kernel) (pa_cons (pv 0) (pa_cons (pe_bltn (v := .ty "bool") (by rfl) B.bool (by decide +kernel) rfl) pa_nil)))
          (pe_callB call_isi (by rfl) B.isi (by decide +kernel) (pa_cons (pv 1) (pa_cons (pe_bltn (v := .ty "bool") (by rfl) B.bool (by decide +kernel) rfl) pa_nil))) (nomark _)) (pe_one (pe_cmpR op_eq (pv 0) (pv 1) (nomark _)))))))), ?_⟩
    rcases alike_cases hv hu hk with hk0 | ⟨a, b, xs, ys, ds, T, bl, rfl, rfl, ha, hb, hx, hy, hl, hd⟩
    · clear hk
      cases hv with
      | non =>
        cases hu
        refine ⟨_, rfl, (by show 2 ≤ sizeLine; decide), fun t ht => ⟨.non, t, _, _, _, false, rfl, upd_same, cls2, .base .non, kit2 (b1 := false) (b2 := false) (by decide +kernel) (by decide +kernel), _, rfl, ifF rfl ?_⟩⟩
        refine ⟨_, rfl, _, rfl, ifT (decide_eq_true rfl) (ifT rfl ?_)⟩
        exact ⟨_, rfl, _, rfl, rfl, _, rfl, ifT (decide_eq_true rfl) ⟨_, rfl, .non, .ty "str", _, _, false, rfl, .ty "str", .base .non, kit_ty (by decide +kernel), _, rfl, .non, .ty "str", _, _, false, rfl, .ty "str", .base .non, kit_ty (by decide +kernel), rfl, q _ (same_new ht)⟩⟩
      | bl b =>
        cases hu
        refine ⟨_, rfl, (by show 2 ≤ sizeLine; decide), fun t ht => ⟨.bl b, t, _, _, _, false, rfl, upd_same, cls2, .base (.bl b), kit2 (b1 := false) (b2 := false) (by decide +kernel) (by decide +kernel), _, rfl, ifF rfl ?_⟩⟩
        refine ⟨_, rfl, _, rfl, ifF (decide_eq_false (fun z => nomatch z)) ⟨_, rfl, .bl b, .ty "str", _, _, false, rfl, .ty "str", .base (.bl b), kit_ty (by decide +kernel), _, rfl, ifF rfl ?_⟩⟩
        refine ⟨_, rfl, .bl b, .ty "int", _, _, true, rfl, .ty "int", .base (.bl b), kit_ty (by decide +kernel), _, rfl, ifT rfl ?_⟩
        refine ⟨_, rfl, .bl b, .ty "bool", _, _, true, rfl, .ty "bool", .base (.bl b), kit_ty (by decide +kernel), _, rfl, .bl b, .ty "bool", _, _, true, rfl, .ty "bool", .base (.bl b), kit_ty (by decide +kernel), rfl, _, rfl, ifT (decide_eq_true rfl) ?_⟩
        refine ⟨_, rfl, _, rfl, rfl, ?_⟩
        rw [decide_eq_true (rfl : V.bl b = V.bl b)]
        exact q _ (same_new ht)
      | int i =>
        cases hu
        refine ⟨_, rfl, (by show 2 ≤ sizeLine; decide), fun t ht => ⟨.int i, t, _, _, _, false, rfl, upd_same, cls2, .base (.int i), kit2 (b1 := false) (b2 := false) (by decide +kernel) (by decide +kernel), _, rfl, ifF rfl ?_⟩⟩
        refine ⟨_, rfl, _, rfl, ifF (decide_eq_false (fun z => nomatch z)) ⟨_, rfl, .int i, .ty "str", _, _, false, rfl, .ty "str", .base (.int i), kit_ty (by decide +kernel), _, rfl, ifF rfl ?_⟩⟩
        refine ⟨_, rfl, .int i, .ty "int", _, _, true, rfl, .ty "int", .base (.int i), kit_ty (by decide +kernel), _, rfl, ifT rfl ?_⟩
        refine ⟨_, rfl, .int i, .ty "bool", _, _, false, rfl, .ty "bool", .base (.int i), kit_ty (by decide +kernel), _, rfl, .int i, .ty "bool", _, _, false, rfl, .ty "bool", .base (.int i), kit_ty (by decide +kernel), rfl, _, rfl, ifT (decide_eq_true rfl) ?_⟩
        refine ⟨_, rfl, _, rfl, rfl, ?_⟩
        rw [decide_eq_true (rfl : V.int i = V.int i)]
        exact q _ (same_new ht)
      | str x =>
        cases hu
        refine ⟨_, rfl, (by show 2 ≤ sizeLine; decide), fun t ht => ⟨.str x, t, _, _, _, false, rfl, upd_same, cls2, .base (.str x), kit2 (b1 := false) (b2 := false) (by decide +kernel) (by decide +kernel), _, rfl, ifF rfl ?_⟩⟩
        refine ⟨_, rfl, _, rfl, ifF (decide_eq_false (fun z => nomatch z)) ⟨_, rfl, .str x, .ty "str", _, _, true, rfl, .ty "str", .base (.str x), kit_ty (by decide +kernel), _, rfl, ifT rfl ?_⟩⟩
        exact ⟨_, rfl, _, rfl, rfl, _, rfl, ifT (decide_eq_true rfl) ⟨_, rfl, .str x, .ty "str", _, _, true, rfl, .ty "str", .base (.str x), kit_ty (by decide +kernel), _, rfl, .str x, .ty "str", _, _, true, rfl, .ty "str", .base (.str x), kit_ty (by decide +kernel), rfl, q _ (same_new ht)⟩⟩
      | lst _ _ => exact hk0.elim
      | tup _ _ => exact hk0.elim
    · have lx : xs.length = ds.length := DpAll.len hx
      have ly : ys.length = ds.length := DpAll.len hy
      refine ⟨_, rfl, (by show 2 ≤ sizeLine; decide), fun t ht => ?_⟩
      have s1 : Same H (upd H t (.tup [.ty "tuple", .ty "list"])) := same_new ht
      have b1 := hb _ s1
      refine ⟨.ref b, t, _, _, _, true, rfl, upd_same, cls2, b1.ty, b1.k1, _, rfl, ifT rfl ?_⟩
      refine ⟨_, rfl, (by show 2 ≤ sizeLine; decide), fun t2 ht2 => ?_⟩
      have s2 := s1.trans (same_new (o := .tup [.ty "tuple", .ty "list"]) ht2)
      have a2 := ha _ s2
      have b2 := hb _ s2
      refine ⟨.ref a, t2, _, _, _, true, rfl, upd_same, cls2, a2.ty, a2.k1, _, rfl, ifF rfl ?_⟩
      refine ⟨_, rfl, .ref a, .ty "list", _, _, bl, rfl, .ty "list", a2.ty, a2.k2, _, rfl, .ref b, .ty "list", _, _, bl, rfl, .ty "list", b2.ty, b2.k2, rfl, _, rfl, ifF (by rw [decide_eq_true (rfl : V.bl bl = V.bl bl)]; rfl) ?_⟩
      refine ⟨_, rfl, a, xs, rfl, a2.sq, _, rfl, b, ys, rfl, b2.sq, rfl, _, rfl, ifF (by rw [lx, ly, decide_eq_true rfl]; rfl) ?_⟩
      refine ⟨_, rfl, b, ys, rfl, b2.sq, _, rfl, by omega, by omega, fun D hD => ?_⟩
      rw [Int.toNat_natCast]
      refine lc_range (lo := 0) (n := ys.length) (fun i H' => Same (upd (upd H t (.tup [.ty "tuple", .ty "list"])) t2 (.tup [.ty "tuple", .ty "list"])) H' ∧ H' D = some (.lst [])) ⟨same_new hD, upd_same⟩ (fun i H' hi h' => ?_) (fun H' h' => ?_)
      · obtain ⟨sm, eD⟩ := h'
        have s3 := s2.trans sm
        obtain ⟨d, hdi⟩ : ∃ d, ds[i]? = some d := ⟨_, List.getElem?_eq_getElem (by omega)⟩
        obtain ⟨x, hxi, hxd⟩ := DpAll.of hx hdi
        obtain ⟨y, hyi, hyd⟩ := DpAll.of hy hdi
        rw [Int.zero_add]
        refine ⟨rfl, _, rfl, _, rfl, ?_⟩
        refine (ha _ s3).ix i x _ hxi ⟨_, rfl, _, rfl, ?_⟩
        refine (hb _ s3).ix i y _ hyi ⟨x, y, d, rfl, Dp.on s3 d x hxd, Dp.on s3 d y hyd, hd d (List.mem_of_getElem? hdi), fun H4 s4 => ⟨_, rfl, ifF rfl ⟨?_, s4 _ _ eD⟩⟩⟩
        exact sm.trans s4
      · obtain ⟨sm, eD⟩ := h'
        refine ⟨Nat.zero_le _, fun z hz => ?_⟩
        refine ⟨_, _, dp_lst (ns := []) (lstAt (same_new hz _ _ eD)), dp_lst (ns := []) (lstAt upd_same), PySem.W.ke_shaped_ints _, PySem.W.ke_shaped_ints _, ?_⟩
        exact q _ (s2.trans (sm.trans (same_new hz)))
end
end RH
set_option Elab.async false
set_option linter.all false
set_option maxRecDepth 100000
set_option maxHeartbeats 2000000
namespace RH
open PySem PySem.Spec PyProof.Rows L2
theorem ixN_int {n : Nat} {k : Int} (h0 : 0 ≤ k) (h1 : k < n) : ixN n k = some k.toNat := by
  unfold ixN
  rw [if_pos h0, if_pos h1]
def tF (n pl : Nat) : List Int := (List.range n).map fun s : Nat => ((s : Int) + (pl : Int)) % (n : Int)
def mF (n pl : Nat) : List Int := (List.range n).map fun s : Nat => (s : Int) + (if decide ((s : Int) < (pl : Int)) = true then 1 else 0)
def fF (n pl : Nat) : List Int := (mF n pl).take pl ++ [0] ++ (mF n pl).drop (pl + 1)
def sF (n pl : Nat) : List Int := ((rg n).set pl ((pl - 1 : Nat) : Int)).set (pl - 1) (pl : Int)
theorem perm_all : ∀ n, n < 6 → ∀ pl, pl < n → (tF n pl).isPerm (rg n) = true ∧ (fF n pl).isPerm (rg n) = true ∧ (sF n pl).isPerm (rg n) = true := by decide +kernel
theorem mF_len (n pl : Nat) : (mF n pl).length = n := by
  unfold mF
  rw [List.length_map, List.length_range]
theorem range_more {f : Nat → Int} (i : Nat) : ((List.range (i + 1)).map f).map V.int = ((List.range i).map f).map V.int ++ [V.int (f i)] := by
  rw [List.range_succ, List.map_append, List.map_append]
  rfl
/-- the permutations found so far -/
def HI (K : PySem.W.Frag) (p g : Addr) (H : Hp) (n i : Nat) (H' : Hp) : Prop := ∃ (xs : List V) (hs : List (List Int)), But p H H' ∧ Row K H' p ∧ H' g = some (.lst xs) ∧ Each (TI K H') xs hs ∧ hs.length = i ∧ ∀ ns ∈ hs, ns.Perm (rg n)
theorem HI.step {K : PySem.W.Frag} {p g : Addr} {H H1 H5 : Hp} {n i : Nat} (h : HI K p g H n i H1) (hg : H g = none) (hpg : p ≠ g) (b : But p H1 H5) (r : Row K H5 p) :
    ∃ xs, H5 g = some (.lst xs) ∧ xs.length = i ∧ ∀ (q : Addr) (ns : List Int) (H6 : Hp), Same H5 H6 → SqT K H6 q (ns.map V.int) → ns.Perm (rg n) → HI K p g H n (i + 1) (upd H6 g (.lst (xs ++ [.ref q]))) := by
  obtain ⟨xs, hs, hB, hR, e, hE, hl, hp⟩ := h
  have e5 := b _ _ e (Ne.symm hpg)
  refine ⟨xs, e5, hE.len.trans hl, fun q ns H6 s6 hq hpm => ⟨xs ++ [.ref q], hs ++ [ns], ?_, ?_, upd_same, ?_, ?_, ?_⟩⟩
  · exact ((hB.trans b).trans (But.same s6)).fresh hg
  · exact (r.same s6).lst_upd (s6 _ _ e5) hpg
  · have f1 : Fix H1 (upd H6 g (.lst (xs ++ [.ref q]))) := (hR.fix b).trans ((Fix.same s6).trans (Fix.lst (s6 _ _ e5)))
    exact Each.snoc ⟨q, rfl, Fix.tups (Fix.lst (s6 _ _ e5)) _ _ hq⟩ (hE.imp fun _ _ z => z.on f1.tups)
  · rw [List.length_append, hl]
    rfl
  · intro ns' hm
    rcases List.mem_append.mp hm with h1 | h1
    · exact hp _ h1
    · rw [List.mem_singleton.mp h1]
      exact hpm
section
variable {P : Program} {w : World} {K : PySem.W.Frag} {mg : Str → Option Value} {base : Heap}
def spHabit (K : PySem.W.Frag) : Sp := fun vs H Q _ => ∃ (p : Addr) (n : Nat), vs = [.ref p, .int n] ∧ Row K H p ∧ 2 ≤ n ∧ n ≤ 5 ∧ ∀ (H' : Hp) (v : V) (h : List (List Int)), Hb n h → But p H H' → Row K H' p → TII K H' v h → Q v H'
theorem ok_habit (F : Df K mg "_law_habit" st__law_habit ["row", "places"]) (B : Bu mg) (CT : Cal P w K mg base 1 "_law_taken" (spTaken K)) (CO : Cal P w K mg base 2 "_law_order" (spOrder K)) : Cal P w K mg base 3 "_law_habit" (spHabit K) := by
  refine mkCal F sc__law_habit (fun vs H Q E h => ?_) (fun f cdv A outer s H vs Q E hr h => ?_)
  · obtain ⟨p, n, rfl, _⟩ := h
    rfl
  · obtain ⟨p, n, rfl, hR, n2, n5, q⟩ := h
    refine ⟨_, pss_cons (ps_par (i := 2) (j := 3) rfl sc__law_habit.nd rfl rfl (by decide) rfl rfl (pa_cons (pc CT hr (pa_cons (pv 0) (pa_cons pe_int pa_nil))) (pa_cons (pe_lst pa_nil) pa_nil)) rfl)
      (pss_cons (ps_for PassesOwn.never rfl (pi_range1 (by rfl) B.range (pa_cons (pv 1) pa_nil)) (pg_name (i := 4) sc__law_habit.nd rfl (Or.inr rfl))
        (pss_one (ps_if (pt_cmpR op_eq (pv 2) pe_int (nomark _))
          (pss_one (ps_expr (pe_bm PySem.F.plainAttrs_list PySem.F.slot_list_append PySem.F.type_list_append mt_append (pv 3) (pa_cons (pe_tupleOf (by rfl) B.tuple (pe_lc (own := [("spot", 7)]) (g := gName 7) (tt := tYes) rfl sc__law_habit.nd
            (pi_range1 (by rfl) B.range (pa_cons (pv 1) pa_nil)) (blkOk_by (N := ["row", "places", "way", "found", "place", "moved", "other", "spot"]) (sc := defScope st__law_habit) (by decide +kernel)) (fun _ _ _ _ _ => pg_name (i := 7) sc__law_habit.nd rfl (Or.inl rfl))
            (fun _ _ _ _ _ => pts_nil) (fun _ _ _ _ _ => pe_op op_mod (pe_op op_add (pv 7) (pv 4)) (pv 1)))) pa_nil))))
        (pss_one (ps_if (pt_cmpR op_eq (pv 2) pe_int (nomark _))
          (pss_cons (ps_setLc (i := 5) (own := [("spot", 7)]) (g := gName 7) (tt := tYes) rfl sc__law_habit.nd rfl rfl (sw_true rfl rfl rfl (by decide +kernel)) (pi_range1 (by rfl) B.range (pa_cons (pv 1) pa_nil))
            (blkOk_by (N := ["row", "places", "way", "found", "place", "moved", "other", "spot"]) (sc := defScope st__law_habit) (by decide +kernel)) (fun _ _ _ _ _ => pg_name (i := 7) sc__law_habit.nd rfl (Or.inl rfl))
            (fun _ _ _ _ _ => pts_nil) (fun _ _ _ _ _ => pe_op op_add (pv 7) (pe_callTy call_int1 (by rfl) B.int (by decide +kernel) (pa_cons (pe_cmpR op_lt (pv 7) (pv 4) (nomark _)) pa_nil))))
          (pss_one (ps_expr (pe_bm PySem.F.plainAttrs_list PySem.F.slot_list_append PySem.F.type_list_append mt_append (pv 3) (pa_cons (pe_tupleOf (by rfl) B.tuple (pe_op op_cat (pe_op op_cat (pe_slice sl_list (pv 5) po_none (po_some (pv 4))) (pe_lst (pa_cons pe_int pa_nil)))
            (pe_slice sl_list (pv 5) (po_some (pe_op op_add (pv 4) pe_int)) po_none))) pa_nil)))))
        (pss_one (ps_if (pt_cmpR op_eq (pv 2) pe_int (nomark _))
          (pss_cons (ps_set (i := 6) sc__law_habit.nd rfl (.inl rfl) (pe_callB (call_max2 rfl) (by rfl) B.max (by decide +kernel) (pa_cons pe_int (pa_cons (pe_op op_sub (pv 4) pe_int) pa_nil))))
          (pss_cons (ps_set (i := 5) sc__law_habit.nd rfl (.inl rfl) (pe_listRg rfl (by rfl) B.list (prg_1 (by rfl) B.range (pv 1))))
          (pss_cons (ps_asg (pe_tup (pa_cons (pv 6) (pa_cons (pv 4) pa_nil))) (pg_tup rfl (pgs_cons (pg_sub (pv 5) (pv 4) set_list) (pgs_cons (pg_sub (pv 5) (pv 6) set_list) pgs_nil))))
          (pss_one (ps_expr (pe_bm PySem.F.plainAttrs_list PySem.F.slot_list_append PySem.F.type_list_append mt_append (pv 3) (pa_cons (pe_tupleOf (by rfl) B.tuple (pv 5)) pa_nil)))))))
        (pss_one (ps_if (PW.pt (pw_and (pt_cmpR op_eq (pv 2) pe_int (nomark _)) (pw_and1 (pt_cmpR op_eq (pc CT hr (pa_cons (pv 0) (pa_cons pe_int pa_nil))) pe_int (nomark _)))))
          (pss_one (ps_expr (pe_bm PySem.F.plainAttrs_list PySem.F.slot_list_append PySem.F.type_list_append mt_append (pv 3) (pa_cons (pe_tupRg rfl (by rfl) B.tuple (prg_1 (by rfl) B.range (pv 1))) pa_nil))))
          (pss_one (ps_expr (pe_bm PySem.F.plainAttrs_list PySem.F.slot_list_append PySem.F.type_list_append mt_append (pv 3) (pa_cons (pc CO hr (pa_cons (pv 0) (pa_cons (pv 1) pa_nil))) pa_nil))))))))))))) 
      (pss_one (ps_ret (pe_tupleOf (by rfl) B.tuple (pv 3))))), ?_⟩
    refine ⟨_, rfl, p, 5, rfl, hR, by decide, by decide, fun wy H0 w0 w1 hB0 hR0 => ⟨Nat.zero_le _, fun g hg0 => ⟨_, _, rfl, ?_⟩⟩⟩
    have hpg : p ≠ g := hR0.ne hg0
    have hg : H g = none := by
      cases e : H g with
      | none => rfl
      | some o =>
        rw [hB0 _ _ e (Ne.symm hpg)] at hg0
        cases hg0
    refine ⟨_, rfl, n, rfl, by omega, by omega, ?_⟩
    rw [Int.toNat_natCast]
    refine for_range (lo := 0) (n := n) (fun i σ H' => HI K p g H n i H' ∧ ∃ y4 y5 y6 y7, σ = [some (.ref p), some (.int n), some (.int wy), some (.ref g), y4, y5, y6, y7])
      ⟨⟨[], [], hB0.fresh hg, hR0.new hg0, upd_same, .nil, rfl, fun _ hm => absurd hm (List.not_mem_nil)⟩, none, none, none, none, rfl⟩ (fun i σ H1 hi h' => ?_) (fun σ H' h' => ?_)
    · obtain ⟨hI, y4, y5, y6, y7, rfl⟩ := h'
      obtain ⟨pT, pF, pS⟩ := perm_all n (by omega) i hi
      have hR1 : Row K H1 p := hI.choose_spec.choose_spec.2.1
      rw [Int.zero_add]
      refine ⟨_, rfl, rfl, _, rfl, ite2 (fun _ => ?_) (fun _ => ?_)⟩
      · -- turned round
        obtain ⟨xs, e1, xl, st⟩ := hI.step hg hpg (But.refl p H1) hR1
        refine ⟨_, rfl, .inl ⟨rfl, _, lstAt e1⟩, _, rfl, n, rfl, by omega, by omega, fun D hD => ?_⟩
        rw [Int.toNat_natCast]
        refine lc_range (lo := 0) (n := n) (fun j H' => Same H1 H' ∧ H' D = some (.lst (((List.range j).map fun s : Nat => ((s : Int) + (i : Int)) % (n : Int)).map V.int))) ⟨same_new hD, upd_same⟩ (fun j H' hj h' => ?_) (fun H' h' => ?_)
        · obtain ⟨sm, eD⟩ := h'
          refine ⟨rfl, _, rfl, _, rfl, _, _, rfl, rfl, _, rfl, _, n, rfl, rfl, by omega, _, eD, ?_, ?_, ?_⟩
          · rw [List.length_map, List.length_map, List.length_range]
            exact small1000 (by omega)
          · intro b o e
            rw [upd_ne (ne_of_none e hD)]
            exact sm b o e
          · rw [upd_same, range_more, Int.zero_add]
        · obtain ⟨sm, eD⟩ := h'
          refine .inl ⟨D, _, rfl, lstAt eD, fun t ht => ?_⟩
          have sT := sm.trans (same_new (o := .tup ((tF n i).map V.int)) ht)
          refine ⟨g, xs, .ref t, rfl, rfl, sT _ _ e1, small1000 (by omega), st t (tF n i) _ sT (tupAt upd_same) (List.isPerm_iff.mp pT), _, _, _, _, rfl⟩
      · refine ⟨_, rfl, rfl, _, rfl, ite2 (fun _ => ?_) (fun _ => ?_)⟩
        · -- to the front
          refine ⟨_, rfl, n, rfl, by omega, by omega, fun D hD => ?_⟩
          rw [Int.toNat_natCast]
          refine lc_range (lo := 0) (n := n) (fun j H' => Same H1 H' ∧ H' D = some (.lst (((List.range j).map fun s : Nat => (s : Int) + (if decide ((s : Int) < (i : Int)) = true then 1 else 0)).map V.int))) ⟨same_new hD, upd_same⟩ (fun j H' hj h' => ?_) (fun H' h' => ?_)
          · obtain ⟨sm, eD⟩ := h'
            refine ⟨rfl, _, rfl, _, rfl, _, rfl, _, _, rfl, rfl, .inr ⟨_, rfl, _, _, rfl, rfl, _, eD, ?_, ?_, ?_⟩⟩
            · rw [List.length_map, List.length_map, List.length_range]
              exact small1000 (by omega)
            · intro b o e
              rw [upd_ne (ne_of_none e hD)]
              exact sm b o e
            · rw [upd_same, range_more, Int.zero_add]
          · obtain ⟨sm, eD⟩ := h'
            have hR2 := hR1.same sm
            obtain ⟨xs, e1, xl, st⟩ := hI.step hg hpg (But.same sm) hR2
            have hDl : ((List.range n).map fun s : Nat => (s : Int) + (if decide ((s : Int) < (i : Int)) = true then 1 else 0)) = mF n i := rfl
            rw [hDl] at eD
            refine ⟨_, rfl, .inl ⟨rfl, _, lstAt e1⟩, _, rfl, _, rfl, (i : Int), rfl, D, _, rfl, lstAt eD, fun a1 ha1 => ⟨by show 1 ≤ sizeLine; decide, fun a2 ha2 => ?_⟩⟩
            rw [cut_to] at *
            have q1 := same_new (o := .lst (((mF n i).map V.int).take i)) ha1
            have q2 := same_new (o := .lst [.int 0]) ha2
            refine ⟨a1, a2, ((mF n i).map V.int).take i, [.int 0], rfl, rfl, q2 _ _ upd_same, upd_same, ?_, fun a3 ha3 => ?_⟩
            · rw [List.length_take, List.length_map, mF_len]
              exact Nat.le_of_lt (small1000 (by show min i n + 1 ≤ 1000; omega))
            have q3 := same_new (o := .lst (((mF n i).map V.int).take i ++ [.int 0])) ha3
            refine ⟨_, rfl, _, rfl, (i : Int), 1, rfl, rfl, (i : Int) + 1, rfl, D, _, rfl, lstAt (q3 _ _ (q2 _ _ (q1 _ _ eD))), fun a4 ha4 => ?_⟩
            have q4 := same_new (o := .lst (cutV ((mF n i).map V.int) (some ((i : Int) + 1)) none)) ha4
            have ec : cutV ((mF n i).map V.int) (some ((i : Int) + 1)) none = ((mF n i).map V.int).drop (i + 1) := cut_from _ (i + 1)
            refine ⟨a3, a4, _, _, rfl, rfl, q4 _ _ upd_same, upd_same, ?_, fun a5 ha5 => ?_⟩
            · rw [ec, List.length_append, List.length_take, List.length_drop, List.length_map, mF_len]
              exact Nat.le_of_lt (small1000 (by show min i n + 1 + (n - (i + 1)) ≤ 1000; omega))
            have q5 := same_new (o := .lst ((((mF n i).map V.int).take i ++ [.int 0]) ++ cutV ((mF n i).map V.int) (some ((i : Int) + 1)) none)) ha5
            refine .inl ⟨a5, _, rfl, lstAt upd_same, fun t ht => ?_⟩
            have q6 := same_new (o := .tup ((((mF n i).map V.int).take i ++ [.int 0]) ++ cutV ((mF n i).map V.int) (some ((i : Int) + 1)) none)) ht
            have qq := q1.trans (q2.trans (q3.trans (q4.trans (q5.trans q6))))
            have et : ((((mF n i).map V.int).take i ++ [.int 0]) ++ cutV ((mF n i).map V.int) (some ((i : Int) + 1)) none) = (fF n i).map V.int := by
              rw [ec]
              unfold fF
              rw [List.map_append, List.map_append, List.map_take, List.map_drop]
              rfl
            exact ⟨g, xs, .ref t, rfl, rfl, qq _ _ e1, small1000 (by omega), st t (fF n i) _ qq (tupAt (by rw [upd_same, et])) (List.isPerm_iff.mp pF), _, _, _, _, rfl⟩
        · refine ⟨_, rfl, rfl, _, rfl, ite2 (fun _ => ?_) (fun _ => ?_)⟩
          · -- neighbours
            refine ⟨_, rfl, (i : Int), 1, rfl, rfl, 0, (i : Int) - 1, rfl, ?_⟩
            have eo : (if (i : Int) - 1 > 0 then (i : Int) - 1 else 0) = ((i - 1 : Nat) : Int) := by
              split <;> omega
            rw [eo]
            refine ⟨_, rfl, n, rfl, ⟨by omega, by omega, by omega, by omega, by omega⟩, fun m hm => ?_⟩
            rw [rgV_rg] at *
            have hpm : p ≠ m := hR1.ne hm
            have s1 := same_new (o := .lst ((rg n).map V.int)) hm
            refine ⟨_, rfl, _, rfl, by show 2 ≤ sizeLine; decide, fun t ht => ?_⟩
            have s2 := same_new (o := .tup [.int ((i - 1 : Nat) : Int), .int (i : Int)]) ht
            have em := s2 _ _ (upd_same (H := H1) (a := m) (o := .lst ((rg n).map V.int)))
            have ll : ((rg n).map V.int).length = n := by rw [List.length_map, rg_len]
            refine ⟨t, _, rfl, tupAt upd_same, rfl, _, _, rfl, _, rfl, _, rfl, m, _, (i : Int), i, rfl, rfl, em, ?_, ?_⟩
            · have := ixN_int (n := ((rg n).map V.int).length) (k := (i : Int)) (by omega) (by omega)
              exact this
            refine ⟨_, _, rfl, _, rfl, _, rfl, m, _, ((i - 1 : Nat) : Int), i - 1, rfl, rfl, upd_same, ?_, rfl, ?_⟩
            · have := ixN_int (n := (((rg n).map V.int).set i (.int ((i - 1 : Nat) : Int))).length) (k := ((i - 1 : Nat) : Int)) (by omega) (by rw [List.length_set]; omega)
              exact this
            have et : (((rg n).map V.int).set i (.int ((i - 1 : Nat) : Int))).set (i - 1) (.int (i : Int)) = (sF n i).map V.int := by
              unfold sF
              rw [List.map_set, List.map_set]
            rw [et]
            have hR5 := ((hR1.same (s1.trans s2)).lst_upd (o := .lst (((rg n).map V.int).set i (.int ((i - 1 : Nat) : Int)))) em hpm).lst_upd (o := .lst ((sF n i).map V.int)) upd_same hpm
            obtain ⟨xs, e1, xl, st⟩ := hI.step hg hpg (((But.same (s1.trans s2)).fresh (o := .lst (((rg n).map V.int).set i (.int ((i - 1 : Nat) : Int)))) hm).fresh (o := .lst ((sF n i).map V.int)) hm) hR5
            refine ⟨_, rfl, .inl ⟨rfl, _, lstAt e1⟩, _, rfl, .inl ⟨m, _, rfl, lstAt upd_same, fun t2 ht2 => ?_⟩⟩
            have s6 := same_new (o := .tup ((sF n i).map V.int)) ht2
            exact ⟨g, xs, .ref t2, rfl, rfl, s6 _ _ e1, small1000 (by omega), st t2 (sF n i) _ s6 (tupAt upd_same) (List.isPerm_iff.mp pS), _, _, _, _, rfl⟩
          · have any : ∀ H3, But p H1 H3 → Row K H3 p → ∃ xs, H3 g = some (.lst xs) ∧ xs.length = i ∧ ∀ (q : Addr) (ns : List Int) (H6 : Hp), Same H3 H6 → SqT K H6 q (ns.map V.int) → ns.Perm (rg n) → HI K p g H n (i + 1) (upd H6 g (.lst (xs ++ [.ref q]))) := fun H3 b3 r3 => hI.step hg hpg b3 r3
            refine ⟨_, rfl, rfl, _, rfl, ite2 (fun _ => ?_) (fun _ => ?_)⟩
            · refine ⟨_, rfl, p, 2, rfl, hR1, by decide, by decide, fun k H3 k0 k1 hB3 hR3 => ⟨rfl, _, rfl, ite2 (fun _ => ?_) (fun _ => ?_)⟩⟩
              · obtain ⟨xs, e1, xl, st⟩ := any H3 hB3 hR3
                refine ⟨_, rfl, .inl ⟨rfl, _, lstAt e1⟩, _, rfl, n, rfl, ⟨by omega, by omega, by omega, by omega, by omega⟩, fun t ht => ?_⟩
                rw [rgV_rg] at *
                have s6 := same_new (o := .tup ((rg n).map V.int)) ht
                exact ⟨g, xs, .ref t, rfl, rfl, s6 _ _ e1, small1000 (by omega), st t (rg n) _ s6 (tupAt upd_same) (List.Perm.refl _), _, _, _, _, rfl⟩
              · obtain ⟨xs, e1, xl, st⟩ := any H3 hB3 hR3
                refine ⟨_, rfl, .inl ⟨rfl, _, lstAt e1⟩, _, rfl, _, rfl, p, n, rfl, hR3, by omega, fun H4 t ns pm b4 r4 _ e4 => ?_⟩
                obtain ⟨xs', e1', xl', st'⟩ := any H4 (hB3.trans b4) r4
                exact ⟨g, xs', .ref t, rfl, rfl, e1', small1000 (by omega), st' t ns _ (Same.refl H4) (.inl (FT.kx e4)) pm, _, _, _, _, rfl⟩
            · obtain ⟨xs, e1, xl, st⟩ := any H1 (But.refl p H1) hR1
              refine iteF ⟨_, rfl, .inl ⟨rfl, _, lstAt e1⟩, _, rfl, _, rfl, p, n, rfl, hR1, by omega, fun H4 t ns pm b4 r4 _ e4 => ?_⟩
              obtain ⟨xs', e1', xl', st'⟩ := any H4 b4 r4
              exact ⟨g, xs', .ref t, rfl, rfl, e1', small1000 (by omega), st' t ns _ (Same.refl H4) (.inl (FT.kx e4)) pm, _, _, _, _, rfl⟩
    · obtain ⟨⟨xs, hs, hB, hR', e, hE, hl, hp⟩, y4, y5, y6, y7, rfl⟩ := h'
      refine ⟨_, rfl, .inl ⟨g, xs, rfl, lstAt e, fun t ht => q _ _ hs ⟨hl, hp, n2, n5⟩ (hB.trans (But.same (same_new ht))) (hR'.new ht) ⟨t, xs, rfl, tupAt upd_same, hE.imp fun _ _ z => z.on (Same.tups (same_new ht))⟩⟩⟩
end
end RH
set_option Elab.async false
set_option linter.all false
set_option maxRecDepth 100000
set_option maxHeartbeats 2000000
namespace RH
open PySem PySem.Spec PyProof.Rows L2
/-! ### defs that may raise; checks of values of many kinds -/
structure CalX (P : Program) (w : World) (K : PySem.W.Frag) (mg : Str → Option Value) (base : Heap) (k : Nat) (x : Str) (sp : Sp) : Prop where
  ex : ∃ (f : Addr) (fd : FuncData) (ps : List Str), FnOk P w K mg base (L2.CX P w) k f fd ps sp ∧ mg x = some (.ref f) ∧ PySem.W.keepIn K (.ref f) = true ∧ Binds K fd ps []
/-- an own error without an __init__ -/
structure ExO (K : PySem.W.Frag) (mg : Str → Option Value) (x : Str) (C : Addr) : Prop where
  q : PySem.W.excIn K C [.type "ValueError", .type "Exception", .type "BaseException", .type "object"] "ValueError.__new__" = true
  g : mg x = some (.ref C)
  k : PySem.W.keepIn K (.ref C) = true
  b : PySem.W.subIn K (.ref C) (.type "BaseException") = some true
  t : PySem.W.typeIn K (.ref C) = some (.type "type")
section
variable {P : Program} {w : World} {K : PySem.W.Frag} {mg : Str → Option Value} {base : Heap}
theorem mkCalX {x : Str} {st : Stmt} {N ps : List Str} {k : Nat} {sp : Sp} (F : Df K mg x st ps) (S : FnScope N ps (defScope st)) (len : ∀ vs H Q E, sp vs H Q E → vs.length = ps.length)
    (hbody : ∀ (f : Addr) (cdv : Value) (A : Around) (outer : List Env) (s : Shared) (H : Hp) (vs : List V) (Q : VK) (E : XK), Room k (A.deeper (envOfC x (defScope st) s.heap.objs.size f cdv)) → sp vs H Q E →
      ∃ t, PSs (cxOf (L2.CX P w) P w K mg base N x (defScope st) f cdv A outer s H E) (defBody st) t ∧ t { nx := fun _ H' => Q .non H', rt := Q } (start N vs) H) : CalX P w K mg base (k + 1) x sp := by
  obtain ⟨f, fd, F, g, b⟩ := F.ex
  exact ⟨f, fd, ps, F.okX S len (hbody f), g, F.kp, b⟩
end
theorem pcX {X : Cx} {k j : Nat} {x : Str} {sp : Sp} {E : XK} {p pos : Pos} {e : Expr} {es : List Expr} {t : TA} (c : CalX X.prog X.w X.K X.mg X.base k x sp) (hx : Passes (L2.CX X.prog X.w) X E) (hr : Room j X.A) (ha : PA X (e :: es) t) (hk : k ≤ j := by decide) (hg : Gl X x := by rfl)
    (hdb : (x == ("__debug__" : Str)) = false := by decide) (he : starEach (e :: es) X.env = (false, eval e X.env) :: starEach es X.env := by rfl) (hpl : (backTo pos (starEach es X.env)).any (·.1) = false := by rfl) :
    PE X (.Call (.Name x p) (e :: es) [] pos) (tCall sp [] E t) := by
  obtain ⟨f, fd, ps, F, hm, kp, b⟩ := c.ex
  exact pe_call F (hr.mono hk) hg hm kp b .nil hx ha hdb he hpl
/-- a value of any kind -/
inductive Sw (K : PySem.W.Frag) (H : Hp) : V → Prop
  | int (i : Int) : Sw K H (.int i)
  | bl (b : Bool) : Sw K H (.bl b)
  | non : Sw K H .non
  | str (s : Str) : Sw K H (.str s)
  | tup {a : Addr} {xs : List V} : SqT K H a xs → Sw K H (.ref a)
  | lst {a : Addr} {xs : List V} : SqL K H a xs → Sw K H (.ref a)
def isI : V → Bool
  | .int _ => true
  | _ => false
def inV2 (lo hi : Int) : V → Bool
  | .int i => decide (lo ≤ i) && decide (i ≤ hi)
  | _ => false
section
variable {P : Program} {w : World} {K : PySem.W.Frag} {mg : Str → Option Value} {base : Heap}
theorem Sw.on {H H' : Hp} {v : V} (e : Same H H') (h : Sw K H v) : Sw K H' v := by
  cases h with
  | int i => exact .int i
  | bl b => exact .bl b
  | non => exact .non
  | str s => exact .str s
  | tup h => exact .tup (onT e h)
  | lst h => exact .lst (e.seq h)
def spIsIntegerW (K : PySem.W.Frag) : Sp := fun vs H Q _ => ∃ v, vs = [v] ∧ Sw K H v ∧ Q (.bl (isI v)) H
theorem ok_is_integerW (F : Df K mg "is_integer" st_is_integer ["value"]) (B : Bu mg) : Cal P w K mg base 1 "is_integer" (spIsIntegerW K) := by
  refine mkCal F sc_is_integer (fun vs H Q E h => ?_) (fun f cdv A outer s H vs Q E hr h => ?_)
  · obtain ⟨v, rfl, _⟩ := h
    rfl
  · obtain ⟨v, rfl, hv, q⟩ := h
    refine ⟨_, pss_one (ps_ret (pe_and (pe_callB call_isi (by rfl) B.isi (by decide +kernel) (pa_cons (pv 0) (pa_cons (pe_bltn (v := .ty "int") (by rfl) B.int (by decide +kernel) rfl) pa_nil)))
      (pe_one (pe_not (pe_callB call_isi (by rfl) B.isi (by decide +kernel) (pa_cons (pv 0) (pa_cons (pe_bltn (v := .ty "bool") (by rfl) B.bool (by decide +kernel) rfl) pa_nil))))))), ?_⟩
    cases hv with
    | int i => exact ⟨_, rfl, .int i, .ty "int", _, _, true, rfl, .ty "int", .base (.int i), kit_ty (by decide +kernel), true, rfl, _, rfl, .int i, .ty "bool", _, _, false, rfl, .ty "bool", .base (.int i), kit_ty (by decide +kernel), false, rfl, q⟩
    | bl b => exact ⟨_, rfl, .bl b, .ty "int", _, _, true, rfl, .ty "int", .base (.bl b), kit_ty (by decide +kernel), true, rfl, _, rfl, .bl b, .ty "bool", _, _, true, rfl, .ty "bool", .base (.bl b), kit_ty (by decide +kernel), true, rfl, q⟩
    | non => exact ⟨_, rfl, .non, .ty "int", _, _, false, rfl, .ty "int", .base .non, kit_ty (by decide +kernel), false, rfl, q⟩
    | str z => exact ⟨_, rfl, .str z, .ty "int", _, _, false, rfl, .ty "int", .base (.str z), kit_ty (by decide +kernel), false, rfl, q⟩
    | @tup a xs h => exact ⟨_, rfl, .ref a, .ty "int", _, _, false, rfl, .ty "int", ty_tup h, kit_ty (by decide +kernel), false, rfl, q⟩
    | @lst a xs h => exact ⟨_, rfl, .ref a, .ty "int", _, _, false, rfl, .ty "int", ty_lst h, kit_ty (by decide +kernel), false, rfl, q⟩
def spIsNumberW (K : PySem.W.Frag) : Sp := fun vs H Q _ => ∃ (v : V) (lo hi : Int), vs = [v, .int lo, .int hi] ∧ Sw K H v ∧ Q (.bl (inV2 lo hi v)) H
theorem inV2_no {lo hi : Int} {v : V} (h : isI v = false) : inV2 lo hi v = false := by
  cases v <;> first | rfl | (cases h)
theorem isI_yes {v : V} (h : isI v = true) : ∃ i, v = .int i := by
  cases v <;> first | exact ⟨_, rfl⟩ | (cases h)
theorem ok_is_numberW (F : Df K mg "is_number" st_is_number ["value", "low", "high"]) (C1 : Cal P w K mg base 1 "is_integer" (spIsIntegerW K)) : Cal P w K mg base 2 "is_number" (spIsNumberW K) := by
  refine mkCal F sc_is_number (fun vs H Q E h => ?_) (fun f cdv A outer s H vs Q E hr h => ?_)
  · obtain ⟨v, lo, hi, rfl, _⟩ := h
    rfl
  · obtain ⟨v, lo, hi, rfl, hv, q⟩ := h
    refine ⟨_, pss_one (ps_ret (pe_and (pc C1 hr (pa_cons (pv 0) pa_nil)) (pe_one (pe_chain op_le op_le (pv 1) (pv 0) (pv 2))))), ?_⟩
    refine ⟨_, rfl, v, rfl, hv, ?_⟩
    cases ei : isI v with
    | true =>
      obtain ⟨i, rfl⟩ := isI_yes ei
      refine ⟨true, rfl, _, rfl, _, rfl, lo, i, rfl, rfl, _, rfl, ite2 (fun e => ?_) (fun e => ?_)⟩
      · refine ⟨_, rfl, i, hi, rfl, rfl, ?_⟩
        have q : Q (.bl (decide (lo ≤ i) && decide (i ≤ hi))) H := q
        rw [e, Bool.true_and] at q
        exact q
      · have e' : decide (lo ≤ i) = false := by simpa using e
        have q : Q (.bl (decide (lo ≤ i) && decide (i ≤ hi))) H := q
        rw [e', Bool.false_and] at q
        exact q
    | false =>
      rw [inV2_no ei] at q
      exact ⟨false, rfl, q⟩
def spIsPlaceW (K : PySem.W.Frag) : Sp := fun vs H Q _ => ∃ (v : V) (p : Int), vs = [v, .int p] ∧ Sw K H v ∧ Q (.bl (inV2 0 (p - 1) v)) H
theorem ok_is_placeW (F : Df K mg "is_place" st_is_place ["value", "places"]) (C2 : Cal P w K mg base 2 "is_number" (spIsNumberW K)) : Cal P w K mg base 3 "is_place" (spIsPlaceW K) := by
  refine mkCal F sc_is_place (fun vs H Q E h => ?_) (fun f cdv A outer s H vs Q E hr h => ?_)
  · obtain ⟨v, p, rfl, _⟩ := h
    rfl
  · obtain ⟨v, p, rfl, hv, q⟩ := h
    refine ⟨_, pss_one (ps_ret (pc C2 hr (pa_cons (pv 0) (pa_cons pe_int (pa_cons (pe_op op_sub (pv 1) pe_int) pa_nil))))), ?_⟩
    exact ⟨_, rfl, _, rfl, p, 1, rfl, rfl, v, 0, p - 1, rfl, hv, q⟩
end
end RH
set_option Elab.async false
set_option linter.all false
set_option maxRecDepth 100000
set_option maxHeartbeats 2000000
namespace RH
open PySem PySem.Spec PyProof.Rows L2
open NdefX (NScope NF CellsAt startF ncx envF)
/-! ### errors that keep something -/
/-- a class of errors that can be made -/
structure BhX (P : Program) (w : World) (K : PySem.W.Frag) (mg : Str → Option Value) (base : Heap) (cls fld : Str) (C : Addr) (sp : Sp) : Prop where
  t : OexC K C
  g : mg cls = some (.ref C)
  f : ∃ (f : Addr) (fd : FuncData), FnOk P w K mg base CX0 1 f fd ["self", fld] sp ∧ PySem.W.findIn K (.ref C) "__init__" = some (some (.ref f)) ∧ PySem.W.typeIn K (.ref f) = some (.type "function") ∧ Binds K fd ["self", fld] []
/-- what an error keeps: none, or a small number -/
def plV (v : V) : Prop := v = .non ∨ ∃ i : Nat, i < 16 ∧ v = .int (i : Int)
def spBI (fld : Str) (C : Addr) : Sp := fun vs H Q _ => ∃ (a : Addr) (v : V), vs = [.ref a, v] ∧ plV v ∧ H a = some (exo a C none) ∧ ∀ d, H d = none → d ≠ a → Q .non (upd (upd H d (exd d [(fld, v)])) a (exo a C (some d)))
theorem few_of {i : Nat} (h : i < 16) : i = 0 ∨ i = 1 ∨ i = 2 ∨ i = 3 ∨ i = 4 ∨ i = 5 ∨ i = 6 ∨ i = 7 ∨ i = 8 ∨ i = 9 ∨ i = 10 ∨ i = 11 ∨ i = 12 ∨ i = 13 ∨ i = 14 ∨ i = 15 := by omega
theorem fmt_few {i : Nat} (h : i < 16) : ((i : Nat) : Int).natAbs.log2 < 1920 := by
  rcases few_of h with rfl | rfl | rfl | rfl | rfl | rfl | rfl | rfl | rfl | rfl | rfl | rfl | rfl | rfl | rfl | rfl <;> decide +kernel
/-- an error that keeps pl comes -/
def bhE (C : Addr) (fn : Str) (pl : V) (H : Hp) (E : XK) : Prop := ∀ d H', Same H H' → H' d = some (.xd [(fn, pl)]) → E (.ref C) (some d) H'
/-- an error without more comes -/
def noE (C : Addr) (H : Hp) (E : XK) : Prop := ∀ H', Same H H' → E (.ref C) none H'
theorem bhE.on {C : Addr} {fn : Str} {pl : V} {H H' : Hp} {E : XK} (h : bhE C fn pl H E) (s : Same H H') : bhE C fn pl H' E := fun d H2 s2 => h d H2 (s.trans s2)
theorem noE.on {C : Addr} {H H' : Hp} {E : XK} (h : noE C H E) (s : Same H H') : noE C H' E := fun H2 s2 => h H2 (s.trans s2)
section
variable {P : Program} {w : World} {K : PySem.W.Frag} {mg : Str → Option Value} {base : Heap}
theorem ok_BadHabit {C f cc cda : Addr} {fd : FuncData} (M : SupC P K mg C "BadHabit.__init__" st_e_BadHabit f fd cc cda) (hno : PySem.W.findIn K (.ref C) "place" = some none) : FnOk P w K mg base CX0 1 f fd ["self", "place"] (spBI "place" C) := by
  refine fn_super (self := "self") M sc_e_BadHabit rfl rfl rfl (by decide +kernel) rfl (fun vs H Q E h => ?_) (fun A outer s H vs Q E hr h => ?_)
  · obtain ⟨a, v, rfl, _⟩ := h
    rfl
  · obtain ⟨a, v, rfl, hv, ha, q⟩ := h
    refine ⟨a, _, _, rfl, ha, pa_cons (pe_joined (.cons pe_str (.cons (pe_fmtN (pv 1)) .nil))) pa_nil, pss_one (ps_ost (pv 0) (pv 1)), ?_⟩
    have go : ∀ H1, H1 = H → ([V.str "x"] : List V).length ≤ 1000 ∧ H1 a = some (exo a C none) ∧ tOst K "place" (tVar 0) (tVar 1) { nx := fun _ H' => Q .non H', rt := Q } [some (.ref a), some v, some (.ref C)] H1 := fun H1 e => by
      subst e
      exact ⟨by decide, ha, _, rfl, _, rfl, a, C, rfl, M.t, hno, .inl ⟨ha, fun dx n ne => q dx n ne⟩⟩
    rcases hv with rfl | ⟨i, hi, rfl⟩
    · refine ⟨_, rfl, ?_, _, rfl, .inl ⟨rfl, _, rfl, ?_, go _ rfl⟩⟩
      · rw [sizeLine_eq]; decide +kernel
      · rw [sizeLine_eq]; decide +kernel
    · refine ⟨_, rfl, ?_, _, rfl, .inr ⟨(i : Int), rfl, fmt_few hi, _, rfl, ?_, go _ rfl⟩⟩
      · rw [sizeLine_eq]; decide +kernel
      · rw [sizeLine_eq]
        rcases few_of hi with rfl | rfl | rfl | rfl | rfl | rfl | rfl | rfl | rfl | rfl | rfl | rfl | rfl | rfl | rfl | rfl <;> decide +kernel
theorem ok_BadProgram {C f cc cda : Addr} {fd : FuncData} (M : SupC P K mg C "BadProgram.__init__" st_e_BadProgram f fd cc cda) (hno : PySem.W.findIn K (.ref C) "index" = some none) : FnOk P w K mg base CX0 1 f fd ["self", "index"] (spBI "index" C) := by
  refine fn_super (self := "self") M sc_e_BadProgram rfl rfl rfl (by decide +kernel) rfl (fun vs H Q E h => ?_) (fun A outer s H vs Q E hr h => ?_)
  · obtain ⟨a, v, rfl, _⟩ := h
    rfl
  · obtain ⟨a, v, rfl, hv, ha, q⟩ := h
    refine ⟨a, _, _, rfl, ha, pa_cons (pe_joined (.cons pe_str (.cons (pe_fmtN (pv 1)) .nil))) pa_nil, pss_one (ps_ost (pv 0) (pv 1)), ?_⟩
    have go : ∀ H1, H1 = H → ([V.str "x"] : List V).length ≤ 1000 ∧ H1 a = some (exo a C none) ∧ tOst K "index" (tVar 0) (tVar 1) { nx := fun _ H' => Q .non H', rt := Q } [some (.ref a), some v, some (.ref C)] H1 := fun H1 e => by
      subst e
      exact ⟨by decide, ha, _, rfl, _, rfl, a, C, rfl, M.t, hno, .inl ⟨ha, fun dx n ne => q dx n ne⟩⟩
    rcases hv with rfl | ⟨i, hi, rfl⟩
    · refine ⟨_, rfl, ?_, _, rfl, .inl ⟨rfl, _, rfl, ?_, go _ rfl⟩⟩
      · rw [sizeLine_eq]; decide +kernel
      · rw [sizeLine_eq]; decide +kernel
    · refine ⟨_, rfl, ?_, _, rfl, .inr ⟨(i : Int), rfl, fmt_few hi, _, rfl, ?_, go _ rfl⟩⟩
      · rw [sizeLine_eq]; decide +kernel
      · rw [sizeLine_eq]
        rcases few_of hi with rfl | rfl | rfl | rfl | rfl | rfl | rfl | rfl | rfl | rfl | rfl | rfl | rfl | rfl | rfl | rfl <;> decide +kernel
/-- the error is made: its dict stands at d -/
theorem bh_made {C : Addr} {fn : Str} {v : V} {H1 : Hp} {Q : XK} (hv : plV v) (q : ∀ d, H1 d = none → Q (.ref C) (some d) (upd H1 d (.xd [(fn, v)]))) :
    ([v] : List V).length ≤ 1000 ∧ ∀ a, H1 a = none → spBI fn C (.ref a :: ([v] ++ [])) (upd H1 a (exo a C none)) (fun u H2 => u = .non ∧ ∃ (d : Addr) (fs : List (Str × V)), H2 a = some (exo a C (some d)) ∧ H2 d = some (exd d fs) ∧ H1 d = none ∧ Q (.ref C) (some d) (upd (del H2 a) d (.xd fs))) (fun _ _ _ => False) := by
  refine ⟨by show 1 ≤ 1000; decide, fun a ha => ⟨a, v, rfl, hv, upd_same, fun d hd ne => ⟨rfl, d, [(fn, v)], upd_same, ?_, ?_, ?_⟩⟩⟩
  · rw [upd_ne ne, upd_same]
  · rw [upd_ne ne] at hd
    exact hd
  · have hd' : H1 d = none := by
      rw [upd_ne ne] at hd
      exact hd
    have e : upd (del (upd (upd (upd H1 a (exo a C none)) d (exd d [(fn, v)])) a (exo a C (some d))) a) d (.xd [(fn, v)]) = upd H1 d (.xd [(fn, v)]) := by
      funext b
      by_cases hb : b = d
      · rw [hb, upd_same, upd_same]
      · rw [upd_ne hb, upd_ne hb]
        by_cases hba : b = a
        · rw [hba, del_same, ha]
        · rw [del_ne hba, upd_ne hba, upd_ne hb, upd_ne hba]
    rw [e]
    exact q d hd'
end
end RH
set_option Elab.async false
set_option linter.all false
set_option maxRecDepth 100000
set_option maxHeartbeats 2000000
namespace RH
open PySem PySem.Spec PyProof.Rows L2
/-! ### the checks, for values of whatever kind -/
/-- a value: a tuple of values, or what is none -/
inductive Tk (K : PySem.W.Frag) (H : Hp) : V → Option (List V) → Prop
  | tup {a : Addr} {xs : List V} : SqT K H a xs → Tk K H (.ref a) (some xs)
  | lst {a : Addr} {xs : List V} : SqL K H a xs → Tk K H (.ref a) none
  | dct {a : Addr} {kvs : List (L2.Key × V)} : H a = some (.dK kvs) → Tk K H (.ref a) none
  | int (i : Int) : Tk K H (.int i) none
  | bl (b : Bool) : Tk K H (.bl b) none
  | non : Tk K H .non none
  | str (z : Str) : Tk K H (.str z) none
theorem Tk.on {K : PySem.W.Frag} {H H' : Hp} (e : Same H H') {v : V} {wo : Option (List V)} (h : Tk K H v wo) : Tk K H' v wo := by
  cases h with
  | tup h => exact .tup (onT e h)
  | lst h => exact .lst (e.seq h)
  | dct h => exact .dct (e _ _ h)
  | int i => exact .int i
  | bl b => exact .bl b
  | non => exact .non
  | str z => exact .str z
/-- .. of values -/
structure Wd (K : PySem.W.Frag) (H : Hp) (v : V) (wo : Option (List V)) : Prop where
  t : Tk K H v wo
  s : ∀ xs, wo = some xs → ∀ x ∈ xs, Sw K H x
  l : ∀ xs, wo = some xs → xs.length < 64
theorem Wd.on {K : PySem.W.Frag} {H H' : Hp} (e : Same H H') {v : V} {wo : Option (List V)} (h : Wd K H v wo) : Wd K H' v wo := ⟨h.t.on e, fun xs z x hm => (h.s xs z x hm).on e, h.l⟩
def rowW (lo hi : Int) : Option (List V) → Bool
  | some xs => decide (lo ≤ (xs.length : Int)) && decide ((xs.length : Int) ≤ hi)
  | none => false
def plsW (p : Int) : Option (List V) → Bool
  | some xs => xs.all (inV2 0 (p - 1))
  | none => false
theorem inV2_yes0 {n : Nat} {i : Int} (h0 : 0 ≤ i) (h1 : i < n) : inV2 0 ((n : Int) - 1) (.int i) = true := by
  show (decide (0 ≤ i) && decide (i ≤ (n : Int) - 1)) = true
  rw [decide_eq_true h0, decide_eq_true (by omega)]
  rfl
theorem inV2_get {n : Nat} {v : V} (h : inV2 0 ((n : Int) - 1) v = true) : ∃ i, v = .int i ∧ 0 ≤ i ∧ i < n := by
  cases v <;> first | (cases h; done) | skip
  rename_i i
  have h : (decide (0 ≤ i) && decide (i ≤ (n : Int) - 1)) = true := h
  rw [Bool.and_eq_true, decide_eq_true_iff, decide_eq_true_iff] at h
  exact ⟨i, rfl, h.1, by omega⟩
/-- places all: numbers all -/
theorem all_ints {n : Nat} : ∀ {xs : List V}, (xs.all (inV2 0 ((n : Int) - 1))) = true → ∃ ns : List Int, xs = ns.map V.int ∧ inP n ns = true
  | [], _ => ⟨[], rfl, rfl⟩
  | x :: xs, h => by
    rw [List.all_cons, Bool.and_eq_true] at h
    obtain ⟨i, rfl, h0, h1⟩ := inV2_get h.1
    obtain ⟨ns, rfl, e⟩ := all_ints h.2
    refine ⟨i :: ns, rfl, ?_⟩
    unfold inP at e ⊢
    rw [List.all_cons, e, decide_eq_true h0, decide_eq_true (by omega)]
    rfl
def valI : V → Int
  | .int i => i
  | _ => -1
/-- is it a layout? -/
def layW (n : Nat) : Option (List V) → Bool
  | some xs => xs.all (inV2 0 ((n : Int) - 1)) && isLay n (xs.map valI)
  | none => false
section
variable {P : Program} {w : World} {K : PySem.W.Frag} {mg : Str → Option Value} {base : Heap}
def spIsRowW (K : PySem.W.Frag) : Sp := fun vs H Q _ => ∃ (v : V) (wo : Option (List V)) (lo hi : Int), vs = [v, .int lo, .int hi] ∧ Tk K H v wo ∧ Q (.bl (rowW lo hi wo)) H
theorem ok_is_rowW (F : Df K mg "is_row" st_is_row ["value", "low", "high"]) (B : Bu mg) : Cal P w K mg base 1 "is_row" (spIsRowW K) := by
  refine mkCal F sc_is_row (fun vs H Q E h => ?_) (fun f cdv A outer s H vs Q E hr h => ?_)
  · obtain ⟨v, ro, lo, hi, rfl, _⟩ := h
    rfl
  · obtain ⟨v, ro, lo, hi, rfl, hk, q⟩ := h
    refine ⟨_, pss_one (ps_ret (pe_and (pe_callB call_isi (by rfl) B.isi (by decide +kernel) (pa_cons (pv 0) (pa_cons (pe_bltn (v := .ty "tuple") (by rfl) B.tuple (by decide +kernel) rfl) pa_nil)))
      (pe_one (pe_chain op_le op_le (pv 1) (pe_callB call_len_seq (by rfl) B.len PySem.boot_len (pa_cons (pv 0) pa_nil)) (pv 2))))), ?_⟩
    cases hk with
    | int i => exact ⟨_, rfl, .int i, .ty "tuple", _, _, false, rfl, .ty "tuple", .base (.int i), kit_ty (by decide +kernel), false, rfl, q⟩
    | bl b => exact ⟨_, rfl, .bl b, .ty "tuple", _, _, false, rfl, .ty "tuple", .base (.bl b), kit_ty (by decide +kernel), false, rfl, q⟩
    | non => exact ⟨_, rfl, .non, .ty "tuple", _, _, false, rfl, .ty "tuple", .base .non, kit_ty (by decide +kernel), false, rfl, q⟩
    | str z => exact ⟨_, rfl, .str z, .ty "tuple", _, _, false, rfl, .ty "tuple", .base (.str z), kit_ty (by decide +kernel), false, rfl, q⟩
    | @lst a xs hS => exact ⟨_, rfl, .ref a, .ty "tuple", _, _, false, rfl, .ty "tuple", ty_lst hS, kit_ty (by decide +kernel), false, rfl, q⟩
    | @dct a kvs e => exact ⟨_, rfl, .ref a, .ty "tuple", _, _, false, rfl, .ty "tuple", .base (.dK e), kit_ty (by decide +kernel), false, rfl, q⟩
    | @tup a xs hS =>
      refine ⟨_, rfl, .ref a, .ty "tuple", _, _, true, rfl, .ty "tuple", ty_tup hS, kit_ty (by decide +kernel), true, rfl, _, rfl, _, rfl, a, xs, rfl, .inr hS, lo, (xs.length : Int), rfl, rfl, _, rfl, ite2 (fun e => ?_) (fun e => ?_)⟩
      · refine ⟨_, rfl, _, hi, rfl, rfl, ?_⟩
        have q : Q (.bl (decide (lo ≤ (xs.length : Int)) && decide ((xs.length : Int) ≤ hi))) H := q
        rw [e, Bool.true_and] at q
        exact q
      · have e' : decide (lo ≤ (xs.length : Int)) = false := by simpa using e
        have q : Q (.bl (decide (lo ≤ (xs.length : Int)) && decide ((xs.length : Int) ≤ hi))) H := q
        rw [e', Bool.false_and] at q
        exact q
def spArePlacesW (K : PySem.W.Frag) : Sp := fun vs H Q _ => ∃ (v : V) (wo : Option (List V)) (p : Int), vs = [v, .int p] ∧ Wd K H v wo ∧ ∀ H', Same H H' → Q (.bl (plsW p wo)) H'
theorem ok_are_placesW (F : Df K mg "are_places" st_are_places ["value", "places"]) (B : Bu mg) (C3 : Cal P w K mg base 3 "is_place" (spIsPlaceW K)) : Cal P w K mg base 4 "are_places" (spArePlacesW K) := by
  refine mkCal F sc_are_places (fun vs H Q E h => ?_) (fun f cdv A outer s H vs Q E hr h => ?_)
  · obtain ⟨v, wo, p, rfl, _⟩ := h
    rfl
  · obtain ⟨v, wo, p, rfl, hw, q⟩ := h
    refine ⟨_, pss_one (ps_ret (pe_and (pe_callB call_isi (by rfl) B.isi (by decide +kernel) (pa_cons (pv 0) (pa_cons (pe_bltn (v := .ty "tuple") (by rfl) B.tuple (by decide +kernel) rfl) pa_nil)))
      (pe_one (pe_callB (cr_all rfl) (by rfl) B.all (by decide +kernel) (pa_cons (pe_lc (own := [("place", 2)]) (g := gName 2) (tt := tYes) rfl sc_are_places.nd (pi_tup (pv 0)) (blkOk_by (N := ["value", "places", "place"]) (sc := defScope st_are_places) (by decide +kernel))
        (fun _ _ _ _ _ => pg_name (i := 2) sc_are_places.nd rfl (Or.inl rfl)) (fun _ _ _ _ _ => pts_nil) (fun _ _ _ _ _ => pc C3 hr (pa_cons (pv 2) (pa_cons (pv 1) pa_nil)))) pa_nil))))), ?_⟩
    obtain ⟨ht, hsw, hlen⟩ := hw
    cases ht with
    | int i => exact ⟨_, rfl, .int i, .ty "tuple", _, _, false, rfl, .ty "tuple", .base (.int i), kit_ty (by decide +kernel), false, rfl, q H (Same.refl H)⟩
    | bl b => exact ⟨_, rfl, .bl b, .ty "tuple", _, _, false, rfl, .ty "tuple", .base (.bl b), kit_ty (by decide +kernel), false, rfl, q H (Same.refl H)⟩
    | non => exact ⟨_, rfl, .non, .ty "tuple", _, _, false, rfl, .ty "tuple", .base .non, kit_ty (by decide +kernel), false, rfl, q H (Same.refl H)⟩
    | str z => exact ⟨_, rfl, .str z, .ty "tuple", _, _, false, rfl, .ty "tuple", .base (.str z), kit_ty (by decide +kernel), false, rfl, q H (Same.refl H)⟩
    | @lst a xs hS => exact ⟨_, rfl, .ref a, .ty "tuple", _, _, false, rfl, .ty "tuple", ty_lst hS, kit_ty (by decide +kernel), false, rfl, q H (Same.refl H)⟩
    | @dct a kvs e => exact ⟨_, rfl, .ref a, .ty "tuple", _, _, false, rfl, .ty "tuple", .base (.dK e), kit_ty (by decide +kernel), false, rfl, q H (Same.refl H)⟩
    | @tup a xs hS =>
      have hl := hlen xs rfl
      have hx := hsw xs rfl
      refine ⟨_, rfl, .ref a, .ty "tuple", _, _, true, rfl, .ty "tuple", ty_tup hS, kit_ty (by decide +kernel), true, rfl, ?_⟩
      refine ⟨_, rfl, a, rfl, ⟨_, hS⟩, fun D hD => ?_⟩
      refine lc_tup (xs := xs) (fun i H' => Same H H' ∧ H' D = some (.lst (((xs.take i).map (inV2 0 (p - 1))).map V.bl))) ⟨same_new hD, upd_same⟩ (fun i H' _ h' => onT h'.1 hS) (fun i x H' hi h' => ?_) (fun H' h' => ?_)
      · obtain ⟨sm, eD⟩ := h'
        refine ⟨rfl, _, rfl, _, rfl, x, p, rfl, (hx x (List.mem_of_getElem? hi)).on sm, _, eD, ?_, ?_, ?_⟩
        · rw [List.length_map, List.length_map, List.length_take]
          exact small1000 (by omega)
        · intro b o e
          rw [upd_ne (ne_of_none e hD)]
          exact sm b o e
        · rw [upd_same, all_snoc _ hi, List.map_append]
          rfl
      · obtain ⟨sm, eD⟩ := h'
        rw [List.take_length] at eD
        refine ⟨D, _, rfl, lstAt eD, ?_⟩
        have e : ((xs.map (inV2 0 (p - 1))).all id) = plsW p (some xs) := by
          rw [List.all_map]
          rfl
        rw [e]
        exact q H' sm
def spIsLayoutW (K : PySem.W.Frag) : Sp := fun vs H Q _ => ∃ (v : V) (wo : Option (List V)) (p : Nat), vs = [v, .int p] ∧ Wd K H v wo ∧ p ≤ 1000 ∧ ∀ H', Same H H' → Q (.bl (layW p wo)) H'
theorem ok_is_layoutW (F : Df K mg "is_layout" st_is_layout ["value", "places"]) (B : Bu mg) (C4 : Cal P w K mg base 4 "are_places" (spArePlacesW K)) : Cal P w K mg base 5 "is_layout" (spIsLayoutW K) := by
  refine mkCal F sc_is_layout (fun vs H Q E h => ?_) (fun f cdv A outer s H vs Q E hr h => ?_)
  · obtain ⟨v, wo, p, rfl, _⟩ := h
    rfl
  · obtain ⟨v, wo, p, rfl, hw, hp, q⟩ := h
    refine ⟨_, pss_one (ps_ret (pe_and (pc C4 hr (pa_cons (pv 0) (pa_cons (pv 1) pa_nil)))
      (pe_one (pe_cmpR (op_eqD hr.units) (pe_callB cr_sortedTup (by rfl) B.sorted (by decide +kernel) (pa_cons (pv 0) pa_nil)) (pe_listRg rfl (by rfl) B.list (prg_1 (by rfl) B.range (pv 1))) (nomark _))))), ?_⟩
    refine ⟨_, rfl, _, rfl, v, wo, p, rfl, hw, fun H1 sm1 => ⟨_, rfl, ite2 (fun e => ?_) (fun e => ?_)⟩⟩
    · obtain ⟨ht, hsw, hlen⟩ := hw
      cases ht with
      | @tup a xs hS =>
        obtain ⟨ns, rfl, hin⟩ := all_ints (n := p) e
        have hl : ns.length < 64 := by
          have := hlen _ rfl
          rwa [List.length_map] at this
        refine ⟨_, rfl, a, ns, rfl, onT sm1 hS, hl, fun ns' pL hpm hpw nL => ⟨_, rfl, (p : Int), rfl, ⟨by omega, by omega, by omega, by omega, by omega⟩, fun q' nq => ?_⟩⟩
        have nqp : pL ≠ q' := ne_of_none upd_same nq
        refine ⟨_, _, dp_lst (ns := ns') (lstAt ?_), dp_lst (ns := rg p) (lstAt ?_), PySem.W.ke_shaped_ints _, PySem.W.ke_shaped_ints _, ?_⟩
        · rw [upd_ne nqp, upd_same]
        · rw [upd_same, rgV_rg]
        · have em : ((ns.map V.int).map valI) = ns := by
            rw [List.map_map]
            exact List.map_id' ns
          have e2 : PyData.eqv (.list (ns'.map PyData.int)) (.list ((rg p).map PyData.int)) = layW p (some (ns.map V.int)) := by
            have e3 : layW p (some (ns.map V.int)) = isLay p ns := by
              have e : ((ns.map V.int).all (inV2 0 ((p : Int) - 1))) = true := e
              show ((ns.map V.int).all (inV2 0 ((p : Int) - 1)) && isLay p ((ns.map V.int).map valI)) = isLay p ns
              rw [e, Bool.true_and, em]
            rw [e3, eqv_lst, Bool.eq_iff_iff, decide_eq_true_iff]
            unfold isLay
            rw [List.isPerm_iff]
            constructor
            · intro z
              rw [← z]
              exact hpm.symm
            · intro z
              exact PySem.W.ksm_same (hpm.trans z) hpw (rg_le p)
          rw [e2]
          exact q _ (sm1.trans (Same.trans (same_new nL) (same_new nq)))
      | _ => cases e
    · have e2 : layW p wo = false := by
        cases wo with
        | none => rfl
        | some xs =>
          have e' : (xs.all (inV2 0 ((p : Int) - 1))) = false := by
            have e3 : ¬ (xs.all (inV2 0 ((p : Int) - 1))) = true := e
            simpa using e3
          show (xs.all (inV2 0 ((p : Int) - 1)) && isLay p (xs.map valI)) = false
          rw [e', Bool.false_and]
      have q := q H1 sm1
      rw [e2] at q
      exact q
end
end RH
set_option Elab.async false
set_option linter.all false
set_option maxRecDepth 100000
set_option maxHeartbeats 2000000
namespace RH
open PySem PySem.Spec PyProof.Rows L2
/-! ### the checks that raise -/
/-- a habit, or what is none: of each row what it is -/
inductive Hk (K : PySem.W.Frag) (H : Hp) : V → Option (List (Option (List V))) → Prop
  | tup {a : Addr} {xs : List V} {wos : List (Option (List V))} : SqT K H a xs → Each (Wd K H) xs wos → Hk K H (.ref a) (some wos)
  | no {v : V} : Tk K H v none → Hk K H v none
theorem Hk.on {K : PySem.W.Frag} {H H' : Hp} (e : Same H H') {v : V} {ho : Option (List (Option (List V)))} (h : Hk K H v ho) : Hk K H' v ho := by
  cases h with
  | tup h hx => exact .tup (onT e h) (hx.imp fun v d z => z.on e)
  | no h => exact .no (h.on e)
/-- the place that BadHabit tells, if it is none -/
def hbBad : Option (List (Option (List V))) → Option V
  | none => some .non
  | some wos => if (decide (2 ≤ wos.length) && decide (wos.length ≤ 5)) = true then (wos.findIdx? fun wo => !layW wos.length wo).map (fun i => V.int (i : Nat)) else some .non
theorem hbBad_pl {ho : Option (List (Option (List V)))} {pl : V} (h : hbBad ho = some pl) : plV pl := by
  cases ho with
  | none => exact .inl (Option.some.inj h).symm
  | some wos =>
    unfold hbBad at h
    dsimp only at h
    split at h
    · rename_i hc
      rw [Bool.and_eq_true, decide_eq_true_iff, decide_eq_true_iff] at hc
      obtain ⟨i, hi, e⟩ := Option.map_eq_some_iff.mp h
      have := (List.findIdx?_eq_some_iff_getElem.mp hi).1
      exact .inr ⟨i, by omega, e.symm⟩
    · exact .inl (Option.some.inj h).symm
theorem few_cast (n : Nat) : (decide ((2 : Int) ≤ (n : Int)) && decide ((n : Int) ≤ 5)) = (decide (2 ≤ n) && decide (n ≤ 5)) := by
  rw [Bool.eq_iff_iff]
  simp only [Bool.and_eq_true, decide_eq_true_iff]
  omega
section
variable {P : Program} {w : World} {K : PySem.W.Frag} {mg : Str → Option Value} {base : Heap}
def spCheckHabitX (K : PySem.W.Frag) (C : Addr) : Sp := fun vs H Q E => ∃ (v : V) (ho : Option (List (Option (List V)))), vs = [v] ∧ Hk K H v ho ∧ (hbBad ho = none → ∀ H', Same H H' → Q .non H') ∧ (∀ pl, hbBad ho = some pl → bhE C "place" pl H E)
theorem ok_check_habitX {C : Addr} (F : Df K mg "check_habit" st_check_habit ["habit"]) (B : Bu mg) (c2 : ∃ t, mg "FEWEST_PLACES" = some (.int 2 t)) (c5 : ∃ t, mg "MOST_PLACES" = some (.int 5 t)) (T : BhX P w K mg base "BadHabit" "place" C (spBI "place" C))
    (C1 : Cal P w K mg base 1 "is_row" (spIsRowW K)) (C5 : Cal P w K mg base 5 "is_layout" (spIsLayoutW K)) : CalX P w K mg base 6 "check_habit" (spCheckHabitX K C) := by
  refine mkCalX F sc_check_habit (fun vs H Q E h => ?_) (fun f cdv A outer s H vs Q E hr h => ?_)
  · obtain ⟨v, ho, rfl, _⟩ := h
    rfl
  · obtain ⟨v, ho, rfl, hk, q1, q2⟩ := h
    obtain ⟨fI, fdI, FI, iC, tI, bI⟩ := T.f
    refine ⟨_, pss_cons (ps_if (pt_not (pt_val (pc C1 hr (pa_cons (pv 0) (pa_cons (pk c2) (pa_cons (pk c5) pa_nil)))))) (pss_one (ps_raise rfl takesE (pmk_oex T.t iC tI FI (hr.mono (by decide)) bI .nil pass0 rfl T.g (pa_cons pe_non pa_nil)))) pss_nil)
      (pss_one (ps_for (passes_of rfl) rfl (pi_enumT (by rfl) B.enumerate (pa_cons (pv 0) pa_nil)) (pg_tup rfl (pgs_cons (pg_name (i := 1) sc_check_habit.nd rfl (.inl rfl)) (pgs_cons (pg_name (i := 2) sc_check_habit.nd rfl (.inl rfl)) pgs_nil)))
        (pss_one (ps_if (pt_not (pt_val (pc C5 hr (pa_cons (pv 2) (pa_cons (pe_callB (cl_len K) (by rfl) B.len PySem.boot_len (pa_cons (pv 0) pa_nil)) pa_nil))))) (pss_one (ps_raise rfl takesE (pmk_oex T.t iC tI FI (hr.mono (by decide)) bI .nil pass0 rfl T.g (pa_cons (pv 1) pa_nil)))) pss_nil)))), ?_⟩
    have none_ : ∀ {H1 : Hp}, Same H H1 → hbBad ho = some .non → ∀ d, H1 d = none → E (.ref C) (some d) (upd H1 d (.xd [("place", .non)])) := fun {H1} s1 e d hd => q2 _ e d _ (s1.trans (same_new hd)) upd_same
    cases hk with
    | @no v ht => exact ⟨_, rfl, v, none, 2, 5, rfl, ht, _, rfl, ifT rfl (bh_made (.inl rfl) (none_ (Same.refl H) rfl))⟩
    | @tup a xs wos hS hE =>
      have hlen := hE.len
      refine ⟨_, rfl, .ref a, some xs, 2, 5, rfl, .tup hS, _, rfl, ?_⟩
      cases hc : (decide (2 ≤ wos.length) && decide (wos.length ≤ 5)) with
      | false =>
        refine ifT ?_ (bh_made (.inl rfl) (none_ (Same.refl H) ?_))
        · show (!(decide ((2 : Int) ≤ (xs.length : Int)) && decide ((xs.length : Int) ≤ 5))) = true
          rw [hlen, few_cast, hc]
          rfl
        · unfold hbBad
          dsimp only
          rw [hc]
          rfl
      | true =>
        have hc' := hc
        rw [Bool.and_eq_true, decide_eq_true_iff, decide_eq_true_iff] at hc'
        refine ifF ?_ ?_
        · show (!(decide ((2 : Int) ≤ (xs.length : Int)) && decide ((xs.length : Int) ≤ 5))) = false
          rw [hlen, decide_eq_true (by omega), decide_eq_true (by omega)]
          rfl
        refine ⟨_, rfl, a, xs, rfl, hS, ?_⟩
        refine for_enumT (xs := xs) (fun i σ H' => Same H H' ∧ (∀ j wo, j < i → wos[j]? = some wo → layW wos.length wo = true) ∧ ∃ y1 y2, σ = [some (.ref a), y1, y2]) ⟨Same.refl H, fun j wo hj => absurd hj (Nat.not_lt_zero _), none, none, rfl⟩ (fun i σ H' h' => onT h'.1 hS) (fun i x T σ H' hx h' hT => ?_) (fun σ H' h' => q1 ?_ H' h'.1)
        · obtain ⟨sm, old, y1, y2, rfl⟩ := h'
          obtain ⟨wo, hwo, hTx⟩ := hE.at hx
          have sT : Same H (upd H' T (.tup [.int (i : Nat), x])) := sm.trans (same_new hT)
          refine ⟨T, _, rfl, tupAt upd_same, rfl, _, _, rfl, _, _, rfl, rfl, _, rfl, _, rfl, a, xs, rfl, .inr (onT sT hS), x, wo, wos.length, by rw [hlen]; rfl, hTx.on sT, by omega, fun H3 sm3 => ⟨_, rfl, ?_⟩⟩
          cases hl : layW wos.length wo with
          | true =>
            refine ifF rfl ⟨sT.trans sm3, fun j wo' hj e => ?_, _, _, rfl⟩
            rcases Nat.lt_succ_iff_lt_or_eq.mp hj with hj | rfl
            · exact old j wo' hj e
            · rw [hwo] at e
              cases e
              exact hl
          | false =>
            refine ifT rfl ⟨_, rfl, ?_⟩
            have hi : i < wos.length := (List.getElem?_eq_some_iff.mp hwo).1
            have e : hbBad (some wos) = some (.int (i : Nat)) := by
              unfold hbBad
              dsimp only
              rw [if_pos hc]
              have : (wos.findIdx? fun wo => !layW wos.length wo) = some i := by
                rw [List.findIdx?_eq_some_iff_getElem]
                refine ⟨hi, ?_, fun j hj => ?_⟩
                · rw [(List.getElem?_eq_some_iff.mp hwo).2, hl]
                  rfl
                · rw [old j _ hj (List.getElem?_eq_getElem _)]
                  decide
              rw [this]
              rfl
            exact bh_made (hbBad_pl e) fun d hd => q2 _ e d _ ((sT.trans sm3).trans (same_new hd)) upd_same
        · unfold hbBad
          dsimp only
          rw [if_pos hc]
          have : (wos.findIdx? fun wo => !layW wos.length wo) = none := by
            rw [List.findIdx?_eq_none_iff]
            intro wo hm
            obtain ⟨j, hj⟩ := List.mem_iff_getElem?.mp hm
            rw [h'.2.1 j wo (by rw [hlen]; exact (List.getElem?_eq_some_iff.mp hj).1) hj]
            rfl
          rw [this]
          rfl
/-- a word's value: told row by row -/
structure Ww (K : PySem.W.Frag) (H : Hp) (v : V) (wo : Option (List V)) : Prop where
  t : Tk K H v wo
  w : rowW 0 400 wo = true → Wd K H v wo
theorem Ww.on {H H' : Hp} (e : Same H H') {v : V} {wo : Option (List V)} (h : Ww K H v wo) : Ww K H' v wo := ⟨h.t.on e, fun z => (h.w z).on e⟩
def spCheckNumX (K : PySem.W.Frag) (C : Addr) : Sp := fun vs H Q E => ∃ v : V, vs = [v, .int 2, .int 5] ∧ Sw K H v ∧ (inV2 2 5 v = true → Q .non H) ∧ (inV2 2 5 v = false → E (.ref C) none H)
theorem ok_check_numberX {C : Addr} (F : Df K mg "check_number" st_check_number ["value", "low", "high"]) (Xn : ExO K mg "BadNumber" C) (C2 : Cal P w K mg base 2 "is_number" (spIsNumberW K)) : CalX P w K mg base 3 "check_number" (spCheckNumX K C) := by
  refine mkCalX F sc_check_number (fun vs H Q E h => ?_) (fun f cdv A outer s H vs Q E hr h => ?_)
  · obtain ⟨v, rfl, _⟩ := h
    rfl
  · obtain ⟨v, rfl, hv, q1, q2⟩ := h
    refine ⟨_, pss_one (ps_if (pt_not (pt_val (pc C2 hr (pa_cons (pv 0) (pa_cons (pv 1) (pa_cons (pv 2) pa_nil)))))) (pss_one (ps_raise rfl takesE (SkE.pmk_own1 PySem.F.excBase_ValueError Xn.q Xn.g Xn.k (raises_own Xn.b Xn.t) rfl
      (pe_joined (.cons pe_str (.cons (pe_fmt (pv 1)) (.cons pe_str (.cons (pe_fmt (pv 2)) .nil)))))))) pss_nil), ?_⟩
    refine ⟨_, rfl, _, rfl, _, rfl, v, 2, 5, rfl, hv, _, rfl, ?_⟩
    cases el : inV2 2 5 v with
    | true => exact ifF rfl (q1 el)
    | false =>
      refine ifT rfl ?_
      refine ⟨_, rfl, ?_, _, rfl, .inr ⟨2, rfl, by decide +kernel, _, rfl, ?_, _, rfl, ?_, _, rfl, .inr ⟨5, rfl, by decide +kernel, _, rfl, ?_, q2 el⟩⟩⟩ <;> (rw [sizeLine_eq]; decide +kernel)
def spCheckPlacesX (K : PySem.W.Frag) (C : Addr) : Sp := fun vs H Q E => ∃ v : V, vs = [v] ∧ Sw K H v ∧ (inV2 2 5 v = true → Q .non H) ∧ (inV2 2 5 v = false → E (.ref C) none H)
theorem ok_check_placesX {C : Addr} (F : Df K mg "check_places" st_check_places ["places"]) (c2 : ∃ t, mg "FEWEST_PLACES" = some (.int 2 t)) (c5 : ∃ t, mg "MOST_PLACES" = some (.int 5 t)) (C3 : CalX P w K mg base 3 "check_number" (spCheckNumX K C)) :
    CalX P w K mg base 4 "check_places" (spCheckPlacesX K C) := by
  refine mkCalX F sc_check_places (fun vs H Q E h => ?_) (fun f cdv A outer s H vs Q E hr h => ?_)
  · obtain ⟨v, rfl, _⟩ := h
    rfl
  · obtain ⟨v, rfl, hv, q1, q2⟩ := h
    exact ⟨_, pss_one (ps_expr (pcX C3 passE hr (pa_cons (pv 0) (pa_cons (pk c2) (pa_cons (pk c5) pa_nil))))), _, rfl, v, rfl, hv, q1, q2⟩
end
end RH
set_option Elab.async false
set_option linter.all false
set_option maxRecDepth 100000
set_option maxHeartbeats 2000000
namespace RH
open PySem PySem.Spec PyProof.Rows L2
/-! ### instructions, of whatever kind -/
/-- a tuple of texts among the module's names -/
def CTup (K : PySem.W.Frag) (mg : Str → Option Value) (x : Str) (zs : List Str) : Prop := ∃ (a : Addr) (o : Obj) (its : Array Value) (n : Nat), mg x = some (.ref a) ∧ K.lookup a = some o ∧ o.cls = .type "tuple" ∧ o.data = .seq its n ∧ its.size ≤ sizeLine ∧ Vals (zs.map V.str) its.toList
theorem CTup.at {K : PySem.W.Frag} {mg : Str → Option Value} {x : Str} {zs : List Str} (h : CTup K mg x zs) : ∃ a : Addr, mg x = some (.ref a) ∧ ∀ H, SqT K H a (zs.map V.str) := by
  obtain ⟨a, o, its, n, h1, h2, h3, h4, h5, h6⟩ := h
  exact ⟨a, h1, fun H => .inr ⟨o, its, n, h2, h3, h4, h5, h6⟩⟩
def bareZ : List Str := ["say", "ask", "stop"]
def jumpZ : List Str := ["zero", "go"]
def accZ : List Str := ["get", "set", "plus", "minus"]
def inZ (w : Str) (zs : List Str) : Bool := inV (.str w) (zs.map V.str)
/-- is it an instruction? -/
def insW (p cnt : Int) (rl : Bool) : Option (List V) → Bool
  | some [.str w] => inZ w bareZ
  | some [.str w, v] => !inZ w bareZ && (if inZ w jumpZ then inV2 0 cnt v else if w == "put" then inV2 (-1000000) 1000000 v else (inZ w accZ || (w == "touch" && rl)) && inV2 0 (p - 1) v)
  | _ => false
theorem row12 {xs : List V} (h : rowW 1 2 (some xs) = true) : (∃ x, xs = [x]) ∨ ∃ x y, xs = [x, y] := by
  match xs with
  | [] => cases h
  | [x] => exact .inl ⟨x, rfl⟩
  | [x, y] => exact .inr ⟨x, y, rfl⟩
  | x :: y :: z :: r =>
    have h : (decide ((1 : Int) ≤ ((x :: y :: z :: r).length : Int)) && decide (((x :: y :: z :: r).length : Int) ≤ 2)) = true := h
    rw [Bool.and_eq_true, decide_eq_true_iff, decide_eq_true_iff] at h
    have := h.2
    simp only [List.length_cons] at this
    omega
def isS : V → Bool
  | .str _ => true
  | _ => false
section
variable {P : Program} {w : World} {K : PySem.W.Frag} {mg : Str → Option Value} {base : Heap} {Cb Cl Cp Cw Cn Cg Cs : Addr}
def spIsInsW (K : PySem.W.Frag) : Sp := fun vs H Q _ => ∃ (v : V) (wo : Option (List V)) (p cnt : Int) (rl : Bool), vs = [v, .int p, .int cnt, .bl rl] ∧ Wd K H v wo ∧ Q (.bl (insW p cnt rl wo)) H
theorem ok_is_insW (F : Df K mg "is_instruction" st_is_instruction ["value", "places", "count", "is_restless"]) (B : Bu mg) (bare : CTup K mg "BARE" bareZ) (jump : CTup K mg "JUMPS" jumpZ) (acc : CTup K mg "ACCESSES" accZ) (great : ∃ t, mg "GREATEST" = some (.int 1000000 t))
    (C1 : Cal P w K mg base 1 "is_row" (spIsRowW K)) (C2 : Cal P w K mg base 2 "is_number" (spIsNumberW K)) (C3 : Cal P w K mg base 3 "is_place" (spIsPlaceW K)) : Cal P w K mg base 4 "is_instruction" (spIsInsW K) := by
  obtain ⟨ab, gb, hb⟩ := bare.at
  obtain ⟨aj, gj, hj⟩ := jump.at
  obtain ⟨aa, ga, ha⟩ := acc.at
  refine mkCal F sc_is_instruction (fun vs H Q E h => ?_) (fun f cdv A outer s H vs Q E hr h => ?_)
  · obtain ⟨v, wo, p, cnt, rl, rfl, _⟩ := h
    rfl
  · obtain ⟨v, wo, p, cnt, rl, rfl, hw, q⟩ := h
    refine ⟨_, pss_cons (ps_if (PW.pt (pw_or (pt_not (pt_val (pc C1 hr (pa_cons (pv 0) (pa_cons pe_int (pa_cons pe_int pa_nil)))))) (pw_or1 (pt_not (pt_val (pe_callB call_isi (by rfl) B.isi (by decide +kernel) (pa_cons (pe_ix (ixT K) (pv 0) pe_int (fun _ _ => rfl)) (pa_cons (pe_bltn (v := .ty "str") (by rfl) B.str (by decide +kernel) rfl) pa_nil)))))))) (pss_one (ps_ret pe_bl)) pss_nil)
      (pss_cons (ps_set (i := 4) sc_is_instruction.nd rfl (.inl rfl) (pe_ix (ixT K) (pv 0) pe_int (fun _ _ => rfl)))
      (pss_cons (ps_if (pt_cmpR (opIn K) (pv 4) (pe_glob (v := .ref ab) (by rfl) gb (by rfl)) rfl) (pss_one (ps_ret (pe_cmpR op_eq (pe_callB (cl_len K) (by rfl) B.len PySem.boot_len (pa_cons (pv 0) pa_nil)) pe_int (nomark _)))) pss_nil)
      (pss_cons (ps_if (pt_cmpR op_eq (pe_callB (cl_len K) (by rfl) B.len PySem.boot_len (pa_cons (pv 0) pa_nil)) pe_int (nomark _)) (pss_one (ps_ret pe_bl)) pss_nil)
      (pss_cons (ps_if (pt_cmpR (opIn K) (pv 4) (pe_glob (v := .ref aj) (by rfl) gj (by rfl)) rfl) (pss_one (ps_ret (pc C2 hr (pa_cons (pe_ix (ixT K) (pv 0) pe_int (fun _ _ => rfl)) (pa_cons pe_int (pa_cons (pv 2) pa_nil)))))) pss_nil)
      (pss_cons (ps_if (pt_cmpR op_eq (pv 4) pe_str (nomark _)) (pss_one (ps_ret (pc C2 hr (pa_cons (pe_ix (ixT K) (pv 0) pe_int (fun _ _ => rfl)) (pa_cons (pe_un un_neg (pk great)) (pa_cons (pk great) pa_nil)))))) pss_nil)
      (pss_cons (ps_if (PW.pt (pw_or (pt_cmpR (opIn K) (pv 4) (pe_glob (v := .ref aa) (by rfl) ga (by rfl)) rfl) (pw_or1 (PW.pt (pw_and (pt_cmpR op_eq (pv 4) pe_str (nomark _)) (pw_and1 (pt_val (pv 3)))))))) (pss_one (ps_ret (pc C3 hr (pa_cons (pe_ix (ixT K) (pv 0) pe_int (fun _ _ => rfl)) (pa_cons (pv 1) pa_nil))))) pss_nil)
      (pss_one (ps_ret pe_bl)))))))), ?_⟩
    refine ⟨_, rfl, v, wo, 1, 2, rfl, hw.t, _, rfl, ?_⟩
    cases er : rowW 1 2 wo with
    | false =>
      refine ifT (by rfl) (ifT rfl ?_)
      have : insW p cnt rl wo = false := by
        cases wo with
        | none => rfl
        | some xs =>
          match xs with
          | [] => rfl
          | [x] => cases er
          | [x, y] => cases er
          | x :: y :: z :: r =>
            cases x <;> rfl
      rw [this] at q
      exact q
    | true =>
      refine ifF (by rfl) ?_
      obtain ⟨ht, hsw, hlen⟩ := hw
      cases ht with
      | @tup a xs hS =>
        have main : ∀ x, xs[0]? = some x → Sw K H x → (isS x = false → insW p cnt rl (some xs) = false) := fun x hx _ hs => by
          match xs, hx with
          | [y], hx => cases Option.some.inj hx; cases x <;> first | rfl | cases hs
          | [y, z], hx => cases Option.some.inj hx; cases x <;> first | rfl | cases hs
          | y :: z :: t :: r, hx => cases Option.some.inj hx; cases x <;> first | rfl | cases hs
        obtain ⟨x, hx⟩ : ∃ x, xs[0]? = some x := by
          rcases row12 er with ⟨x, rfl⟩ | ⟨x, y, rfl⟩ <;> exact ⟨x, rfl⟩
        have hsx := hsw xs rfl x (List.mem_of_getElem? hx)
        refine ⟨_, rfl, a, xs, 0, x, rfl, rfl, hS, atI_nat (j := 0) hx, ?_⟩
        have no : ∀ k, isS x = k → k = false → insW p cnt rl (some xs) = false := fun k e1 e2 => main x hx hsx (e1.trans e2)
        cases hsx with
        | int i => exact ⟨.int i, .ty "str", _, _, false, rfl, .ty "str", .base (.int i), kit_ty (by decide +kernel), _, rfl, ifT rfl (by rw [no _ rfl rfl] at q; exact q)⟩
        | bl b => exact ⟨.bl b, .ty "str", _, _, false, rfl, .ty "str", .base (.bl b), kit_ty (by decide +kernel), _, rfl, ifT rfl (by rw [no _ rfl rfl] at q; exact q)⟩
        | non => exact ⟨.non, .ty "str", _, _, false, rfl, .ty "str", .base .non, kit_ty (by decide +kernel), _, rfl, ifT rfl (by rw [no _ rfl rfl] at q; exact q)⟩
        | @tup a2 xs2 h => exact ⟨.ref a2, .ty "str", _, _, false, rfl, .ty "str", ty_tup h, kit_ty (by decide +kernel), _, rfl, ifT rfl (by rw [no _ rfl rfl] at q; exact q)⟩
        | @lst a2 xs2 h => exact ⟨.ref a2, .ty "str", _, _, false, rfl, .ty "str", ty_lst h, kit_ty (by decide +kernel), _, rfl, ifT rfl (by rw [no _ rfl rfl] at q; exact q)⟩
        | str z =>
          refine ⟨.str z, .ty "str", _, _, true, rfl, .ty "str", .base (.str z), kit_ty (by decide +kernel), _, rfl, ifF rfl ?_⟩
          refine ⟨_, rfl, a, xs, 0, .str z, rfl, rfl, hS, atI_nat (j := 0) hx, ?_⟩
          refine ⟨_, rfl, ab, _, rfl, .inr (hb _), rfl, by decide, _, rfl, ?_⟩
          rcases row12 er with ⟨x, rfl⟩ | ⟨x, y, rfl⟩
          · cases Option.some.inj hx
            have q : Q (.bl (inZ z bareZ)) H := q
            cases e1 : inZ z bareZ with
            | true =>
              rw [e1] at q
              exact ifT e1 ⟨_, rfl, a, _, rfl, .inr hS, rfl, q⟩
            | false =>
              rw [e1] at q
              exact ifF e1 ⟨_, rfl, a, _, rfl, .inr hS, rfl, _, rfl, ifT rfl q⟩
          · cases Option.some.inj hx
            have hsy := hsw _ rfl y (List.mem_cons_of_mem _ (List.mem_cons_self ..))
            have q : Q (.bl (!inZ z bareZ && (if inZ z jumpZ then inV2 0 cnt y else if z == "put" then inV2 (-1000000) 1000000 y else (inZ z accZ || (z == "touch" && rl)) && inV2 0 (p - 1) y))) H := q
            cases e1 : inZ z bareZ with
            | true =>
              rw [e1] at q
              exact ifT e1 ⟨_, rfl, a, _, rfl, .inr hS, rfl, q⟩
            | false =>
              rw [e1, Bool.not_false, Bool.true_and] at q
              refine ifF e1 ⟨_, rfl, a, _, rfl, .inr hS, rfl, _, rfl, ifF rfl ?_⟩
              refine ⟨_, rfl, aj, _, rfl, .inr (hj _), rfl, by decide, _, rfl, ?_⟩
              cases e2 : inZ z jumpZ with
              | true =>
                rw [e2, if_pos rfl] at q
                exact ifT e2 ⟨_, rfl, a, _, 1, y, rfl, rfl, hS, rfl, _, rfl, y, 0, cnt, rfl, hsy, q⟩
              | false =>
                rw [e2, if_neg (by decide)] at q
                refine ifF e2 ⟨_, rfl, rfl, _, rfl, ?_⟩
                rw [dec_str]
                cases e3 : z == "put" with
                | true =>
                  rw [e3, if_pos rfl] at q
                  exact ifT rfl ⟨_, rfl, a, _, 1, y, rfl, rfl, hS, rfl, 1000000, rfl, y, -1000000, 1000000, rfl, hsy, q⟩
                | false =>
                  rw [e3, if_neg (by decide)] at q
                  refine ifF rfl ⟨_, rfl, aa, _, rfl, .inr (ha _), rfl, by decide, _, rfl, ?_⟩
                  have yes : (inZ z accZ || (z == "touch" && rl)) = true → tRet (tCall (spIsPlaceW K) [] E0 (tCons (tOp (rIxT K) (tVar 0) (tC (V.int 1))) (tCons (tVar 1) tNil))) { nx := fun _ H' => Q .non H', rt := Q } [some (.ref a), some (.int p), some (.int cnt), some (.bl rl), some (.str z)] H := fun e => by
                    rw [e, Bool.true_and] at q
                    exact ⟨_, rfl, a, _, 1, y, rfl, rfl, hS, rfl, _, rfl, y, p, rfl, hsy, q⟩
                  cases e4 : inZ z accZ with
                  | true => exact ifT e4 (yes (by rw [e4]; rfl))
                  | false =>
                    refine ifF e4 ⟨_, rfl, rfl, _, rfl, ?_⟩
                    rw [dec_str]
                    cases e5 : z == "touch" with
                    | false =>
                      rw [e4, e5] at q
                      exact ifF rfl q
                    | true =>
                      refine ifT rfl ⟨_, rfl, _, rfl, ?_⟩
                      cases rl with
                      | true => exact yes (by rw [e4, e5]; rfl)
                      | false =>
                        rw [e4, e5] at q
                        exact q
      | _ => cases er
end
end RH
set_option Elab.async false
set_option linter.all false
set_option maxRecDepth 100000
set_option maxHeartbeats 2000000
namespace RH
open PySem PySem.Spec PyProof.Rows L2
/-! ### programs, of whatever kind -/
section
variable {P : Program} {w : World} {K : PySem.W.Frag} {mg : Str → Option Value} {base : Heap} {Cb Cl Cp Cw Cn Cg Cs : Addr}
/-- the index that BadProgram tells, if it is none -/
def pgBad (p most : Int) (rl : Bool) : Option (List (Option (List V))) → Option V
  | none => some .non
  | some wos => if (decide ((1 : Int) ≤ (wos.length : Int)) && decide ((wos.length : Int) ≤ most)) = true then (wos.findIdx? fun wo => !insW p wos.length rl wo).map (fun i => V.int (i : Nat)) else some .non
def spCheckProgX (K : PySem.W.Frag) (C : Addr) : Sp := fun vs H Q E => ∃ (v : V) (ho : Option (List (Option (List V)))) (p most : Int) (rl : Bool), vs = [v, .int p, .int most, .bl rl] ∧ Hk K H v ho ∧ (pgBad p most rl ho = none → ∀ H', Same H H' → Q .non H') ∧ (∀ pl, pgBad p most rl ho = some pl → plV pl ∧ bhE C "index" pl H E)
theorem ok_check_programX {C : Addr} (F : Df K mg "check_program" st_check_program ["program", "places", "most", "is_restless"]) (B : Bu mg) (T : BhX P w K mg base "BadProgram" "index" C (spBI "index" C)) (C1 : Cal P w K mg base 1 "is_row" (spIsRowW K)) (C4 : Cal P w K mg base 4 "is_instruction" (spIsInsW K)) :
    CalX P w K mg base 5 "check_program" (spCheckProgX K C) := by
  refine mkCalX F sc_check_program (fun vs H Q E h => ?_) (fun f cdv A outer s H vs Q E hr h => ?_)
  · obtain ⟨v, ho, p, most, rl, rfl, _⟩ := h
    rfl
  · obtain ⟨v, ho, p, most, rl, rfl, hk, q1, q2⟩ := h
    obtain ⟨fI, fdI, FI, iC, tI, bI⟩ := T.f
    refine ⟨_, pss_cons (ps_if (pt_not (pt_val (pc C1 hr (pa_cons (pv 0) (pa_cons pe_int (pa_cons (pv 2) pa_nil)))))) (pss_one (ps_raise rfl takesE (pmk_oex T.t iC tI FI (hr.mono (by decide)) bI .nil pass0 rfl T.g (pa_cons pe_non pa_nil)))) pss_nil)
      (pss_one (ps_for (passes_of rfl) rfl (pi_enumT (by rfl) B.enumerate (pa_cons (pv 0) pa_nil)) (pg_tup rfl (pgs_cons (pg_name (i := 4) sc_check_program.nd rfl (.inl rfl)) (pgs_cons (pg_name (i := 5) sc_check_program.nd rfl (.inl rfl)) pgs_nil)))
        (pss_one (ps_if (pt_not (pt_val (pc C4 hr (pa_cons (pv 5) (pa_cons (pv 1) (pa_cons (pe_callB (cl_len K) (by rfl) B.len PySem.boot_len (pa_cons (pv 0) pa_nil)) (pa_cons (pv 3) pa_nil))))))) (pss_one (ps_raise rfl takesE (pmk_oex T.t iC tI FI (hr.mono (by decide)) bI .nil pass0 rfl T.g (pa_cons (pv 4) pa_nil)))) pss_nil)))), ?_⟩
    have none_ : ∀ {H1 : Hp}, Same H H1 → pgBad p most rl ho = some .non → ∀ d, H1 d = none → E (.ref C) (some d) (upd H1 d (.xd [("index", .non)])) := fun {H1} s1 e d hd => (q2 _ e).2 d _ (s1.trans (same_new hd)) upd_same
    cases hk with
    | @no v ht => exact ⟨_, rfl, _, rfl, v, none, 1, most, rfl, ht, _, rfl, ifT rfl (bh_made (.inl rfl) (none_ (Same.refl H) rfl))⟩
    | @tup a xs wos hS hE =>
      have hlen := hE.len
      refine ⟨_, rfl, _, rfl, .ref a, some xs, 1, most, rfl, .tup hS, _, rfl, ?_⟩
      have er : rowW 1 most (some xs) = (decide ((1 : Int) ≤ (wos.length : Int)) && decide ((wos.length : Int) ≤ most)) := by
        show (decide ((1 : Int) ≤ (xs.length : Int)) && decide ((xs.length : Int) ≤ most)) = _
        rw [hlen]
      rw [er]
      cases hc : (decide ((1 : Int) ≤ (wos.length : Int)) && decide ((wos.length : Int) ≤ most)) with
      | false =>
        refine ifT rfl (bh_made (.inl rfl) (none_ (Same.refl H) ?_))
        unfold pgBad
        dsimp only
        rw [hc]
        rfl
      | true =>
        refine ifF rfl ?_
        refine ⟨_, rfl, a, xs, rfl, hS, ?_⟩
        refine for_enumT (xs := xs) (fun i σ H' => Same H H' ∧ (∀ j wo, j < i → wos[j]? = some wo → insW p wos.length rl wo = true) ∧ ∃ y1 y2, σ = [some (.ref a), some (.int p), some (.int most), some (.bl rl), y1, y2]) ⟨Same.refl H, fun j wo hj => absurd hj (Nat.not_lt_zero _), none, none, rfl⟩ (fun i σ H' h' => onT h'.1 hS) (fun i x T σ H' hx h' hT => ?_) (fun σ H' h' => q1 ?_ H' h'.1)
        · obtain ⟨sm, old, y1, y2, rfl⟩ := h'
          obtain ⟨wo, hwo, hTx⟩ := hE.at hx
          have sT : Same H (upd H' T (.tup [.int (i : Nat), x])) := sm.trans (same_new hT)
          refine ⟨T, _, rfl, tupAt upd_same, rfl, _, _, rfl, _, _, rfl, rfl, _, rfl, _, rfl, _, rfl, a, xs, rfl, .inr (onT sT hS), _, rfl, x, wo, p, (wos.length : Int), rl, by rw [hlen]; rfl, hTx.on sT, _, rfl, ?_⟩
          cases hl : insW p wos.length rl wo with
          | true =>
            refine ifF rfl ⟨sT, fun j wo' hj e => ?_, _, _, rfl⟩
            rcases Nat.lt_succ_iff_lt_or_eq.mp hj with hj | rfl
            · exact old j wo' hj e
            · rw [hwo] at e
              cases e
              exact hl
          | false =>
            refine ifT rfl ⟨_, rfl, ?_⟩
            have hi : i < wos.length := (List.getElem?_eq_some_iff.mp hwo).1
            have e : pgBad p most rl (some wos) = some (.int (i : Nat)) := by
              unfold pgBad
              dsimp only
              rw [if_pos hc]
              have : (wos.findIdx? fun wo => !insW p wos.length rl wo) = some i := by
                rw [List.findIdx?_eq_some_iff_getElem]
                refine ⟨hi, ?_, fun j hj => ?_⟩
                · rw [(List.getElem?_eq_some_iff.mp hwo).2, hl]
                  rfl
                · rw [old j _ hj (List.getElem?_eq_getElem _)]
                  decide
              rw [this]
              rfl
            exact bh_made (q2 _ e).1 fun d hd => (q2 _ e).2 d _ (sT.trans (same_new hd)) upd_same
        · unfold pgBad
          dsimp only
          rw [if_pos hc]
          have : (wos.findIdx? fun wo => !insW p wos.length rl wo) = none := by
            rw [List.findIdx?_eq_none_iff]
            intro wo hm
            obtain ⟨j, hj⟩ := List.mem_iff_getElem?.mp hm
            rw [h'.2.1 j wo (by rw [hlen]; exact (List.getElem?_eq_some_iff.mp hj).1) hj]
            rfl
          rw [this]
          rfl
def spCheckPg2 (K : PySem.W.Frag) (C : Addr) (most : Int) (rl : Bool) : Sp := fun vs H Q E => ∃ (v : V) (ho : Option (List (Option (List V)))) (p : Int), vs = [v, .int p] ∧ Hk K H v ho ∧ (pgBad p most rl ho = none → ∀ H', Same H H' → Q .non H') ∧ (∀ pl, pgBad p most rl ho = some pl → plV pl ∧ bhE C "index" pl H E)
theorem ok_check_restlessX {C : Addr} (F : Df K mg "check_restless" st_check_restless ["program", "places"]) (c4000 : ∃ t, mg "MOST_RESTLESS" = some (.int 4000 t)) (CP : CalX P w K mg base 5 "check_program" (spCheckProgX K C)) : CalX P w K mg base 6 "check_restless" (spCheckPg2 K C 4000 true) := by
  refine mkCalX F sc_check_restless (fun vs H Q E h => ?_) (fun f cdv A outer s H vs Q E hr h => ?_)
  · obtain ⟨v, ho, p, rfl, _⟩ := h
    rfl
  · obtain ⟨v, ho, p, rfl, hk, q1, q2⟩ := h
    exact ⟨_, pss_one (ps_expr (pcX CP passE hr (pa_cons (pv 0) (pa_cons (pv 1) (pa_cons (pk c4000) (pa_cons pe_bl pa_nil)))))), _, rfl, _, rfl, v, ho, p, 4000, true, rfl, hk, q1, q2⟩
theorem ok_check_stillX {C : Addr} (F : Df K mg "check_still" st_check_still ["program", "places"]) (c200 : ∃ t, mg "MOST_STILL" = some (.int 200 t)) (CP : CalX P w K mg base 5 "check_program" (spCheckProgX K C)) : CalX P w K mg base 6 "check_still" (spCheckPg2 K C 200 false) := by
  refine mkCalX F sc_check_still (fun vs H Q E h => ?_) (fun f cdv A outer s H vs Q E hr h => ?_)
  · obtain ⟨v, ho, p, rfl, _⟩ := h
    rfl
  · obtain ⟨v, ho, p, rfl, hk, q1, q2⟩ := h
    exact ⟨_, pss_one (ps_expr (pcX CP passE hr (pa_cons (pv 0) (pa_cons (pv 1) (pa_cons (pk c200) (pa_cons pe_bl pa_nil)))))), _, rfl, _, rfl, v, ho, p, 200, false, rfl, hk, q1, q2⟩
end
end RH
set_option Elab.async false
set_option linter.all false
set_option maxRecDepth 100000
set_option maxHeartbeats 2000000
namespace RH
open PySem PySem.Spec PyProof.Rows L2
/-! ### instructions, and what a machine does -/
inductive Ins where
  | say | ask | stop
  | put (c : Int) | zero (t : Nat) | go (t : Nat)
  | get (k : Nat) | set (k : Nat) | plus (k : Nat) | minus (k : Nat) | touch (k : Nat)
deriving DecidableEq
def Ins.word : Ins → Str
  | .say => "say" | .ask => "ask" | .stop => "stop" | .put _ => "put" | .zero _ => "zero" | .go _ => "go"
  | .get _ => "get" | .set _ => "set" | .plus _ => "plus" | .minus _ => "minus" | .touch _ => "touch"
def Ins.num : Ins → List Int
  | .say => [] | .ask => [] | .stop => [] | .put c => [c] | .zero t => [(t : Int)] | .go t => [(t : Int)]
  | .get k => [(k : Int)] | .set k => [(k : Int)] | .plus k => [(k : Int)] | .minus k => [(k : Int)] | .touch k => [(k : Int)]
/-- the place of an access or a touch -/
def Ins.pl : Ins → Option Nat
  | .get k => some k | .set k => some k | .plus k => some k | .minus k => some k | .touch k => some k
  | _ => none
def RIns (K : PySem.W.Frag) (H : Hp) (v : V) (i : Ins) : Prop := ∃ a, v = .ref a ∧ SqT K H a (.str i.word :: i.num.map V.int)
def RPg (K : PySem.W.Frag) (H : Hp) (v : V) (pg : List Ins) : Prop := ∃ a xs, v = .ref a ∧ SqT K H a xs ∧ Each (RIns K H) xs pg
/-- an instruction of so many places and instructions -/
def okIns (n cnt : Nat) : Ins → Prop
  | .zero t => t ≤ cnt
  | .go t => t ≤ cnt
  | .get k => k < n | .set k => k < n | .plus k => k < n | .minus k => k < n | .touch k => k < n
  | _ => True
structure MS where
  asked : Nat
  hold : List Int
  hand : Int
  pos : Nat
  said : List Int
/-- the books are moved -/
def bm (m held : List Int) : List Int := (List.range m.length).foldl (fun c i => c.set (m.getD i 0).toNat (held.getD i 0)) held
def MS.moved (h : List (List Int)) (k : Nat) (s : MS) : MS := { s with hold := bm (h.getD k []) s.hold }
/-- an access or a touch -/
def useM (h : List (List Int)) (i : Ins) (s : MS) : MS := match i with
  | .get k => MS.moved h k { s with hand := s.hold.getD k 0 }
  | .plus k => MS.moved h k { s with hand := s.hand + s.hold.getD k 0 }
  | .minus k => MS.moved h k { s with hand := s.hand - s.hold.getD k 0 }
  | .set k => MS.moved h k { s with hold := s.hold.set k s.hand }
  | .touch k => MS.moved h k s
  | _ => s
/-- one instruction -/
def stepM (h : List (List Int)) (inp : List Int) (i : Ins) (s0 : MS) : MS :=
  let s := { s0 with pos := s0.pos + 1 }
  match i with
  | .go t => { s with pos := t }
  | .zero t => if s.hand = 0 then { s with pos := t } else s
  | .put c => { s with hand := c }
  | .say => { s with said := s.said ++ [s.hand] }
  | .ask => if s.asked = inp.length then { s with hand := 0 } else { s with asked := s.asked + 1, hand := inp.getD s.asked 0 }
  | i => useM h i s
/-- is it at a stop, or at the end? -/
def endM (pg : List Ins) (pos : Nat) : Bool := match pg[pos]? with
  | none => true
  | some i => decide (i = .stop)
/-- so many instructions -/
def runM (h : List (List Int)) (inp : List Int) (pg : List Ins) : Nat → MS → MS
  | 0, s => s
  | m + 1, s => match pg[s.pos]? with
    | none => s
    | some i => if i = .stop then s else runM h inp pg m (stepM h inp i s)
def startM (n : Nat) : MS := ⟨0, List.replicate n 0, 0, 0, []⟩
theorem bm_len (m held : List Int) : (bm m held).length = held.length := by
  unfold bm
  generalize List.range m.length = l
  suffices h : ∀ (l : List Nat) (c : List Int), (l.foldl (fun c i => c.set (m.getD i 0).toNat (held.getD i 0)) c).length = c.length from h l held
  intro l
  induction l with
  | nil => intro c; rfl
  | cons x l ih =>
    intro c
    rw [List.foldl_cons, ih, List.length_set]
theorem use_len (h : List (List Int)) (i : Ins) (s : MS) : (useM h i s).hold.length = s.hold.length := by
  cases i <;> simp [useM, MS.moved, bm_len]
theorem step_len (h : List (List Int)) (inp : List Int) (i : Ins) (s : MS) : (stepM h inp i s).hold.length = s.hold.length := by
  cases i with
  | zero t =>
    unfold stepM
    dsimp only
    split <;> rfl
  | ask =>
    unfold stepM
    dsimp only
    split <;> rfl
  | _ => first | rfl | exact use_len h _ _
theorem use_pos (h : List (List Int)) (i : Ins) (s : MS) : (useM h i s).pos = s.pos ∧ (useM h i s).said = s.said ∧ (useM h i s).asked = s.asked := by
  cases i <;> exact ⟨rfl, rfl, rfl⟩
/-- an instruction's data -/
def Ins.data (i : Ins) : PyData := .tuple (.str i.word :: i.num.map PyData.int)
theorem RIns.dp {K : PySem.W.Frag} {H : Hp} {v : V} {i : Ins} (r : RIns K H v i) : Dp K H v i.data := by
  obtain ⟨a, rfl, hS⟩ := r
  refine .tup hS (.cons (.str _) ?_)
  cases i <;> first | exact .nil | exact .cons (.int _) .nil
theorem word_ok (i : Ins) : PyData.strOk i.word = true := by
  have w : ∀ z ∈ (["say", "ask", "stop", "put", "zero", "go", "get", "set", "plus", "minus", "touch"] : List Str), PyData.strOk z = true := by decide +kernel
  cases i <;> exact w _ (by simp [Ins.word])
theorem Ins.shaped (i : Ins) : SeqAt.shaped i.data = true := by
  have h := word_ok i
  cases i <;> (unfold Ins.data; simp [Ins.num, SeqAt.shaped, PyData.canLay0, PyData.canLayAll0, PyData.depth, PyData.depthAll]; exact h)
theorem Ins.stop_eq (i : Ins) : PyData.eqv i.data (.tuple [.str "stop"]) = decide (i = .stop) := by
  cases i <;> first | decide +kernel | rfl
theorem RIns.on {K : PySem.W.Frag} {H H' : Hp} (e : Tups K H H') {v : V} {i : Ins} (r : RIns K H v i) : RIns K H' v i := by
  obtain ⟨a, rfl, hS⟩ := r
  exact ⟨a, rfl, e _ _ hS⟩
theorem RPg.on {K : PySem.W.Frag} {H H' : Hp} (e : Tups K H H') {v : V} {pg : List Ins} (r : RPg K H v pg) : RPg K H' v pg := by
  obtain ⟨a, xs, rfl, hS, hE⟩ := r
  exact ⟨a, xs, rfl, e _ _ hS, hE.imp fun _ _ z => z.on e⟩
end RH
set_option Elab.async false
set_option linter.all false
set_option maxRecDepth 100000
set_option maxHeartbeats 2000000
namespace RH
open PySem PySem.Spec PyProof.Rows L2
/-! ### the class Machine -/
theorem cl_listM {X : Cx} (K : PySem.W.Frag) (h : X.K = K := by rfl) : CallR X (.type "list") (fun xs H Q => ∃ p ys, xs = [.ref p] ∧ (SqL K H p ys ∨ SqT K H p ys) ∧ ∀ l, H l = none → Q (.ref l) (upd H l (.lst ys))) := by
  subst h
  exact call_list_of
theorem putF_len {f : Str} {v : V} : ∀ {fs : List (Str × V)} {u : V}, fs.lookup f = some u → (putF f v fs).length = fs.length
  | [], u, h => by cases h
  | (g, x) :: r, u, h => by
    rw [List.lookup_cons] at h
    unfold putF
    by_cases e : g = f
    · rw [if_pos e]
      rfl
    · rw [if_neg e, List.length_cons, List.length_cons]
      have : (f == g) = false := by simpa using Ne.symm e
      rw [this] at h
      rw [putF_len h]
def maAttrs : List Str := ["habit", "program", "inputs", "asked", "holding", "hand", "at", "said"]
def maMets : List Str := ["is_done", "step", "next_input", "use", "be_moved"]
/-- what the walk asks of the class -/
structure MaC (K : PySem.W.Frag) (mg : Str → Option Value) (C : Addr) : Prop where
  cl : Cls K C
  no : ∀ f ∈ maAttrs, NoAttr K C f
  g : mg "Machine" = some (.ref C)
theorem MaC.at {K : PySem.W.Frag} {mg : Str → Option Value} {C : Addr} (M : MaC K mg C) (f : Str) (h : f ∈ maAttrs := by decide +kernel) : NoAttr K C f := M.no f h
/-- the machine's parts that never change -/
structure MaK where
  h : List (List Int)
  n : Nat
  pg : List Ins
  inp : List Int
  hv : V
  pv : V
  iv : V
/-- a machine at p, its books at hl, what it has said at sl -/
structure MaP (K : PySem.W.Frag) (C : Addr) (m : MaK) (H : Hp) (p hl sl dx : Addr) (fs : List (Str × V)) (b : Nat) (s : MS) : Prop where
  ob : H p = some (.ins C dx fs)
  l1 : fs.lookup ("habit" : Str) = some m.hv
  l2 : fs.lookup ("program" : Str) = some m.pv
  l3 : fs.lookup ("inputs" : Str) = some m.iv
  l4 : fs.lookup ("asked" : Str) = some (.int s.asked)
  l5 : fs.lookup ("holding" : Str) = some (.ref hl)
  l6 : fs.lookup ("hand" : Str) = some (.int s.hand)
  l7 : fs.lookup ("at" : Str) = some (.int s.pos)
  l8 : fs.lookup ("said" : Str) = some (.ref sl)
  no : ∀ f ∈ maMets, fs.lookup f = none
  few : fs.length < 100
  hd : H hl = some (.lst (s.hold.map V.int))
  sd : H sl = some (.lst (s.said.map V.int))
  ne : hl ≠ sl
  hT : TII K H m.hv m.h
  hb : Hb m.n m.h
  len : s.hold.length = m.n
  hp : RPg K H m.pv m.pg
  ok : ∀ i ∈ m.pg, okIns m.n m.pg.length i
  hi : TI K H m.iv m.inp
  ps : s.pos ≤ m.pg.length
  asl : s.asked ≤ m.inp.length
  sb : s.said.length ≤ b
  bb : b ≤ 200000
def MaS (K : PySem.W.Frag) (C : Addr) (m : MaK) (H : Hp) (p hl sl : Addr) (b : Nat) (s : MS) : Prop := ∃ dx fs, MaP K C m H p hl sl dx fs b s
/-- the rest stays -/
def Fr3 (p t l : Addr) (H H' : Hp) : Prop := ∀ b o, H b = some o → b ≠ p → b ≠ t → b ≠ l → H' b = some o
theorem Fr3.refl (p t l : Addr) (H : Hp) : Fr3 p t l H H := fun _ _ e _ _ _ => e
theorem Fr3.trans {p t l : Addr} {H H1 H2 : Hp} (a : Fr3 p t l H H1) (b : Fr3 p t l H1 H2) : Fr3 p t l H H2 := fun c o e n1 n2 n3 => b c o (a c o e n1 n2 n3) n1 n2 n3
theorem Fr3.same {p t l : Addr} {H H1 : Hp} (a : Same H H1) : Fr3 p t l H H1 := fun c o e _ _ _ => a c o e
theorem Fr3.p {p t l : Addr} {H : Hp} {o : HO} : Fr3 p t l H (upd H p o) := fun b u e n1 _ _ => by rw [upd_ne n1]; exact e
theorem Fr3.t {p t l : Addr} {H : Hp} {o : HO} : Fr3 p t l H (upd H t o) := fun b u e _ n2 _ => by rw [upd_ne n2]; exact e
theorem Fr3.l {p t l : Addr} {H : Hp} {o : HO} : Fr3 p t l H (upd H l o) := fun b u e _ _ n3 => by rw [upd_ne n3]; exact e
section
variable {K : PySem.W.Frag} {C : Addr} {m : MaK} {H H' : Hp} {p hl sl dx : Addr} {fs : List (Str × V)} {b : Nat} {s : MS}
theorem MaP.rd (S : MaP K C m H p hl sl dx fs b s) (f : Fr3 p hl sl H H') {a : Addr} {xs : List V} (e : Rd H a (.tup xs)) : Rd H' a (.tup xs) := by
  rcases e with e | ⟨ob, e⟩
  · exact .inl (f _ _ e (ne_of e S.ob (fun z => nomatch z)) (ne_of e S.hd (fun z => nomatch z)) (ne_of e S.sd (fun z => nomatch z)))
  · exact .inr ⟨ob, f _ _ e (ne_of e S.ob (fun z => nomatch z)) (ne_of e S.hd (fun z => nomatch z)) (ne_of e S.sd (fun z => nomatch z))⟩
theorem MaP.tups (S : MaP K C m H p hl sl dx fs b s) (f : Fr3 p hl sl H H') : Tups K H H' := fun a xs e => by
  rcases e with e | e
  · exact .inl (S.rd f e)
  · exact .inr e
theorem MaP.npl (S : MaP K C m H p hl sl dx fs b s) : p ≠ hl := ne_of S.ob S.hd (fun z => nomatch z)
theorem MaP.nps (S : MaP K C m H p hl sl dx fs b s) : p ≠ sl := ne_of S.ob S.sd (fun z => nomatch z)
/-- all that is told of it in a heap where the three stand so -/
theorem MaP.to (S : MaP K C m H p hl sl dx fs b s) (f : Fr3 p hl sl H H') {dx' : Addr} {fs' : List (Str × V)} {b' : Nat} {s' : MS} (ob : H' p = some (.ins C dx' fs')) (l1 : fs'.lookup ("habit" : Str) = some m.hv) (l2 : fs'.lookup ("program" : Str) = some m.pv) (l3 : fs'.lookup ("inputs" : Str) = some m.iv)
    (l4 : fs'.lookup ("asked" : Str) = some (.int s'.asked)) (l5 : fs'.lookup ("holding" : Str) = some (.ref hl)) (l6 : fs'.lookup ("hand" : Str) = some (.int s'.hand)) (l7 : fs'.lookup ("at" : Str) = some (.int s'.pos)) (l8 : fs'.lookup ("said" : Str) = some (.ref sl)) (no : ∀ f ∈ maMets, fs'.lookup f = none) (few : fs'.length < 100)
    (hd : H' hl = some (.lst (s'.hold.map V.int))) (sd : H' sl = some (.lst (s'.said.map V.int))) (len : s'.hold.length = m.n) (ps : s'.pos ≤ m.pg.length) (asl : s'.asked ≤ m.inp.length) (sb : s'.said.length ≤ b') (bb : b' ≤ 200000) : MaP K C m H' p hl sl dx' fs' b' s' :=
  ⟨ob, l1, l2, l3, l4, l5, l6, l7, l8, no, few, hd, sd, S.ne, S.hT.on (S.tups f), S.hb, len, S.hp.on (S.tups f), S.ok, S.hi.on (S.tups f), ps, asl, sb, bb⟩
theorem MaP.same (S : MaP K C m H p hl sl dx fs b s) (e : Same H H') : MaP K C m H' p hl sl dx fs b s :=
  S.to (Fr3.same e) (e _ _ S.ob) S.l1 S.l2 S.l3 S.l4 S.l5 S.l6 S.l7 S.l8 S.no S.few (e _ _ S.hd) (e _ _ S.sd) S.len S.ps S.asl S.sb S.bb
theorem MaP.more (S : MaP K C m H p hl sl dx fs b s) {b' : Nat} (h : b ≤ b') (hb : b' ≤ 200000) : MaP K C m H p hl sl dx fs b' s := { S with sb := Nat.le_trans S.sb h, bb := hb }
theorem MaP.put_hand (S : MaP K C m H p hl sl dx fs b s) (z : Int) : MaP K C m (upd H p (.ins C dx (putF "hand" (.int z) fs))) p hl sl dx (putF "hand" (.int z) fs) b { s with hand := z } := by
  refine S.to Fr3.p upd_same ?_ ?_ ?_ ?_ ?_ ?_ ?_ ?_ (fun f hf => ?_) ?_ ?_ ?_ S.len S.ps S.asl S.sb S.bb
  · rw [lookup_putF, if_neg (by decide +kernel)]
    exact S.l1
  · rw [lookup_putF, if_neg (by decide +kernel)]
    exact S.l2
  · rw [lookup_putF, if_neg (by decide +kernel)]
    exact S.l3
  · rw [lookup_putF, if_neg (by decide +kernel)]
    exact S.l4
  · rw [lookup_putF, if_neg (by decide +kernel)]
    exact S.l5
  · rw [lookup_putF, if_pos rfl]
  · rw [lookup_putF, if_neg (by decide +kernel)]
    exact S.l7
  · rw [lookup_putF, if_neg (by decide +kernel)]
    exact S.l8
  · rw [lookup_putF, if_neg (fun e => ?_)]
    · exact S.no f hf
    · subst e
      exact absurd hf (by decide +kernel)
  · rw [putF_len S.l6]
    exact S.few
  · rw [upd_ne (Ne.symm S.npl)]
    exact S.hd
  · rw [upd_ne (Ne.symm S.nps)]
    exact S.sd
theorem MaP.put_at (S : MaP K C m H p hl sl dx fs b s) (z : Nat) (hz : z ≤ m.pg.length) : MaP K C m (upd H p (.ins C dx (putF "at" (.int (z : Int)) fs))) p hl sl dx (putF "at" (.int (z : Int)) fs) b { s with pos := z } := by
  refine S.to Fr3.p upd_same ?_ ?_ ?_ ?_ ?_ ?_ ?_ ?_ (fun f hf => ?_) ?_ ?_ ?_ S.len hz S.asl S.sb S.bb
  · rw [lookup_putF, if_neg (by decide +kernel)]
    exact S.l1
  · rw [lookup_putF, if_neg (by decide +kernel)]
    exact S.l2
  · rw [lookup_putF, if_neg (by decide +kernel)]
    exact S.l3
  · rw [lookup_putF, if_neg (by decide +kernel)]
    exact S.l4
  · rw [lookup_putF, if_neg (by decide +kernel)]
    exact S.l5
  · rw [lookup_putF, if_neg (by decide +kernel)]
    exact S.l6
  · rw [lookup_putF, if_pos rfl]
  · rw [lookup_putF, if_neg (by decide +kernel)]
    exact S.l8
  · rw [lookup_putF, if_neg (fun e => ?_)]
    · exact S.no f hf
    · subst e
      exact absurd hf (by decide +kernel)
  · rw [putF_len S.l7]
    exact S.few
  · rw [upd_ne (Ne.symm S.npl)]
    exact S.hd
  · rw [upd_ne (Ne.symm S.nps)]
    exact S.sd
theorem MaP.put_asked (S : MaP K C m H p hl sl dx fs b s) (z : Nat) (hz : z ≤ m.inp.length) : MaP K C m (upd H p (.ins C dx (putF "asked" (.int (z : Int)) fs))) p hl sl dx (putF "asked" (.int (z : Int)) fs) b { s with asked := z } := by
  refine S.to Fr3.p upd_same ?_ ?_ ?_ ?_ ?_ ?_ ?_ ?_ (fun f hf => ?_) ?_ ?_ ?_ S.len S.ps hz S.sb S.bb
  · rw [lookup_putF, if_neg (by decide +kernel)]
    exact S.l1
  · rw [lookup_putF, if_neg (by decide +kernel)]
    exact S.l2
  · rw [lookup_putF, if_neg (by decide +kernel)]
    exact S.l3
  · rw [lookup_putF, if_pos rfl]
  · rw [lookup_putF, if_neg (by decide +kernel)]
    exact S.l5
  · rw [lookup_putF, if_neg (by decide +kernel)]
    exact S.l6
  · rw [lookup_putF, if_neg (by decide +kernel)]
    exact S.l7
  · rw [lookup_putF, if_neg (by decide +kernel)]
    exact S.l8
  · rw [lookup_putF, if_neg (fun e => ?_)]
    · exact S.no f hf
    · subst e
      exact absurd hf (by decide +kernel)
  · rw [putF_len S.l4]
    exact S.few
  · rw [upd_ne (Ne.symm S.npl)]
    exact S.hd
  · rw [upd_ne (Ne.symm S.nps)]
    exact S.sd
theorem MaP.put_hold (S : MaP K C m H p hl sl dx fs b s) (f : But hl H H') {ns : List Int} (e : H' hl = some (.lst (ns.map V.int))) (hn : ns.length = m.n) : MaP K C m H' p hl sl dx fs b { s with hold := ns } :=
  S.to (fun c o ec n1 n2 n3 => f c o ec n2) (f _ _ S.ob S.npl) S.l1 S.l2 S.l3 S.l4 S.l5 S.l6 S.l7 S.l8 S.no S.few e (f _ _ S.sd (Ne.symm S.ne)) hn S.ps S.asl S.sb S.bb
theorem MaP.put_said (S : MaP K C m H p hl sl dx fs b s) {z : Int} (hb : b + 1 ≤ 200000) : MaP K C m (upd H sl (.lst (s.said.map V.int ++ [.int z]))) p hl sl dx fs (b + 1) { s with said := s.said ++ [z] } := by
  refine S.to Fr3.l (by rw [upd_ne S.nps]; exact S.ob) S.l1 S.l2 S.l3 S.l4 S.l5 S.l6 S.l7 S.l8 S.no S.few (by rw [upd_ne S.ne]; exact S.hd) ?_ S.len S.ps S.asl ?_ hb
  · rw [upd_same, List.map_append]
    rfl
  · have := S.sb
    show (s.said ++ [z]).length ≤ b + 1
    rw [List.length_append]
    show s.said.length + 1 ≤ b + 1
    omega
end
/-- a method of the class that stands -/
structure DfM (K : PySem.W.Frag) (C : Addr) (m q : Str) (st : Stmt) (ps : List Str) : Prop where
  ex : ∃ (f : Addr) (fd : FuncData), Fun K m q st f fd ∧ Meth K C m f ∧ Binds K fd ps []
section
variable {P : Program} {w : World} {K : PySem.W.Frag} {mg : Str → Option Value} {base : Heap} {C : Addr}
theorem mkMetX {m q : Str} {st : Stmt} {N ps : List Str} {k : Nat} {sp : Sp} (F : DfM K C m q st ps) (S : FnScope N ps (defScope st)) (len : ∀ vs H Q E, sp vs H Q E → vs.length = ps.length)
    (hbody : ∀ (f : Addr) (cdv : Value) (A : Around) (outer : List Env) (s : Shared) (H : Hp) (vs : List V) (Q : VK) (E : XK), Room k (A.deeper (envOfC q (defScope st) s.heap.objs.size f cdv)) → sp vs H Q E →
      ∃ t, PSs (cxOf (L2.CX P w) P w K mg base N q (defScope st) f cdv A outer s H E) (defBody st) t ∧ t { nx := fun _ H' => Q .non H', rt := Q } (start N vs) H) : MetX P w K mg base (k + 1) C m sp := by
  obtain ⟨f, fd, F, g, b⟩ := F.ex
  exact ⟨f, fd, ps, F.okX S len (hbody f), g, b⟩
end
section
variable {X : Cx} {C : Addr} {m : Str} {sp : Sp} {E : XK} {k j : Nat} {pos apos : Pos} {o : Expr} {ta : TE}
/-- a method that takes nothing -/
theorem pm0 {pl : Sem Bool} (M : MetX X.prog X.w X.K X.mg X.base k C m sp) (c : Cls X.K C) (hx : Passes (L2.CX X.prog X.w) X E) (hr : Room j X.A) (he : PE X o ta) (hk : k ≤ j := by decide)
    (ht : eval (.Call (.Attribute o m apos) [] [] pos) X.env = (do
      let ov ← eval o X.env
      standAt apos.atName
      let (f, first) ← holding [ov] (getMethod ov m pl)
      callWith pos f first (backTo pos (starEach [] X.env)) (backToKw pos (keywordEach [] X.env))) := by rfl) : PE X (.Call (.Attribute o m apos) [] [] pos) (tMeth C m sp [] E ta tNil) := by
  obtain ⟨f, fd, ps, F, hm, b⟩ := M.ex
  exact pe_meth0 he c hm F (hr.mono hk) b .nil hx ht
end
end RH
set_option Elab.async false
set_option linter.all false
set_option maxRecDepth 100000
set_option maxHeartbeats 2000000
namespace RH
open PySem PySem.Spec PyProof.Rows L2
/-! ### its methods -/
/-- a statement's way on, as the reading tells it -/
theorem ps_cutM {X : Cx} {st : Stmt} {t : TS} (h : PS X st t) : PS X st (fun D σ H => ∃ G : L2.St → Hp → Prop, (∀ σ' H', G σ' H' → D.nx σ' H') ∧ t { D with nx := G } σ H) := by
  refine ⟨fun pins s σ H D I hw => ?_⟩
  obtain ⟨G, hG, hw⟩ := hw
  refine thn (h.run pins s σ H { D with nx := G } I hw) fun fl s1 q => ?_
  cases fl with
  | next =>
    obtain ⟨σ', H', I', q⟩ := q
    exact ⟨σ', H', I', hG _ _ q⟩
  | ret v => exact q
  | brk => exact q
  | cont => exact q
theorem perm_len5 {n : Nat} {L : List Int} (h : L.Perm (rg n)) : L.length = n := by
  have := h.length_eq
  rw [this]
  unfold rg
  rw [List.length_map, List.length_range]
/-- ahead of the books' move -/
def midM (i : Ins) (s : MS) : MS := match i with
  | .get k => { s with hand := s.hold.getD k 0 }
  | .plus k => { s with hand := s.hand + s.hold.getD k 0 }
  | .minus k => { s with hand := s.hand - s.hold.getD k 0 }
  | .set k => { s with hold := s.hold.set k s.hand }
  | _ => s
theorem use_mid {h : List (List Int)} {i : Ins} {k : Nat} {s : MS} (e : i.pl = some k) : useM h i s = MS.moved h k (midM i s) := by
  cases i <;> first | (cases e; rfl) | cases e
def bmI (m held : List Int) (j : Nat) : List Int := (List.range j).foldl (fun c i => c.set (m.getD i 0).toNat (held.getD i 0)) held
theorem bmI_len (m held : List Int) (j : Nat) : (bmI m held j).length = held.length := by
  unfold bmI
  suffices h : ∀ (l : List Nat) (c : List Int), (l.foldl (fun c i => c.set (m.getD i 0).toNat (held.getD i 0)) c).length = c.length from h _ held
  intro l
  induction l with
  | nil => intro c; rfl
  | cons x l ih =>
    intro c
    rw [List.foldl_cons, ih, List.length_set]
theorem bmI_succ (m held : List Int) (j : Nat) : bmI m held (j + 1) = (bmI m held j).set (m.getD j 0).toNat (held.getD j 0) := by
  unfold bmI
  rw [List.range_succ, List.foldl_append]
  rfl
section
variable {P : Program} {w : World} {K : PySem.W.Frag} {mg : Str → Option Value} {base : Heap} {C : Addr}
def spBeM (K : PySem.W.Frag) (C : Addr) : Sp := fun vs H Q _ => ∃ (m : MaK) (p hl sl dx : Addr) (fs : List (Str × V)) (b : Nat) (s : MS) (mv : V) (mm : List Int), vs = [.ref p, mv] ∧ MaP K C m H p hl sl dx fs b s ∧ TI K H mv mm ∧ mm.length = m.n ∧ (∀ i ∈ mm, InR m.n i) ∧ ∀ H', But hl H H' → H' hl = some (.lst ((bm mm s.hold).map V.int)) → Q .non H'
theorem ok_be_moved (F : DfM K C "be_moved" "Machine.be_moved" st_m_be_moved ["self", "moves"]) (B : Bu mg) (T : MaC K mg C) : MetX P w K mg base 1 C "be_moved" (spBeM K C) := by
  refine mkMetX F sc_m_be_moved (fun vs H Q E h => ?_) (fun f cdv A outer s H vs Q E hr h => ?_)
  · obtain ⟨m, p, hl, sl, dx, fs, b, s, mv, mm, rfl, _⟩ := h
    rfl
  · obtain ⟨m, p, hl, sl, dx, fs, b, s, mv, mm, rfl, S, ⟨am, rfl, hM⟩, hmm, hin, q⟩ := h
    refine ⟨_, pss_cons (ps_set (i := 2) sc_m_be_moved.nd rfl (.inl rfl) (pe_callTy (cl_listM K) (by rfl) B.list (by decide +kernel) (pa_cons (pe_fld (pv 0) rfl) pa_nil)))
      (pss_one (ps_for (passes_of rfl) rfl (pi_enumT (by rfl) B.enumerate (pa_cons (pv 1) pa_nil)) (pg_tup rfl (pgs_cons (pg_name (i := 3) sc_m_be_moved.nd rfl (.inl rfl)) (pgs_cons (pg_name (i := 4) sc_m_be_moved.nd rfl (.inl rfl)) pgs_nil)))
        (pss_one (ps_asg (pe_ix ix_list (pv 2) (pv 3) (fun _ _ => rfl)) (pg_sub (pe_fld (pv 0) rfl) (pv 4) set_list))))), ?_⟩
    refine ⟨_, rfl, p, C, dx, _, _, rfl, S.ob, T.cl, T.at "holding", S.l5, hl, _, rfl, .inl (lstAt S.hd), fun l hl' => ?_⟩
    have s1 := same_new (o := .lst (s.hold.map V.int)) hl'
    have S1 := S.same s1
    have nl : l ≠ hl := (ne_of_none S.hd hl').symm
    have nlp : l ≠ p := (ne_of_none S.ob hl').symm
    refine ⟨_, rfl, am, _, rfl, onT s1 hM, ?_⟩
    refine for_enumT (xs := mm.map V.int) (fun i σ H' => But hl (upd H l (.lst (s.hold.map V.int))) H' ∧ H' hl = some (.lst ((bmI mm s.hold i).map V.int)) ∧ ∃ y3 y4, σ = [some (.ref p), some (.ref am), some (.ref l), y3, y4]) ⟨fun _ _ e _ => e, S1.hd, none, none, rfl⟩ (fun i σ H' h' => ?_) (fun i x T' σ H' hx h' hT => ?_) (fun σ H' h' => ?_)
    · exact S1.tups (fun c o ec n1 n2 n3 => h'.1 c o ec n2) _ _ (onT s1 hM)
    · obtain ⟨bt, eh, y3, y4, rfl⟩ := h'
      obtain ⟨g, hg, rfl⟩ : ∃ g, mm[i]? = some g ∧ V.int g = x := by
        rw [List.getElem?_map] at hx
        cases e : mm[i]? with
        | none => rw [e] at hx; cases hx
        | some g => rw [e] at hx; exact ⟨g, rfl, Option.some.inj hx⟩
      have hi : i < mm.length := (List.getElem?_eq_some_iff.mp hg).1
      have hgr := hin g (List.mem_of_getElem? hg)
      have hlen := S.len
      have sT := same_new (o := .tup [.int (i : Nat), .int g]) hT
      obtain ⟨z, hz⟩ : ∃ z, s.hold[i]? = some z := ⟨_, List.getElem?_eq_getElem (by omega)⟩
      have el : H' l = some (.lst (s.hold.map V.int)) := bt _ _ upd_same nl
      have ep : H' p = some (.ins C dx fs) := bt _ _ (s1 _ _ S.ob) S.npl
      refine ⟨T', _, rfl, tupAt upd_same, rfl, _, _, rfl, _, _, rfl, rfl, ?_⟩
      refine ⟨_, rfl, _, rfl, l, s.hold.map V.int, (i : Int), .int z, rfl, rfl, lstAt (sT _ _ el), atI_nat (by rw [List.getElem?_map, hz]; rfl), ?_⟩
      refine ⟨_, rfl, p, C, dx, _, _, rfl, sT _ _ ep, T.cl, T.at "holding", S.l5, _, rfl, hl, _, g, g.toNat, rfl, rfl, sT _ _ eh, ?_, ?_, ?_, _, _, rfl⟩
      · have h0 := hgr.1
        have h1 := hgr.2
        have := ixN_int (n := ((bmI mm s.hold i).map V.int).length) (k := g) h0 (by rw [List.length_map, bmI_len]; omega)
        exact this
      · intro c o ec nc
        rw [upd_ne nc]
        exact sT _ _ (bt c o ec nc)
      · have ez : s.hold.getD i 0 = z := by rw [List.getD_eq_getElem?_getD, hz]; rfl
        have eg : mm.getD i 0 = g := by rw [List.getD_eq_getElem?_getD, hg]; rfl
        rw [upd_same, bmI_succ, eg, ez, List.map_set]
    · obtain ⟨bt, eh, _⟩ := h'
      rw [List.length_map] at eh
      exact q H' (fun c o ec nc => bt c o (s1 _ _ ec) nc) eh
/-- an access or a touch -/
def spUseM (K : PySem.W.Frag) (C : Addr) : Sp := fun vs H Q _ => ∃ (m : MaK) (p hl sl dx : Addr) (fs : List (Str × V)) (b : Nat) (s : MS) (i : Ins) (k : Nat), vs = [.ref p, .str i.word, .int (k : Int)] ∧ MaP K C m H p hl sl dx fs b s ∧ i.pl = some k ∧ k < m.n ∧ ∀ H', Fr3 p hl sl H H' → MaS K C m H' p hl sl b (useM m.h i s) → Q .non H'
theorem no_met {fs : List (Str × V)} (h : ∀ f ∈ maMets, fs.lookup f = none) (f : Str) (hf : f ∈ maMets := by decide +kernel) : fs.lookup f = none := h f hf
theorem ok_use (F : DfM K C "use" "Machine.use" st_m_use ["self", "word", "place"]) (T : MaC K mg C) (MB : MetX P w K mg base 1 C "be_moved" (spBeM K C)) : MetX P w K mg base 2 C "use" (spUseM K C) := by
  refine mkMetX F sc_m_use (fun vs H Q E h => ?_) (fun f cdv A outer s H vs Q E hr h => ?_)
  · obtain ⟨m, p, hl, sl, dx, fs, b, s, i, k, rfl, _⟩ := h
    rfl
  · obtain ⟨m, p, hl, sl, dx, fs, b, s, i, k, rfl, S, hpl, hk, q⟩ := h
    refine ⟨_, pss_cons (ps_cutM (ps_if (pt_cmpR op_eq (pv 1) pe_str (nomark _)) (pss_one (ps_fld (pv 0) (pe_ix ix_list (pe_fld (pv 0) rfl) (pv 2) (fun _ _ => rfl)) rfl))
        (pss_one (ps_if (pt_cmpR op_eq (pv 1) pe_str (nomark _)) (pss_one (ps_fldaug (pv 0) (pe_ix ix_list (pe_fld (pv 0) rfl) (pv 2) (fun _ _ => rfl)) in_add))
          (pss_one (ps_if (pt_cmpR op_eq (pv 1) pe_str (nomark _)) (pss_one (ps_fldaug (pv 0) (pe_ix ix_list (pe_fld (pv 0) rfl) (pv 2) (fun _ _ => rfl)) in_sub))
            (pss_one (ps_if (pt_cmpR op_eq (pv 1) pe_str (nomark _)) (pss_one (ps_asg (pe_fld (pv 0) rfl) (pg_sub (pe_fld (pv 0) rfl) (pv 2) set_list))) pss_nil))))))))
      (pss_one (ps_expr (pmX MB T.cl passE hr (pv 0) (pa_cons (pe_ix (ixT K) (pe_fld (pv 0) rfl) (pv 2) (fun _ _ => rfl)) pa_nil)))), ?_⟩
    have hkl : k < s.hold.length := by rw [S.len]; exact hk
    obtain ⟨z, hz⟩ : ∃ z, s.hold[k]? = some z := ⟨_, List.getElem?_eq_getElem hkl⟩
    have ez : s.hold.getD k 0 = z := by rw [List.getD_eq_getElem?_getD, hz]; rfl
    have rd : ∀ (Q : VK), Q (.int z) H → ∃ (o : Addr) (xs : List V) (kk : Int) (x : V), V.ref hl = .ref o ∧ V.int (k : Int) = .int kk ∧ SqL K H o xs ∧ atI xs kk = some x ∧ Q x H := fun Q q => ⟨hl, _, _, _, rfl, rfl, lstAt S.hd, atI_nat (by rw [List.getElem?_map, hz]; rfl), q⟩
    refine ⟨fun σ' H' => σ' = [some (.ref p), some (.str i.word), some (.int (k : Int))] ∧ Fr3 p hl sl H H' ∧ MaS K C m H' p hl sl b (midM i s), fun σ' H' g => ?_, ?_⟩
    · obtain ⟨rfl, f1, dx1, fs1, S1⟩ := g
      obtain ⟨am, xs, eh, hS, hE⟩ := S1.hT
      obtain ⟨ns, hns⟩ : ∃ ns, m.h[k]? = some ns := ⟨_, List.getElem?_eq_getElem (by rw [S.hb.len]; exact hk)⟩
      obtain ⟨x, hx, hTx⟩ := hE.of hns
      have hpm := S.hb.perm ns (List.mem_of_getElem? hns)
      refine ⟨_, rfl, p, dx1, fs1, rfl, S1.ob, no_met S1.no "be_moved", _, rfl, p, C, dx1, _, _, rfl, S1.ob, T.cl, T.at "habit", S1.l1, _, rfl, am, xs, (k : Int), x, eh, rfl, hS, atI_nat hx, m, p, hl, sl, dx1, fs1, b, midM i s, x, ns, rfl, S1, hTx, perm_len5 hpm, fun j hj => rg_mem.mp (hpm.mem_iff.mp hj), fun H2 bt e2 => ?_⟩
      refine q H2 (f1.trans fun c o ec n1 n2 n3 => bt c o ec n2) ⟨dx1, fs1, ?_⟩
      rw [use_mid hpl]
      have en : m.h.getD k [] = ns := by rw [List.getD_eq_getElem?_getD, hns]; rfl
      unfold MS.moved
      rw [en]
      exact S1.put_hold bt e2 (by rw [bm_len]; exact S1.len)
    · cases i with
      | get k' =>
        cases hpl
        refine ⟨_, rfl, rfl, _, rfl, ifT (by show decide (V.str "get" = V.str "get") = true; decide +kernel) ⟨_, rfl, p, C, dx, _, _, rfl, S.ob, T.cl, T.at "holding", S.l5, _, rfl, hl, _, _, _, rfl, rfl, lstAt S.hd, atI_nat (by rw [List.getElem?_map, hz]; rfl), _, rfl, p, C, dx, _, rfl, S.ob, T.cl, T.at "hand", by have := S.few; omega, rfl, Fr3.p, dx, putF "hand" (.int z) fs, ?_⟩⟩
        show MaP K C m _ p hl sl dx _ b { s with hand := s.hold.getD k 0 }
        rw [ez]
        exact S.put_hand _
      | plus k' =>
        cases hpl
        refine ⟨_, rfl, rfl, _, rfl, ifF (by show decide (V.str "plus" = V.str "get") = false; decide +kernel) ⟨_, rfl, rfl, _, rfl, ifT (by show decide (V.str "plus" = V.str "plus") = true; decide +kernel) ⟨_, rfl, p, C, dx, _, _, rfl, S.ob, T.cl, T.at "hand", S.l6, _, rfl, p, C, dx, _, _, rfl, S.ob, T.cl, T.at "holding", S.l5, _, rfl, hl, _, _, _, rfl, rfl, lstAt S.hd, atI_nat (by rw [List.getElem?_map, hz]; rfl), s.hand, z, rfl, rfl, dx, fs, S.ob, by have := S.few; omega, rfl, Fr3.p, dx, putF "hand" (.int (s.hand + z)) fs, ?_⟩⟩⟩
        show MaP K C m _ p hl sl dx _ b { s with hand := s.hand + s.hold.getD k 0 }
        rw [ez]
        exact S.put_hand _
      | minus k' =>
        cases hpl
        refine ⟨_, rfl, rfl, _, rfl, ifF (by show decide (V.str "minus" = V.str "get") = false; decide +kernel) ⟨_, rfl, rfl, _, rfl, ifF (by show decide (V.str "minus" = V.str "plus") = false; decide +kernel) ⟨_, rfl, rfl, _, rfl, ifT (by show decide (V.str "minus" = V.str "minus") = true; decide +kernel) ⟨_, rfl, p, C, dx, _, _, rfl, S.ob, T.cl, T.at "hand", S.l6, _, rfl, p, C, dx, _, _, rfl, S.ob, T.cl, T.at "holding", S.l5, _, rfl, hl, _, _, _, rfl, rfl, lstAt S.hd, atI_nat (by rw [List.getElem?_map, hz]; rfl), s.hand, z, rfl, rfl, dx, fs, S.ob, by have := S.few; omega, rfl, Fr3.p, dx, putF "hand" (.int (s.hand - z)) fs, ?_⟩⟩⟩⟩
        show MaP K C m _ p hl sl dx _ b { s with hand := s.hand - s.hold.getD k 0 }
        rw [ez]
        exact S.put_hand _
      | set k' =>
        cases hpl
        refine ⟨_, rfl, rfl, _, rfl, ifF (by show decide (V.str "set" = V.str "get") = false; decide +kernel) ⟨_, rfl, rfl, _, rfl, ifF (by show decide (V.str "set" = V.str "plus") = false; decide +kernel) ⟨_, rfl, rfl, _, rfl, ifF (by show decide (V.str "set" = V.str "minus") = false; decide +kernel) ⟨_, rfl, rfl, _, rfl, ifT (by show decide (V.str "set" = V.str "set") = true; decide +kernel) ⟨_, rfl, p, C, dx, _, _, rfl, S.ob, T.cl, T.at "hand", S.l6, _, rfl, p, C, dx, _, _, rfl, S.ob, T.cl, T.at "holding", S.l5, _, rfl, hl, _, (k : Int), k, rfl, rfl, S.hd, ?_, rfl, Fr3.t, dx, fs, ?_⟩⟩⟩⟩⟩
        · have := ixN_int (n := (s.hold.map V.int).length) (k := (k : Int)) (by omega) (by rw [List.length_map]; omega)
          exact this
        · exact S.put_hold (fun c o ec nc => by rw [upd_ne nc]; exact ec) (by rw [upd_same, List.map_set]) (by rw [List.length_set]; exact S.len)
      | touch k' =>
        cases hpl
        exact ⟨_, rfl, rfl, _, rfl, ifF (by show decide (V.str "touch" = V.str "get") = false; decide +kernel) ⟨_, rfl, rfl, _, rfl, ifF (by show decide (V.str "touch" = V.str "plus") = false; decide +kernel) ⟨_, rfl, rfl, _, rfl, ifF (by show decide (V.str "touch" = V.str "minus") = false; decide +kernel) ⟨_, rfl, rfl, _, rfl, ifF (by show decide (V.str "touch" = V.str "set") = false; decide +kernel) ⟨rfl, Fr3.refl _ _ _ _, dx, fs, S⟩⟩⟩⟩⟩
      | _ => cases hpl
end
end RH
set_option Elab.async false
set_option linter.all false
set_option maxRecDepth 100000
set_option maxHeartbeats 2000000
namespace RH
open PySem PySem.Spec PyProof.Rows L2
/-! ### a machine's step -/
theorem endM_lt {pg : List Ins} {pos : Nat} {i : Ins} (h : pg[pos]? = some i) : endM pg pos = decide (i = .stop) := by
  unfold endM
  rw [h]
theorem RPg.len {K : PySem.W.Frag} {H : Hp} {a : Addr} {xs : List V} {pg : List Ins} (hE : Each (RIns K H) xs pg) : xs.length = pg.length := hE.len
section
variable {P : Program} {w : World} {K : PySem.W.Frag} {mg : Str → Option Value} {base : Heap} {C : Addr}
def spEnded (K : PySem.W.Frag) : Sp := fun vs H Q _ => ∃ (v : V) (pg : List Ins) (pos : Nat), vs = [v, .int (pos : Int)] ∧ RPg K H v pg ∧ pos ≤ pg.length ∧ ∀ H', Same H H' → Q (.bl (endM pg pos)) H'
theorem ok_has_ended (F : Df K mg "has_ended" st_has_ended ["program", "at"]) (B : Bu mg) : Cal P w K mg base 1 "has_ended" (spEnded K) := by
  refine mkCal F sc_has_ended (fun vs H Q E h => ?_) (fun f cdv A outer s H vs Q E hr h => ?_)
  · obtain ⟨v, pg, pos, rfl, _⟩ := h
    rfl
  · obtain ⟨v, pg, pos, rfl, ⟨a, xs, rfl, hS, hE⟩, hps, q⟩ := h
    refine ⟨_, pss_one (ps_ret (pe_or (pe_cmpR op_eq (pv 1) (pe_callB (cl_len K) (by rfl) B.len PySem.boot_len (pa_cons (pv 0) pa_nil)) (nomark _)) (pe_one (pe_cmpR (op_eqD hr.units) (pe_ix (ixT K) (pv 0) (pv 1) (fun _ _ => rfl)) (pe_tup (pa_cons pe_str pa_nil)) (nomark _))))), ?_⟩
    have hl := hE.len
    refine ⟨_, rfl, _, rfl, a, xs, rfl, .inr hS, rfl, _, rfl, ?_⟩
    rw [hl, dec_int]
    by_cases e : pos = pg.length
    · have : ((pos : Int) == (pg.length : Int)) = true := by rw [e]; exact beq_self_eq_true _
      rw [this]
      refine ifT rfl ?_
      have q := q H (Same.refl H)
      unfold endM at q
      rw [List.getElem?_eq_none (by omega)] at q
      exact q
    · have : ((pos : Int) == (pg.length : Int)) = false := by
        rw [beq_eq_false_iff_ne]
        omega
      rw [this]
      obtain ⟨i, hi⟩ : ∃ i, pg[pos]? = some i := ⟨_, List.getElem?_eq_getElem (by omega)⟩
      obtain ⟨x, hx, r⟩ := hE.of hi
      refine ifF rfl ⟨_, rfl, _, rfl, a, xs, (pos : Int), x, rfl, rfl, hS, atI_nat hx, by show 1 ≤ sizeLine; decide, fun t ht => ?_⟩
      have s1 := same_new (o := .tup [.str "stop"]) ht
      refine ⟨i.data, .tuple [.str "stop"], (r.on (Same.tups s1)).dp, .tup (tupAt upd_same) (.cons (.str _) .nil), i.shaped, by decide +kernel, ?_⟩
      rw [i.stop_eq, ← endM_lt hi]
      exact q _ s1
def spDone (K : PySem.W.Frag) (C : Addr) : Sp := fun vs H Q _ => ∃ (m : MaK) (p hl sl dx : Addr) (fs : List (Str × V)) (b : Nat) (s : MS), vs = [.ref p] ∧ MaP K C m H p hl sl dx fs b s ∧ ∀ H', Same H H' → Q (.bl (endM m.pg s.pos)) H'
theorem ok_is_done (F : DfM K C "is_done" "Machine.is_done" st_m_is_done ["self"]) (T : MaC K mg C) (CE : Cal P w K mg base 1 "has_ended" (spEnded K)) : MetX P w K mg base 2 C "is_done" (spDone K C) := by
  refine mkMetX F sc_m_is_done (fun vs H Q E h => ?_) (fun f cdv A outer s H vs Q E hr h => ?_)
  · obtain ⟨m, p, hl, sl, dx, fs, b, s, rfl, _⟩ := h
    rfl
  · obtain ⟨m, p, hl, sl, dx, fs, b, s, rfl, S, q⟩ := h
    refine ⟨_, pss_one (ps_ret (pc CE hr (pa_cons (pe_fld (pv 0) rfl) (pa_cons (pe_fld (pv 0) rfl) pa_nil)))), ?_⟩
    exact ⟨_, rfl, p, C, dx, _, _, rfl, S.ob, T.cl, T.at "program", S.l2, _, rfl, p, C, dx, _, _, rfl, S.ob, T.cl, T.at "at", S.l7, m.pv, m.pg, s.pos, rfl, S.hp, S.ps, q⟩
/-- the next input -/
def askM (inp : List Int) (s : MS) : MS := if s.asked = inp.length then { s with hand := 0 } else { s with asked := s.asked + 1, hand := inp.getD s.asked 0 }
def spNext (K : PySem.W.Frag) (C : Addr) : Sp := fun vs H Q _ => ∃ (m : MaK) (p hl sl dx : Addr) (fs : List (Str × V)) (b : Nat) (s : MS), vs = [.ref p] ∧ MaP K C m H p hl sl dx fs b s ∧ ∀ H' dx' fs', Fr3 p hl sl H H' → MaP K C m H' p hl sl dx' fs' b { s with asked := (askM m.inp s).asked } → Q (.int (askM m.inp s).hand) H'
theorem ok_next_input (F : DfM K C "next_input" "Machine.next_input" st_m_next_input ["self"]) (B : Bu mg) (T : MaC K mg C) : MetX P w K mg base 1 C "next_input" (spNext K C) := by
  refine mkMetX F sc_m_next_input (fun vs H Q E h => ?_) (fun f cdv A outer s H vs Q E hr h => ?_)
  · obtain ⟨m, p, hl, sl, dx, fs, b, s, rfl, _⟩ := h
    rfl
  · obtain ⟨m, p, hl, sl, dx, fs, b, s, rfl, S, q⟩ := h
    refine ⟨_, pss_cons (ps_if (pt_cmpR op_eq (pe_fld (pv 0) rfl) (pe_callB (cl_len K) (by rfl) B.len PySem.boot_len (pa_cons (pe_fld (pv 0) rfl) pa_nil)) (nomark _)) (pss_one (ps_ret pe_int)) pss_nil)
      (pss_cons (ps_fldaug (pv 0) pe_int in_add)
      (pss_one (ps_ret (pe_ix (ixT K) (pe_fld (pv 0) rfl) (pe_op op_sub (pe_fld (pv 0) rfl) pe_int) (fun _ _ => rfl))))), ?_⟩
    obtain ⟨ai, ei, hI⟩ := S.hi
    refine ⟨_, rfl, p, C, dx, _, _, rfl, S.ob, T.cl, T.at "asked", S.l4, _, rfl, p, C, dx, _, _, rfl, S.ob, T.cl, T.at "inputs", S.l3, ai, m.inp.map V.int, by rw [ei], .inr hI, rfl, _, rfl, ?_⟩
    rw [List.length_map, dec_int]
    by_cases e : s.asked = m.inp.length
    · have : ((s.asked : Int) == (m.inp.length : Int)) = true := by rw [e]; exact beq_self_eq_true _
      rw [this]
      have q := q H dx fs (Fr3.refl _ _ _ _)
      unfold askM at q
      rw [if_pos e] at q
      exact ifT rfl (q S)
    · have : ((s.asked : Int) == (m.inp.length : Int)) = false := by
        rw [beq_eq_false_iff_ne]
        omega
      rw [this]
      have h2 := S.asl
      have q := fun H' dx' fs' => q H' dx' fs'
      unfold askM at q
      rw [if_neg e] at q
      have S1 := S.put_asked (s.asked + 1) (by omega)
      obtain ⟨z, hz⟩ : ∃ z, m.inp[s.asked]? = some z := ⟨_, List.getElem?_eq_getElem (by omega)⟩
      have ez : m.inp.getD s.asked 0 = z := by rw [List.getD_eq_getElem?_getD, hz]; rfl
      obtain ⟨ai', ei', hI'⟩ := S1.hi
      refine ifF rfl ⟨_, rfl, p, C, dx, _, _, rfl, S.ob, T.cl, T.at "asked", S.l4, s.asked, 1, rfl, rfl, dx, fs, S.ob, by have := S.few; omega, ?_⟩
      refine ⟨_, rfl, p, C, dx, _, _, rfl, S1.ob, T.cl, T.at "inputs", S1.l3, _, rfl, p, C, dx, _, _, rfl, S1.ob, T.cl, T.at "asked", S1.l4, ((s.asked + 1 : Nat) : Int), 1, rfl, rfl, ai', m.inp.map V.int, (s.asked : Int), .int z, ei', ?_, hI', atI_nat (by rw [List.getElem?_map, hz]; rfl), ?_⟩
      · show V.int (((s.asked + 1 : Nat) : Int) - 1) = V.int (s.asked : Int)
        exact congrArg V.int (by omega)
      · have q := q _ dx _ Fr3.p S1
        rw [ez] at q
        exact q
/-- an instruction is done -/
def spStepM (K : PySem.W.Frag) (C : Addr) : Sp := fun vs H Q _ => ∃ (m : MaK) (p hl sl dx : Addr) (fs : List (Str × V)) (b : Nat) (s : MS) (i : Ins), vs = [.ref p] ∧ MaP K C m H p hl sl dx fs b s ∧ m.pg[s.pos]? = some i ∧ i ≠ .stop ∧ b + 1 ≤ 200000 ∧ ∀ H', Fr3 p hl sl H H' → MaS K C m H' p hl sl (b + 1) (stepM m.h m.inp i s) → Q .non H'
theorem ok_step (F : DfM K C "step" "Machine.step" st_m_step ["self"]) (B : Bu mg) (T : MaC K mg C) (jump : CTup K mg "JUMPS" jumpZ) (MU : MetX P w K mg base 2 C "use" (spUseM K C)) (MN : MetX P w K mg base 1 C "next_input" (spNext K C)) : MetX P w K mg base 3 C "step" (spStepM K C) := by
  obtain ⟨aj, gj, hj⟩ := jump.at
  refine mkMetX F sc_m_step (fun vs H Q E h => ?_) (fun f cdv A outer s H vs Q E hr h => ?_)
  · obtain ⟨m, p, hl, sl, dx, fs, b, s, i, rfl, _⟩ := h
    rfl
  · obtain ⟨m, p, hl, sl, dx, fs, b, s, i, rfl, S, hi, hne, hb, q⟩ := h
    refine ⟨_, pss_cons (ps_set (i := 1) sc_m_step.nd rfl (.inl rfl) (pe_ix (ixT K) (pe_fld (pv 0) rfl) (pe_fld (pv 0) rfl) (fun _ _ => rfl)))
      (pss_cons (ps_set (i := 2) sc_m_step.nd rfl (.inl rfl) (pe_ix (ixT K) (pv 1) pe_int (fun _ _ => rfl)))
      (pss_cons (ps_fldaug (pv 0) pe_int in_add)
      (pss_one (ps_if (pt_cmpR (opIn K) (pv 2) (pe_glob (v := .ref aj) (by rfl) gj (by rfl)) rfl)
        (pss_one (ps_if (PW.pt (pw_or (pt_cmpR op_eq (pv 2) pe_str (nomark _)) (pw_or1 (pt_cmpR op_eq (pe_fld (pv 0) rfl) pe_int (nomark _))))) (pss_one (ps_fld (pv 0) (pe_ix (ixT K) (pv 1) pe_int (fun _ _ => rfl)) rfl)) pss_nil))
        (pss_one (ps_if (pt_cmpR op_eq (pv 2) pe_str (nomark _)) (pss_one (ps_fld (pv 0) (pe_ix (ixT K) (pv 1) pe_int (fun _ _ => rfl)) rfl))
          (pss_one (ps_if (pt_cmpR op_eq (pv 2) pe_str (nomark _)) (pss_one (ps_expr (pe_bm PySem.F.plainAttrs_list PySem.F.slot_list_append PySem.F.type_list_append mt_append (pe_fld (pv 0) rfl) (pa_cons (pe_fld (pv 0) rfl) pa_nil))))
            (pss_one (ps_if (pt_cmpR op_eq (pv 2) pe_str (nomark _)) (pss_one (ps_fld (pv 0) (pm0 MN T.cl passE hr (pv 0)) rfl))
              (pss_one (ps_expr (pmX MU T.cl passE hr (pv 0) (pa_cons (pv 2) (pa_cons (pe_ix (ixT K) (pv 1) pe_int (fun _ _ => rfl)) pa_nil))))))))))))))), ?_⟩
    obtain ⟨ap, xs, ep, hS, hE⟩ := S.hp
    obtain ⟨x, hx, ai, rfl, hI⟩ := hE.of hi
    have hok := S.ok i (List.mem_of_getElem? hi)
    have hlt := (List.getElem?_eq_some_iff.mp hi).1
    refine ⟨_, rfl, p, C, dx, _, _, rfl, S.ob, T.cl, T.at "program", S.l2, _, rfl, p, C, dx, _, _, rfl, S.ob, T.cl, T.at "at", S.l7, ap, xs, (s.pos : Int), .ref ai, ep, rfl, hS, atI_nat hx, ?_⟩
    refine ⟨_, rfl, ai, _, 0, .str i.word, rfl, rfl, hI, atI_nat (j := 0) rfl, ?_⟩
    refine ⟨_, rfl, p, C, dx, _, _, rfl, S.ob, T.cl, T.at "at", S.l7, s.pos, 1, rfl, rfl, dx, fs, S.ob, by have := S.few; omega, ?_⟩
    have S1 : MaP K C m (upd H p (.ins C dx (putF "at" (.int ((s.pos : Int) + 1)) fs))) p hl sl dx (putF "at" (.int ((s.pos : Int) + 1)) fs) b { s with pos := s.pos + 1 } := S.put_at (s.pos + 1) (by omega)
    have hI1 := S.tups Fr3.p _ _ hI (H' := upd H p (.ins C dx (putF "at" (.int ((s.pos : Int) + 1)) fs)))
    generalize he : upd H p (.ins C dx (putF "at" (.int ((s.pos : Int) + 1)) fs)) = H1 at S1 hI1 ⊢
    have f1 : Fr3 p hl sl H H1 := by rw [← he]; exact Fr3.p
    generalize hf : putF "at" (.int ((s.pos : Int) + 1)) fs = fs1 at S1 ⊢
    refine ⟨_, rfl, aj, _, rfl, .inr (hj _), rfl, by decide, _, rfl, ?_⟩
    have fin : ∀ {H' : Hp} {dx' : Addr} {fs' : List (Str × V)} {s' : MS}, Fr3 p hl sl H1 H' → MaP K C m H' p hl sl dx' fs' b s' → stepM m.h m.inp i s = s' → Q .non H' := fun f2 S2 e => q _ (f1.trans f2) ⟨_, _, by rw [e]; exact S2.more (Nat.le_succ b) hb⟩
    have few1 : fs1.length < 1000 := Nat.lt_of_lt_of_le S1.few (by decide)
    cases i with
    | stop => exact absurd rfl hne
    | go t =>
      refine ifT (by show inV (.str "go") (jumpZ.map V.str) = true; decide +kernel) ⟨_, rfl, rfl, _, rfl, ifT (by show decide (V.str "go" = V.str "go") = true; decide +kernel) (ifT rfl ⟨_, rfl, ai, _, 1, _, rfl, rfl, hI1, atI_nat (j := 1) rfl, _, rfl, p, C, dx, fs1, rfl, S1.ob, T.cl, T.at "at", few1, ?_⟩)⟩
      exact fin Fr3.p (S1.put_at t hok) rfl
    | zero t =>
      refine ifT (by show inV (.str "zero") (jumpZ.map V.str) = true; decide +kernel) ⟨_, rfl, rfl, _, rfl, ifF (by show decide (V.str "zero" = V.str "go") = false; decide +kernel) ⟨_, rfl, p, C, dx, fs1, _, rfl, S1.ob, T.cl, T.at "hand", S1.l6, rfl, _, rfl, ?_⟩⟩
      rw [dec_int]
      by_cases e : s.hand = 0
      · have : (s.hand == (0 : Int)) = true := by rw [e]; rfl
        rw [this]
        refine ifT rfl ⟨_, rfl, ai, _, 1, _, rfl, rfl, hI1, atI_nat (j := 1) rfl, _, rfl, p, C, dx, fs1, rfl, S1.ob, T.cl, T.at "at", few1, ?_⟩
        refine fin Fr3.p (S1.put_at t hok) ?_
        unfold stepM
        dsimp only
        rw [if_pos e]
      · have : (s.hand == (0 : Int)) = false := by rw [beq_eq_false_iff_ne]; exact e
        rw [this]
        refine ifF rfl (fin (Fr3.refl _ _ _ _) S1 ?_)
        unfold stepM
        dsimp only
        rw [if_neg e]
    | put c =>
      refine ifF (by show inV (.str "put") (jumpZ.map V.str) = false; decide +kernel) ⟨_, rfl, rfl, _, rfl, ifT (by show decide (V.str "put" = V.str "put") = true; decide +kernel) ⟨_, rfl, ai, _, 1, _, rfl, rfl, hI1, atI_nat (j := 1) rfl, _, rfl, p, C, dx, fs1, rfl, S1.ob, T.cl, T.at "hand", few1, ?_⟩⟩
      exact fin Fr3.p (S1.put_hand c) rfl
    | say =>
      refine ifF (by show inV (.str "say") (jumpZ.map V.str) = false; decide +kernel) ⟨_, rfl, rfl, _, rfl, ifF (by show decide (V.str "say" = V.str "put") = false; decide +kernel) ⟨_, rfl, rfl, _, rfl, ifT (by show decide (V.str "say" = V.str "say") = true; decide +kernel) ⟨_, rfl, p, C, dx, fs1, _, rfl, S1.ob, T.cl, T.at "said", S1.l8, .inl ⟨rfl, _, lstAt S1.sd⟩, _, rfl, p, C, dx, fs1, _, rfl, S1.ob, T.cl, T.at "hand", S1.l6, sl, _, _, rfl, rfl, S1.sd, ?_, ?_⟩⟩⟩
      · rw [List.length_map, sizeLine_eq]
        have h1 := S1.sb
        have h2 := S1.bb
        omega
      · exact q _ (f1.trans Fr3.l) ⟨_, _, S1.put_said hb⟩
    | ask =>
      refine ifF (by show inV (.str "ask") (jumpZ.map V.str) = false; decide +kernel) ⟨_, rfl, rfl, _, rfl, ifF (by show decide (V.str "ask" = V.str "put") = false; decide +kernel) ⟨_, rfl, rfl, _, rfl, ifF (by show decide (V.str "ask" = V.str "say") = false; decide +kernel) ⟨_, rfl, rfl, _, rfl, ifT (by show decide (V.str "ask" = V.str "ask") = true; decide +kernel) ?_⟩⟩⟩
      refine ⟨_, rfl, p, dx, fs1, rfl, S1.ob, no_met S1.no "next_input", m, p, hl, sl, dx, fs1, b, _, rfl, S1, fun H2 dx2 fs2 f2 S2 => ⟨_, rfl, p, C, dx2, fs2, rfl, S2.ob, T.cl, T.at "hand", Nat.lt_of_lt_of_le S2.few (by decide), ?_⟩⟩
      refine fin (f2.trans Fr3.p) (S2.put_hand _) ?_
      unfold stepM askM
      dsimp only
      split <;> rfl
    | get k =>
      refine ifF (by show inV (.str "get") (jumpZ.map V.str) = false; decide +kernel) ⟨_, rfl, rfl, _, rfl, ifF (by show decide (V.str "get" = V.str "put") = false; decide +kernel) ⟨_, rfl, rfl, _, rfl, ifF (by show decide (V.str "get" = V.str "say") = false; decide +kernel) ⟨_, rfl, rfl, _, rfl, ifF (by show decide (V.str "get" = V.str "ask") = false; decide +kernel) ?_⟩⟩⟩
      exact ⟨_, rfl, p, dx, fs1, rfl, S1.ob, no_met S1.no "use", _, rfl, _, rfl, ai, _, 1, _, rfl, rfl, hI1, atI_nat (j := 1) rfl, m, p, hl, sl, dx, fs1, b, _, .get k, k, rfl, S1, rfl, hok, fun H2 f2 S2 => (show Q .non H2 from by
        obtain ⟨dx2, fs2, S2⟩ := S2
        exact fin f2 S2 rfl)⟩
    | set k =>
      refine ifF (by show inV (.str "set") (jumpZ.map V.str) = false; decide +kernel) ⟨_, rfl, rfl, _, rfl, ifF (by show decide (V.str "set" = V.str "put") = false; decide +kernel) ⟨_, rfl, rfl, _, rfl, ifF (by show decide (V.str "set" = V.str "say") = false; decide +kernel) ⟨_, rfl, rfl, _, rfl, ifF (by show decide (V.str "set" = V.str "ask") = false; decide +kernel) ?_⟩⟩⟩
      exact ⟨_, rfl, p, dx, fs1, rfl, S1.ob, no_met S1.no "use", _, rfl, _, rfl, ai, _, 1, _, rfl, rfl, hI1, atI_nat (j := 1) rfl, m, p, hl, sl, dx, fs1, b, _, .set k, k, rfl, S1, rfl, hok, fun H2 f2 S2 => (show Q .non H2 from by
        obtain ⟨dx2, fs2, S2⟩ := S2
        exact fin f2 S2 rfl)⟩
    | plus k =>
      refine ifF (by show inV (.str "plus") (jumpZ.map V.str) = false; decide +kernel) ⟨_, rfl, rfl, _, rfl, ifF (by show decide (V.str "plus" = V.str "put") = false; decide +kernel) ⟨_, rfl, rfl, _, rfl, ifF (by show decide (V.str "plus" = V.str "say") = false; decide +kernel) ⟨_, rfl, rfl, _, rfl, ifF (by show decide (V.str "plus" = V.str "ask") = false; decide +kernel) ?_⟩⟩⟩
      exact ⟨_, rfl, p, dx, fs1, rfl, S1.ob, no_met S1.no "use", _, rfl, _, rfl, ai, _, 1, _, rfl, rfl, hI1, atI_nat (j := 1) rfl, m, p, hl, sl, dx, fs1, b, _, .plus k, k, rfl, S1, rfl, hok, fun H2 f2 S2 => (show Q .non H2 from by
        obtain ⟨dx2, fs2, S2⟩ := S2
        exact fin f2 S2 rfl)⟩
    | minus k =>
      refine ifF (by show inV (.str "minus") (jumpZ.map V.str) = false; decide +kernel) ⟨_, rfl, rfl, _, rfl, ifF (by show decide (V.str "minus" = V.str "put") = false; decide +kernel) ⟨_, rfl, rfl, _, rfl, ifF (by show decide (V.str "minus" = V.str "say") = false; decide +kernel) ⟨_, rfl, rfl, _, rfl, ifF (by show decide (V.str "minus" = V.str "ask") = false; decide +kernel) ?_⟩⟩⟩
      exact ⟨_, rfl, p, dx, fs1, rfl, S1.ob, no_met S1.no "use", _, rfl, _, rfl, ai, _, 1, _, rfl, rfl, hI1, atI_nat (j := 1) rfl, m, p, hl, sl, dx, fs1, b, _, .minus k, k, rfl, S1, rfl, hok, fun H2 f2 S2 => (show Q .non H2 from by
        obtain ⟨dx2, fs2, S2⟩ := S2
        exact fin f2 S2 rfl)⟩
    | touch k =>
      refine ifF (by show inV (.str "touch") (jumpZ.map V.str) = false; decide +kernel) ⟨_, rfl, rfl, _, rfl, ifF (by show decide (V.str "touch" = V.str "put") = false; decide +kernel) ⟨_, rfl, rfl, _, rfl, ifF (by show decide (V.str "touch" = V.str "say") = false; decide +kernel) ⟨_, rfl, rfl, _, rfl, ifF (by show decide (V.str "touch" = V.str "ask") = false; decide +kernel) ?_⟩⟩⟩
      exact ⟨_, rfl, p, dx, fs1, rfl, S1.ob, no_met S1.no "use", _, rfl, _, rfl, ai, _, 1, _, rfl, rfl, hI1, atI_nat (j := 1) rfl, m, p, hl, sl, dx, fs1, b, _, .touch k, k, rfl, S1, rfl, hok, fun H2 f2 S2 => (show Q .non H2 from by
        obtain ⟨dx2, fs2, S2⟩ := S2
        exact fin f2 S2 rfl)⟩
end
end RH
set_option Elab.async false
set_option linter.all false
set_option maxRecDepth 100000
set_option maxHeartbeats 2000000
namespace RH
open PySem PySem.Spec PyProof.Rows L2
/-! ### a machine is made, and runs -/
theorem putF_le {f : Str} {v : V} : ∀ fs : List (Str × V), (putF f v fs).length ≤ fs.length + 1
  | [] => Nat.le_refl _
  | (g, x) :: r => by
    unfold putF
    by_cases e : g = f
    · rw [if_pos e]
      exact Nat.le_succ _
    · rw [if_neg e]
      have := putF_le (f := f) (v := v) r
      rw [List.length_cons, List.length_cons]
      omega
section
variable {hv pv iv : V} {l t : Addr}
def FM (hv pv iv : V) (l t : Addr) : List (Str × V) := (putF "said" (.ref t) (putF "at" (.int 0) (putF "hand" (.int 0) (putF "holding" (.ref l) (putF "asked" (.int 0) (putF "inputs" iv (putF "program" pv (putF "habit" hv []))))))))
theorem FM_1 : (FM hv pv iv l t).lookup ("habit" : Str) = some hv := by
  unfold FM
  rw [lookup_putF, if_neg (by decide +kernel)]; rw [lookup_putF, if_neg (by decide +kernel)]; rw [lookup_putF, if_neg (by decide +kernel)]; rw [lookup_putF, if_neg (by decide +kernel)]; rw [lookup_putF, if_neg (by decide +kernel)]; rw [lookup_putF, if_neg (by decide +kernel)]; rw [lookup_putF, if_neg (by decide +kernel)]; rw [lookup_putF, if_pos rfl]
theorem FM_2 : (FM hv pv iv l t).lookup ("program" : Str) = some pv := by
  unfold FM
  rw [lookup_putF, if_neg (by decide +kernel)]; rw [lookup_putF, if_neg (by decide +kernel)]; rw [lookup_putF, if_neg (by decide +kernel)]; rw [lookup_putF, if_neg (by decide +kernel)]; rw [lookup_putF, if_neg (by decide +kernel)]; rw [lookup_putF, if_neg (by decide +kernel)]; rw [lookup_putF, if_pos rfl]
theorem FM_3 : (FM hv pv iv l t).lookup ("inputs" : Str) = some iv := by
  unfold FM
  rw [lookup_putF, if_neg (by decide +kernel)]; rw [lookup_putF, if_neg (by decide +kernel)]; rw [lookup_putF, if_neg (by decide +kernel)]; rw [lookup_putF, if_neg (by decide +kernel)]; rw [lookup_putF, if_neg (by decide +kernel)]; rw [lookup_putF, if_pos rfl]
theorem FM_4 : (FM hv pv iv l t).lookup ("asked" : Str) = some (.int 0) := by
  unfold FM
  rw [lookup_putF, if_neg (by decide +kernel)]; rw [lookup_putF, if_neg (by decide +kernel)]; rw [lookup_putF, if_neg (by decide +kernel)]; rw [lookup_putF, if_neg (by decide +kernel)]; rw [lookup_putF, if_pos rfl]
theorem FM_5 : (FM hv pv iv l t).lookup ("holding" : Str) = some (.ref l) := by
  unfold FM
  rw [lookup_putF, if_neg (by decide +kernel)]; rw [lookup_putF, if_neg (by decide +kernel)]; rw [lookup_putF, if_neg (by decide +kernel)]; rw [lookup_putF, if_pos rfl]
theorem FM_6 : (FM hv pv iv l t).lookup ("hand" : Str) = some (.int 0) := by
  unfold FM
  rw [lookup_putF, if_neg (by decide +kernel)]; rw [lookup_putF, if_neg (by decide +kernel)]; rw [lookup_putF, if_pos rfl]
theorem FM_7 : (FM hv pv iv l t).lookup ("at" : Str) = some (.int 0) := by
  unfold FM
  rw [lookup_putF, if_neg (by decide +kernel)]; rw [lookup_putF, if_pos rfl]
theorem FM_8 : (FM hv pv iv l t).lookup ("said" : Str) = some (.ref t) := by
  unfold FM
  rw [lookup_putF, if_pos rfl]
theorem FM_no : ∀ f ∈ maMets, (FM hv pv iv l t).lookup f = none := fun f hf => by
  have ne : ∀ f ∈ maMets, ∀ a ∈ maAttrs, ¬ f = a := by decide +kernel
  have n := ne f hf
  unfold FM
  rw [lookup_putF, if_neg (n "said" (by decide +kernel))]
  rw [lookup_putF, if_neg (n "at" (by decide +kernel))]
  rw [lookup_putF, if_neg (n "hand" (by decide +kernel))]
  rw [lookup_putF, if_neg (n "holding" (by decide +kernel))]
  rw [lookup_putF, if_neg (n "asked" (by decide +kernel))]
  rw [lookup_putF, if_neg (n "inputs" (by decide +kernel))]
  rw [lookup_putF, if_neg (n "program" (by decide +kernel))]
  rw [lookup_putF, if_neg (n "habit" (by decide +kernel))]
  rfl
theorem FM_len : (FM hv pv iv l t).length < 100 := by
  unfold FM
  have h0 := putF_le (f := "habit") (v := hv) []
  have h1 := putF_le (f := "program") (v := pv) (putF "habit" hv [])
  have h2 := putF_le (f := "inputs") (v := iv) (putF "program" pv (putF "habit" hv []))
  have h3 := putF_le (f := "asked") (v := (.int 0)) (putF "inputs" iv (putF "program" pv (putF "habit" hv [])))
  have h4 := putF_le (f := "holding") (v := (.ref l)) (putF "asked" (.int 0) (putF "inputs" iv (putF "program" pv (putF "habit" hv []))))
  have h5 := putF_le (f := "hand") (v := (.int 0)) (putF "holding" (.ref l) (putF "asked" (.int 0) (putF "inputs" iv (putF "program" pv (putF "habit" hv [])))))
  have h6 := putF_le (f := "at") (v := (.int 0)) (putF "hand" (.int 0) (putF "holding" (.ref l) (putF "asked" (.int 0) (putF "inputs" iv (putF "program" pv (putF "habit" hv []))))))
  have h7 := putF_le (f := "said") (v := (.ref t)) (putF "at" (.int 0) (putF "hand" (.int 0) (putF "holding" (.ref l) (putF "asked" (.int 0) (putF "inputs" iv (putF "program" pv (putF "habit" hv [])))))))
  have e : ([] : List (Str × V)).length = 0 := rfl
  omega
end
section
variable {hv pv iv : V} {l t : Addr}
theorem chl0 (hv pv iv : V) (l t : Addr) : ([] : List (Str × V)).length ≤ 0 := by
  have e : ([] : List (Str × V)).length = 0 := rfl
  omega
theorem chl1 (hv pv iv : V) (l t : Addr) : ((putF "habit" hv []) : List (Str × V)).length ≤ 1 := by
  have h0 := putF_le (f := "habit") (v := hv) []
  have e : ([] : List (Str × V)).length = 0 := rfl
  omega
theorem chl2 (hv pv iv : V) (l t : Addr) : ((putF "program" pv (putF "habit" hv [])) : List (Str × V)).length ≤ 2 := by
  have h0 := putF_le (f := "habit") (v := hv) []
  have h1 := putF_le (f := "program") (v := pv) (putF "habit" hv [])
  have e : ([] : List (Str × V)).length = 0 := rfl
  omega
theorem chl3 (hv pv iv : V) (l t : Addr) : ((putF "inputs" iv (putF "program" pv (putF "habit" hv []))) : List (Str × V)).length ≤ 3 := by
  have h0 := putF_le (f := "habit") (v := hv) []
  have h1 := putF_le (f := "program") (v := pv) (putF "habit" hv [])
  have h2 := putF_le (f := "inputs") (v := iv) (putF "program" pv (putF "habit" hv []))
  have e : ([] : List (Str × V)).length = 0 := rfl
  omega
theorem chl4 (hv pv iv : V) (l t : Addr) : ((putF "asked" (.int 0) (putF "inputs" iv (putF "program" pv (putF "habit" hv [])))) : List (Str × V)).length ≤ 4 := by
  have h0 := putF_le (f := "habit") (v := hv) []
  have h1 := putF_le (f := "program") (v := pv) (putF "habit" hv [])
  have h2 := putF_le (f := "inputs") (v := iv) (putF "program" pv (putF "habit" hv []))
  have h3 := putF_le (f := "asked") (v := (.int 0)) (putF "inputs" iv (putF "program" pv (putF "habit" hv [])))
  have e : ([] : List (Str × V)).length = 0 := rfl
  omega
theorem chl5 (hv pv iv : V) (l t : Addr) : ((putF "holding" (.ref l) (putF "asked" (.int 0) (putF "inputs" iv (putF "program" pv (putF "habit" hv []))))) : List (Str × V)).length ≤ 5 := by
  have h0 := putF_le (f := "habit") (v := hv) []
  have h1 := putF_le (f := "program") (v := pv) (putF "habit" hv [])
  have h2 := putF_le (f := "inputs") (v := iv) (putF "program" pv (putF "habit" hv []))
  have h3 := putF_le (f := "asked") (v := (.int 0)) (putF "inputs" iv (putF "program" pv (putF "habit" hv [])))
  have h4 := putF_le (f := "holding") (v := (.ref l)) (putF "asked" (.int 0) (putF "inputs" iv (putF "program" pv (putF "habit" hv []))))
  have e : ([] : List (Str × V)).length = 0 := rfl
  omega
theorem chl6 (hv pv iv : V) (l t : Addr) : ((putF "hand" (.int 0) (putF "holding" (.ref l) (putF "asked" (.int 0) (putF "inputs" iv (putF "program" pv (putF "habit" hv [])))))) : List (Str × V)).length ≤ 6 := by
  have h0 := putF_le (f := "habit") (v := hv) []
  have h1 := putF_le (f := "program") (v := pv) (putF "habit" hv [])
  have h2 := putF_le (f := "inputs") (v := iv) (putF "program" pv (putF "habit" hv []))
  have h3 := putF_le (f := "asked") (v := (.int 0)) (putF "inputs" iv (putF "program" pv (putF "habit" hv [])))
  have h4 := putF_le (f := "holding") (v := (.ref l)) (putF "asked" (.int 0) (putF "inputs" iv (putF "program" pv (putF "habit" hv []))))
  have h5 := putF_le (f := "hand") (v := (.int 0)) (putF "holding" (.ref l) (putF "asked" (.int 0) (putF "inputs" iv (putF "program" pv (putF "habit" hv [])))))
  have e : ([] : List (Str × V)).length = 0 := rfl
  omega
theorem chl7 (hv pv iv : V) (l t : Addr) : ((putF "at" (.int 0) (putF "hand" (.int 0) (putF "holding" (.ref l) (putF "asked" (.int 0) (putF "inputs" iv (putF "program" pv (putF "habit" hv []))))))) : List (Str × V)).length ≤ 7 := by
  have h0 := putF_le (f := "habit") (v := hv) []
  have h1 := putF_le (f := "program") (v := pv) (putF "habit" hv [])
  have h2 := putF_le (f := "inputs") (v := iv) (putF "program" pv (putF "habit" hv []))
  have h3 := putF_le (f := "asked") (v := (.int 0)) (putF "inputs" iv (putF "program" pv (putF "habit" hv [])))
  have h4 := putF_le (f := "holding") (v := (.ref l)) (putF "asked" (.int 0) (putF "inputs" iv (putF "program" pv (putF "habit" hv []))))
  have h5 := putF_le (f := "hand") (v := (.int 0)) (putF "holding" (.ref l) (putF "asked" (.int 0) (putF "inputs" iv (putF "program" pv (putF "habit" hv [])))))
  have h6 := putF_le (f := "at") (v := (.int 0)) (putF "hand" (.int 0) (putF "holding" (.ref l) (putF "asked" (.int 0) (putF "inputs" iv (putF "program" pv (putF "habit" hv []))))))
  have e : ([] : List (Str × V)).length = 0 := rfl
  omega
end
/-- C(..) by its __init__ -/
structure MkX (P : Program) (w : World) (K : PySem.W.Frag) (mg : Str → Option Value) (base : Heap) (k : Nat) (C : Addr) (sp : Sp) : Prop where
  ex : ∃ (f : Addr) (fd : FuncData) (ps : List Str), FnOk P w K mg base CX0 k f fd ps sp ∧ Mk K C f ∧ Binds K fd ps []
structure DfI (K : PySem.W.Frag) (C : Addr) (q : Str) (st : Stmt) (ps : List Str) : Prop where
  ex : ∃ (f : Addr) (fd : FuncData), Fun K "__init__" q st f fd ∧ Mk K C f ∧ Binds K fd ps []
section
variable {X : Cx} {C : Addr} {x : Str} {sp : Sp} {k j : Nat} {p pos : Pos} {e : Expr} {es : List Expr} {t : TA}
theorem pmk (M : MkX X.prog X.w X.K X.mg X.base k C sp) (hm : X.mg x = some (.ref C)) (hr : Room j X.A) (ha : PA X (e :: es) t) (hk : k + 1 ≤ j := by decide) (hg : Gl X x := by rfl)
    (hdb : (x == ("__debug__" : Str)) = false := by decide) (he : starEach (e :: es) X.env = (false, eval e X.env) :: starEach es X.env := by rfl) (hpl : (backTo pos (starEach es X.env)).any (·.1) = false := by rfl) :
    PE X (.Call (.Name x p) (e :: es) [] pos) (tMake C sp [] E0 t) := by
  obtain ⟨f, fd, ps, F, M, b⟩ := M.ex
  exact pe_make M F (hr.mono hk) hg hm b .nil pass0 ha hdb he hpl
end
theorem rep_ints (n : Nat) : (List.replicate n [V.int 0]).flatten = (List.replicate n (0 : Int)).map V.int := by
  induction n with
  | zero => rfl
  | succ n ih =>
    rw [List.replicate_succ, List.flatten_cons, ih, List.replicate_succ, List.map_cons]
    rfl
section
variable {P : Program} {w : World} {K : PySem.W.Frag} {mg : Str → Option Value} {base : Heap} {C : Addr}
def spInitM (K : PySem.W.Frag) (C : Addr) : Sp := fun vs H Q _ => ∃ (p dx : Addr) (hv pv iv : V) (h : List (List Int)) (n : Nat) (pg : List Ins) (inp : List Int), vs = [.ref p, hv, pv, iv] ∧ H p = some (.ins C dx []) ∧ TII K H hv h ∧ Hb n h ∧ RPg K H pv pg ∧ (∀ i ∈ pg, okIns n pg.length i) ∧ TI K H iv inp ∧
  ∀ H' hl sl dx' fs, H hl = none → H sl = none → (∀ b o, H b = some o → b ≠ p → H' b = some o) → MaP K C ⟨h, n, pg, inp, hv, pv, iv⟩ H' p hl sl dx' fs 0 (startM n) → Q .non H'
theorem tups_ins {H H' : Hp} {p dx : Addr} {fs : List (Str × V)} (hp : H p = some (.ins C dx fs)) (f : ∀ b o, H b = some o → b ≠ p → H' b = some o) : Tups K H H' := fun b xs e => by
  rcases e with (e | ⟨ob, e⟩) | e
  · exact .inl (.inl (f _ _ e (ne_of e hp (fun z => nomatch z))))
  · exact .inl (.inr ⟨ob, f _ _ e (ne_of e hp (fun z => nomatch z))⟩)
  · exact .inr e
theorem ok_initM (F : DfI K C "Machine.__init__" st_m___init__ ["self", "habit", "program", "inputs"]) (B : Bu mg) (T : MaC K mg C) : MkX P w K mg base 1 C (spInitM K C) := by
  obtain ⟨f, fd, F, g, b⟩ := F.ex
  refine ⟨f, fd, _, F.ok sc_m___init__ (fun vs H Q E h => ?_) (fun cdv A outer s H vs Q E hr h => ?_), g, b⟩
  · obtain ⟨p, dx, hv, pv, iv, h, n, pg, inp, rfl, _⟩ := h
    rfl
  · obtain ⟨p, dx, hv, pv', iv, h, n, pg, inp, rfl, hp, hT, hb, hPg, hok, hI, q⟩ := h
    refine ⟨_, PSs.nox (pss_cons (ps_cutM (ps_fld (pv 0) (pv 1) rfl))
      (pss_cons (ps_cutM (ps_fld (pv 0) (pv 2) rfl))
      (pss_cons (ps_cutM (ps_fld (pv 0) (pv 3) rfl))
      (pss_cons (ps_cutM (ps_fld (pv 0) pe_int rfl))
      (pss_cons (ps_cutM (ps_fld (pv 0) (pe_op op_rep (pe_lst (pa_cons pe_int pa_nil)) (pe_callB (cl_len K) (by rfl) B.len PySem.boot_len (pa_cons (pv 1) pa_nil))) rfl))
      (pss_cons (ps_cutM (ps_fld (pv 0) pe_int rfl))
      (pss_cons (ps_cutM (ps_fld (pv 0) pe_int rfl))
      (pss_one (ps_fld (pv 0) (pe_lst pa_nil) rfl))))))))), ?_⟩
    have kp : ∀ {H1 : Hp} {o : HO}, (∀ b o, H b = some o → b ≠ p → H1 b = some o) → ∀ b u, H b = some u → b ≠ p → (upd H1 p o) b = some u := fun f b u e n => by
      rw [upd_ne n]
      exact f b u e n
    have sm : ∀ {k : Nat}, k < 20 → k < 1000 := fun h => by omega
    refine ⟨fun σ H' => σ = [some (.ref p), some hv, some pv', some iv] ∧ (∀ b o, H b = some o → b ≠ p → H' b = some o) ∧ H' p = some (.ins C dx (putF "habit" hv [])), fun σ0 H0 g0 => ?_, ?_⟩
    case refine_2 =>
      exact ⟨_, rfl, _, rfl, p, C, dx, _, rfl, hp, T.cl, T.at "habit", Nat.lt_of_le_of_lt (chl0 hv pv' iv 0 0) (by decide), rfl, kp (fun b o e _ => e), upd_same⟩
    obtain ⟨rfl, f1, p1⟩ := g0
    refine ⟨fun σ H' => σ = [some (.ref p), some hv, some pv', some iv] ∧ (∀ b o, H b = some o → b ≠ p → H' b = some o) ∧ H' p = some (.ins C dx (putF "program" pv' (putF "habit" hv []))), fun σ1 H1 g1 => ?_, ?_⟩
    case refine_2 =>
      exact ⟨_, rfl, _, rfl, p, C, dx, _, rfl, p1, T.cl, T.at "program", Nat.lt_of_le_of_lt (chl1 hv pv' iv 0 0) (by decide), rfl, kp (f1), upd_same⟩
    obtain ⟨rfl, f2, p2⟩ := g1
    refine ⟨fun σ H' => σ = [some (.ref p), some hv, some pv', some iv] ∧ (∀ b o, H b = some o → b ≠ p → H' b = some o) ∧ H' p = some (.ins C dx (putF "inputs" iv (putF "program" pv' (putF "habit" hv [])))), fun σ2 H2 g2 => ?_, ?_⟩
    case refine_2 =>
      exact ⟨_, rfl, _, rfl, p, C, dx, _, rfl, p2, T.cl, T.at "inputs", Nat.lt_of_le_of_lt (chl2 hv pv' iv 0 0) (by decide), rfl, kp (f2), upd_same⟩
    obtain ⟨rfl, f3, p3⟩ := g2
    refine ⟨fun σ H' => σ = [some (.ref p), some hv, some pv', some iv] ∧ (∀ b o, H b = some o → b ≠ p → H' b = some o) ∧ H' p = some (.ins C dx (putF "asked" (.int 0) (putF "inputs" iv (putF "program" pv' (putF "habit" hv []))))), fun σ3 H3 g3 => ?_, ?_⟩
    case refine_2 =>
      exact ⟨_, rfl, p, C, dx, _, rfl, p3, T.cl, T.at "asked", Nat.lt_of_le_of_lt (chl3 hv pv' iv 0 0) (by decide), rfl, kp (f3), upd_same⟩
    obtain ⟨rfl, f4, p4⟩ := g3
    refine ⟨fun σ H' => σ = [some (.ref p), some hv, some pv', some iv] ∧ (∀ b o, H b = some o → b ≠ p → H' b = some o) ∧ ∃ l, H l = none ∧ H' l = some (.lst ((List.replicate n (0 : Int)).map V.int)) ∧ H' p = some (.ins C dx (putF "holding" (.ref l) (putF "asked" (.int 0) (putF "inputs" iv (putF "program" pv' (putF "habit" hv [])))))), fun σ4 H4 g4 => ?_, ?_⟩
    case refine_2 =>
      have hT1 := hT.on (tups_ins hp f4)
      obtain ⟨ah, xs, rfl, hS, hE⟩ := hT1
      have hxl : xs.length = n := hE.len.trans hb.len
      have n5 := hb.hi
      refine ⟨by show 1 ≤ sizeLine; decide, fun z hz => ⟨_, rfl, ah, xs, rfl, .inr (onT (same_new hz) hS), z, (xs.length : Int), [.int 0], rfl, rfl, upd_same, by omega, by omega, ?_, fun l hl => ?_⟩⟩
      · rw [Int.toNat_natCast, hxl]
        exact Nat.le_of_lt (small1000 (by show 1 * n ≤ 1000; omega))
      rw [Int.toNat_natCast, hxl, rep_ints]
      have s1 := same_new (o := .lst [.int 0]) hz
      have s2 := s1.trans (same_new (o := .lst ((List.replicate n (0 : Int)).map V.int)) hl)
      have pl2 := s2 _ _ p4
      have npl : l ≠ p := fun e => by
        rw [e] at hl
        have := s1 _ _ p4
        rw [hl] at this
        cases this
      have hl0 : H l = none := by
        cases e : H l with
        | none => rfl
        | some u =>
          have := s1 _ _ (f4 _ _ e npl)
          rw [hl] at this
          cases this
      exact ⟨_, rfl, p, C, dx, _, rfl, pl2, T.cl, T.at "holding", Nat.lt_of_le_of_lt (chl4 (.ref ah) pv' iv 0 0) (by decide), rfl, kp (fun b u e n => s2 _ _ (f4 _ _ e n)), l, hl0, by rw [upd_ne npl, upd_same], upd_same⟩
    obtain ⟨rfl, f5, l, hl0, el5, p5⟩ := g4
    have npl : l ≠ p := ne_of el5 p5 (fun z => nomatch z)
    refine ⟨fun σ H' => σ = [some (.ref p), some hv, some pv', some iv] ∧ (∀ b o, H b = some o → b ≠ p → H' b = some o) ∧ ∃ l, H l = none ∧ H' l = some (.lst ((List.replicate n (0 : Int)).map V.int)) ∧ H' p = some (.ins C dx (putF "hand" (.int 0) (putF "holding" (.ref l) (putF "asked" (.int 0) (putF "inputs" iv (putF "program" pv' (putF "habit" hv []))))))), fun σ5 H5 g5 => ?_, ?_⟩
    case refine_2 =>
      exact ⟨_, rfl, p, C, dx, _, rfl, p5, T.cl, T.at "hand", Nat.lt_of_le_of_lt (chl5 hv pv' iv l 0) (by decide), rfl, kp f5, l, hl0, by rw [upd_ne npl]; exact el5, upd_same⟩
    obtain ⟨rfl, f6, l, hl0, el6, p6⟩ := g5
    have npl : l ≠ p := ne_of el6 p6 (fun z => nomatch z)
    refine ⟨fun σ H' => σ = [some (.ref p), some hv, some pv', some iv] ∧ (∀ b o, H b = some o → b ≠ p → H' b = some o) ∧ ∃ l, H l = none ∧ H' l = some (.lst ((List.replicate n (0 : Int)).map V.int)) ∧ H' p = some (.ins C dx (putF "at" (.int 0) (putF "hand" (.int 0) (putF "holding" (.ref l) (putF "asked" (.int 0) (putF "inputs" iv (putF "program" pv' (putF "habit" hv [])))))))), fun σ6 H6 g6 => ?_, ?_⟩
    case refine_2 =>
      exact ⟨_, rfl, p, C, dx, _, rfl, p6, T.cl, T.at "at", Nat.lt_of_le_of_lt (chl6 hv pv' iv l 0) (by decide), rfl, kp f6, l, hl0, by rw [upd_ne npl]; exact el6, upd_same⟩
    obtain ⟨rfl, f7, l, hl0, el7, p7⟩ := g6
    have npl : l ≠ p := ne_of el7 p7 (fun z => nomatch z)
    refine ⟨Nat.zero_le _, fun t ht => ?_⟩
    have s1 := same_new (o := .lst []) ht
    have npt : t ≠ p := (ne_of_none p7 ht).symm
    have nlt : l ≠ t := ne_of_none el7 ht
    have ht0 : H t = none := by
      cases e : H t with
      | none => rfl
      | some u =>
        have := f7 _ _ e npt
        rw [ht] at this
        cases this
    refine ⟨_, rfl, p, C, dx, _, rfl, s1 _ _ p7, T.cl, T.at "said", Nat.lt_of_le_of_lt (chl7 hv pv' iv l 0) (by decide), ?_⟩
    have ff : ∀ b o, H b = some o → b ≠ p → (upd (upd H6 t (.lst [])) p (.ins C dx (FM hv pv' iv l t))) b = some o := kp (fun b u e n => s1 _ _ (f7 _ _ e n))
    have tu := tups_ins (K := K) hp ff
    exact q _ l t dx (FM hv pv' iv l t) hl0 ht0 ff ⟨upd_same, FM_1, FM_2, FM_3, FM_4, FM_5, FM_6, FM_7, FM_8, FM_no, FM_len, by rw [upd_ne npl]; exact s1 _ _ el7, by rw [upd_ne npt, upd_same]; rfl, nlt, hT.on tu, hb, List.length_replicate, hPg.on tu, hok, hI.on tu, Nat.zero_le _, Nat.zero_le _, Nat.le_refl _, Nat.zero_le _⟩
end
end RH
set_option Elab.async false
set_option linter.all false
set_option maxRecDepth 100000
set_option maxHeartbeats 2000000
namespace RH
open PySem PySem.Spec PyProof.Rows L2
/-! ### a run -/
section
variable {h : List (List Int)} {inp : List Int} {pg : List Ins}
theorem runM_succ : ∀ (m : Nat) (s : MS), runM h inp pg (m + 1) s = match pg[(runM h inp pg m s).pos]? with
    | none => runM h inp pg m s
    | some i => if i = .stop then runM h inp pg m s else stepM h inp i (runM h inp pg m s)
  | 0, s => by
    unfold runM
    rfl
  | m + 1, s => by
    have ih := fun s => runM_succ m s
    rw [show runM h inp pg (m + 1 + 1) s = (match pg[s.pos]? with
      | none => s
      | some i => if i = .stop then s else runM h inp pg (m + 1) (stepM h inp i s)) from rfl]
    rw [show runM h inp pg (m + 1) s = (match pg[s.pos]? with
      | none => s
      | some i => if i = .stop then s else runM h inp pg m (stepM h inp i s)) from rfl]
    cases e : pg[s.pos]? with
    | none => rw [e]
    | some i =>
      dsimp only
      by_cases hi : i = .stop
      · rw [if_pos hi, if_pos hi, e]
        dsimp only
        rw [if_pos hi]
      · rw [if_neg hi, if_neg hi]
        exact ih _
theorem runM_stop {m : Nat} {s : MS} (e : endM pg (runM h inp pg m s).pos = true) : ∀ j, runM h inp pg (m + j) s = runM h inp pg m s
  | 0 => rfl
  | j + 1 => by
    rw [show m + (j + 1) = (m + j) + 1 from rfl, runM_succ, runM_stop e j]
    unfold endM at e
    cases q : pg[(runM h inp pg m s).pos]? with
    | none => rfl
    | some i =>
      rw [q] at e
      have : i = .stop := of_decide_eq_true e
      dsimp only
      rw [if_pos this]
theorem runM_go {m : Nat} {s : MS} (e : endM pg (runM h inp pg m s).pos = false) : ∃ i, pg[(runM h inp pg m s).pos]? = some i ∧ i ≠ .stop ∧ runM h inp pg (m + 1) s = stepM h inp i (runM h inp pg m s) := by
  unfold endM at e
  cases q : pg[(runM h inp pg m s).pos]? with
  | none =>
    rw [q] at e
    cases e
  | some i =>
    rw [q] at e
    have ne : i ≠ .stop := of_decide_eq_false e
    refine ⟨i, rfl, ne, ?_⟩
    rw [runM_succ, q]
    dsimp only
    rw [if_neg ne]
end
theorem none_ofM {H H' : Hp} (s : Same H H') {b : Addr} (e : H' b = none) : H b = none := by
  cases q : H b with
  | none => rfl
  | some o =>
    have := s _ _ q
    rw [e] at this
    cases this
def endW (pg : List Ins) (s : MS) : Str := if endM pg s.pos = true then "stopped" else "running"
section
variable {P : Program} {w : World} {K : PySem.W.Frag} {mg : Str → Option Value} {base : Heap} {C : Addr}
/-- a machine's run: habit, program, inputs, so many instructions -/
structure RunA (K : PySem.W.Frag) (H : Hp) (hv pv iv : V) (h : List (List Int)) (n : Nat) (pg : List Ins) (inp : List Int) : Prop where
  hT : TII K H hv h
  hb : Hb n h
  hp : RPg K H pv pg
  ok : ∀ i ∈ pg, okIns n pg.length i
  hi : TI K H iv inp
theorem RunA.on {H H' : Hp} {hv pv iv : V} {h : List (List Int)} {n : Nat} {pg : List Ins} {inp : List Int} (e : Same H H') (r : RunA K H hv pv iv h n pg inp) : RunA K H' hv pv iv h n pg inp := ⟨r.hT.on (Same.tups e), r.hb, r.hp.on (Same.tups e), r.ok, r.hi.on (Same.tups e)⟩
def spRunM (K : PySem.W.Frag) : Sp := fun vs H Q _ => ∃ (hv pv iv : V) (h : List (List Int)) (n : Nat) (pg : List Ins) (inp : List Int) (k : Nat), vs = [hv, pv, iv, .int (k : Int)] ∧ RunA K H hv pv iv h n pg inp ∧ k ≤ 100000 ∧
  ∀ H' t sa, Same H H' → H' t = some (.tup [.ref sa, .str (endW pg (runM h inp pg k (startM n)))]) → H' sa = some (.tup ((runM h inp pg k (startM n)).said.map V.int)) → Q (.ref t) H'
theorem ok_run (F : Df K mg "run" st_run ["habit", "program", "inputs", "most"]) (B : Bu mg) (T : MaC K mg C) (MI : MkX P w K mg base 1 C (spInitM K C)) (MD : MetX P w K mg base 2 C "is_done" (spDone K C)) (MS : MetX P w K mg base 3 C "step" (spStepM K C)) : CalX P w K mg base 4 "run" (spRunM K) := by
  refine mkCalX F sc_run (fun vs H Q E h => ?_) (fun f cdv A outer s H vs Q E hr h => ?_)
  · obtain ⟨hv, pv, iv, h, n, pg, inp, k, rfl, _⟩ := h
    rfl
  · obtain ⟨hv, pv', iv, h, n, pg, inp, k, rfl, R, hk, q⟩ := h
    refine ⟨_, pss_cons (ps_cutM (ps_set (i := 4) sc_run.nd rfl (.inl rfl) (pmk MI T.g hr (pa_cons (pv 0) (pa_cons (pv 1) (pa_cons (pv 2) pa_nil))))))
      (pss_cons (ps_cutM (ps_for (passes_of rfl) rfl (pi_range1 (by rfl) B.range (pa_cons (pv 3) pa_nil)) (pg_name (i := 5) sc_run.nd rfl (.inl rfl))
        (pss_cons (ps_if (pt_val (pm0 MD T.cl passE hr (pv 4))) (pss_one ps_break) pss_nil) (pss_one (ps_expr (pm0 MS T.cl passE hr (pv 4)))))))
      (pss_cons (ps_set (i := 6) sc_run.nd rfl (.inl rfl) (pe_ifExp (pt_val (pm0 MD T.cl passE hr (pv 4))) pe_str pe_str))
      (pss_one (ps_ret (pe_tup (pa_cons (pe_tupleOf (by rfl) B.tuple (pe_fld (pv 4) rfl)) (pa_cons (pv 6) pa_nil))))))), ?_⟩
    let m : MaK := ⟨h, n, pg, inp, hv, pv', iv⟩
    refine ⟨fun σ' H' => ∃ p hl sl, σ' = [some hv, some pv', some iv, some (.int (k : Int)), some (.ref p), none, none] ∧ Same H H' ∧ H p = none ∧ H hl = none ∧ H sl = none ∧ MaS K C m H' p hl sl 0 (startM n), fun σ' H1 g1 => ?_, ?_⟩
    case refine_2 =>
      refine ⟨_, rfl, _, rfl, _, rfl, fun p dx hp hdx ne => ?_⟩
      have s1 := same_new (o := .own p) hdx
      have hp1 : (upd H dx (.own p)) p = none := by rw [upd_ne (Ne.symm ne)]; exact hp
      have s2 := s1.trans (same_new (o := .ins C dx []) hp1)
      have R2 := R.on s2
      refine ⟨p, dx, hv, pv', iv, h, n, pg, inp, rfl, upd_same, R2.hT, R2.hb, R2.hp, R2.ok, R2.hi, fun H1 hl sl dx' fs e1 e2 fr S => ⟨rfl, p, hl, sl, rfl, fun b o e => fr b o (s2 _ _ e) (ne_of_none e hp), hp, ?_, ?_, dx', fs, S⟩⟩
      · exact none_ofM s2 e1
      · exact none_ofM s2 e2
    obtain ⟨p, hl, sl, rfl, sm, hp0, hl0, sl0, S0⟩ := g1
    have same3 : ∀ {H2 H3 : Hp}, Same H H2 → Fr3 p hl sl H2 H3 → Same H H3 := fun a f b o e => f b o (a b o e) (ne_of_none e hp0) (ne_of_none e hl0) (ne_of_none e sl0)
    refine ⟨fun σ' H' => ∃ y5, σ' = [some hv, some pv', some iv, some (.int (k : Int)), some (.ref p), y5, none] ∧ Same H H' ∧ MaS K C m H' p hl sl 100000 (runM h inp pg k (startM n)), fun σ' H2 g2 => ?_, ?_⟩
    case refine_2 =>
      refine ⟨_, rfl, (k : Int), rfl, by omega, by omega, ?_⟩
      rw [Int.toNat_natCast]
      refine for_range (lo := 0) (n := k) (fun i σ H' => ∃ y5, σ = [some hv, some pv', some iv, some (.int (k : Int)), some (.ref p), y5, none] ∧ Same H H' ∧ MaS K C m H' p hl sl i (runM h inp pg i (startM n))) ⟨none, rfl, sm, S0⟩ (fun i σ H' hi h' => ?_) (fun σ H' h' => ?_)
      · obtain ⟨y5, rfl, sm1, dx1, fs1, S1⟩ := h'
        refine ⟨_, rfl, p, dx1, fs1, rfl, S1.ob, no_met S1.no "is_done", m, p, hl, sl, dx1, fs1, _, _, rfl, S1, fun H2 s2 => ⟨_, rfl, ?_⟩⟩
        have S2 := S1.same s2
        cases e : endM m.pg (runM h inp pg i (startM n)).pos with
        | true =>
          refine ifT rfl ⟨_, rfl, sm1.trans s2, dx1, fs1, ?_⟩
          have : k = i + (k - i) := by omega
          rw [this, runM_stop e]
          exact S2.more (by omega) (by decide)
        | false =>
          obtain ⟨ins, hin, hne, er⟩ := runM_go e
          refine ifF rfl ⟨_, rfl, p, dx1, fs1, rfl, S2.ob, no_met S2.no "step", m, p, hl, sl, dx1, fs1, i, _, ins, rfl, S2, hin, hne, by omega, fun H3 f3 S3 => ⟨_, rfl, same3 (sm1.trans s2) f3, ?_⟩⟩
          rw [er]
          exact S3
      · obtain ⟨y5, rfl, sm1, dx1, fs1, S1⟩ := h'
        exact ⟨_, rfl, sm1, dx1, fs1, S1.more hk (by decide)⟩
    obtain ⟨y5, rfl, sm2, dx, fs, S⟩ := g2
    refine ⟨_, rfl, p, dx, fs, rfl, S.ob, no_met S.no "is_done", m, p, hl, sl, dx, fs, _, _, rfl, S, fun H3 s3 => ⟨_, rfl, ?_⟩⟩
    have S3 := S.same s3
    have fin : ∀ z : Str, z = endW pg (runM h inp pg k (startM n)) → tRet (tTup (tCons (tThen (tFld K (tVar 4) "said") (kTup K)) (tCons (tVar 6) tNil))) { nx := fun _ H' => Q .non H', rt := Q } [some hv, some pv', some iv, some (.int (k : Int)), some (.ref p), y5, some (.str z)] H3 := fun z ez => by
      refine ⟨_, rfl, p, C, dx, fs, _, rfl, S3.ob, T.cl, T.at "said", S3.l8, .inl ⟨sl, _, rfl, lstAt S3.sd, fun sa hsa => ⟨_, rfl, by show 2 ≤ sizeLine; decide, fun t ht => ?_⟩⟩⟩
      have s4 := same_new (o := .tup ((runM h inp pg k (startM n)).said.map V.int)) hsa
      have s5 := same_new (o := .tup [.ref sa, .str z]) ht
      refine q _ t sa (sm2.trans (s3.trans (s4.trans s5))) ?_ (s5 _ _ upd_same)
      rw [upd_same, ez]
    cases e : endM m.pg (runM h inp pg k (startM n)).pos with
    | true => exact ifT rfl (fin "stopped" (by unfold endW; rw [if_pos (show endM pg _ = true from e)]))
    | false => exact ifF rfl (fin "running" (by unfold endW; rw [if_neg (by rw [show endM pg _ = false from e]; decide)]))
end
end RH
set_option Elab.async false
set_option linter.all false
set_option maxRecDepth 100000
set_option maxHeartbeats 2000000
namespace RH
open PySem PySem.Spec PyProof.Rows L2
/-! ### runs and flows, where they refuse -/
/-- are they inputs? -/
def inpW : Option (List V) → Bool
  | some xs => decide (xs.length ≤ 50) && xs.all (inV2 (-1000000) 1000000)
  | none => false
section
variable {P : Program} {w : World} {K : PySem.W.Frag} {mg : Str → Option Value} {base : Heap} {C Cb Cn Cg Ci : Addr}
def spCheckInp (K : PySem.W.Frag) (Ci : Addr) : Sp := fun vs H Q E => ∃ (v : V) (wo : Option (List V)), vs = [v] ∧ Wd K H v wo ∧ (inpW wo = true → ∀ H', Same H H' → Q .non H') ∧ (inpW wo = false → noE Ci H E)
theorem ok_check_inputsX (F : Df K mg "check_inputs" st_check_inputs ["inputs"]) (B : Bu mg) (c50 : ∃ t, mg "MOST_INPUTS" = some (.int 50 t)) (great : ∃ t, mg "GREATEST" = some (.int 1000000 t)) (Xi : ExO K mg "BadInputs" Ci) (C1 : Cal P w K mg base 1 "is_row" (spIsRowW K)) (C2 : Cal P w K mg base 2 "is_number" (spIsNumberW K)) : CalX P w K mg base 3 "check_inputs" (spCheckInp K Ci) := by
  refine mkCalX F sc_check_inputs (fun vs H Q E h => ?_) (fun f cdv A outer s H vs Q E hr h => ?_)
  · obtain ⟨v, wo, rfl, _⟩ := h
    rfl
  · obtain ⟨v, wo, rfl, hw, q1, q2⟩ := h
    refine ⟨_, pss_cons (ps_if (pt_not (pt_val (pc C1 hr (pa_cons (pv 0) (pa_cons pe_int (pa_cons (pk c50) pa_nil)))))) (pss_one (ps_raise rfl takesE (pmk_own PySem.F.excBase_ValueError Xi.q Xi.g Xi.k (raises_own Xi.b Xi.t) rfl))) pss_nil)
      (pss_one (ps_if (pt_not (pt_val (pe_callB (cr_all rfl) (by rfl) B.all (by decide +kernel) (pa_cons (pe_lc (own := [("number", 1)]) (g := gName 1) (tt := tYes) rfl sc_check_inputs.nd (pi_tup (pv 0)) (blkOk_by (N := ["inputs", "number"]) (sc := defScope st_check_inputs) (by decide +kernel))
        (fun _ _ _ _ _ => pg_name (i := 1) sc_check_inputs.nd rfl (Or.inl rfl)) (fun _ _ _ _ _ => pts_nil) (fun _ _ _ _ _ => pc C2 hr (pa_cons (pv 1) (pa_cons (pe_un un_neg (pk great)) (pa_cons (pk great) pa_nil))))) pa_nil)))) (pss_one (ps_raise rfl takesE (pmk_own PySem.F.excBase_ValueError Xi.q Xi.g Xi.k (raises_own Xi.b Xi.t) rfl))) pss_nil)), ?_⟩
    refine ⟨_, rfl, v, wo, 0, 50, rfl, hw.t, _, rfl, ?_⟩
    cases er : rowW 0 50 wo with
    | false =>
      refine ifT rfl (q2 ?_ H (Same.refl H))
      cases wo with
      | none => rfl
      | some xs =>
        have er : (decide ((0 : Int) ≤ (xs.length : Int)) && decide ((xs.length : Int) ≤ 50)) = false := er
        rw [decide_eq_true (by omega), Bool.true_and] at er
        have := of_decide_eq_false er
        show (decide (xs.length ≤ 50) && _) = false
        rw [decide_eq_false (by omega), Bool.false_and]
    | true =>
      refine ifF rfl ?_
      obtain ⟨ht, hsw, hlen⟩ := hw
      cases ht with
      | @tup a xs hS =>
        have hl := hlen xs rfl
        have hx := hsw xs rfl
        have er : (decide ((0 : Int) ≤ (xs.length : Int)) && decide ((xs.length : Int) ≤ 50)) = true := er
        rw [Bool.and_eq_true, decide_eq_true_iff, decide_eq_true_iff] at er
        have e0 : inpW (some xs) = xs.all (inV2 (-1000000) 1000000) := by
          show (decide (xs.length ≤ 50) && _) = _
          rw [decide_eq_true (by omega), Bool.true_and]
        refine ⟨_, rfl, a, rfl, ⟨_, hS⟩, fun D hD => ?_⟩
        refine lc_tup (xs := xs) (fun i H' => Same H H' ∧ H' D = some (.lst (((xs.take i).map (inV2 (-1000000) 1000000)).map V.bl))) ⟨same_new hD, upd_same⟩ (fun i H' _ h' => onT h'.1 hS) (fun i x H' hi h' => ?_) (fun H' h' => ?_)
        · obtain ⟨sm, eD⟩ := h'
          refine ⟨rfl, _, rfl, 1000000, rfl, x, -1000000, 1000000, rfl, (hx x (List.mem_of_getElem? hi)).on sm, _, eD, ?_, ?_, ?_⟩
          · rw [List.length_map, List.length_map, List.length_take]
            exact small1000 (by omega)
          · intro b o e
            rw [upd_ne (ne_of_none e hD)]
            exact sm b o e
          · rw [upd_same, all_snoc _ hi, List.map_append]
            rfl
        · obtain ⟨sm, eD⟩ := h'
          rw [List.take_length] at eD
          refine ⟨D, _, rfl, lstAt eD, _, rfl, ?_⟩
          have e : ((xs.map (inV2 (-1000000) 1000000)).all id) = inpW (some xs) := by
            rw [e0, List.all_map]
            rfl
          rw [e]
          cases ei : inpW (some xs) with
          | true => exact ifF rfl (q1 ei H' sm)
          | false => exact ifT rfl (q2 ei H' sm)
      | _ => cases er
def spCheckNumS (K : PySem.W.Frag) (C : Addr) : Sp := fun vs H Q E => ∃ v : V, vs = [v, .int 0, .int 5000] ∧ Sw K H v ∧ (inV2 0 5000 v = true → Q .non H) ∧ (inV2 0 5000 v = false → E (.ref C) none H)
theorem ok_check_numberS {C : Addr} (F : Df K mg "check_number" st_check_number ["value", "low", "high"]) (Xn : ExO K mg "BadNumber" C) (C2 : Cal P w K mg base 2 "is_number" (spIsNumberW K)) : CalX P w K mg base 3 "check_number" (spCheckNumS K C) := by
  refine mkCalX F sc_check_number (fun vs H Q E h => ?_) (fun f cdv A outer s H vs Q E hr h => ?_)
  · obtain ⟨v, rfl, _⟩ := h
    rfl
  · obtain ⟨v, rfl, hv, q1, q2⟩ := h
    refine ⟨_, pss_one (ps_if (pt_not (pt_val (pc C2 hr (pa_cons (pv 0) (pa_cons (pv 1) (pa_cons (pv 2) pa_nil)))))) (pss_one (ps_raise rfl takesE (SkE.pmk_own1 PySem.F.excBase_ValueError Xn.q Xn.g Xn.k (raises_own Xn.b Xn.t) rfl
      (pe_joined (.cons pe_str (.cons (pe_fmt (pv 1)) (.cons pe_str (.cons (pe_fmt (pv 2)) .nil)))))))) pss_nil), ?_⟩
    refine ⟨_, rfl, _, rfl, _, rfl, v, 0, 5000, rfl, hv, _, rfl, ?_⟩
    cases el : inV2 0 5000 v with
    | true => exact ifF rfl (q1 el)
    | false =>
      refine ifT rfl ?_
      refine ⟨_, rfl, ?_, _, rfl, .inr ⟨0, rfl, by decide +kernel, _, rfl, ?_, _, rfl, ?_, _, rfl, .inr ⟨5000, rfl, by decide +kernel, _, rfl, ?_, q2 el⟩⟩⟩ <;> (rw [sizeLine_eq]; decide +kernel)
def spCheckNumR (K : PySem.W.Frag) (C : Addr) : Sp := fun vs H Q E => ∃ v : V, vs = [v, .int 0, .int 100000] ∧ Sw K H v ∧ (inV2 0 100000 v = true → Q .non H) ∧ (inV2 0 100000 v = false → E (.ref C) none H)
theorem ok_check_numberR {C : Addr} (F : Df K mg "check_number" st_check_number ["value", "low", "high"]) (Xn : ExO K mg "BadNumber" C) (C2 : Cal P w K mg base 2 "is_number" (spIsNumberW K)) : CalX P w K mg base 3 "check_number" (spCheckNumR K C) := by
  refine mkCalX F sc_check_number (fun vs H Q E h => ?_) (fun f cdv A outer s H vs Q E hr h => ?_)
  · obtain ⟨v, rfl, _⟩ := h
    rfl
  · obtain ⟨v, rfl, hv, q1, q2⟩ := h
    refine ⟨_, pss_one (ps_if (pt_not (pt_val (pc C2 hr (pa_cons (pv 0) (pa_cons (pv 1) (pa_cons (pv 2) pa_nil)))))) (pss_one (ps_raise rfl takesE (SkE.pmk_own1 PySem.F.excBase_ValueError Xn.q Xn.g Xn.k (raises_own Xn.b Xn.t) rfl
      (pe_joined (.cons pe_str (.cons (pe_fmt (pv 1)) (.cons pe_str (.cons (pe_fmt (pv 2)) .nil)))))))) pss_nil), ?_⟩
    refine ⟨_, rfl, _, rfl, _, rfl, v, 0, 100000, rfl, hv, _, rfl, ?_⟩
    cases el : inV2 0 100000 v with
    | true => exact ifF rfl (q1 el)
    | false =>
      refine ifT rfl ?_
      refine ⟨_, rfl, ?_, _, rfl, .inr ⟨0, rfl, by decide +kernel, _, rfl, ?_, _, rfl, ?_, _, rfl, .inr ⟨100000, rfl, by decide +kernel, _, rfl, ?_, q2 el⟩⟩⟩ <;> (rw [sizeLine_eq]; decide +kernel)
/-- no program; or no inputs, or what is asked of the number -/
def badRun (K : PySem.W.Frag) (Cg Ci : Addr) (n most : Int) (rl : Bool) (H : Hp) (v2 v3 : V) (E : XK) (R : Prop) : Prop := ∃ ho : Option (List (Option (List V))), Hk K H v2 ho ∧ ((∃ pl, pgBad n most rl ho = some pl ∧ plV pl ∧ bhE Cg "index" pl H E) ∨
  (pgBad n most rl ho = none ∧ ∃ wo, Wd K H v3 wo ∧ ((inpW wo = false ∧ noE Ci H E) ∨ (inpW wo = true ∧ R))))
def spRestX (K : PySem.W.Frag) (Cb Cn Cg Ci : Addr) : Sp := fun vs H Q E => ∃ v1 v2 v3 v4, vs = [v1, v2, v3, v4] ∧ ((∃ ho pl, Hk K H v1 ho ∧ hbBad ho = some pl ∧ bhE Cb "place" pl H E) ∨ ∃ wos, Hk K H v1 (some wos) ∧ hbBad (some wos) = none ∧ badRun K Cg Ci wos.length 4000 true H v2 v3 E
  (Sw K H v4 ∧ ((inV2 0 100000 v4 = false ∧ noE Cn H E) ∨ ∃ (k : Nat) (h : List (List Int)) (n : Nat) (pg : List Ins) (inp : List Int), v4 = .int (k : Int) ∧ k ≤ 100000 ∧ RunA K H v1 v2 v3 h n pg inp ∧
    ∀ H' t sa, Same H H' → H' t = some (.tup [.ref sa, .str (endW pg (runM h inp pg k (startM n)))]) → H' sa = some (.tup ((runM h inp pg k (startM n)).said.map V.int)) → Q (.ref t) H')))
theorem ok_run_restlessX (F : Df K mg "run_restless" st_run_restless ["habit", "program", "inputs", "most"]) (B : Bu mg) (cmost : ∃ t, mg "MOST_RESTLESS_STEPS" = some (.int 100000 t)) (CH : CalX P w K mg base 6 "check_habit" (spCheckHabitX K Cb)) (CG : CalX P w K mg base 6 "check_restless" (spCheckPg2 K Cg 4000 true)) (CI : CalX P w K mg base 3 "check_inputs" (spCheckInp K Ci)) (CN : CalX P w K mg base 3 "check_number" (spCheckNumR K Cn))
    (CR : CalX P w K mg base 4 "run" (spRunM K)) : CalX P w K mg base 7 "run_restless" (spRestX K Cb Cn Cg Ci) := by
  refine mkCalX F sc_run_restless (fun vs H Q E h => ?_) (fun f cdv A outer s H vs Q E hr h => ?_)
  · obtain ⟨v1, v2, v3, v4, rfl, _⟩ := h
    rfl
  · obtain ⟨v1, v2, v3, v4, rfl, h⟩ := h
    refine ⟨_, pss_cons (ps_expr (pcX CH passE hr (pa_cons (pv 0) pa_nil))) (pss_cons (ps_expr (pcX CG passE hr (pa_cons (pv 1) (pa_cons (pe_callB (cl_len K) (by rfl) B.len PySem.boot_len (pa_cons (pv 0) pa_nil)) pa_nil)))) (pss_cons (ps_expr (pcX CI passE hr (pa_cons (pv 2) pa_nil))) (pss_cons (ps_expr (pcX CN passE hr (pa_cons (pv 3) (pa_cons pe_int (pa_cons (pk cmost) pa_nil)))))
      (pss_one (ps_ret (pcX CR passE hr (pa_cons (pv 0) (pa_cons (pv 1) (pa_cons (pv 2) (pa_cons (pv 3) pa_nil))))))))))  , ?_⟩
    rcases h with ⟨ho, pl, hk, hp, he⟩ | ⟨wos, hk, hb, ho, hk2, h⟩
    · exact ⟨_, rfl, v1, ho, rfl, hk, fun e => (by rw [hp] at e; cases e), fun pl' e => by rw [hp] at e; cases e; exact he⟩
    · obtain ⟨a, xs, rfl, hS, hlen⟩ := (show ∃ a xs, v1 = .ref a ∧ SqT K H a xs ∧ xs.length = wos.length from by
        cases hk with
        | tup hA hx => exact ⟨_, _, rfl, hA, hx.len⟩)
      refine ⟨_, rfl, _, some wos, rfl, hk, fun _ H1 s1 => ?_, fun pl e => (by rw [hb] at e; cases e)⟩
      rcases h with ⟨pl, hp, hpl, he⟩ | ⟨hg, wo, hw, h⟩
      · exact ⟨_, rfl, _, rfl, a, xs, rfl, .inr (onT s1 hS), v2, ho, (wos.length : Int), by rw [hlen]; rfl, hk2.on s1, fun z => (by rw [hp] at z; cases z), fun pl' z => by rw [hp] at z; cases z; exact ⟨hpl, he.on s1⟩⟩
      · refine ⟨_, rfl, _, rfl, a, xs, rfl, .inr (onT s1 hS), v2, ho, (wos.length : Int), by rw [hlen]; rfl, hk2.on s1, fun _ H2 s2 => ?_, fun pl' z => (by rw [hg] at z; cases z)⟩
        have s12 := s1.trans s2
        rcases h with ⟨hi, he⟩ | ⟨hi, h4, h⟩
        · exact ⟨_, rfl, v3, wo, rfl, hw.on s12, fun z => (by rw [hi] at z; cases z), fun _ => he.on s12⟩
        · refine ⟨_, rfl, v3, wo, rfl, hw.on s12, fun _ H3 s3 => ?_, fun z => (by rw [hi] at z; cases z)⟩
          have s13 := s12.trans s3
          rcases h with ⟨hn, he⟩ | ⟨k, h, n, pg, inp, rfl, hk1, R, q⟩
          · exact ⟨_, rfl, v4, rfl, h4.on s13, fun z => (by rw [hn] at z; cases z), fun _ => he H3 s13⟩
          · refine ⟨_, rfl, .int (k : Int), rfl, .int _, fun _ => ?_, fun z => ?_⟩
            · exact ⟨_, rfl, _, rfl, _, rfl, _, rfl, .ref a, v2, v3, h, n, pg, inp, k, rfl, R.on s13, hk1, fun H4 t sa s4 => q H4 t sa (s13.trans s4)⟩
            · have : (decide ((0 : Int) ≤ (k : Int)) && decide ((k : Int) ≤ 100000)) = false := z
              rw [decide_eq_true (by omega), decide_eq_true (by omega)] at this
              cases this
end
end RH
set_option Elab.async false
set_option linter.all false
set_option maxRecDepth 100000
set_option maxHeartbeats 2000000
namespace RH
open PySem PySem.Spec PyProof.Rows L2
/-! ### programs that the law draws -/
/-- an instruction of a still program -/
def stI : Ins → Prop
  | .touch _ => False
  | .put c => -1000000 ≤ c ∧ c ≤ 1000000
  | _ => True
def wordsL : List V := [.str "get", .str "set", .str "plus", .str "minus", .str "get", .str "set", .str "put", .str "say", .str "ask", .str "zero", .str "zero", .str "go", .str "stop", .str "say"]
theorem words_of {x : V} (h : x ∈ wordsL) : x = .str "get" ∨ x = .str "set" ∨ x = .str "plus" ∨ x = .str "minus" ∨ x = .str "put" ∨ x = .str "say" ∨ x = .str "ask" ∨ x = .str "zero" ∨ x = .str "go" ∨ x = .str "stop" := by
  unfold wordsL at h
  simp only [List.mem_cons, List.not_mem_nil, or_false] at h
  rcases h with h | h | h | h | h | h | h | h | h | h | h | h | h | h <;> simp [h]
section
variable {P : Program} {w : World} {K : PySem.W.Frag} {mg : Str → Option Value} {base : Heap}
def spProgL (K : PySem.W.Frag) : Sp := fun vs H Q _ => ∃ (p : Addr) (n many : Nat), vs = [.ref p, .int (n : Int), .int (many : Int)] ∧ Row K H p ∧ 1 ≤ n ∧ n ≤ 5 ∧ 1 ≤ many ∧ many ≤ 30 ∧
  ∀ (H' : Hp) (v : V) (pg : List Ins), But p H H' → Row K H' p → RPg K H' v pg → 1 ≤ pg.length → pg.length ≤ many → (∀ i ∈ pg, okIns n pg.length i ∧ stI i) → Q v H'
theorem Each.appM {α : Type} {R : V → α → Prop} : ∀ {xs ys : List V} {ds es : List α}, Each R xs ds → Each R ys es → Each R (xs ++ ys) (ds ++ es)
  | _, _, _, _, .nil, h => h
  | _, _, _, _, .cons k t, h => .cons k (t.appM h)
/-- what has been drawn so far -/
structure PrL (K : PySem.W.Frag) (H : Hp) (p fl wl : Addr) (n size : Nat) (H' : Hp) (xs : List V) (pg : List Ins) : Prop where
  but : But p H H'
  row : Row K H' p
  ls : H' fl = some (.lst xs)
  wd : H' wl = some (.lst wordsL)
  each : Each (RIns K H') xs pg
  ok : ∀ i ∈ pg, okIns n size i ∧ stI i
theorem PrL.step {H : Hp} {p fl wl : Addr} {n size : Nat} {H1 H2 : Hp} {xs : List V} {pg : List Ins} (s : PrL K H p fl wl n size H1 xs pg) (np : fl ≠ p) (nw : wl ≠ p) (b : But p H1 H2) (r : Row K H2 p) : PrL K H p fl wl n size H2 xs pg :=
  ⟨fun c o e ne => b c o (s.but c o e ne) ne, r, b _ _ s.ls np, b _ _ s.wd nw, s.each.imp fun _ _ z => z.on (s.row.fix b).tups, s.ok⟩
theorem PrL.add {H : Hp} {p fl wl : Addr} {n size : Nat} {H1 : Hp} {xs : List V} {pg : List Ins} (s : PrL K H p fl wl n size H1 xs pg) (np : fl ≠ p) (nw : wl ≠ fl) (hf : H fl = none) {t : Addr} {i : Ins} (ht : H1 t = none) (ok : okIns n size i ∧ stI i) :
    PrL K H p fl wl n size (upd (upd H1 t (.tup (.str i.word :: i.num.map V.int))) fl (.lst (xs ++ [.ref t]))) (xs ++ [.ref t]) (pg ++ [i]) := by
  have s1 := same_new (o := .tup (.str i.word :: i.num.map V.int)) ht
  have e1 := s1 _ _ s.ls
  have fx : Fix H1 (upd (upd H1 t (.tup (.str i.word :: i.num.map V.int))) fl (.lst (xs ++ [.ref t]))) := (Fix.same s1).trans (Fix.lst e1)
  obtain ⟨rs, hrs⟩ := s.row.lst
  refine ⟨fun c o e ne => ?_, ?_, upd_same, ?_, ?_, fun j hj => ?_⟩
  · rw [upd_ne (ne_of_none e hf)]
    exact s1 _ _ (s.but c o e ne)
  · exact (s.row.same s1).lst_upd e1 (Ne.symm np)
  · rw [upd_ne nw]
    exact s1 _ _ s.wd
  · refine (s.each.imp fun _ _ z => z.on fx.tups).appM (.cons ⟨t, rfl, ?_⟩ .nil)
    exact (Fix.lst e1).tups _ _ (tupAt upd_same)
  · rcases List.mem_append.mp hj with hj | hj
    · exact s.ok j hj
    · rw [List.mem_singleton.mp hj]
      exact ok
theorem ok_lprogram (F : Df K mg "_law_program" st__law_program ["row", "places", "many"]) (B : Bu mg) (CT : Cal P w K mg base 1 "_law_taken" (spTaken K)) (CPk : Cal P w K mg base 2 "_law_pick" (spPick K)) : Cal P w K mg base 3 "_law_program" (spProgL K) := by
  refine mkCal F sc__law_program (fun vs H Q E h => ?_) (fun f cdv A outer s H vs Q E hr h => ?_)
  · obtain ⟨p, n, many, rfl, _⟩ := h
    rfl
  · obtain ⟨p, n, many, rfl, hR, n1, n5, m1, m30, q⟩ := h
    refine ⟨_, (pss_cons (ps_par (i := 3) (j := 4) rfl sc__law_program.nd rfl rfl (by decide) rfl rfl (pa_cons (pe_op op_add pe_int (pc CT hr (pa_cons (pv 0) (pa_cons (pv 2) pa_nil)))) (pa_cons (pe_lst pa_nil) pa_nil)) rfl)
      (pss_cons (ps_set (i := 5) sc__law_program.nd rfl (.inl rfl) (pe_lst (pa_cons pe_str (pa_cons pe_str (pa_cons pe_str (pa_cons pe_str (pa_cons pe_str (pa_cons pe_str (pa_cons pe_str (pa_cons pe_str (pa_cons pe_str (pa_cons pe_str (pa_cons pe_str (pa_cons pe_str (pa_cons pe_str (pa_cons pe_str pa_nil))))))))))))))))
      (pss_cons (ps_for PassesOwn.never rfl (pi_range1 (by rfl) B.range (pa_cons (pv 3) pa_nil)) (pg_name (i := 6) sc__law_program.nd rfl (.inl rfl))
        (pss_cons (ps_set (i := 7) sc__law_program.nd rfl (.inl rfl) (pc CPk hr (pa_cons (pv 0) (pa_cons (pv 5) pa_nil)))) (pss_one (ps_if (pt_cmpR (opIn K) (pv 7) (pe_lst (pa_cons pe_str (pa_cons pe_str (pa_cons pe_str (pa_cons pe_str pa_nil))))) rfl) (pss_one (ps_expr (pe_bm PySem.F.plainAttrs_list PySem.F.slot_list_append PySem.F.type_list_append mt_append (pv 4) (pa_cons (pe_tup (pa_cons (pv 7) (pa_cons (pc CT hr (pa_cons (pv 0) (pa_cons (pv 1) pa_nil))) pa_nil))) pa_nil))))
          (pss_one (ps_if (pt_cmpR op_eq (pv 7) pe_str (nomark _)) (pss_one (ps_expr (pe_bm PySem.F.plainAttrs_list PySem.F.slot_list_append PySem.F.type_list_append mt_append (pv 4) (pa_cons (pe_tup (pa_cons (pv 7) (pa_cons (pe_op op_sub (pc CT hr (pa_cons (pv 0) (pa_cons pe_int pa_nil))) pe_int) pa_nil))) pa_nil))))
            (pss_one (ps_if (pt_cmpR (opIn K) (pv 7) (pe_lst (pa_cons pe_str (pa_cons pe_str pa_nil))) rfl) (pss_one (ps_expr (pe_bm PySem.F.plainAttrs_list PySem.F.slot_list_append PySem.F.type_list_append mt_append (pv 4) (pa_cons (pe_tup (pa_cons (pv 7) (pa_cons (pc CT hr (pa_cons (pv 0) (pa_cons (pe_op op_add (pv 3) pe_int) pa_nil))) pa_nil))) pa_nil))))
              (pss_one (ps_expr (pe_bm PySem.F.plainAttrs_list PySem.F.slot_list_append PySem.F.type_list_append mt_append (pv 4) (pa_cons (pe_ifExp (PW.pt (pw_or (pt_cmpR op_ne (pv 7) pe_str (nomark _)) (pw_or1 (pt_cmpR op_eq (pc CT hr (pa_cons (pv 0) (pa_cons pe_int pa_nil))) pe_int (nomark _))))) (pe_tup (pa_cons (pv 7) pa_nil)) (pe_tup (pa_cons pe_str pa_nil))) pa_nil))))))))))))
      (pss_one (ps_ret (pe_tupleOf (by rfl) B.tuple (pv 4))))))), ?_⟩
    refine ⟨_, rfl, _, rfl, p, (many : Int), rfl, hR, by omega, by omega, fun k H1 k0 k1 hB1 hR1 => ⟨1, k, rfl, rfl, Nat.zero_le _, fun fl hfl => ⟨_, _, rfl, ?_⟩⟩⟩
    obtain ⟨size, hs⟩ : ∃ size : Nat, 1 + k = (size : Int) := ⟨(1 + k).toNat, by omega⟩
    simp only [hs]
    have z1 : 1 ≤ size := by omega
    have z2 : size ≤ many := by omega
    have np : fl ≠ p := (hR1.ne hfl).symm
    have sf := same_new (o := .lst []) hfl
    refine ⟨by show 14 ≤ sizeLine; decide, fun wl hwl => ?_⟩
    have sw := same_new (o := .lst wordsL) hwl
    have nw : wl ≠ p := (((hR1.same sf).ne hwl)).symm
    have nwf : wl ≠ fl := fun e => by
      rw [e, upd_same] at hwl
      cases hwl
    have hf0 : H fl = none := by
      cases e : H fl with
      | none => rfl
      | some o =>
        have := hB1 _ _ e np
        rw [hfl] at this
        cases this
    have L0 : PrL K H p fl wl n size (upd (upd H1 fl (.lst [])) wl (.lst wordsL)) [] [] := ⟨fun c o e ne => sw _ _ (sf _ _ (hB1 c o e ne)), (hR1.same sf).same sw, sw _ _ upd_same, upd_same, .nil, fun i hi => by cases hi⟩
    refine ⟨_, rfl, (size : Int), rfl, by omega, by omega, ?_⟩
    rw [Int.toNat_natCast]
    refine for_range (lo := 0) (n := size) (fun i σ H' => ∃ xs pg y6 y7, PrL K H p fl wl n size H' xs pg ∧ pg.length = i ∧ σ = [some (.ref p), some (.int (n : Int)), some (.int (many : Int)), some (.int (size : Int)), some (.ref fl), some (.ref wl), y6, y7]) ⟨[], [], none, none, L0, rfl, rfl⟩ (fun i σ H' hi h' => ?_) (fun σ H' h' => ?_)
    · obtain ⟨xs, pg, y6, y7, L, hl, rfl⟩ := h'
      refine ⟨_, rfl, _, rfl, p, wl, wordsL, rfl, L.row, L.wd, nw, by decide, by decide, fun iw wx H2 hwx hB2 hR2 => ?_⟩
      have L2 := L.step np nw hB2 hR2
      have few : xs.length < sizeLine := by
        have := L2.each.len
        rw [this, hl, sizeLine_eq]
        omega
      have fin : ∀ {H3 : Hp} (L3 : PrL K H p fl wl n size H3 xs pg) {t : Addr} (y6' y7' : Option V) (j : Ins), H3 t = none → okIns n size j ∧ stI j → (∃ xs' pg' y6 y7, PrL K H p fl wl n size (upd (upd H3 t (.tup (.str j.word :: j.num.map V.int))) fl (.lst (xs ++ [.ref t]))) xs' pg' ∧ pg'.length = i + 1 ∧ [some (.ref p), some (.int (n : Int)), some (.int (many : Int)), some (.int (size : Int)), some (.ref fl), some (.ref wl), y6', y7'] = [some (.ref p), some (.int (n : Int)), some (.int (many : Int)), some (.int (size : Int)), some (.ref fl), some (.ref wl), y6, y7]) := fun {_} L3 {t} y6' y7' j ht ok => ⟨_, _, _, _, L3.add np nwf hf0 ht ok, by rw [List.length_append, hl]; rfl, rfl⟩
      rcases words_of (List.mem_of_getElem? hwx) with rfl | rfl | rfl | rfl | rfl | rfl | rfl | rfl | rfl | rfl
      · refine ⟨_, rfl, by show 4 ≤ sizeLine; decide, fun la hla => ⟨la, _, rfl, .inl (lstAt upd_same), rfl, by decide, _, rfl, ifT (by show inV (.str "get") (accZ.map V.str) = true; decide +kernel) ?_⟩⟩
        have La := L2.step np nw (fun c o e ne => same_new (o := .lst [.str "get", .str "set", .str "plus", .str "minus"]) hla c o e) (hR2.same (same_new hla))
        refine ⟨_, rfl, .inl ⟨rfl, _, lstAt La.ls⟩, _, rfl, _, rfl, _, rfl, p, (n : Int), rfl, La.row, by omega, by omega, fun kk H3 kk0 kk1 hB3 hR3 => ⟨by show 2 ≤ sizeLine; decide, fun t ht => ?_⟩⟩
        have L3 := La.step np nw hB3 hR3
        obtain ⟨kn, rfl⟩ : ∃ kn : Nat, kk = (kn : Int) := ⟨kk.toNat, by omega⟩
        exact ⟨fl, _, _, rfl, rfl, same_new (o := .tup [.str "get", .int (kn : Int)]) ht _ _ L3.ls, few, fin L3 _ _ (.get kn) ht ⟨by show kn < n; omega, trivial⟩⟩
      · refine ⟨_, rfl, by show 4 ≤ sizeLine; decide, fun la hla => ⟨la, _, rfl, .inl (lstAt upd_same), rfl, by decide, _, rfl, ifT (by show inV (.str "set") (accZ.map V.str) = true; decide +kernel) ?_⟩⟩
        have La := L2.step np nw (fun c o e ne => same_new (o := .lst [.str "get", .str "set", .str "plus", .str "minus"]) hla c o e) (hR2.same (same_new hla))
        refine ⟨_, rfl, .inl ⟨rfl, _, lstAt La.ls⟩, _, rfl, _, rfl, _, rfl, p, (n : Int), rfl, La.row, by omega, by omega, fun kk H3 kk0 kk1 hB3 hR3 => ⟨by show 2 ≤ sizeLine; decide, fun t ht => ?_⟩⟩
        have L3 := La.step np nw hB3 hR3
        obtain ⟨kn, rfl⟩ : ∃ kn : Nat, kk = (kn : Int) := ⟨kk.toNat, by omega⟩
        exact ⟨fl, _, _, rfl, rfl, same_new (o := .tup [.str "set", .int (kn : Int)]) ht _ _ L3.ls, few, fin L3 _ _ (.set kn) ht ⟨by show kn < n; omega, trivial⟩⟩
      · refine ⟨_, rfl, by show 4 ≤ sizeLine; decide, fun la hla => ⟨la, _, rfl, .inl (lstAt upd_same), rfl, by decide, _, rfl, ifT (by show inV (.str "plus") (accZ.map V.str) = true; decide +kernel) ?_⟩⟩
        have La := L2.step np nw (fun c o e ne => same_new (o := .lst [.str "get", .str "set", .str "plus", .str "minus"]) hla c o e) (hR2.same (same_new hla))
        refine ⟨_, rfl, .inl ⟨rfl, _, lstAt La.ls⟩, _, rfl, _, rfl, _, rfl, p, (n : Int), rfl, La.row, by omega, by omega, fun kk H3 kk0 kk1 hB3 hR3 => ⟨by show 2 ≤ sizeLine; decide, fun t ht => ?_⟩⟩
        have L3 := La.step np nw hB3 hR3
        obtain ⟨kn, rfl⟩ : ∃ kn : Nat, kk = (kn : Int) := ⟨kk.toNat, by omega⟩
        exact ⟨fl, _, _, rfl, rfl, same_new (o := .tup [.str "plus", .int (kn : Int)]) ht _ _ L3.ls, few, fin L3 _ _ (.plus kn) ht ⟨by show kn < n; omega, trivial⟩⟩
      · refine ⟨_, rfl, by show 4 ≤ sizeLine; decide, fun la hla => ⟨la, _, rfl, .inl (lstAt upd_same), rfl, by decide, _, rfl, ifT (by show inV (.str "minus") (accZ.map V.str) = true; decide +kernel) ?_⟩⟩
        have La := L2.step np nw (fun c o e ne => same_new (o := .lst [.str "get", .str "set", .str "plus", .str "minus"]) hla c o e) (hR2.same (same_new hla))
        refine ⟨_, rfl, .inl ⟨rfl, _, lstAt La.ls⟩, _, rfl, _, rfl, _, rfl, p, (n : Int), rfl, La.row, by omega, by omega, fun kk H3 kk0 kk1 hB3 hR3 => ⟨by show 2 ≤ sizeLine; decide, fun t ht => ?_⟩⟩
        have L3 := La.step np nw hB3 hR3
        obtain ⟨kn, rfl⟩ : ∃ kn : Nat, kk = (kn : Int) := ⟨kk.toNat, by omega⟩
        exact ⟨fl, _, _, rfl, rfl, same_new (o := .tup [.str "minus", .int (kn : Int)]) ht _ _ L3.ls, few, fin L3 _ _ (.minus kn) ht ⟨by show kn < n; omega, trivial⟩⟩
      · refine ⟨_, rfl, by show 4 ≤ sizeLine; decide, fun la hla => ⟨la, _, rfl, .inl (lstAt upd_same), rfl, by decide, _, rfl, ifF (by show inV (.str "put") (accZ.map V.str) = false; decide +kernel) ?_⟩⟩
        have La := L2.step np nw (fun c o e ne => same_new (o := .lst [.str "get", .str "set", .str "plus", .str "minus"]) hla c o e) (hR2.same (same_new hla))
        refine ⟨_, rfl, rfl, _, rfl, ifT (by show decide (V.str "put" = V.str "put") = true; decide +kernel) ⟨_, rfl, .inl ⟨rfl, _, lstAt La.ls⟩, _, rfl, _, rfl, p, 7, rfl, La.row, by decide, by decide, fun kk H3 kk0 kk1 hB3 hR3 => ⟨kk, 3, rfl, rfl, by show 2 ≤ sizeLine; decide, fun t ht => ?_⟩⟩⟩
        have L3 := La.step np nw hB3 hR3
        exact ⟨fl, _, _, rfl, rfl, same_new (o := .tup [.str "put", .int (kk - 3)]) ht _ _ L3.ls, few, fin L3 _ _ (.put (kk - 3)) ht ⟨trivial, by show -1000000 ≤ kk - 3 ∧ kk - 3 ≤ 1000000; omega⟩⟩
      · refine ⟨_, rfl, by show 4 ≤ sizeLine; decide, fun la hla => ⟨la, _, rfl, .inl (lstAt upd_same), rfl, by decide, _, rfl, ifF (by show inV (.str "say") (accZ.map V.str) = false; decide +kernel) ?_⟩⟩
        have La := L2.step np nw (fun c o e ne => same_new (o := .lst [.str "get", .str "set", .str "plus", .str "minus"]) hla c o e) (hR2.same (same_new hla))
        refine ⟨_, rfl, rfl, _, rfl, ifF (by show decide (V.str "say" = V.str "put") = false; decide +kernel) ⟨_, rfl, by show 2 ≤ sizeLine; decide, fun lj hlj => ⟨lj, _, rfl, .inl (lstAt upd_same), rfl, by decide, _, rfl, ifF (by show inV (.str "say") (jumpZ.map V.str) = false; decide +kernel) ?_⟩⟩⟩
        have Lb := La.step np nw (fun c o e ne => same_new (o := .lst [.str "zero", .str "go"]) hlj c o e) (La.row.same (same_new hlj))
        refine ⟨_, rfl, .inl ⟨rfl, _, lstAt Lb.ls⟩, _, rfl, rfl, _, rfl, ifT (by show (!decide (V.str "say" = V.str "stop")) = true; decide +kernel) (ifT rfl ⟨_, rfl, by show 1 ≤ sizeLine; decide, fun t ht => ?_⟩)⟩
        exact ⟨fl, _, _, rfl, rfl, same_new (o := .tup [.str "say"]) ht _ _ Lb.ls, few, fin Lb _ _ .say ht ⟨trivial, trivial⟩⟩
      · refine ⟨_, rfl, by show 4 ≤ sizeLine; decide, fun la hla => ⟨la, _, rfl, .inl (lstAt upd_same), rfl, by decide, _, rfl, ifF (by show inV (.str "ask") (accZ.map V.str) = false; decide +kernel) ?_⟩⟩
        have La := L2.step np nw (fun c o e ne => same_new (o := .lst [.str "get", .str "set", .str "plus", .str "minus"]) hla c o e) (hR2.same (same_new hla))
        refine ⟨_, rfl, rfl, _, rfl, ifF (by show decide (V.str "ask" = V.str "put") = false; decide +kernel) ⟨_, rfl, by show 2 ≤ sizeLine; decide, fun lj hlj => ⟨lj, _, rfl, .inl (lstAt upd_same), rfl, by decide, _, rfl, ifF (by show inV (.str "ask") (jumpZ.map V.str) = false; decide +kernel) ?_⟩⟩⟩
        have Lb := La.step np nw (fun c o e ne => same_new (o := .lst [.str "zero", .str "go"]) hlj c o e) (La.row.same (same_new hlj))
        refine ⟨_, rfl, .inl ⟨rfl, _, lstAt Lb.ls⟩, _, rfl, rfl, _, rfl, ifT (by show (!decide (V.str "ask" = V.str "stop")) = true; decide +kernel) (ifT rfl ⟨_, rfl, by show 1 ≤ sizeLine; decide, fun t ht => ?_⟩)⟩
        exact ⟨fl, _, _, rfl, rfl, same_new (o := .tup [.str "ask"]) ht _ _ Lb.ls, few, fin Lb _ _ .ask ht ⟨trivial, trivial⟩⟩
      · refine ⟨_, rfl, by show 4 ≤ sizeLine; decide, fun la hla => ⟨la, _, rfl, .inl (lstAt upd_same), rfl, by decide, _, rfl, ifF (by show inV (.str "zero") (accZ.map V.str) = false; decide +kernel) ?_⟩⟩
        have La := L2.step np nw (fun c o e ne => same_new (o := .lst [.str "get", .str "set", .str "plus", .str "minus"]) hla c o e) (hR2.same (same_new hla))
        refine ⟨_, rfl, rfl, _, rfl, ifF (by show decide (V.str "zero" = V.str "put") = false; decide +kernel) ⟨_, rfl, by show 2 ≤ sizeLine; decide, fun lj hlj => ⟨lj, _, rfl, .inl (lstAt upd_same), rfl, by decide, _, rfl, ifT (by show inV (.str "zero") (jumpZ.map V.str) = true; decide +kernel) ?_⟩⟩⟩
        have Lb := La.step np nw (fun c o e ne => same_new (o := .lst [.str "zero", .str "go"]) hlj c o e) (La.row.same (same_new hlj))
        refine ⟨_, rfl, .inl ⟨rfl, _, lstAt Lb.ls⟩, _, rfl, _, rfl, _, rfl, (size : Int), 1, rfl, rfl, p, (size : Int) + 1, rfl, Lb.row, by omega, by omega, fun kk H3 kk0 kk1 hB3 hR3 => ⟨by show 2 ≤ sizeLine; decide, fun t ht => ?_⟩⟩
        have L3 := Lb.step np nw hB3 hR3
        obtain ⟨kn, rfl⟩ : ∃ kn : Nat, kk = (kn : Int) := ⟨kk.toNat, by omega⟩
        exact ⟨fl, _, _, rfl, rfl, same_new (o := .tup [.str "zero", .int (kn : Int)]) ht _ _ L3.ls, few, fin L3 _ _ (.zero kn) ht ⟨by show kn ≤ size; omega, trivial⟩⟩
      · refine ⟨_, rfl, by show 4 ≤ sizeLine; decide, fun la hla => ⟨la, _, rfl, .inl (lstAt upd_same), rfl, by decide, _, rfl, ifF (by show inV (.str "go") (accZ.map V.str) = false; decide +kernel) ?_⟩⟩
        have La := L2.step np nw (fun c o e ne => same_new (o := .lst [.str "get", .str "set", .str "plus", .str "minus"]) hla c o e) (hR2.same (same_new hla))
        refine ⟨_, rfl, rfl, _, rfl, ifF (by show decide (V.str "go" = V.str "put") = false; decide +kernel) ⟨_, rfl, by show 2 ≤ sizeLine; decide, fun lj hlj => ⟨lj, _, rfl, .inl (lstAt upd_same), rfl, by decide, _, rfl, ifT (by show inV (.str "go") (jumpZ.map V.str) = true; decide +kernel) ?_⟩⟩⟩
        have Lb := La.step np nw (fun c o e ne => same_new (o := .lst [.str "zero", .str "go"]) hlj c o e) (La.row.same (same_new hlj))
        refine ⟨_, rfl, .inl ⟨rfl, _, lstAt Lb.ls⟩, _, rfl, _, rfl, _, rfl, (size : Int), 1, rfl, rfl, p, (size : Int) + 1, rfl, Lb.row, by omega, by omega, fun kk H3 kk0 kk1 hB3 hR3 => ⟨by show 2 ≤ sizeLine; decide, fun t ht => ?_⟩⟩
        have L3 := Lb.step np nw hB3 hR3
        obtain ⟨kn, rfl⟩ : ∃ kn : Nat, kk = (kn : Int) := ⟨kk.toNat, by omega⟩
        exact ⟨fl, _, _, rfl, rfl, same_new (o := .tup [.str "go", .int (kn : Int)]) ht _ _ L3.ls, few, fin L3 _ _ (.go kn) ht ⟨by show kn ≤ size; omega, trivial⟩⟩
      · refine ⟨_, rfl, by show 4 ≤ sizeLine; decide, fun la hla => ⟨la, _, rfl, .inl (lstAt upd_same), rfl, by decide, _, rfl, ifF (by show inV (.str "stop") (accZ.map V.str) = false; decide +kernel) ?_⟩⟩
        have La := L2.step np nw (fun c o e ne => same_new (o := .lst [.str "get", .str "set", .str "plus", .str "minus"]) hla c o e) (hR2.same (same_new hla))
        refine ⟨_, rfl, rfl, _, rfl, ifF (by show decide (V.str "stop" = V.str "put") = false; decide +kernel) ⟨_, rfl, by show 2 ≤ sizeLine; decide, fun lj hlj => ⟨lj, _, rfl, .inl (lstAt upd_same), rfl, by decide, _, rfl, ifF (by show inV (.str "stop") (jumpZ.map V.str) = false; decide +kernel) ?_⟩⟩⟩
        have Lb := La.step np nw (fun c o e ne => same_new (o := .lst [.str "zero", .str "go"]) hlj c o e) (La.row.same (same_new hlj))
        refine ⟨_, rfl, .inl ⟨rfl, _, lstAt Lb.ls⟩, _, rfl, rfl, _, rfl, ifF (by show (!decide (V.str "stop" = V.str "stop")) = false; decide +kernel) ⟨_, rfl, p, 3, rfl, Lb.row, by decide, by decide, fun kk H3 kk0 kk1 hB3 hR3 => ⟨rfl, _, rfl, ?_⟩⟩⟩
        have L3 := Lb.step np nw hB3 hR3
        rw [dec_int]
        cases kk == (0 : Int) with
        | true =>
          refine ifT rfl ⟨_, rfl, by show 1 ≤ sizeLine; decide, fun t ht => ?_⟩
          exact ⟨fl, _, _, rfl, rfl, same_new (o := .tup [.str "stop"]) ht _ _ L3.ls, few, fin L3 _ _ .stop ht ⟨trivial, trivial⟩⟩
        | false =>
          refine ifF rfl ⟨by show 1 ≤ sizeLine; decide, fun t ht => ?_⟩
          exact ⟨fl, _, _, rfl, rfl, same_new (o := .tup [.str "say"]) ht _ _ L3.ls, few, fin L3 _ _ .say ht ⟨trivial, trivial⟩⟩
    · obtain ⟨xs, pg, y6, y7, L, hl, rfl⟩ := h'
      refine ⟨_, rfl, .inl ⟨fl, xs, rfl, lstAt L.ls, fun t ht => ?_⟩⟩
      have s1 := same_new (o := .tup xs) ht
      refine q _ _ pg (fun c o e ne => s1 _ _ (L.but c o e ne)) (L.row.same s1) ⟨t, xs, rfl, tupAt upd_same, L.each.imp fun _ _ z => z.on (Same.tups s1)⟩ (by omega) (by omega) (fun i hi => by rw [hl]; exact L.ok i hi)
end
end RH
set_option Elab.async false
set_option linter.all false
set_option maxRecDepth 100000
set_option maxHeartbeats 2000000
namespace RH
open PySem PySem.Spec PyProof.Rows L2
/-! ### long tuples -/
/-- a tuple of one thing, often -/
def rRepB (K : PySem.W.Frag) : R2 := fun x y H Q => ∃ (l : Addr) (k : Nat) (v : V), x = .ref l ∧ y = .int (k : Int) ∧ SqT K H l [v] ∧ 2 ≤ k ∧ k ≤ 5000 ∧ ∀ p, H p = none → Q (.ref p) (upd H p (.tup (List.replicate k v)))
theorem rep_flat {α : Type} (k : Nat) (v : α) : (List.replicate k [v]).flatten = List.replicate k v := by
  induction k with
  | zero => rfl
  | succ k ih => rw [List.replicate_succ, List.flatten_cons, ih, List.replicate_succ]; rfl
theorem vals_rep {v : V} {u : Value} (r : RelV v u) : ∀ k : Nat, Vals (List.replicate k v) (List.replicate k u)
  | 0 => .nil
  | k + 1 => .cons r (vals_rep r k)
theorem op_repB {X : Cx} : OpR X (binaryOp .Mult) (rRepB X.K) := by
  intro pins s σ H x y vx vy Q I rx ry h
  obtain ⟨l, k, v, rfl, rfl, hT, h1, h2, q⟩ := h
  cases rx
  obtain ⟨tk, rfl⟩ := ry
  obtain ⟨its, r, ⟨⟨cls, dd, data, sl⟩, ho, hc, n, hd⟩, hs⟩ := I.tuple hT
  simp only at hc hd
  subst hc hd
  obtain ⟨u, rfl, ru⟩ : ∃ u, its = [u] ∧ RelV v u := by
    cases r with
    | cons r1 r2 =>
      cases r2
      exact ⟨_, rfl, r1⟩
  have small : (5000 : Nat) ≤ sizeLine := by rw [sizeLine_eq]; decide +kernel
  have sz : ([u].toArray : Array Value).size = 1 := rfl
  have d0 : (decide ((k : Int) < -(2 ^ 63)) || decide ((k : Int) ≥ 2 ^ 63)) = false := by
    rw [decide_eq_false (by omega), decide_eq_false (by omega), Bool.false_or]
  have d1 : (([u].toArray : Array Value).isEmpty || (k : Int) == 1) = false := by
    have : ((k : Int) == 1) = false := beq_eq_false_iff_ne.mpr (by omega)
    rw [this]
    rfl
  have d2 : (decide ((k : Int) ≤ 0) || ([u].toArray : Array Value).isEmpty) = false := by
    rw [decide_eq_false (by omega)]
    rfl
  have d4 : Builtin.Tuple.tupleTooMany (((([u].toArray : Array Value).size : Nat) : Int) * (k : Int)) = false := by
    unfold Builtin.Tuple.tupleTooMany
    rw [sz, sizeLine_eq]
    exact decide_eq_false (by omega)
  have ek : ((k : Int)).toNat = k := Int.toNat_natCast k
  have ln : ∀ z : Nat, z = k → (List.foldl (fun x1 x2 => x1 ++ x2) #[] (List.replicate z ([u].toArray : Array Value))) = (List.replicate k u).toArray := fun z e => by
    rw [L2.size_rep, e, rep_flat]
  have mul := L2.tuple_mulW l ([u].toArray) n dd sl (k : Int) tk d0 d1 d2 (by rw [sz]; omega) d4 (by rw [ln _ ek, List.size_toArray, List.length_replicate]; omega)
  have done : EP X pins σ Q (.ref s.heap.objs.size) { s with heap := s.heap.push { cls := Value.type "tuple", data := Data.seq (List.replicate k u).toArray }, toks := s.toks } :=
    ⟨.ref s.heap.objs.size, _, I.laid (t' := s.toks) (o := .tup (List.replicate k v)) (fun b ob e => Heap.get?_push_of_some _ e) (Nat.le_refl _) ⟨by rw [List.length_replicate]; omega, _, vals_rep ru k, IsTup.new _ _⟩, rfl, q _ (I.hok.fresh (Nat.le_refl _))⟩
  rw [← ln _ ek] at done
  have isT : s.TypeIs (.ref l) "tuple" := ⟨_, ho, rfl⟩
  refine wpAny_binaryOp_repeat_ref (T := "tuple") (U := "int") (by decide) isT (fun s' => typeIs_int s' _ tk) L2.noFill_tuple_mul F.fills_int_mul F.slot_int_rmul L2.repeat_tuple F.slot_int_index.lookup ?_
  refine call_meets F.slot_int_rmul (typeIs_int s (k : Int) tk) F.entry_int_rmul (F.args_int_rmul_2 _ _) (L2.int_rmul_tuple (k : Int) tk l ([u].toArray) n dd sl) ⟨ho, rfl, isT, ?_⟩
  exact call_meets F.slot_tuple_mul isT F.entry_tuple_mul (F.args_tuple_mul_2 _ _) mul ⟨ho, done⟩
end RH
set_option Elab.async false
set_option linter.all false
set_option maxRecDepth 100000
set_option maxHeartbeats 2000000
namespace RH
open PySem PySem.Spec PyProof.Rows L2
/-! ### indexes that may come behind one -/
/-- the two, rising, each once -/
def two (a b : Nat) : List Nat := if a = b then [a] else if a < b then [a, b] else [b, a]
theorem two_mem {a b x : Nat} : x ∈ two a b ↔ x = a ∨ x = b := by
  unfold two
  split
  · rename_i e
    subst e
    simp
  · split
    · simp
    · simp only [List.mem_cons, List.not_mem_nil, or_false]
      exact Or.comm
theorem two_up (a b : Nat) : (two a b).Pairwise (· < ·) := by
  unfold two
  split
  · simp
  · split <;> simp <;> omega
/-- two lists that rise and hold the same are the same -/
theorem up_eq : ∀ {xs ys : List Int}, xs.Pairwise (· < ·) → ys.Pairwise (· < ·) → (∀ k, k ∈ xs ↔ k ∈ ys) → xs = ys
  | [], [], _, _, _ => rfl
  | [], y :: ys, _, _, h => absurd ((h y).mpr List.mem_cons_self) List.not_mem_nil
  | x :: xs, [], _, _, h => absurd ((h x).mp List.mem_cons_self) List.not_mem_nil
  | x :: xs, y :: ys, hx, hy, h => by
    have hx := List.pairwise_cons.mp hx
    have hy := List.pairwise_cons.mp hy
    have e : x = y := by
      rcases List.mem_cons.mp ((h x).mp List.mem_cons_self) with e | m1
      · exact e
      · rcases List.mem_cons.mp ((h y).mpr List.mem_cons_self) with e | m2
        · exact e.symm
        · have := hx.1 _ m2
          have := hy.1 _ m1
          omega
    subst e
    rw [up_eq hx.2 hy.2 fun k => ?_]
    constructor
    · intro m
      rcases List.mem_cons.mp ((h k).mp (List.mem_cons_of_mem _ m)) with e | m'
      · subst e
        exact absurd (hx.1 _ m) (Int.lt_irrefl _)
      · exact m'
    · intro m
      rcases List.mem_cons.mp ((h k).mpr (List.mem_cons_of_mem _ m)) with e | m'
      · subst e
        exact absurd (hy.1 _ m) (Int.lt_irrefl _)
      · exact m'
/-- ints of indexes -/
def nI (l : List Nat) : List Int := l.map fun i : Nat => (i : Int)
theorem nI_up {l : List Nat} (h : l.Pairwise (· < ·)) : (nI l).Pairwise (· < ·) := by
  unfold nI
  rw [List.pairwise_map]
  exact h.imp fun r => by omega
theorem nI_mem {l : List Nat} {i : Nat} : (i : Int) ∈ nI l ↔ i ∈ l := by
  unfold nI
  rw [List.mem_map]
  exact ⟨fun ⟨j, m, e⟩ => (by omega : j = i) ▸ m, fun m => ⟨i, m, rfl⟩⟩
theorem nI_len (l : List Nat) : (nI l).length = l.length := List.length_map ..
theorem nI_of {l : List Nat} {k : Int} (h : k ∈ nI l) : ∃ i, i ∈ l ∧ k = (i : Int) := by
  unfold nI at h
  obtain ⟨i, m, e⟩ := List.mem_map.mp h
  exact ⟨i, m, e.symm⟩
theorem nI_two {a b : Nat} {ns : List Int} (up : ns.Pairwise (· < ·)) (h : ∀ k : Int, k ∈ ns ↔ (k = a ∨ k = b)) : ns = nI (two a b) := by
  refine up_eq up (nI_up (two_up a b)) fun k => ?_
  rw [h]
  constructor
  · rintro (rfl | rfl)
    · exact nI_mem.mpr (two_mem.mpr (.inl rfl))
    · exact nI_mem.mpr (two_mem.mpr (.inr rfl))
  · intro m
    obtain ⟨i, m2, rfl⟩ := nI_of m
    rcases two_mem.mp m2 with rfl | rfl
    · exact .inl rfl
    · exact .inr rfl
def nextsM (pg : List Ins) (p : Nat) : List Nat := match pg[p]? with
  | some .stop => []
  | some (.go t) => [t]
  | some (.zero t) => two (p + 1) t
  | _ => [p + 1]
theorem nexts_few (pg : List Ins) (p : Nat) : (nextsM pg p).length ≤ 2 := by
  unfold nextsM
  split
  · simp
  · simp
  · unfold two
    split
    · simp
    · split <;> simp
  · simp
theorem nexts_kinds {pg : List Ins} {p : Nat} {i : Ins} (h : pg[p]? = some i) : (i = .stop ∧ nextsM pg p = []) ∨ (∃ t, i = .go t ∧ nextsM pg p = [t]) ∨ (∃ t, i = .zero t ∧ nextsM pg p = two (p + 1) t) ∨
    (i.word ≠ "stop" ∧ i.word ≠ "go" ∧ i.word ≠ "zero" ∧ nextsM pg p = [p + 1]) := by
  unfold nextsM
  rw [h]
  cases i with
  | stop => exact .inl ⟨rfl, rfl⟩
  | go t => exact .inr (.inl ⟨t, rfl, rfl⟩)
  | zero t => exact .inr (.inr (.inl ⟨t, rfl, rfl⟩))
  | _ => exact .inr (.inr (.inr ⟨by simp only [Ins.word]; decide +kernel, by simp only [Ins.word]; decide +kernel, by simp only [Ins.word]; decide +kernel, rfl⟩))
theorem str_no {a b : Str} (h : a ≠ b) : decide (V.str a = V.str b) = false := decide_eq_false fun e => h (V.str.inj e)
theorem str_yes (a : Str) : decide (V.str a = V.str a) = true := decide_eq_true rfl
section
variable {P : Program} {w : World} {K : PySem.W.Frag} {mg : Str → Option Value} {base : Heap}
/-- a def's rule, with its code's place known -/
theorem mkCalC {x : Str} {st : Stmt} {N ps : List Str} {k : Nat} {sp : Sp} (F : Df K mg x st ps) (S : FnScope N ps (defScope st)) (len : ∀ vs H Q E, sp vs H Q E → vs.length = ps.length)
    (run : ∀ (f : Addr) (cdv : Value) (A : Around) (outer : List Env) (s : Shared) (H : Hp) (vs : List V) (Q : VK) (E : XK), PySem.W.kdsCode K cdv = true → Room k (A.deeper (envOfC x (defScope st) s.heap.objs.size f cdv)) → sp vs H Q E →
      ∃ t, PSs (cxOf CX0 P w K mg base N x (defScope st) f cdv A outer s H E).nox (defBody st) t ∧ t { nx := fun _ H' => Q .non H', rt := Q } (start N vs) H) : Cal P w K mg base (k + 1) x sp := by
  obtain ⟨f, fd, F, g, b⟩ := F.ex
  refine ⟨f, fd, ps, ?_, g, F.kp, b⟩
  obtain ⟨oc, od, kV, doc, pm, an, cdv, ct, osl, rfl, lk, hcd⟩ := F.ex
  refine fn_of lk hcd S len fun A outer s H vs Q E hr hsp => ?_
  obtain ⟨t, h, q⟩ := run f cdv A outer s H vs Q E (kdsCode_of hcd) hr hsp
  exact ⟨t, h.nox, q⟩
def spNexts (K : PySem.W.Frag) : Sp := fun vs H Q _ => ∃ (v : V) (pg : List Ins) (p : Nat), vs = [v, .int (p : Int)] ∧ RPg K H v pg ∧ p < pg.length ∧ pg.length ≤ 30 ∧ (∀ i ∈ pg, okIns 1000 pg.length i) ∧ ∀ H' t, Same H H' → H' t = some (.tup ((nI (nextsM pg p)).map V.int)) → Q (.ref t) H'
theorem ok_nexts_of (F : Df K mg "nexts_of" st_nexts_of ["program", "at"]) (B : Bu mg) : Cal P w K mg base 1 "nexts_of" (spNexts K) := by
  refine mkCalC F sc_nexts_of (fun vs H Q E h => ?_) (fun f cdv A outer s H vs Q E hcd hr h => ?_)
  · obtain ⟨v, pg, p, rfl, _⟩ := h
    rfl
  · obtain ⟨v, pg, p, rfl, ⟨a, xs, rfl, hS, hE⟩, hp, few, ok, q⟩ := h
    refine ⟨_, pss_cons (ps_set (i := 2) sc_nexts_of.nd rfl (.inl rfl) (pe_ix (ixT K) (pe_ix (ixT K) (pv 0) (pv 1) (fun _ _ => rfl)) pe_int (fun _ _ => rfl)))
      (pss_cons (ps_if (pt_cmpR op_eq (pv 2) pe_str (nomark _)) (pss_one (ps_ret (pe_tup pa_nil))) pss_nil)
      (pss_cons (ps_if (pt_cmpR op_eq (pv 2) pe_str (nomark _)) (pss_one (ps_ret (pe_tup (pa_cons (pe_ix (ixT K) (pe_ix (ixT K) (pv 0) (pv 1) (fun _ _ => rfl)) pe_int (fun _ _ => rfl)) pa_nil)))) pss_nil)
      (pss_cons (ps_if (pt_cmpR op_eq (pv 2) pe_str (nomark _)) (pss_one (ps_ret (pe_tupleOf (by rfl) B.tuple (pe_callB (cr_sortedSet rfl) (by rfl) B.sorted (by decide +kernel) (pa_cons (pe_set2 hcd (pe_op op_add (pv 1) pe_int) (pe_ix (ixT K) (pe_ix (ixT K) (pv 0) (pv 1) (fun _ _ => rfl)) pe_int (fun _ _ => rfl))) pa_nil))))) pss_nil)
      (pss_one (ps_ret (pe_tup (pa_cons (pe_op op_add (pv 1) pe_int) pa_nil))))))), ?_⟩
    obtain ⟨i, hi⟩ : ∃ i, pg[p]? = some i := ⟨_, List.getElem?_eq_getElem hp⟩
    obtain ⟨x, hx, b, rfl, hb⟩ := hE.of hi
    have num : ∀ {H'} (s : Same H H') (t : Nat), i.num = [(t : Int)] → SqT K H' a xs ∧ SqT K H' b [.str i.word, .int (t : Int)] := fun s t e => ⟨onT s hS, by
      have := onT s hb
      rw [e] at this
      exact this⟩
    refine ⟨_, rfl, _, rfl, a, xs, (p : Int), .ref b, rfl, rfl, hS, atI_nat hx, b, _, 0, .str i.word, rfl, rfl, hb, (show atI _ ((0 : Nat) : Int) = some _ from atI_nat rfl), _, rfl, rfl, _, rfl, ?_⟩
    rcases nexts_kinds hi with ⟨rfl, en⟩ | ⟨t, rfl, en⟩ | ⟨t, rfl, en⟩ | ⟨n1, n2, n3, en⟩
    · refine ifT (str_yes _) ⟨Nat.zero_le _, fun t ht => q _ t (same_new ht) ?_⟩
      rw [upd_same, en]
      rfl
    · have ⟨_, hn⟩ := num (Same.refl H) t rfl
      refine ifF (str_no (by simp only [Ins.word]; decide +kernel)) ⟨_, rfl, rfl, _, rfl, ifT (str_yes _) ⟨_, rfl, _, rfl, a, xs, (p : Int), .ref b, rfl, rfl, hS, atI_nat hx, b, _, 1, .int (t : Int), rfl, rfl, hn, rfl, by show 1 ≤ sizeLine; decide, fun u hu => q _ u (same_new hu) ?_⟩⟩
      rw [upd_same, en]
      rfl
    · refine ifF (str_no (by simp only [Ins.word]; decide +kernel)) ⟨_, rfl, rfl, _, rfl, ifF (str_no (by simp only [Ins.word]; decide +kernel)) ⟨_, rfl, rfl, _, rfl, ifT (str_yes _) ?_⟩⟩
      intro D hD
      have s1 := same_new (o := SetO w D (fun _ => false) 0) hD
      have ⟨hS1, hn⟩ := num s1 t rfl
      refine ⟨_, rfl, (p : Int), 1, rfl, rfl, _, rfl, _, rfl, a, xs, (p : Int), .ref b, rfl, rfl, hS1, atI_nat hx, b, _, 1, .int (t : Int), rfl, rfl, hn, rfl, upd_same, (p : Int) + 1, (t : Int), rfl, rfl, fun n hn2 => ?_⟩
      rw [upd_upd]
      have s2 := same_new (o := SetO w D (fun k => (false || decide (k = (p : Int) + 1)) || decide (k = (t : Int))) n) hD
      refine ⟨D, _, n, rfl, upd_same, by omega, fun ns l up mem len hl => .inl ⟨l, _, rfl, lstAt upd_same, fun u hu => ?_⟩⟩
      have s3 := s2.trans (same_new (o := .lst (ns.map V.int)) hl)
      refine q _ u (s3.trans (same_new hu)) ?_
      rw [upd_same, en, nI_two up fun k => ?_]
      rw [mem, Bool.or_eq_true, Bool.or_eq_true, decide_eq_true_iff, decide_eq_true_iff]
      have : ((p + 1 : Nat) : Int) = (p : Int) + 1 := by omega
      rw [this]
      simp
    · refine ifF (str_no n1) ⟨_, rfl, rfl, _, rfl, ifF (str_no n2) ⟨_, rfl, rfl, _, rfl, ifF (str_no n3) ⟨_, rfl, (p : Int), 1, rfl, rfl, by show 1 ≤ sizeLine; decide, fun u hu => q _ u (same_new hu) ?_⟩⟩⟩
      rw [upd_same, en]
      rfl
end
end RH
set_option Elab.async false
set_option linter.all false
set_option maxRecDepth 100000
set_option maxHeartbeats 2000000
namespace RH
open PySem PySem.Spec PyProof.Rows L2
/-! ### the indexes that are reached -/
def goalM (n : Nat) (s : List Nat × List Nat) (g : Nat) : List Nat × List Nat := if g < n ∧ g ∉ s.1 then (s.1 ++ [g], s.2 ++ [g]) else s
def atM (pg : List Ins) (s : List Nat × List Nat) (p : Nat) : List Nat × List Nat := (nextsM pg p).foldl (goalM pg.length) s
def levelM (pg : List Ins) (s : List Nat × List Nat) : List Nat × List Nat := s.2.foldl (atM pg) (s.1, [])
def itM (pg : List Ins) : Nat → List Nat × List Nat
  | 0 => ([0], [0])
  | k + 1 => levelM pg (itM pg k)
structure GdM (n b : Nat) (s : List Nat × List Nat) : Prop where
  nd : s.1.Nodup
  lt : ∀ g ∈ s.1, g < n
  sub : ∀ g ∈ s.2, g ∈ s.1
  len : s.1.length = b + s.2.length
theorem ndl {α : Type} [DecidableEq α] : ∀ {l m : List α}, l.Nodup → (∀ x ∈ l, x ∈ m) → l.length ≤ m.length
  | [], _, _, _ => Nat.zero_le _
  | a :: l, m, nd, hs => by
    rw [List.nodup_cons] at nd
    have ha := hs a (List.mem_cons_self ..)
    have := ndl (l := l) (m := m.erase a) nd.2 fun x hx => (List.mem_erase_of_ne (fun e => nd.1 (by rw [← e]; exact hx))).mpr (hs x (List.mem_cons_of_mem _ hx))
    rw [List.length_erase_of_mem ha] at this
    have hm := List.length_pos_of_mem ha
    rw [List.length_cons]
    omega
theorem GdM.few {n b : Nat} {s : List Nat × List Nat} (h : GdM n b s) : s.1.length ≤ n := by
  have := ndl h.nd (m := List.range n) fun x hx => List.mem_range.mpr (h.lt x hx)
  rwa [List.length_range] at this
theorem GdM.goal {n b : Nat} {s : List Nat × List Nat} (h : GdM n b s) (g : Nat) : GdM n b (goalM n s g) := by
  unfold goalM
  split
  · rename_i c
    refine ⟨?_, fun x hx => ?_, fun x hx => ?_, ?_⟩
    · rw [List.nodup_append]
      exact ⟨h.nd, List.nodup_cons.mpr ⟨List.not_mem_nil, List.nodup_nil⟩, fun a ha b hb e => c.2 (List.mem_singleton.mp hb ▸ e ▸ ha)⟩
    · rcases List.mem_append.mp hx with m | m
      · exact h.lt x m
      · rw [List.mem_singleton.mp m]
        exact c.1
    · rcases List.mem_append.mp hx with m | m
      · exact List.mem_append_left _ (h.sub x m)
      · exact List.mem_append_right _ m
    · show (s.1 ++ [g]).length = b + (s.2 ++ [g]).length
      rw [List.length_append, List.length_append, h.len]
      simp only [List.length_singleton]
      omega
  · exact h
theorem GdM.goals {n b : Nat} : ∀ (gs : List Nat) {s : List Nat × List Nat}, GdM n b s → GdM n b (gs.foldl (goalM n) s)
  | [], _, h => h
  | g :: gs, _, h => GdM.goals gs (h.goal g)
theorem GdM.ats {pg : List Ins} {b : Nat} : ∀ (ps : List Nat) {s : List Nat × List Nat}, GdM pg.length b s → GdM pg.length b (ps.foldl (atM pg) s)
  | [], _, h => h
  | p :: ps, _, h => GdM.ats ps (GdM.goals (nextsM pg p) h)
theorem GdM.zero {n b : Nat} {s : List Nat × List Nat} (h : GdM n b s) : GdM n s.1.length (s.1, []) := ⟨h.nd, h.lt, fun _ z => absurd z List.not_mem_nil, rfl⟩
theorem it_ok {pg : List Ins} (h : 0 < pg.length) : ∀ k, ∃ b, GdM pg.length b (itM pg k)
  | 0 => ⟨0, List.nodup_cons.mpr ⟨List.not_mem_nil, List.nodup_nil⟩, fun g m => by rw [List.mem_singleton.mp m]; exact h, fun _ m => m, rfl⟩
  | k + 1 => by
    obtain ⟨b, F⟩ := it_ok h k
    exact ⟨_, GdM.ats _ F.zero⟩
theorem it_len {pg : List Ins} (h : 0 < pg.length) (k : Nat) : (itM pg (k + 1)).1.length = (itM pg k).1.length + (itM pg (k + 1)).2.length := by
  obtain ⟨b, F⟩ := it_ok h k
  exact (GdM.ats (itM pg k).2 F.zero).len
theorem it_stop {pg : List Ins} {k : Nat} (e : (itM pg k).2 = []) : ∀ j, itM pg (k + j) = itM pg k
  | 0 => rfl
  | j + 1 => by
    show levelM pg (itM pg (k + j)) = _
    rw [it_stop e j]
    unfold levelM
    rw [e]
    show ((itM pg k).1, []) = itM pg k
    rw [← e]
theorem it_same {pg : List Ins} {k j : Nat} (e : (itM pg k).2 = []) (e2 : (itM pg j).2 = []) : (itM pg k).1 = (itM pg j).1 := by
  rcases Nat.le_total k j with h | h
  · obtain ⟨d, rfl⟩ := Nat.exists_eq_add_of_le h
    rw [it_stop e d]
  · obtain ⟨d, rfl⟩ := Nat.exists_eq_add_of_le h
    rw [it_stop e2 d]
def meaM (pg : List Ins) (k : Nat) : Nat := 2 * (pg.length - (itM pg k).1.length) + (if (itM pg k).2 = [] then 0 else 1)
theorem mea_lessM {pg : List Ins} (h : 0 < pg.length) {k : Nat} (e : (itM pg k).2 ≠ []) : meaM pg (k + 1) < meaM pg k := by
  obtain ⟨b, F⟩ := it_ok h (k + 1)
  have few := F.few
  have len := it_len h k
  unfold meaM
  rw [if_neg e]
  by_cases z : (itM pg (k + 1)).2 = []
  · rw [if_pos z, len, z]
    simp only [List.length_nil]
    omega
  · rw [if_neg z]
    have : 0 < (itM pg (k + 1)).2.length := List.length_pos_iff.mpr z
    omega
/-- a dict of indexes -/
def dI (l : List Nat) : List (L2.Key × V) := l.map fun g : Nat => (.inl (g : Int), .bl true)
theorem dI_val (l : List Nat) (g : Nat) : (valV (dI l) (.inl (g : Int))).isSome = decide (g ∈ l) := by
  rw [← valV_any]
  unfold dI
  rw [List.any_map, Bool.eq_iff_iff, List.any_eq_true, decide_eq_true_iff]
  constructor
  · rintro ⟨x, hx, e⟩
    have e := of_decide_eq_true e
    have e : ((x : Nat) : Int) = (g : Int) := Sum.inl.inj e
    exact (by omega : x = g) ▸ hx
  · intro m
    exact ⟨g, m, decide_eq_true rfl⟩
theorem dI_put {l : List Nat} {g : Nat} (h : g ∉ l) : putK (dI l) (.inl (g : Int)) (.bl true) = dI (l ++ [g]) := by
  rw [putK_new]
  · unfold dI
    rw [List.map_append]
    rfl
  · have := dI_val l g
    rw [decide_eq_false h] at this
    exact Option.not_isSome_iff_eq_none.mp (by rw [this]; decide)
theorem dI_len (l : List Nat) : (dI l).length = l.length := List.length_map ..
theorem dI_keys (l : List Nat) : ((dI l).map fun kv => L2.kV kv.1) = (nI l).map V.int := by
  unfold dI nI
  rw [List.map_map, List.map_map]
  rfl
theorem nI_at {l : List Nat} {i : Nat} {x : V} (h : ((nI l).map V.int)[i]? = some x) : ∃ g, l[i]? = some g ∧ x = .int (g : Int) := by
  unfold nI at h
  rw [List.map_map, List.getElem?_map] at h
  cases e : l[i]? with
  | none => rw [e] at h; cases h
  | some g =>
    rw [e] at h
    exact ⟨g, rfl, (Option.some.inj h).symm⟩
theorem take_on {α β : Type} {f : β → α → β} {l : List α} {i : Nat} {g : α} {s : β} (h : l[i]? = some g) : (l.take (i + 1)).foldl f s = f ((l.take i).foldl f s) g := by
  rw [List.take_add_one, h]
  show (l.take i ++ [g]).foldl f s = _
  rw [List.foldl_append]
  rfl
theorem nexts_le {pg : List Ins} {p : Nat} (hp : p < pg.length) (ok : ∀ i ∈ pg, okIns 1000 pg.length i) : ∀ g ∈ nextsM pg p, g ≤ pg.length := by
  intro g hg
  obtain ⟨i, hi⟩ : ∃ i, pg[p]? = some i := ⟨_, List.getElem?_eq_getElem hp⟩
  have o := ok i (List.mem_of_getElem? hi)
  rcases nexts_kinds hi with ⟨rfl, en⟩ | ⟨t, rfl, en⟩ | ⟨t, rfl, en⟩ | ⟨_, _, _, en⟩ <;> rw [en] at hg
  · exact absurd hg List.not_mem_nil
  · rw [List.mem_singleton.mp hg]
    exact o
  · rcases two_mem.mp hg with rfl | rfl
    · omega
    · exact o
  · rw [List.mem_singleton.mp hg]
    omega
section
variable {P : Program} {w : World} {K : PySem.W.Frag} {mg : Str → Option Value} {base : Heap}
/-- a still program that is walked -/
structure WkP (K : PySem.W.Frag) (H : Hp) (v : V) (pg : List Ins) : Prop where
  rp : RPg K H v pg
  pos : 0 < pg.length
  few : pg.length ≤ 30
  ok : ∀ i ∈ pg, okIns 1000 pg.length i
theorem WkP.on {H H' : Hp} {v : V} {pg : List Ins} (s : Same H H') (h : WkP K H v pg) : WkP K H' v pg := ⟨h.rp.on (Same.tups s), h.pos, h.few, h.ok⟩
def spFound (K : PySem.W.Frag) : Sp := fun vs H Q _ => ∃ (v : V) (pg : List Ins), vs = [v] ∧ WkP K H v pg ∧ ∀ H' t k, Same H H' → (itM pg k).2 = [] → H' t = some (.tup ((nI (itM pg k).1).map V.int)) → Q (.ref t) H'
/-- within a level -/
structure LvM (H : Hp) (d l u : Addr) (lev : List Nat) (s : List Nat × List Nat) (H' : Hp) : Prop where
  sm : Same H H'
  ed : H' d = some (.dK (dI s.1))
  el : H' l = some (.lst ((nI lev).map V.int))
  eu : H' u = some (.lst ((nI s.2).map V.int))
theorem LvM.same {H H1 H2 : Hp} {d l u : Addr} {lev : List Nat} {s : List Nat × List Nat} (h : LvM H d l u lev s H1) (e : Same H1 H2) : LvM H d l u lev s H2 := ⟨h.sm.trans e, e _ _ h.ed, e _ _ h.el, e _ _ h.eu⟩
/-- a new index -/
theorem LvM.add {H H1 : Hp} {d l u : Addr} {lev : List Nat} {s : List Nat × List Nat} (h : LvM H d l u lev s H1) (hd : H d = none) (hu : H u = none) (lu : l ≠ u) {g : Nat} (new : g ∉ s.1) :
    LvM H d l u lev (s.1 ++ [g], s.2 ++ [g]) (upd (upd H1 d (.dK (putK (dI s.1) (.inl (g : Int)) (.bl true)))) u (.lst ((nI s.2).map V.int ++ [.int (g : Int)]))) := by
  have du : d ≠ u := ne_of h.ed h.eu (fun z => nomatch z)
  have dl : l ≠ d := ne_of h.el h.ed (fun z => nomatch z)
  refine ⟨fun b o e => ?_, ?_, ?_, ?_⟩
  · rw [upd_ne (ne_of_none e hu), upd_ne (ne_of_none e hd)]
    exact h.sm b o e
  · rw [upd_ne du, upd_same, dI_put new]
  · rw [upd_ne lu, upd_ne dl]
    exact h.el
  · rw [upd_same]
    unfold nI
    rw [List.map_append, List.map_append]
    rfl
end
end RH
set_option Elab.async false
set_option linter.all false
set_option maxRecDepth 100000
set_option maxHeartbeats 2000000
namespace RH
open PySem PySem.Spec PyProof.Rows L2
/-! ### found_in_order -/
section
variable {P : Program} {w : World} {K : PySem.W.Frag} {mg : Str → Option Value} {base : Heap}
theorem ok_found_in_order (F : Df K mg "found_in_order" st_found_in_order ["program"]) (B : Bu mg) (CN : Cal P w K mg base 1 "nexts_of" (spNexts K)) : Cal P w K mg base 2 "found_in_order" (spFound K) := by
  refine mkCal F sc_found_in_order (fun vs H Q E h => ?_) (fun f cdv A outer s H vs Q E hr h => ?_)
  · obtain ⟨v, pg, rfl, _⟩ := h
    rfl
  · obtain ⟨v, pg, rfl, hw, q⟩ := h
    obtain ⟨a, xs, rfl, hS, hE⟩ := id hw.rp
    have hlen := hE.len
    refine ⟨_, pss_cons (ps_set (i := 1) sc_found_in_order.nd rfl (.inl rfl) (pe_disp (pps_cons pe_int pe_bl pps_nil) rfl rfl (fun z => nomatch z) (by decide)))
      (pss_cons (ps_set (i := 2) sc_found_in_order.nd rfl (.inl rfl) (pe_lst (pa_cons pe_int pa_nil)))
      (pss_cons (ps_while PassesOwn.never (pt_truth (pv 2) (by intro _; rfl))
        (pss_cons (ps_set (i := 3) sc_found_in_order.nd rfl (.inl rfl) (pe_lst pa_nil))
        (pss_cons (ps_for PassesOwn.never rfl (pi_list (pv 2)) (pg_name (i := 4) sc_found_in_order.nd rfl (Or.inl rfl))
          (pss_one (ps_for PassesOwn.never rfl (pi_tup (pc CN hr (pa_cons (pv 0) (pa_cons (pv 4) pa_nil)))) (pg_name (i := 5) sc_found_in_order.nd rfl (Or.inl rfl))
            (pss_one (ps_if (PW.pt (pw_and (pt_cmpR op_ne (pv 5) (pe_callB (cl_len K) (by rfl) B.len PySem.boot_len (pa_cons (pv 0) pa_nil)) (nomark _)) (pw_and1 (pt_cmp (pc_dnotin (hu_of hr) (pv 5) (pv 1))))))
              (pss_cons (ps_dput (hu_of hr) (pv 1) (pv 5) pe_bl rfl)
              (pss_one (ps_expr (pe_bm PySem.F.plainAttrs_list PySem.F.slot_list_append PySem.F.type_list_append mt_append (pv 3) (pa_cons (pv 5) pa_nil))))) pss_nil)))))
        (pss_one (ps_set (i := 2) sc_found_in_order.nd rfl (.inl rfl) (pv 3))))))
      (pss_one (ps_ret (pe_tupD rfl (by rfl) B.tuple (pv 1)))))), ?_⟩
    intro d hd
    refine ⟨upd_same, [(.inl 0, .bl true)], rfl, by decide, ?_⟩
    rw [upd_upd]
    have s1 := same_new (o := .dK (dI [0])) hd
    refine ⟨by show 1 ≤ sizeLine; decide, fun l0 hl0 => ?_⟩
    have s2 := s1.trans (same_new (o := .lst [V.int 0]) hl0)
    refine ⟨fun m σ H' => ∃ (k : Nat) (l : Addr), m = meaM pg k ∧ (∃ y3 y4 y5, σ = [some (.ref a), some (.ref d), some (.ref l), y3, y4, y5]) ∧ Same H H' ∧ H' d = some (.dK (dI (itM pg k).1)) ∧ H' l = some (.lst ((nI (itM pg k).2).map V.int)) ∧ H l = none,
      ⟨_, 0, l0, rfl, ⟨none, none, none, rfl⟩, s2, same_new hl0 _ _ upd_same, upd_same, none_ofM s1 hl0⟩, ?_⟩
    rintro m σ H1 ⟨k, l, rfl, ⟨y3, y4, y5, rfl⟩, sm, ed, el, hl⟩
    obtain ⟨bb, Fk⟩ := it_ok hw.pos k
    refine ⟨_, rfl, !((nI (itM pg k).2).map V.int).isEmpty, .inl ⟨_, lstAt el, rfl⟩, ite2 (fun ex => ?_) (fun ex => ?_)⟩
    · have ne : (itM pg k).2 ≠ [] := fun z => by
        rw [z] at ex
        cases ex
      refine ⟨fun σ' H' => ∃ m', m' < meaM pg k ∧ ∃ (k : Nat) (l : Addr), m' = meaM pg k ∧ (∃ y3 y4 y5, σ' = [some (.ref a), some (.ref d), some (.ref l), y3, y4, y5]) ∧ Same H H' ∧ H' d = some (.dK (dI (itM pg k).1)) ∧ H' l = some (.lst ((nI (itM pg k).2).map V.int)) ∧ H l = none, fun _ _ h => h, ?_⟩
      refine ⟨Nat.zero_le _, fun u hu => ?_⟩
      have su := same_new (o := .lst []) hu
      have lu : l ≠ u := ne_of_none el hu
      have huH := none_ofM sm hu
      have L0 : LvM H d l u (itM pg k).2 ((itM pg k).1, []) (upd H1 u (.lst [])) := ⟨sm.trans su, su _ _ ed, su _ _ el, upd_same⟩
      refine ⟨_, rfl, l, rfl, ⟨_, lstAt L0.el⟩, ?_⟩
      refine for_list (xs := (nI (itM pg k).2).map V.int) (fun i σ H' => LvM H d l u (itM pg k).2 (((itM pg k).2.take i).foldl (atM pg) ((itM pg k).1, [])) H' ∧ ∃ y4 y5, σ = [some (.ref a), some (.ref d), some (.ref l), some (.ref u), y4, y5])
        ⟨L0, _, _, rfl⟩ (fun i σ H' _ h' => lstAt h'.1.el) (fun i x σ H2 hx h' => ?_) (fun σ H2 h' => ?_)
      · obtain ⟨L, z4, z5, rfl⟩ := h'
        obtain ⟨p, hp, rfl⟩ := nI_at hx
        have plt : p < pg.length := Fk.lt p (Fk.sub p (List.mem_of_getElem? hp))
        have hw2 := hw.on L.sm
        refine ⟨_, rfl, _, rfl, _, pg, p, rfl, hw2.rp, plt, hw.few, hw.ok, fun H3 t s3 ht => ?_⟩
        have L3 := L.same s3
        have Fi : GdM pg.length (itM pg k).1.length (((itM pg k).2.take i).foldl (atM pg) ((itM pg k).1, [])) := GdM.ats _ Fk.zero
        rw [show (LvM H d l u (itM pg k).2 (((itM pg k).2.take (i + 1)).foldl (atM pg) ((itM pg k).1, []))) = LvM H d l u (itM pg k).2 (atM pg (((itM pg k).2.take i).foldl (atM pg) ((itM pg k).1, [])) p) from by rw [take_on hp]]
        generalize (((itM pg k).2.take i).foldl (atM pg) ((itM pg k).1, [])) = S0 at L3 Fi ⊢
        refine ⟨t, rfl, ⟨_, tupAt ht⟩, ?_⟩
        refine for_tup (xs := (nI (nextsM pg p)).map V.int) (fun j σ H' => LvM H d l u (itM pg k).2 (((nextsM pg p).take j).foldl (goalM pg.length) S0) H' ∧ H' t = some (.tup ((nI (nextsM pg p)).map V.int)) ∧ ∃ y5, σ = [some (.ref a), some (.ref d), some (.ref l), some (.ref u), some (.int (p : Int)), y5])
          ⟨L3, ht, _, rfl⟩ (fun j σ H' _ h' => tupAt h'.2.1) (fun j x2 σ H4 hx2 h' => ?_) (fun σ H4 h' => ?_)
        · obtain ⟨L4, ht4, z5, rfl⟩ := h'
          obtain ⟨g, hg, rfl⟩ := nI_at hx2
          have gle := nexts_le plt hw.ok g (List.mem_of_getElem? hg)
          have Fj : GdM pg.length (itM pg k).1.length (((nextsM pg p).take j).foldl (goalM pg.length) S0) := GdM.goals _ Fi
          rw [show (LvM H d l u (itM pg k).2 (((nextsM pg p).take (j + 1)).foldl (goalM pg.length) S0)) = LvM H d l u (itM pg k).2 (goalM pg.length (((nextsM pg p).take j).foldl (goalM pg.length) S0) g) from by rw [take_on hg]]
          generalize (((nextsM pg p).take j).foldl (goalM pg.length) S0) = S1 at L4 Fj ⊢
          have few := Fj.few
          have flen := Fj.len
          have hfew := hw.few
          refine ⟨_, rfl, _, rfl, a, xs, rfl, .inr (onT L4.sm hS), rfl, _, rfl, ?_⟩
          rw [hlen, dec_int]
          have old : ∀ (c : ¬ (g < pg.length ∧ g ∉ S1.1)), goalM pg.length S1 g = S1 := fun c => by
            unfold goalM
            rw [if_neg c]
          by_cases eg : g = pg.length
          · have e1 : (!((g : Int) == (pg.length : Int))) = false := by rw [eg]; simp
            rw [e1]
            refine ifF rfl (ifF rfl ⟨?_, ht4, _, rfl⟩)
            rw [old (fun c => by omega)]
            exact L4
          · have e1 : (!((g : Int) == (pg.length : Int))) = true := by
              rw [Bool.not_eq_true', beq_eq_false_iff_ne]
              omega
            rw [e1]
            refine ifT rfl ⟨_, rfl, _, rfl, d, _, rfl, DGet.k (k := .inl (g : Int)) L4.ed, _, rfl, ?_⟩
            by_cases mem : g ∈ S1.1
            · refine ifF (by show (!(valV (dI S1.1) (.inl (g : Int))).isSome) = false; rw [dI_val, decide_eq_true mem]; rfl) ⟨?_, ht4, _, rfl⟩
              rw [old (fun c => c.2 mem)]
              exact L4
            · refine ifT (by show (!(valV (dI S1.1) (.inl (g : Int))).isSome) = true; rw [dI_val, decide_eq_false mem]; rfl) ?_
              refine ⟨_, rfl, _, rfl, d, _, rfl, DPut.k (k := .inl (g : Int)) L4.ed (by rw [dI_len]; exact small1000 (by omega)), ?_⟩
              have du : u ≠ d := ne_of L4.eu L4.ed (fun z => nomatch z)
              refine ⟨_, rfl, .inl ⟨rfl, _, lstAt (by rw [upd_ne du]; exact L4.eu)⟩, _, rfl, u, _, _, rfl, rfl, by rw [upd_ne du]; exact L4.eu, by rw [List.length_map, nI_len]; exact small1000 (by omega), ⟨?_, ?_, _, rfl⟩⟩
              · have new : goalM pg.length S1 g = (S1.1 ++ [g], S1.2 ++ [g]) := by
                  unfold goalM
                  rw [if_pos ⟨by omega, mem⟩]
                rw [new]
                exact L4.add hd huH lu mem
              · rw [upd_ne (ne_of ht4 L4.eu (fun z => nomatch z)), upd_ne (ne_of ht4 L4.ed (fun z => nomatch z))]
                exact ht4
        · obtain ⟨L4, _, z5, rfl⟩ := h'
          rw [List.length_map, nI_len, List.take_length] at L4
          exact ⟨L4, _, _, rfl⟩
      · obtain ⟨L, z4, z5, rfl⟩ := h'
        rw [List.length_map, nI_len, List.take_length] at L
        refine ⟨_, rfl, meaM pg (k + 1), mea_lessM hw.pos ne, k + 1, u, rfl, ⟨_, _, _, rfl⟩, L.sm, L.ed, L.eu, huH⟩
    · have e : (itM pg k).2 = [] := by
        cases z : (itM pg k).2 with
        | nil => rfl
        | cons y ys =>
          rw [z] at ex
          exact absurd rfl ex
      refine ⟨_, rfl, d, _, rfl, ed, fun t ht => q _ t k (sm.trans (same_new ht)) e ?_⟩
      rw [upd_same, dI_keys]
end
end RH
set_option Elab.async false
set_option linter.all false
set_option maxRecDepth 100000
set_option maxHeartbeats 2000000
namespace RH
open PySem PySem.Spec PyProof.Rows L2
/-! ### is_access, reached_of, names_used -/
def accB : Ins → Bool
  | .get _ => true | .set _ => true | .plus _ => true | .minus _ => true
  | _ => false
theorem acc_in (i : Ins) : inV (.str i.word) (accZ.map V.str) = accB i := by
  cases i <;> (simp only [Ins.word, accB]; decide +kernel)
theorem acc_pl {i : Ins} (h : accB i = true) : ∃ k, i.pl = some k ∧ i.num = [(k : Int)] := by
  cases i <;> first | exact ⟨_, rfl, rfl⟩ | cases h
/-- the indexes that are reached, rising -/
def RcM (pg : List Ins) (rs : List Nat) : Prop := ∃ k, (itM pg k).2 = [] ∧ rs.Perm (itM pg k).1 ∧ rs.Pairwise (· < ·)
theorem up_eqN {xs ys : List Nat} (hx : xs.Pairwise (· < ·)) (hy : ys.Pairwise (· < ·)) (h : ∀ k, k ∈ xs ↔ k ∈ ys) : xs = ys := by
  have e : nI xs = nI ys := up_eq (nI_up hx) (nI_up hy) fun k => by
    constructor
    · intro m
      obtain ⟨i, m2, rfl⟩ := nI_of m
      exact nI_mem.mpr ((h i).mp m2)
    · intro m
      obtain ⟨i, m2, rfl⟩ := nI_of m
      exact nI_mem.mpr ((h i).mpr m2)
  unfold nI at e
  exact List.map_inj_right (fun a b z => by omega) |>.mp e
theorem RcM.same {pg : List Ins} {rs ss : List Nat} (h1 : RcM pg rs) (h2 : RcM pg ss) : rs = ss := by
  obtain ⟨k, e, p, u⟩ := h1
  obtain ⟨k2, e2, p2, u2⟩ := h2
  refine up_eqN u u2 fun x => ?_
  rw [p.mem_iff, p2.mem_iff, it_same e e2]
theorem RcM.lt {pg : List Ins} {rs : List Nat} (h : RcM pg rs) (pos : 0 < pg.length) : ∀ p ∈ rs, p < pg.length := fun p m => by
  obtain ⟨k, _, q, _⟩ := h
  obtain ⟨b, F⟩ := it_ok pos k
  exact F.lt p (q.mem_iff.mp m)
theorem RcM.few {pg : List Ins} {rs : List Nat} (h : RcM pg rs) (pos : 0 < pg.length) : rs.length ≤ pg.length := by
  obtain ⟨k, _, q, _⟩ := h
  obtain ⟨b, F⟩ := it_ok pos k
  rw [q.length_eq]
  exact F.few
/-- sorted indexes -/
theorem sort_rc {pg : List Ins} {k : Nat} (pos : 0 < pg.length) (e : (itM pg k).2 = []) {ns : List Int} (p : ns.Perm (nI (itM pg k).1)) (u : ns.Pairwise (· ≤ ·)) : ∃ rs, ns = nI rs ∧ RcM pg rs := by
  obtain ⟨b, F⟩ := it_ok pos k
  have e1 : ns = nI (ns.map Int.toNat) := by
    unfold nI
    rw [List.map_map]
    conv => lhs; rw [← List.map_id ns]
    refine List.map_congr_left fun x hx => ?_
    obtain ⟨i, _, rfl⟩ := nI_of (p.mem_iff.mp hx)
    rfl
  refine ⟨ns.map Int.toNat, e1, k, e, ?_, ?_⟩
  · have := p.map Int.toNat
    unfold nI at this
    rw [List.map_map] at this
    have e2 : (List.map (Int.toNat ∘ fun i : Nat => (i : Int)) (itM pg k).1) = (itM pg k).1 := by
      conv => rhs; rw [← List.map_id (itM pg k).1]
      exact List.map_congr_left fun x _ => rfl
    rwa [e2] at this
  · have nd : ns.Nodup := p.nodup_iff.mpr (by
      unfold nI
      exact (List.nodup_iff_pairwise_ne.mp F.nd |>.map (R := (· ≠ ·)) (S := (· ≠ ·)) (fun i : Nat => (i : Int)) (fun a b z w => z (by omega))))
    have u2 : ns.Pairwise (· < ·) := (u.and nd).imp fun r => by omega
    rw [e1] at u2
    unfold nI at u2
    rw [List.pairwise_map] at u2
    exact u2.imp fun r => by omega
section
variable {P : Program} {w : World} {K : PySem.W.Frag} {mg : Str → Option Value} {base : Heap}
def spAccess (K : PySem.W.Frag) : Sp := fun vs H Q _ => ∃ (v : V) (i : Ins), vs = [v] ∧ RIns K H v i ∧ Q (.bl (accB i)) H
theorem ok_is_access (F : Df K mg "is_access" st_is_access ["instruction"]) (acc : CTup K mg "ACCESSES" accZ) : Cal P w K mg base 1 "is_access" (spAccess K) := by
  obtain ⟨aa, ga, ha⟩ := acc.at
  refine mkCal F sc_is_access (fun vs H Q E h => ?_) (fun f cdv A outer s H vs Q E hr h => ?_)
  · obtain ⟨v, i, rfl, _⟩ := h
    rfl
  · obtain ⟨v, i, rfl, ⟨a, rfl, hS⟩, q⟩ := h
    refine ⟨_, pss_one (ps_ret (pe_cmpR (opIn K) (pe_ix (ixT K) (pv 0) pe_int (fun _ _ => rfl)) (pe_glob (v := .ref aa) (by rfl) ga (by rfl)) rfl)), ?_⟩
    refine ⟨_, rfl, a, _, 0, .str i.word, rfl, rfl, hS, atI_nat (j := 0) rfl, aa, _, rfl, .inr (ha _), rfl, by decide, ?_⟩
    rw [acc_in]
    exact q
def spReached (K : PySem.W.Frag) : Sp := fun vs H Q _ => ∃ (v : V) (pg : List Ins), vs = [v] ∧ WkP K H v pg ∧ ∀ H' t rs, Same H H' → RcM pg rs → H' t = some (.tup ((nI rs).map V.int)) → Q (.ref t) H'
theorem ok_reached_of (F : Df K mg "reached_of" st_reached_of ["program"]) (B : Bu mg) (CF : Cal P w K mg base 2 "found_in_order" (spFound K)) : Cal P w K mg base 3 "reached_of" (spReached K) := by
  refine mkCal F sc_reached_of (fun vs H Q E h => ?_) (fun f cdv A outer s H vs Q E hr h => ?_)
  · obtain ⟨v, pg, rfl, _⟩ := h
    rfl
  · obtain ⟨v, pg, rfl, hw, q⟩ := h
    refine ⟨_, pss_one (ps_ret (pe_tupleOf (by rfl) B.tuple (pe_callB cr_sortedTup (by rfl) B.sorted (by decide +kernel) (pa_cons (pc CF hr (pa_cons (pv 0) pa_nil)) pa_nil)))), ?_⟩
    refine ⟨_, rfl, v, pg, rfl, hw, fun H1 t k s1 e ht => ?_⟩
    obtain ⟨b, Fk⟩ := it_ok hw.pos k
    have few := Fk.few
    have few2 := hw.few
    refine ⟨t, _, rfl, tupAt ht, by rw [nI_len]; omega, fun ns l p u hl => .inl ⟨l, _, rfl, lstAt upd_same, fun t2 ht2 => ?_⟩⟩
    obtain ⟨rs, rfl, R⟩ := sort_rc hw.pos e p u
    exact q _ t2 rs (s1.trans ((same_new hl).trans (same_new ht2))) R upd_same
/-- the names that a program's accesses tell -/
def usedM (pg : List Ins) (rs : List Nat) (k : Int) : Prop := ∃ p ∈ rs, ∃ i m, pg[p]? = some i ∧ accB i = true ∧ i.pl = some m ∧ k = (m : Int)
def acAt (pg : List Ins) (p : Nat) : Option Ins := match pg[p]? with
  | some i => if accB i = true then some i else none
  | none => none
def acs (pg : List Ins) (L : List Nat) : List Ins := L.filterMap (acAt pg)
def nms (l : List Ins) : List Int := l.flatMap Ins.num
theorem acs_more {pg : List Ins} {L : List Nat} {j p : Nat} (h : L[j]? = some p) : acs pg (L.take (j + 1)) = acs pg (L.take j) ++ (match acAt pg p with | some i => [i] | none => []) := by
  unfold acs
  rw [List.take_add_one, h, List.filterMap_append]
  congr 1
  show List.filterMap (acAt pg) [p] = _
  rw [List.filterMap_cons]
  cases acAt pg p <;> rfl
theorem acs_len (pg : List Ins) (L : List Nat) : (acs pg L).length ≤ L.length := List.length_filterMap_le ..
theorem acs_acc {pg : List Ins} {L : List Nat} : ∀ i ∈ acs pg L, accB i = true := fun i m => by
  obtain ⟨p, _, e⟩ := List.mem_filterMap.mp m
  unfold acAt at e
  split at e
  · split at e
    · cases e
      assumption
    · cases e
  · cases e
theorem nms_mem {pg : List Ins} {L : List Nat} {k : Int} : k ∈ nms (acs pg L) ↔ usedM pg L k := by
  unfold nms usedM
  rw [List.mem_flatMap]
  constructor
  · rintro ⟨i, m, hk⟩
    have ha := acs_acc i m
    obtain ⟨p, hp, e⟩ := List.mem_filterMap.mp m
    obtain ⟨n, e1, e2⟩ := acc_pl ha
    rw [e2] at hk
    unfold acAt at e
    cases q : pg[p]? with
    | none => rw [q] at e; cases e
    | some i2 =>
      rw [q] at e
      dsimp only at e
      split at e
      · cases e
        exact ⟨p, hp, i, n, q, ha, e1, List.mem_singleton.mp hk⟩
      · cases e
  · rintro ⟨p, hp, i, n, q, ha, e1, rfl⟩
    refine ⟨i, List.mem_filterMap.mpr ⟨p, hp, ?_⟩, ?_⟩
    · unfold acAt
      rw [q]
      dsimp only
      rw [if_pos ha]
    · obtain ⟨n2, e3, e4⟩ := acc_pl ha
      rw [e1] at e3
      cases e3
      rw [e4]
      exact List.mem_singleton_self _
theorem used_perm {pg : List Ins} {L M : List Nat} (h : L.Perm M) {k : Int} : usedM pg L k ↔ usedM pg M k := by
  unfold usedM
  exact ⟨fun ⟨p, m, r⟩ => ⟨p, h.mem_iff.mp m, r⟩, fun ⟨p, m, r⟩ => ⟨p, h.mem_iff.mpr m, r⟩⟩
theorem used_rc {pg : List Ins} {k : Nat} {rs : List Nat} (e : (itM pg k).2 = []) (R : RcM pg rs) (x : Int) : usedM pg (itM pg k).1 x ↔ usedM pg rs x := by
  obtain ⟨k2, e2, p, _⟩ := R
  rw [it_same e e2]
  exact (used_perm p).symm
def spUsed (K : PySem.W.Frag) : Sp := fun vs H Q _ => ∃ (v : V) (pg : List Ins), vs = [v] ∧ WkP K H v pg ∧ ∀ H' t (ns : List Int), Same H H' → ns.Pairwise (· < ·) → (∀ rs, RcM pg rs → ∀ k : Int, k ∈ ns ↔ usedM pg rs k) → H' t = some (.tup (ns.map V.int)) → Q (.ref t) H'
theorem ok_names_used (F : Df K mg "names_used" st_names_used ["program"]) (B : Bu mg) (CA : Cal P w K mg base 1 "is_access" (spAccess K)) (CF : Cal P w K mg base 2 "found_in_order" (spFound K)) : Cal P w K mg base 3 "names_used" (spUsed K) := by
  refine mkCal F sc_names_used (fun vs H Q E h => ?_) (fun f cdv A outer s H vs Q E hr h => ?_)
  · obtain ⟨v, pg, rfl, _⟩ := h
    rfl
  · obtain ⟨v, pg, rfl, hw, q⟩ := h
    obtain ⟨a, xs, rfl, hS, hE⟩ := id hw.rp
    refine ⟨_, pss_cons (ps_setLc (i := 1) (own := [("at", 2)]) (g := gName 2) rfl sc_names_used.nd rfl rfl (sw_true rfl rfl rfl (by decide +kernel)) (pi_tup (pc CF hr (pa_cons (pv 0) pa_nil)))
        (blkOk_by (N := ["program", "accesses", "at", "_", "name"]) (sc := defScope st_names_used) (by decide +kernel)) (fun _ _ _ _ _ => pg_name (i := 2) sc_names_used.nd rfl (Or.inl rfl))
        (fun _ _ _ _ _ => pts_one (pt_val (pc CA hr (pa_cons (pe_ix (ixT K) (pv 0) (pv 2) (fun _ _ => rfl)) pa_nil)))) (fun _ _ _ _ _ => pe_ix (ixT K) (pv 0) (pv 2) (fun _ _ => rfl)))
      (pss_one (ps_ret (pe_tupleOf (by rfl) B.tuple (pe_callB (cr_sortedSet rfl) (by rfl) B.sorted (by decide +kernel) (pa_cons (pe_scI (own := [("_", 3), ("name", 4)]) (g := gTup K 2 (gCons (gName 3) (gCons (gName 4) gNil))) (tt := tYes) rfl sc_names_used.nd (pi_list (pv 1))
        (blkOk_by (N := ["program", "accesses", "at", "_", "name"]) (sc := defScope st_names_used) (by decide +kernel)) (fun _ _ _ _ _ => pg_tup rfl (pgs_cons (pg_name (i := 3) sc_names_used.nd rfl (Or.inl rfl)) (pgs_cons (pg_name (i := 4) sc_names_used.nd rfl (Or.inl rfl)) pgs_nil)))
        (fun _ _ _ _ _ => pts_nil) (fun _ _ _ _ _ => pv 4)) pa_nil))))), ?_⟩
    refine ⟨_, rfl, _, pg, rfl, hw, fun H1 t k s1 e ht => ⟨t, rfl, ⟨_, tupAt ht⟩, fun D hD => ?_⟩⟩
    obtain ⟨b, Fk⟩ := it_ok hw.pos k
    have few := Fk.few
    have few2 := hw.few
    have flt : ∀ g ∈ (itM pg k).1, g < pg.length := Fk.lt
    generalize eL : (itM pg k).1 = L at ht flt few
    refine lc_tup (xs := (nI L).map V.int) (fun i H' => Same H1 H' ∧ ∃ vs, H' D = some (.lst vs) ∧ Each (RIns K H') vs (acs pg (L.take i))) ⟨same_new hD, [], upd_same, .nil⟩ (fun i H' _ h' => tupAt (h'.1 _ _ ht)) (fun i x H' hx h' => ?_) (fun H' h' => ?_)
    · obtain ⟨g, hg, rfl⟩ := nI_at hx
      obtain ⟨sm, vs, eD, ev⟩ := h'
      have glt := flt g (List.mem_of_getElem? hg)
      obtain ⟨i0, hi⟩ : ∃ i0, pg[g]? = some i0 := ⟨_, List.getElem?_eq_getElem glt⟩
      have s12 := s1.trans sm
      obtain ⟨y, hy, r⟩ := hE.of hi
      have r2 := r.on (Same.tups s12)
      have am := acs_more (pg := pg) hg
      have e0 : acAt pg g = if accB i0 = true then some i0 else none := by
        unfold acAt
        rw [hi]
      refine ⟨rfl, _, rfl, _, rfl, a, xs, (g : Int), y, rfl, rfl, onT s12 hS, atI_nat hy, y, i0, rfl, r2, _, rfl, ?_⟩
      have keep : (Same H1 H' ∧ ∃ vs, H' D = some (.lst vs) ∧ Each (RIns K H') vs (acs pg (L.take i))) := ⟨sm, vs, eD, ev⟩
      cases ea : accB i0 with
      | false =>
        rw [ea, if_neg (by decide)] at e0
        rw [e0, List.append_nil] at am
        show Same H1 H' ∧ ∃ vs, H' D = some (.lst vs) ∧ Each (RIns K H') vs (acs pg (L.take (i + 1)))
        rw [am]
        exact keep
      | true =>
        rw [ea, if_pos rfl] at e0
        rw [e0] at am
        have lv : vs.length < sizeLine := by
          have z1 := ev.len
          have z2 := acs_len pg (L.take i)
          rw [List.length_take] at z2
          exact small1000 (by omega)
        refine ⟨_, rfl, _, rfl, a, xs, (g : Int), y, rfl, rfl, onT s12 hS, atI_nat hy, vs, eD, lv, ?_⟩
        show Same H1 (upd H' D (.lst (vs ++ [y]))) ∧ ∃ vs2, (upd H' D (.lst (vs ++ [y]))) D = some (.lst vs2) ∧ Each (RIns K (upd H' D (.lst (vs ++ [y])))) vs2 (acs pg (L.take (i + 1)))
        have tk : Tups K H' (upd H' D (.lst (vs ++ [y]))) := (Fix.lst eD).tups
        refine ⟨fun b o eb => ?_, vs ++ [y], upd_same, ?_⟩
        · rw [upd_ne (ne_of_none eb hD)]
          exact sm b o eb
        · rw [am]
          exact (ev.imp fun _ _ z => z.on tk).appM (.cons (r2.on tk) .nil)
    · obtain ⟨sm, vs, eD, ev⟩ := h'
      rw [List.length_map, nI_len, List.take_length] at ev
      have s12 := s1.trans sm
      have lv : vs.length ≤ 30 := by
        have z1 := ev.len
        have z2 := acs_len pg L
        omega
      refine ⟨_, rfl, D, rfl, ⟨_, lstAt eD⟩, fun D2 hD2 => ?_⟩
      refine lstScI (xs := vs) (fun i H2 => Same H' H2 ∧ ∃ n, n ≤ i ∧ H2 D2 = some (SetO w D2 (fun j => decide (j ∈ nms ((acs pg L).take i))) n)) ⟨same_new hD2, 0, Nat.le_refl _, upd_same⟩ (fun i H2 _ h2 => lstAt (h2.1 _ _ eD)) (fun i x H2 hx h2 => ?_) (fun H2 h2 => ?_)
      · obtain ⟨sm2, n, hn, e2⟩ := h2
        have ilt := (List.getElem?_eq_some_iff.mp hx).1
        obtain ⟨i0, hi0, r⟩ := (ev.imp fun _ _ z => z.on (Same.tups sm2)).at hx
        obtain ⟨m, em1, em2⟩ := acc_pl (acs_acc i0 (List.mem_of_getElem? hi0))
        obtain ⟨c, rfl, hc⟩ := r
        rw [em2] at hc
        refine ⟨c, _, rfl, hc, rfl, _, _, rfl, _, _, rfl, rfl, rfl, _, rfl, (m : Int), _, n, rfl, e2, Nat.lt_of_le_of_lt (show n + 1 ≤ 40 by omega) (by decide), ?_⟩
        refine ⟨fun b o eb => ?_, if decide ((m : Int) ∈ nms ((acs pg L).take i)) = true then n else n + 1, ?_, ?_⟩
        rotate_right
        · rw [upd_same]
          congr 2
          funext j
          have en : nms ((acs pg L).take (i + 1)) = nms ((acs pg L).take i) ++ [(m : Int)] := by
            unfold nms
            rw [List.take_add_one, hi0, List.flatMap_append]
            show _ ++ (List.flatMap Ins.num [i0]) = _
            rw [List.flatMap_cons, List.flatMap_nil, List.append_nil, em2]
          rw [en, Bool.eq_iff_iff]
          simp only [Bool.or_eq_true, decide_eq_true_iff, List.mem_append, List.mem_singleton]
        · rw [upd_ne (ne_of_none eb hD2)]
          exact sm2 b o eb
        · split <;> omega
      · obtain ⟨sm2, n, hn, e2⟩ := h2
        have full : (acs pg L).take vs.length = acs pg L := List.take_of_length_le (by have := ev.len; omega)
        rw [full] at e2
        refine ⟨D2, _, n, rfl, e2, by omega, fun ns l up mem len hl => .inl ⟨l, _, rfl, lstAt upd_same, fun t2 ht2 => ?_⟩⟩
        refine q _ t2 ns (s12.trans (sm2.trans ((same_new hl).trans (same_new ht2)))) up (fun rs R x => ?_) upd_same
        rw [mem, decide_eq_true_iff, nms_mem, ← eL, used_rc e R]
end
end RH
set_option Elab.async false
set_option linter.all false
set_option maxRecDepth 100000
set_option maxHeartbeats 2000000
namespace RH
open PySem PySem.Spec PyProof.Rows L2
/-! ### flow_of -/
section
variable {K : PySem.W.Frag} {g g1 : TG} {tt tt1 : TT} {te : TE} {vs vs1 : List Nat} {σ : L2.St} {D : Addr}
/-- a turn of the second clause adds what it makes -/
def addL (D : Addr) (Nx : Hp → Prop) : VK := fun y H => ∃ acc, H D = some (.lst acc) ∧ acc.length < sizeLine ∧ Nx (upd H D (.lst (acc ++ [y])))
theorem in_tupL {σ2 : L2.St} {H4 : Hp} {b : Addr} {ys : List V} {Nx : Hp → Prop} (at_ : Nat → Hp → Prop) (start : at_ 0 H4) (stay : ∀ j H, j ≤ ys.length → at_ j H → SqT K H b ys)
    (turn : ∀ j y H, ys[j]? = some y → at_ j H → g1 y (wipe σ2 vs1) H fun σ3 H5 => wipe σ3 vs1 = wipe σ2 vs1 ∧ tt1 σ3 H5 fun c H6 => if c = true then te σ3 H6 (addL D (at_ (j + 1))) else at_ (j + 1) H6) (last : ∀ H, at_ ys.length H → Nx H) :
    ∃ W1 : Nat → Nat → Hp → Prop, (∃ m, W1 0 m H4) ∧ ∀ j k H, W1 j k H → ((Itt K b).stop j H ∧ Nx H) ∨ ((Itt K b).go j H ∧ ∃ Nx1 : Hp → Prop, (∀ H', Nx1 H' → ∃ k', k' < k ∧ W1 (j + 1) k' H') ∧
      ∀ x H', (Itt K b).yld j H x H' → g1 x (wipe σ2 vs1) H' fun σ3 H5 => wipe σ3 vs1 = wipe σ2 vs1 ∧ tt1 σ3 H5 fun c H6 => if c = true then te σ3 H6 (addL D Nx1) else Nx1 H6) := by
  refine ⟨fun j k H => k + j = ys.length ∧ at_ j H, ⟨ys.length, rfl, start⟩, fun j k H h => ?_⟩
  obtain ⟨e, p⟩ := h
  have q := stay j H (by omega) p
  cases k with
  | zero =>
    obtain rfl : j = ys.length := by omega
    exact .inl ⟨⟨ys, q, Nat.le_refl _⟩, last H p⟩
  | succ k =>
    have lt : j < ys.length := by omega
    refine .inr ⟨⟨ys, ys[j], q, List.getElem?_eq_getElem lt⟩, at_ (j + 1), fun H' p' => ⟨k, Nat.lt_succ_self k, by omega, p'⟩, fun x H' y => ?_⟩
    obtain ⟨rfl, y⟩ := y
    exact turn j x _ (y ys q) p
theorem out_tupL {H1 : Hp} {a : Addr} {xs : List V} {Qd : Hp → Prop} (body : (Hp → Prop) → L2.St → Hp → Prop) (at_ : Nat → Hp → Prop) (start : at_ 0 (upd H1 D (.lst []))) (stay : ∀ i H, i ≤ xs.length → at_ i H → SqT K H a xs)
    (turn : ∀ i x H, xs[i]? = some x → at_ i H → g x (wipe σ vs) H fun σ2 H2 => wipe σ2 vs = wipe σ vs ∧ tt σ2 H2 fun c H3 => if c = true then body (at_ (i + 1)) σ2 H3 else at_ (i + 1) H3) (last : ∀ H, at_ xs.length H → Qd H) :
    ∃ W : Nat → Nat → Hp → Prop, (∃ m, W 0 m (upd H1 D (.lst []))) ∧ ∀ i m H, W i m H → ((Itt K a).stop i H ∧ Qd H) ∨ ((Itt K a).go i H ∧ ∃ Nx : Hp → Prop, (∀ H', Nx H' → ∃ m', m' < m ∧ W (i + 1) m' H') ∧
      ∀ x H', (Itt K a).yld i H x H' → g x (wipe σ vs) H' fun σ2 H2 => wipe σ2 vs = wipe σ vs ∧ tt σ2 H2 fun c H3 => if c = true then body Nx σ2 H3 else Nx H3) := by
  refine ⟨fun i m H => m + i = xs.length ∧ at_ i H, ⟨xs.length, rfl, start⟩, fun i m H h => ?_⟩
  obtain ⟨e, p⟩ := h
  have q := stay i H (by omega) p
  cases m with
  | zero =>
    obtain rfl : i = xs.length := by omega
    exact .inl ⟨⟨xs, q, Nat.le_refl _⟩, last H p⟩
  | succ m =>
    have lt : i < xs.length := by omega
    refine .inr ⟨⟨xs, xs[i], q, List.getElem?_eq_getElem lt⟩, at_ (i + 1), fun H' p' => ⟨m, Nat.lt_succ_self m, by omega, p'⟩, fun x H' y => ?_⟩
    obtain ⟨rfl, y⟩ := y
    exact turn i x _ (y xs q) p
end
/-- the pairs of an index and one that may come behind it -/
def flw (pg : List Ins) (rs : List Nat) : List (Nat × Nat) := rs.flatMap fun p => (nextsM pg p).map fun g => (p, g)
def PrI (K : PySem.W.Frag) (H : Hp) (v : V) (pr : Nat × Nat) : Prop := ∃ a, v = .ref a ∧ SqT K H a [.int (pr.1 : Int), .int (pr.2 : Int)]
theorem PrI.on {K : PySem.W.Frag} {H H' : Hp} (e : Tups K H H') {v : V} {pr : Nat × Nat} (r : PrI K H v pr) : PrI K H' v pr := by
  obtain ⟨a, rfl, h⟩ := r
  exact ⟨a, rfl, e _ _ h⟩
theorem flw_more {pg : List Ins} {rs : List Nat} {i p : Nat} (h : rs[i]? = some p) : flw pg (rs.take (i + 1)) = flw pg (rs.take i) ++ (nextsM pg p).map fun g => (p, g) := by
  unfold flw
  rw [List.take_add_one, h, List.flatMap_append]
  congr 1
  show List.flatMap _ [p] = _
  rw [List.flatMap_cons, List.flatMap_nil, List.append_nil]
theorem flw_len (pg : List Ins) : ∀ rs : List Nat, (flw pg rs).length ≤ 2 * rs.length
  | [] => Nat.le_refl _
  | p :: rs => by
    have h1 := flw_len pg rs
    have h2 := nexts_few pg p
    have e : flw pg (p :: rs) = ((nextsM pg p).map fun g => (p, g)) ++ flw pg rs := rfl
    rw [e, List.length_append, List.length_map, List.length_cons]
    omega
section
variable {P : Program} {w : World} {K : PySem.W.Frag} {mg : Str → Option Value} {base : Heap}
def spFlow (K : PySem.W.Frag) : Sp := fun vs H Q _ => ∃ (v : V) (pg : List Ins), vs = [v] ∧ WkP K H v pg ∧ ∀ H' t us rs, Same H H' → RcM pg rs → H' t = some (.tup us) → Each (PrI K H') us (flw pg rs) → Q (.ref t) H'
theorem ok_flow_of (F : Df K mg "flow_of" st_flow_of ["program"]) (B : Bu mg) (CN : Cal P w K mg base 1 "nexts_of" (spNexts K)) (CR : Cal P w K mg base 3 "reached_of" (spReached K)) : Cal P w K mg base 4 "flow_of" (spFlow K) := by
  refine mkCal F sc_flow_of (fun vs H Q E h => ?_) (fun f cdv A outer s H vs Q E hr h => ?_)
  · obtain ⟨v, pg, rfl, _⟩ := h
    rfl
  · obtain ⟨v, pg, rfl, hw, q⟩ := h
    refine ⟨_, pss_one (ps_ret (pe_tupleOf (by rfl) B.tuple (pe_lc2 (own := [("at", 1), ("goal", 2)]) (vs1 := [2]) (wi1 := iTup K (tCall (spNexts K) [] E0 (tCons (tVar 0) (tCons (tVar 1) tNil)))) (g := gName 1) (tt := tYes) (g1 := gName 2) (tt1 := tYes) rfl sc_flow_of.nd (pi_tup (pc CR hr (pa_cons (pv 0) pa_nil)))
      (blkOk_by (N := ["program", "at", "goal"]) (sc := defScope st_flow_of) (by decide +kernel)) (by decide) (fun _ _ _ _ _ => pg_name (i := 1) sc_flow_of.nd rfl (Or.inl rfl)) (fun _ _ _ _ _ => pts_nil)
      (fun _ _ _ _ _ => pi_tup (pc CN hr (pa_cons (pv 0) (pa_cons (pv 1) pa_nil)))) (fun _ _ _ _ _ => pg_name (i := 2) sc_flow_of.nd rfl (Or.inl rfl)) (fun _ _ _ _ _ => pts_nil)
      (fun _ _ _ _ _ => pe_tup (pa_cons (pv 1) (pa_cons (pv 2) pa_nil)))))), ?_⟩
    refine ⟨_, rfl, v, pg, rfl, hw, fun H1 t rs s1 R ht => ⟨t, rfl, ⟨_, tupAt ht⟩, fun D hD => ?_⟩⟩
    have few := R.few hw.pos
    have few2 := hw.few
    refine out_tupL (xs := (nI rs).map V.int) _ (fun i H' => Same H1 H' ∧ ∃ us, H' D = some (.lst us) ∧ Each (PrI K H') us (flw pg (rs.take i))) ⟨same_new hD, [], upd_same, .nil⟩ (fun i H' _ h' => tupAt (h'.1 _ _ ht)) (fun i x H' hx h' => ?_) (fun H' h' => ?_)
    · obtain ⟨p, hp, rfl⟩ := nI_at hx
      obtain ⟨sm, us, eD, eu⟩ := h'
      have plt := R.lt hw.pos p (List.mem_of_getElem? hp)
      have hw2 := hw.on (s1.trans sm)
      refine ⟨rfl, ?_⟩
      refine ⟨_, rfl, _, rfl, v, pg, p, rfl, hw2.rp, plt, hw.few, hw.ok, fun H2 b s2 hb => ⟨b, rfl, ⟨_, tupAt hb⟩, ?_⟩⟩
      refine in_tupL (ys := (nI (nextsM pg p)).map V.int) (fun j H3 => Same H1 H3 ∧ H3 b = some (.tup ((nI (nextsM pg p)).map V.int)) ∧ ∃ us, H3 D = some (.lst us) ∧ Each (PrI K H3) us (flw pg (rs.take i) ++ ((nextsM pg p).take j).map fun g => (p, g)))
        ⟨sm.trans s2, hb, us, s2 _ _ eD, by rw [List.take_zero, List.map_nil, List.append_nil]; exact eu.imp fun _ _ z => z.on (Same.tups s2)⟩ (fun j H3 _ h3 => tupAt h3.2.1) (fun j y H3 hy h3 => ?_) (fun H3 h3 => ?_)
      · obtain ⟨gg, hg, rfl⟩ := nI_at hy
        obtain ⟨sm3, hb3, us3, eD3, eu3⟩ := h3
        refine ⟨rfl, _, rfl, _, rfl, by show 2 ≤ sizeLine; decide, fun T hT => ⟨us3, same_new hT _ _ eD3, ?_, ?_⟩⟩
        · have z1 := eu3.len
          have z2 := flw_len pg (rs.take i)
          have z3 := nexts_few pg p
          rw [List.length_append, List.length_map, List.length_take] at z1
          rw [List.length_take] at z2
          exact small1000 (by omega)
        · have sT := same_new (o := .tup [.int (p : Int), .int (gg : Int)]) hT
          have eDT := sT _ _ eD3
          have tk : Tups K H3 (upd (upd H3 T (.tup [.int (p : Int), .int (gg : Int)])) D (.lst (us3 ++ [.ref T]))) := fun c zs hz => (Fix.lst eDT).tups _ _ (Same.tups sT _ _ hz)
          refine ⟨fun c o ec => ?_, ?_, us3 ++ [.ref T], upd_same, ?_⟩
          · rw [upd_ne (ne_of_none ec hD)]
            exact sT _ _ (sm3 c o ec)
          · rw [upd_ne (ne_of (sT _ _ hb3) eDT (fun z => nomatch z))]
            exact sT _ _ hb3
          · rw [List.take_add_one, hg, List.map_append, ← List.append_assoc]
            exact (eu3.imp fun _ _ z => z.on tk).appM (.cons ⟨T, rfl, (Fix.lst eDT).tups _ _ (tupAt upd_same)⟩ .nil)
      · obtain ⟨sm3, _, us3, eD3, eu3⟩ := h3
        rw [List.length_map, nI_len, List.take_length, ← flw_more hp] at eu3
        exact ⟨sm3, us3, eD3, eu3⟩
    · obtain ⟨sm, us, eD, eu⟩ := h'
      rw [List.length_map, nI_len, List.take_length] at eu
      refine .inl ⟨D, us, rfl, lstAt eD, fun t2 ht2 => ?_⟩
      have s2 := same_new (o := .tup us) ht2
      exact q _ t2 us rs (s1.trans (sm.trans s2)) R upd_same (eu.imp fun _ _ z => z.on (Same.tups s2))
end
end RH
set_option Elab.async false
set_option linter.all false
set_option maxRecDepth 100000
set_option maxHeartbeats 2000000
namespace RH
open PySem PySem.Spec PyProof.Rows L2
/-! ### programs that the checks take -/
theorem lay_yes {n : Nat} {L : List Int} (h : L.Perm (rg n)) : isLay n L = true := by
  unfold isLay
  exact List.isPerm_iff.mpr h
theorem perm_len {n : Nat} {L : List Int} (h : L.Perm (rg n)) : L.length = n := by
  have := h.length_eq
  rw [this]
  unfold rg
  rw [List.length_map, List.length_range]
theorem cl_listOf {X : Cx} (K : PySem.W.Frag) (h : X.K = K := by rfl) : CallR X (.type "list") (fun xs H Q => ∃ p ys, xs = [.ref p] ∧ (SqL K H p ys ∨ SqT K H p ys) ∧ ∀ l, H l = none → Q (.ref l) (upd H l (.lst ys))) := by
  subst h
  exact call_list_of
theorem Each.take {α : Type} {R : V → α → Prop} : ∀ {xs : List V} {ds : List α} (k : Nat), Each R xs ds → Each R (xs.take k) (ds.take k)
  | _, _, 0, _ => .nil
  | _, _, _ + 1, .nil => .nil
  | _, _, k + 1, .cons h t => .cons h (t.take k)
theorem Each.drop {α : Type} {R : V → α → Prop} : ∀ {xs : List V} {ds : List α} (k : Nat), Each R xs ds → Each R (xs.drop k) (ds.drop k)
  | _, _, 0, h => h
  | _, _, _ + 1, .nil => .nil
  | _, _, k + 1, .cons _ t => t.drop k
section
variable {K : PySem.W.Frag} {H H' : Hp} {n : Nat} {v pl : V}
theorem wd_ints {a : Addr} {ns : List Int} (h : SqT K H a (ns.map V.int)) (hl : ns.length < 64) : Wd K H (.ref a) (some (ns.map V.int)) :=
  ⟨.tup h, fun xs z x hm => by cases z; obtain ⟨i, _, rfl⟩ := List.mem_map.mp hm; exact .int i, fun xs z => by cases z; rwa [List.length_map]⟩
theorem wd_head {a : Addr} {x : V} {ns : List Int} (h : SqT K H a (x :: ns.map V.int)) (hx : Sw K H x) (hl : ns.length < 63) : Wd K H (.ref a) (some (x :: ns.map V.int)) :=
  ⟨.tup h, fun xs z y hm => by
    cases z
    rcases List.mem_cons.mp hm with rfl | hm
    · exact hx
    · obtain ⟨i, _, rfl⟩ := List.mem_map.mp hm
      exact .int i, fun xs z => by cases z; rw [List.length_cons, List.length_map]; omega⟩
theorem lay_ok {ns : List Int} (h : ns.Perm (rg n)) : layW n (some (ns.map V.int)) = true := by
  have e1 : ((ns.map V.int).map valI) = ns := by
    rw [List.map_map]
    exact List.map_id' ns
  show ((ns.map V.int).all _ && isLay n ((ns.map V.int).map valI)) = true
  rw [e1, lay_yes h, Bool.and_true, List.all_eq_true]
  intro v hv
  obtain ⟨i, hi, rfl⟩ := List.mem_map.mp hv
  have := rg_mem.mp (h.mem_iff.mp hi)
  exact inV2_yes0 this.1 this.2
theorem hk_of {h : List (List Int)} (hT : TII K H v h) (hb : Hb n h) : Hk K H v (some (h.map fun ns => some (ns.map V.int))) := by
  obtain ⟨a, xs, rfl, hS, hE⟩ := hT
  refine .tup hS ?_
  have hp := hb.perm
  have hi := hb.hi
  clear hS hb
  induction hE with
  | nil => exact .nil
  | @cons x ns xs h hx hE ih =>
    obtain ⟨b, rfl, hB⟩ := hx
    refine .cons (wd_ints hB ?_) (ih fun ns hm => hp ns (List.mem_cons_of_mem _ hm))
    rw [perm_len (hp ns (List.mem_cons_self ..))]
    omega
theorem hb_ok {h : List (List Int)} (hb : Hb n h) : hbBad (some (h.map fun ns => some (ns.map V.int))) = none := by
  have hl := hb.len
  have h2 := hb.lo
  have h5 := hb.hi
  unfold hbBad
  dsimp only
  rw [List.length_map, hl, decide_eq_true h2, decide_eq_true h5]
  have : ((h.map fun ns => some (ns.map V.int)).findIdx? fun wo => !layW n wo) = none := by
    rw [List.findIdx?_eq_none_iff]
    intro wo hm
    obtain ⟨ns, hn, rfl⟩ := List.mem_map.mp hm
    rw [lay_ok (hb.perm ns hn)]
    rfl
  rw [this]
  rfl
end
section
variable {p cnt : Int} {rl : Bool} {v : V}
theorem ins_num {w : Str} {b1 b2 b3 b4 b5 : Bool} (h1 : inZ w bareZ = b1) (h2 : inZ w jumpZ = b2) (h3 : (w == "put") = b3) (h4 : inZ w accZ = b4) (h5 : (w == "touch") = b5) :
    insW p cnt rl (some [.str w, v]) = (!b1 && (if b2 = true then inV2 0 cnt v else if b3 = true then inV2 (-1000000) 1000000 v else (b4 || (b5 && rl)) && inV2 0 (p - 1) v)) := by
  subst h1 h2 h3 h4 h5
  rfl
theorem in_get : insW p cnt rl (some [.str "get", v]) = inV2 0 (p - 1) v := by
  rw [ins_num (b1 := false) (b2 := false) (b3 := false) (b4 := true) (b5 := false) (by decide +kernel) (by decide +kernel) (by decide +kernel) (by decide +kernel) (by decide +kernel)]
  simp
theorem in_set : insW p cnt rl (some [.str "set", v]) = inV2 0 (p - 1) v := by
  rw [ins_num (b1 := false) (b2 := false) (b3 := false) (b4 := true) (b5 := false) (by decide +kernel) (by decide +kernel) (by decide +kernel) (by decide +kernel) (by decide +kernel)]
  simp
theorem in_plus : insW p cnt rl (some [.str "plus", v]) = inV2 0 (p - 1) v := by
  rw [ins_num (b1 := false) (b2 := false) (b3 := false) (b4 := true) (b5 := false) (by decide +kernel) (by decide +kernel) (by decide +kernel) (by decide +kernel) (by decide +kernel)]
  simp
theorem in_minus : insW p cnt rl (some [.str "minus", v]) = inV2 0 (p - 1) v := by
  rw [ins_num (b1 := false) (b2 := false) (b3 := false) (b4 := true) (b5 := false) (by decide +kernel) (by decide +kernel) (by decide +kernel) (by decide +kernel) (by decide +kernel)]
  simp
theorem in_touch : insW p cnt rl (some [.str "touch", v]) = (rl && inV2 0 (p - 1) v) := by
  rw [ins_num (b1 := false) (b2 := false) (b3 := false) (b4 := false) (b5 := true) (by decide +kernel) (by decide +kernel) (by decide +kernel) (by decide +kernel) (by decide +kernel)]
  cases rl <;> simp
theorem in_put : insW p cnt rl (some [.str "put", v]) = inV2 (-1000000) 1000000 v := by
  rw [ins_num (b1 := false) (b2 := false) (b3 := true) (b4 := false) (b5 := false) (by decide +kernel) (by decide +kernel) (by decide +kernel) (by decide +kernel) (by decide +kernel)]
  simp
theorem in_zero : insW p cnt rl (some [.str "zero", v]) = inV2 0 cnt v := by
  rw [ins_num (b1 := false) (b2 := true) (b3 := false) (b4 := false) (b5 := false) (by decide +kernel) (by decide +kernel) (by decide +kernel) (by decide +kernel) (by decide +kernel)]
  simp
theorem in_go : insW p cnt rl (some [.str "go", v]) = inV2 0 cnt v := by
  rw [ins_num (b1 := false) (b2 := true) (b3 := false) (b4 := false) (b5 := false) (by decide +kernel) (by decide +kernel) (by decide +kernel) (by decide +kernel) (by decide +kernel)]
  simp
theorem in1_say : insW p cnt rl (some [.str "say"]) = true := by
  show inZ "say" bareZ = true
  decide +kernel
theorem in1_ask : insW p cnt rl (some [.str "ask"]) = true := by
  show inZ "ask" bareZ = true
  decide +kernel
theorem in1_stop : insW p cnt rl (some [.str "stop"]) = true := by
  show inZ "stop" bareZ = true
  decide +kernel
end
def insV (i : Ins) : Option (List V) := some (.str i.word :: i.num.map V.int)
def rlI (rl : Bool) : Ins → Prop
  | .touch _ => rl = true
  | .put c => -1000000 ≤ c ∧ c ≤ 1000000
  | _ => True
theorem rlI_of {i : Ins} {rl : Bool} (h : stI i) : rlI rl i := by
  cases i <;> first | exact h | trivial | exact h.elim
theorem inV2_in {lo hi i : Int} (h1 : lo ≤ i) (h2 : i ≤ hi) : inV2 lo hi (.int i) = true := by
  show (decide (lo ≤ i) && decide (i ≤ hi)) = true
  rw [decide_eq_true h1, decide_eq_true h2]
  rfl
theorem ins_good {n cnt : Nat} {rl : Bool} {i : Ins} (h : okIns n cnt i) (r : rlI rl i) : insW (n : Int) (cnt : Int) rl (insV i) = true := by
  cases i with
  | say => exact in1_say
  | ask => exact in1_ask
  | stop => exact in1_stop
  | put c =>
    show insW _ _ _ (some [.str "put", .int c]) = true
    rw [in_put]
    exact inV2_in r.1 r.2
  | zero t =>
    have h : t ≤ cnt := h
    show insW _ _ _ (some [.str "zero", .int (t : Int)]) = true
    rw [in_zero]
    exact inV2_in (by omega) (by omega)
  | go t =>
    have h : t ≤ cnt := h
    show insW _ _ _ (some [.str "go", .int (t : Int)]) = true
    rw [in_go]
    exact inV2_in (by omega) (by omega)
  | get k =>
    have h : k < n := h
    show insW _ _ _ (some [.str "get", .int (k : Int)]) = true
    rw [in_get]
    exact inV2_in (by omega) (by omega)
  | set k =>
    have h : k < n := h
    show insW _ _ _ (some [.str "set", .int (k : Int)]) = true
    rw [in_set]
    exact inV2_in (by omega) (by omega)
  | plus k =>
    have h : k < n := h
    show insW _ _ _ (some [.str "plus", .int (k : Int)]) = true
    rw [in_plus]
    exact inV2_in (by omega) (by omega)
  | minus k =>
    have h : k < n := h
    show insW _ _ _ (some [.str "minus", .int (k : Int)]) = true
    rw [in_minus]
    exact inV2_in (by omega) (by omega)
  | touch k =>
    have h : k < n := h
    have r : rl = true := r
    show insW _ _ _ (some [.str "touch", .int (k : Int)]) = true
    rw [in_touch, r, inV2_in (by omega) (by omega)]
    rfl
theorem pg_fine {n : Nat} {most : Int} {rl : Bool} {pg : List Ins} (h1 : 1 ≤ pg.length) (h2 : (pg.length : Int) ≤ most) (ok : ∀ i ∈ pg, okIns n pg.length i ∧ rlI rl i) : pgBad (n : Int) most rl (some (pg.map insV)) = none := by
  unfold pgBad
  dsimp only
  rw [List.length_map, decide_eq_true (by omega), decide_eq_true h2]
  have : ((pg.map insV).findIdx? fun wo => !insW (n : Int) pg.length rl wo) = none := by
    rw [List.findIdx?_eq_none_iff]
    intro wo hm
    obtain ⟨i, hi, rfl⟩ := List.mem_map.mp hm
    rw [ins_good (ok i hi).1 (ok i hi).2]
    rfl
  rw [this]
  rfl
section
variable {K : PySem.W.Frag} {H H' : Hp} {n : Nat} {v pl : V}
theorem ins_wd {i : Ins} (r : RIns K H v i) : Wd K H v (insV i) := by
  obtain ⟨a, rfl, hS⟩ := r
  exact wd_head hS (.str _) (by cases i <;> first | (show 0 < 63; decide) | (show 1 < 63; decide))
theorem pg_wds {xs : List V} {pg : List Ins} (hE : Each (RIns K H) xs pg) : Each (Wd K H) xs (pg.map insV) := by
  induction hE with
  | nil => exact .nil
  | cons h _ ih => exact .cons (ins_wd h) ih
theorem hk_pg {pg : List Ins} (r : RPg K H v pg) : Hk K H v (some (pg.map insV)) := by
  obtain ⟨a, xs, rfl, hS, hE⟩ := r
  exact .tup hS (pg_wds hE)
variable {T : List (Addr × Str)} {p : Addr} {vH vP : V} {h : List (List Int)} {pg : List Ins}
end
end RH
set_option Elab.async false
set_option linter.all false
set_option maxRecDepth 100000
set_option maxHeartbeats 2000000
namespace RH
open PySem PySem.Spec PyProof.Rows L2
/-! ### programs that the public functions take -/
theorem okIns_up {n m cnt : Nat} {i : Ins} (h : okIns n cnt i) (le : n ≤ m) : okIns m cnt i := by
  cases i <;> first | exact h | exact Nat.lt_of_lt_of_le h le
/-- a still program of so many places -/
structure GdP (K : PySem.W.Frag) (H : Hp) (v : V) (n : Nat) (pg : List Ins) : Prop where
  rp : RPg K H v pg
  l1 : 1 ≤ pg.length
  l30 : pg.length ≤ 30
  ok : ∀ i ∈ pg, okIns n pg.length i ∧ stI i
theorem GdP.wk {K : PySem.W.Frag} {H : Hp} {v : V} {n : Nat} {pg : List Ins} (h : GdP K H v n pg) (n5 : n ≤ 5) : WkP K H v pg := ⟨h.rp, h.l1, h.l30, fun i m => okIns_up (h.ok i m).1 (by omega)⟩
theorem GdP.on {K : PySem.W.Frag} {H H' : Hp} {v : V} {n : Nat} {pg : List Ins} (h : GdP K H v n pg) (s : Tups K H H') : GdP K H' v n pg := ⟨h.rp.on s, h.l1, h.l30, h.ok⟩
theorem GdP.fine {K : PySem.W.Frag} {H : Hp} {v : V} {n : Nat} {pg : List Ins} (h : GdP K H v n pg) : pgBad (n : Int) 200 false (some (pg.map insV)) = none :=
  pg_fine h.l1 (by have := h.l30; omega) fun i m => ⟨(h.ok i m).1, rlI_of (h.ok i m).2⟩
theorem in25 {n : Nat} (h2 : 2 ≤ n) (h5 : n ≤ 5) : inV2 2 5 (.int (n : Int)) = true := inV2_in (by omega) (by omega)
/-! ### books that are moved to where they stand -/
theorem rg_getD {n i : Nat} (h : i < n) : (rg n).getD i 0 = (i : Int) := by
  rw [List.getD_eq_getElem?_getD, rg_at h]
  rfl
theorem bm_id {n : Nat} {held : List Int} (h : held.length = n) : bm (rg n) held = held := by
  unfold bm
  rw [rg_len]
  suffices h2 : ∀ l : List Nat, (∀ i ∈ l, i < n) → l.foldl (fun c i => c.set ((rg n).getD i 0).toNat (held.getD i 0)) held = held from h2 _ fun i m => List.mem_range.mp m
  intro l
  induction l with
  | nil => intro _; rfl
  | cons i l ih =>
    intro hl
    have lt := hl i List.mem_cons_self
    rw [List.foldl_cons, rg_getD lt]
    have e : held.set ((i : Int).toNat) (held.getD i 0) = held := by
      rw [Int.toNat_natCast, List.getD_eq_getElem?_getD, List.getElem?_eq_getElem (by omega)]
      exact List.set_getElem_self _
    rw [e]
    exact ih fun j m => hl j (List.mem_cons_of_mem _ m)
/-- the habit of a still shelf -/
def standH (n : Nat) : List (List Int) := List.replicate n (rg n)
section
variable {P : Program} {w : World} {K : PySem.W.Frag} {mg : Str → Option Value} {base : Heap} {Cb Cn Cg Ci : Addr}
def spReachG (K : PySem.W.Frag) : Sp := fun vs H Q _ => ∃ (n : Nat) (v : V) (pg : List Ins), vs = [.int (n : Int), v] ∧ 2 ≤ n ∧ n ≤ 5 ∧ GdP K H v n pg ∧ ∀ H' t rs, Same H H' → RcM pg rs → H' t = some (.tup ((nI rs).map V.int)) → Q (.ref t) H'
def spUsedG (K : PySem.W.Frag) : Sp := fun vs H Q _ => ∃ (n : Nat) (v : V) (pg : List Ins), vs = [.int (n : Int), v] ∧ 2 ≤ n ∧ n ≤ 5 ∧ GdP K H v n pg ∧ ∀ H' t (ns : List Int), Same H H' → ns.Pairwise (· < ·) → (∀ rs, RcM pg rs → ∀ k : Int, k ∈ ns ↔ usedM pg rs k) → H' t = some (.tup (ns.map V.int)) → Q (.ref t) H'
def spFlowG (K : PySem.W.Frag) : Sp := fun vs H Q _ => ∃ (n : Nat) (v : V) (pg : List Ins), vs = [.int (n : Int), v] ∧ 2 ≤ n ∧ n ≤ 5 ∧ GdP K H v n pg ∧ ∀ H' t us rs, Same H H' → RcM pg rs → H' t = some (.tup us) → Each (PrI K H') us (flw pg rs) → Q (.ref t) H'
theorem ok_reachedG (F : Df K mg "reached" st_reached ["places", "program"]) (CP : CalX P w K mg base 4 "check_places" (spCheckPlacesX K Cn)) (CG : CalX P w K mg base 6 "check_still" (spCheckPg2 K Cg 200 false)) (CR : Cal P w K mg base 3 "reached_of" (spReached K)) : CalX P w K mg base 7 "reached" (spReachG K) := by
  refine mkCalX F sc_reached (fun vs H Q E h => ?_) (fun f cdv A outer s H vs Q E hr h => ?_)
  · obtain ⟨n, v, pg, rfl, _⟩ := h
    rfl
  · obtain ⟨n, v, pg, rfl, n2, n5, G, q⟩ := h
    refine ⟨_, pss_cons (ps_expr (pcX CP passE hr (pa_cons (pv 0) pa_nil))) (pss_cons (ps_expr (pcX CG passE hr (pa_cons (pv 1) (pa_cons (pv 0) pa_nil)))) (pss_one (ps_ret (pc CR hr (pa_cons (pv 1) pa_nil))))), ?_⟩
    refine ⟨_, rfl, _, rfl, .int _, fun _ => ⟨_, rfl, _, rfl, v, _, _, rfl, hk_pg G.rp, fun _ H1 s1 => ?_, fun pl z => ?_⟩, fun z => ?_⟩
    · exact ⟨_, rfl, v, pg, rfl, (G.wk n5).on s1, fun H2 t rs s2 R ht => q H2 t rs (s1.trans s2) R ht⟩
    · rw [G.fine] at z
      cases z
    · rw [in25 n2 n5] at z
      cases z
theorem ok_usedG (F : Df K mg "used" st_used ["places", "program"]) (CP : CalX P w K mg base 4 "check_places" (spCheckPlacesX K Cn)) (CG : CalX P w K mg base 6 "check_still" (spCheckPg2 K Cg 200 false)) (CR : Cal P w K mg base 3 "names_used" (spUsed K)) : CalX P w K mg base 7 "used" (spUsedG K) := by
  refine mkCalX F sc_used (fun vs H Q E h => ?_) (fun f cdv A outer s H vs Q E hr h => ?_)
  · obtain ⟨n, v, pg, rfl, _⟩ := h
    rfl
  · obtain ⟨n, v, pg, rfl, n2, n5, G, q⟩ := h
    refine ⟨_, pss_cons (ps_expr (pcX CP passE hr (pa_cons (pv 0) pa_nil))) (pss_cons (ps_expr (pcX CG passE hr (pa_cons (pv 1) (pa_cons (pv 0) pa_nil)))) (pss_one (ps_ret (pc CR hr (pa_cons (pv 1) pa_nil))))), ?_⟩
    refine ⟨_, rfl, _, rfl, .int _, fun _ => ⟨_, rfl, _, rfl, v, _, _, rfl, hk_pg G.rp, fun _ H1 s1 => ?_, fun pl z => ?_⟩, fun z => ?_⟩
    · exact ⟨_, rfl, v, pg, rfl, (G.wk n5).on s1, fun H2 t ns s2 up mem ht => q H2 t ns (s1.trans s2) up mem ht⟩
    · rw [G.fine] at z
      cases z
    · rw [in25 n2 n5] at z
      cases z
theorem ok_flowG (F : Df K mg "flow" st_flow ["places", "program"]) (CP : CalX P w K mg base 4 "check_places" (spCheckPlacesX K Cn)) (CG : CalX P w K mg base 6 "check_still" (spCheckPg2 K Cg 200 false)) (CR : Cal P w K mg base 4 "flow_of" (spFlow K)) : CalX P w K mg base 7 "flow" (spFlowG K) := by
  refine mkCalX F sc_flow (fun vs H Q E h => ?_) (fun f cdv A outer s H vs Q E hr h => ?_)
  · obtain ⟨n, v, pg, rfl, _⟩ := h
    rfl
  · obtain ⟨n, v, pg, rfl, n2, n5, G, q⟩ := h
    refine ⟨_, pss_cons (ps_expr (pcX CP passE hr (pa_cons (pv 0) pa_nil))) (pss_cons (ps_expr (pcX CG passE hr (pa_cons (pv 1) (pa_cons (pv 0) pa_nil)))) (pss_one (ps_ret (pc CR hr (pa_cons (pv 1) pa_nil))))), ?_⟩
    refine ⟨_, rfl, _, rfl, .int _, fun _ => ⟨_, rfl, _, rfl, v, _, _, rfl, hk_pg G.rp, fun _ H1 s1 => ?_, fun pl z => ?_⟩, fun z => ?_⟩
    · exact ⟨_, rfl, v, pg, rfl, (G.wk n5).on s1, fun H2 t us rs s2 R ht he => q H2 t us rs (s1.trans s2) R ht he⟩
    · rw [G.fine] at z
      cases z
    · rw [in25 n2 n5] at z
      cases z
/-- inputs that the law draws -/
structure GdI (K : PySem.W.Frag) (H : Hp) (v : V) (inp : List Int) : Prop where
  ti : TI K H v inp
  few : inp.length ≤ 50
  ok : ∀ c ∈ inp, -1000000 ≤ c ∧ c ≤ 1000000
theorem GdI.on {H H' : Hp} {v : V} {inp : List Int} (h : GdI K H v inp) (s : Tups K H H') : GdI K H' v inp := ⟨h.ti.on s, h.few, h.ok⟩
theorem GdI.wd {H : Hp} {v : V} {inp : List Int} (h : GdI K H v inp) : Wd K H v (some (inp.map V.int)) := by
  obtain ⟨a, rfl, hS⟩ := h.ti
  exact wd_ints hS (by have := h.few; omega)
theorem GdI.fine {H : Hp} {v : V} {inp : List Int} (h : GdI K H v inp) : inpW (some (inp.map V.int)) = true := by
  show (decide ((inp.map V.int).length ≤ 50) && (inp.map V.int).all (inV2 (-1000000) 1000000)) = true
  rw [List.length_map, decide_eq_true h.few, Bool.true_and, List.all_map, List.all_eq_true]
  intro c m
  exact inV2_in (h.ok c m).1 (h.ok c m).2
theorem stand_hb {n : Nat} (n2 : 2 ≤ n) (n5 : n ≤ 5) : Hb n (standH n) := ⟨List.length_replicate, fun ns m => by rw [(List.mem_replicate.mp m).2], n2, n5⟩
theorem each_rep {α : Type} {R : V → α → Prop} {v : V} {d : α} (r : R v d) : ∀ k : Nat, Each R (List.replicate k v) (List.replicate k d)
  | 0 => .nil
  | k + 1 => .cons r (each_rep r k)
def spStillG (K : PySem.W.Frag) : Sp := fun vs H Q _ => ∃ (n k : Nat) (v2 v3 : V) (pg : List Ins) (inp : List Int), vs = [.int (n : Int), v2, v3, .int (k : Int)] ∧ 2 ≤ n ∧ n ≤ 5 ∧ GdP K H v2 n pg ∧ GdI K H v3 inp ∧ k ≤ 5000 ∧
  ∀ H' t sa, Same H H' → H' t = some (.tup [.ref sa, .str (endW pg (runM (standH n) inp pg k (startM n)))]) → H' sa = some (.tup ((runM (standH n) inp pg k (startM n)).said.map V.int)) → Q (.ref t) H'
theorem ok_run_stillG (F : Df K mg "run_still" st_run_still ["places", "program", "inputs", "most"]) (B : Bu mg) (c5000 : ∃ t, mg "MOST_STILL_STEPS" = some (.int 5000 t)) (CP : CalX P w K mg base 4 "check_places" (spCheckPlacesX K Cn)) (CG : CalX P w K mg base 6 "check_still" (spCheckPg2 K Cg 200 false)) (CI : CalX P w K mg base 3 "check_inputs" (spCheckInp K Ci)) (CN : CalX P w K mg base 3 "check_number" (spCheckNumS K Cn))
    (CR : CalX P w K mg base 4 "run" (spRunM K)) : CalX P w K mg base 7 "run_still" (spStillG K) := by
  refine mkCalX F sc_run_still (fun vs H Q E h => ?_) (fun f cdv A outer s H vs Q E hr h => ?_)
  · obtain ⟨n, k, v2, v3, pg, inp, rfl, _⟩ := h
    rfl
  · obtain ⟨n, k, v2, v3, pg, inp, rfl, n2, n5, G, I, hk, q⟩ := h
    refine ⟨_, pss_cons (ps_expr (pcX CP passE hr (pa_cons (pv 0) pa_nil))) (pss_cons (ps_expr (pcX CG passE hr (pa_cons (pv 1) (pa_cons (pv 0) pa_nil)))) (pss_cons (ps_expr (pcX CI passE hr (pa_cons (pv 2) pa_nil))) (pss_cons (ps_expr (pcX CN passE hr (pa_cons (pv 3) (pa_cons pe_int (pa_cons (pk c5000) pa_nil)))))
      (pss_cons (ps_set (i := 4) sc_run_still.nd rfl (.inl rfl) (pe_op op_repB (pe_tup (pa_cons (pe_tupRg rfl (by rfl) B.tuple (prg_1 (by rfl) B.range (pv 0))) pa_nil)) (pv 0)))
      (pss_one (ps_ret (pcX CR passE hr (pa_cons (pv 4) (pa_cons (pv 1) (pa_cons (pv 2) (pa_cons (pv 3) pa_nil)))))))))))  , ?_⟩
    refine ⟨_, rfl, _, rfl, .int _, fun _ => ⟨_, rfl, _, rfl, v2, _, _, rfl, hk_pg G.rp, fun _ H1 s1 => ?_, fun pl z => ?_⟩, fun z => ?_⟩
    · refine ⟨_, rfl, v3, _, rfl, (I.on (Same.tups s1)).wd, fun _ H2 s2 => ?_, fun z => ?_⟩
      · refine ⟨_, rfl, _, rfl, .int _, fun _ => ?_, fun z => ?_⟩
        · refine ⟨_, rfl, n, rfl, ⟨by omega, by omega, by omega, by omega, by omega⟩, fun a1 ha1 => ⟨by show 1 ≤ sizeLine; decide, fun a2 ha2 => ⟨_, rfl, a2, n, _, rfl, rfl, tupAt upd_same, n2, by omega, fun a3 ha3 => ?_⟩⟩⟩
          have s3 : Same H2 _ := (same_new ha1).trans ((same_new ha2).trans (same_new (o := .tup (List.replicate n (V.ref a1))) ha3))
          have s03 := (s1.trans s2).trans s3
          refine ⟨_, rfl, _, rfl, _, rfl, _, rfl, .ref a3, v2, v3, standH n, n, pg, inp, k, rfl, ⟨⟨a3, _, rfl, tupAt upd_same, ?_⟩, stand_hb n2 n5, G.rp.on (Same.tups s03), fun i m => (G.ok i m).1, I.ti.on (Same.tups s03)⟩, by omega, fun H' t sa s4 e1 e2 => q H' t sa (s03.trans s4) e1 e2⟩
          have s23 := (same_new (o := .tup [V.ref a1]) ha2).trans (same_new (o := .tup (List.replicate n (V.ref a1))) ha3)
          exact each_rep ⟨a1, rfl, tupAt (by rw [s23 _ _ upd_same, rgV_rg])⟩ n
        · have : (decide ((0 : Int) ≤ (k : Int)) && decide ((k : Int) ≤ 5000)) = false := z
          rw [decide_eq_true (by omega), decide_eq_true (by omega)] at this
          cases this
      · rw [I.fine] at z
        cases z
    · rw [G.fine] at z
      cases z
    · rw [in25 n2 n5] at z
      cases z
end
end RH
set_option Elab.async false
set_option linter.all false
set_option maxRecDepth 100000
set_option maxHeartbeats 2000000
namespace RH
open PySem PySem.Spec PyProof.Rows L2
/-! ### the law's own walk over a program -/
section
variable {P : Program} {w : World} {K : PySem.W.Frag} {mg : Str → Option Value} {base : Heap}
theorem nI_nil {l : List Nat} : nI l = [] ↔ l = [] := List.map_eq_nil_iff
def spLNexts (K : PySem.W.Frag) : Sp := fun vs H Q _ => ∃ (v : V) (pg : List Ins) (p : Nat), vs = [v, .int (p : Int)] ∧ RPg K H v pg ∧ p < pg.length ∧ pg.length ≤ 30 ∧ (∀ i ∈ pg, okIns 1000 pg.length i) ∧ ∀ H' t, Same H H' → H t = none → H' t = some (.lst ((nI (nextsM pg p)).map V.int)) → Q (.ref t) H'
theorem ok_lnexts (F : Df K mg "_law_nexts" st__law_nexts ["program", "at"]) (B : Bu mg) (nset : mg "set" = none) : Cal P w K mg base 1 "_law_nexts" (spLNexts K) := by
  refine mkCal F sc__law_nexts (fun vs H Q E h => ?_) (fun f cdv A outer s H vs Q E hr h => ?_)
  · obtain ⟨v, pg, p, rfl, _⟩ := h
    rfl
  · obtain ⟨v, pg, p, rfl, ⟨a, xs, rfl, hS, hE⟩, hp, few, ok, q⟩ := h
    refine ⟨_, pss_cons (ps_set (i := 2) sc__law_nexts.nd rfl (.inl rfl) (pe_ix (ixT K) (pv 0) (pv 1) (fun _ _ => rfl)))
      (pss_cons (ps_if (pt_cmpR op_eq (pe_ix (ixT K) (pv 2) pe_int (fun _ _ => rfl)) pe_str (nomark _)) (pss_one (ps_ret (pe_lst pa_nil))) pss_nil)
      (pss_cons (ps_if (pt_cmpR op_eq (pe_ix (ixT K) (pv 2) pe_int (fun _ _ => rfl)) pe_str (nomark _)) (pss_one (ps_ret (pe_lst (pa_cons (pe_ix (ixT K) (pv 2) pe_int (fun _ _ => rfl)) pa_nil)))) pss_nil)
      (pss_one (ps_ret (pe_ifExp (pt_cmpR op_eq (pe_ix (ixT K) (pv 2) pe_int (fun _ _ => rfl)) pe_str (nomark _))
        (pe_callB (cr_sortedSet rfl) (by rfl) B.sorted (by decide +kernel) (pa_cons (pe_callTy (call_setL rfl) (by rfl) nset (by decide +kernel) (pa_cons (pe_lst (pa_cons (pe_op op_add (pv 1) pe_int) (pa_cons (pe_ix (ixT K) (pv 2) pe_int (fun _ _ => rfl)) pa_nil))) pa_nil)) pa_nil))
        (pe_lst (pa_cons (pe_op op_add (pv 1) pe_int) pa_nil))))))), ?_⟩
    obtain ⟨i, hi⟩ : ∃ i, pg[p]? = some i := ⟨_, List.getElem?_eq_getElem hp⟩
    obtain ⟨x, hx, b, rfl, hb⟩ := hE.of hi
    have num : ∀ {H'} (s : Same H H') (t : Nat), i.num = [(t : Int)] → SqT K H' b [.str i.word, .int (t : Int)] := fun s t e => by
      have := onT s hb
      rw [e] at this
      exact this
    have w0 : atI (V.str i.word :: i.num.map V.int) 0 = some (V.str i.word) := (show atI _ ((0 : Nat) : Int) = some _ from atI_nat rfl)
    refine ⟨_, rfl, _, rfl, a, xs, (p : Int), .ref b, rfl, rfl, hS, atI_nat hx, _, rfl, b, _, 0, .str i.word, rfl, rfl, hb, w0, rfl, _, rfl, ?_⟩
    rcases nexts_kinds hi with ⟨rfl, en⟩ | ⟨t, rfl, en⟩ | ⟨t, rfl, en⟩ | ⟨n1, n2, n3, en⟩
    · refine ifT (str_yes _) ⟨Nat.zero_le _, fun t ht => q _ t (same_new ht) ht ?_⟩
      rw [upd_same, en]
      rfl
    · have hn := num (Same.refl H) t rfl
      refine ifF (str_no (by simp only [Ins.word]; decide +kernel)) ⟨_, rfl, b, _, 0, _, rfl, rfl, hb, w0, rfl, _, rfl, ifT (str_yes _) ⟨_, rfl, b, _, 1, .int (t : Int), rfl, rfl, hn, rfl, by show 1 ≤ sizeLine; decide, fun u hu => q _ u (same_new hu) hu ?_⟩⟩
      rw [upd_same, en]
      rfl
    · have hn := num (Same.refl H) t rfl
      refine ifF (str_no (by simp only [Ins.word]; decide +kernel)) ⟨_, rfl, b, _, 0, _, rfl, rfl, hb, w0, rfl, _, rfl, ifF (str_no (by simp only [Ins.word]; decide +kernel)) ⟨_, rfl, b, _, 0, _, rfl, rfl, hb, w0, rfl, _, rfl, ifT (str_yes _) ?_⟩⟩
      refine ⟨_, rfl, (p : Int), 1, rfl, rfl, _, rfl, b, _, 1, .int (t : Int), rfl, rfl, hn, rfl, by show 2 ≤ sizeLine; decide, fun l hl => ⟨l, [(p : Int) + 1, (t : Int)], rfl, lstAt upd_same, by show 2 ≤ 1000; decide, fun D n hD hn2 => ⟨D, _, n, rfl, upd_same, Nat.lt_of_le_of_lt hn2 (by show 2 < 64; decide), fun ns l2 up mem len hl2 => ?_⟩⟩⟩
      refine q _ l2 ((same_new hl).trans ((same_new hD).trans (same_new hl2))) (none_ofM ((same_new hl).trans (same_new hD)) hl2) ?_
      rw [upd_same, en, nI_two up fun k => ?_]
      rw [mem, decide_eq_true_iff]
      have : ((p + 1 : Nat) : Int) = (p : Int) + 1 := by omega
      rw [this]
      simp
    · refine ifF (str_no n1) ⟨_, rfl, b, _, 0, _, rfl, rfl, hb, w0, rfl, _, rfl, ifF (str_no n2) ⟨_, rfl, b, _, 0, _, rfl, rfl, hb, w0, rfl, _, rfl, ifF (str_no n3) ⟨_, rfl, (p : Int), 1, rfl, rfl, by show 1 ≤ sizeLine; decide, fun u hu => q _ u (same_new hu) hu ?_⟩⟩⟩
      rw [upd_same, en]
      rfl
def spLReached (K : PySem.W.Frag) : Sp := fun vs H Q _ => ∃ (v : V) (pg : List Ins), vs = [v] ∧ WkP K H v pg ∧ ∀ H' t rs, Same H H' → RcM pg rs → H t = none → H' t = some (.lst ((nI rs).map V.int)) → Q (.ref t) H'
theorem ok_lreached (F : Df K mg "_law_reached" st__law_reached ["program"]) (B : Bu mg) (CN : Cal P w K mg base 1 "_law_nexts" (spLNexts K)) : Cal P w K mg base 2 "_law_reached" (spLReached K) := by
  refine mkCal F sc__law_reached (fun vs H Q E h => ?_) (fun f cdv A outer s H vs Q E hr h => ?_)
  · obtain ⟨v, pg, rfl, _⟩ := h
    rfl
  · obtain ⟨v, pg, rfl, hw, q⟩ := h
    obtain ⟨a, xs, rfl, hS, hE⟩ := id hw.rp
    have hlen := hE.len
    refine ⟨_, pss_cons (ps_par (i := 1) (j := 2) rfl sc__law_reached.nd rfl rfl (by decide) rfl rfl (pa_cons (pe_disp (pps_cons pe_int pe_bl pps_nil) rfl rfl (fun z => nomatch z) (by decide)) (pa_cons (pe_lst (pa_cons pe_int pa_nil)) pa_nil)) rfl)
      (pss_cons (ps_while PassesOwn.never (pt_cmpR (op_neD hr.units) (pv 2) (pe_lst pa_nil) (nomark _))
        (pss_cons (ps_set (i := 3) sc__law_reached.nd rfl (.inl rfl) (pe_lst pa_nil))
        (pss_cons (ps_for PassesOwn.never rfl (pi_list (pv 2)) (pg_name (i := 4) sc__law_reached.nd rfl (Or.inl rfl))
          (pss_one (ps_for PassesOwn.never rfl (pi_list (pc CN hr (pa_cons (pv 0) (pa_cons (pv 4) pa_nil)))) (pg_name (i := 5) sc__law_reached.nd rfl (Or.inl rfl))
            (pss_one (ps_if (PW.pt (pw_and (pt_cmpR op_lt (pv 5) (pe_callB (cl_len K) (by rfl) B.len PySem.boot_len (pa_cons (pv 0) pa_nil)) (nomark _)) (pw_and1 (pt_cmp (pc_dnotin (hu_of hr) (pv 5) (pv 1))))))
              (pss_cons (ps_dput (hu_of hr) (pv 1) (pv 5) pe_bl rfl)
              (pss_one (ps_expr (pe_bm PySem.F.plainAttrs_list PySem.F.slot_list_append PySem.F.type_list_append mt_append (pv 3) (pa_cons (pv 5) pa_nil))))) pss_nil)))))
        (pss_one (ps_set (i := 2) sc__law_reached.nd rfl (.inl rfl) (pv 3))))))
      (pss_one (ps_ret (pe_callB cr_sorted (by rfl) B.sorted (by decide +kernel) (pa_cons (pe_callTy (call_listD rfl) (by rfl) B.list (by decide +kernel) (pa_cons (pv 1) pa_nil)) pa_nil))))), ?_⟩
    intro d hd
    refine ⟨upd_same, [(.inl 0, .bl true)], rfl, by decide, ?_⟩
    rw [upd_upd]
    have s1 := same_new (o := .dK (dI [0])) hd
    refine ⟨by show 1 ≤ sizeLine; decide, fun l0 hl0 => ⟨_, _, rfl, ?_⟩⟩
    have s2 := s1.trans (same_new (o := .lst [V.int 0]) hl0)
    refine ⟨fun m σ H' => ∃ (k : Nat) (l : Addr), m = meaM pg k ∧ (∃ y3 y4 y5, σ = [some (.ref a), some (.ref d), some (.ref l), y3, y4, y5]) ∧ Same H H' ∧ H' d = some (.dK (dI (itM pg k).1)) ∧ H' l = some (.lst ((nI (itM pg k).2).map V.int)) ∧ H l = none,
      ⟨_, 0, l0, rfl, ⟨none, none, none, rfl⟩, s2, same_new hl0 _ _ upd_same, upd_same, none_ofM s1 hl0⟩, ?_⟩
    rintro m σ H1 ⟨k, l, rfl, ⟨y3, y4, y5, rfl⟩, sm, ed, el, hl⟩
    obtain ⟨bb, Fk⟩ := it_ok hw.pos k
    refine ⟨_, rfl, Nat.zero_le _, fun z hz => ?_⟩
    have sz : Same H1 (upd H1 z (.lst [])) := same_new hz
    have sm := sm.trans sz
    have ed := sz _ _ ed
    have el := sz _ _ el
    refine ⟨_, _, dp_lst (ns := nI (itM pg k).2) (lstAt el), dp_lst (ns := []) (lstAt upd_same), PySem.W.ke_shaped_ints _, PySem.W.ke_shaped_ints _, _, rfl, ?_⟩
    rw [eqv_lst]
    generalize upd H1 z (.lst []) = H1 at sm ed el ⊢
    by_cases ne : (itM pg k).2 ≠ []
    · have e1 : (!decide (nI (itM pg k).2 = [])) = true := by
        rw [decide_eq_false (fun y => ne (nI_nil.mp y))]
        rfl
      rw [e1]
      refine ifT rfl ?_
      refine ⟨fun σ' H' => ∃ m', m' < meaM pg k ∧ ∃ (k : Nat) (l : Addr), m' = meaM pg k ∧ (∃ y3 y4 y5, σ' = [some (.ref a), some (.ref d), some (.ref l), y3, y4, y5]) ∧ Same H H' ∧ H' d = some (.dK (dI (itM pg k).1)) ∧ H' l = some (.lst ((nI (itM pg k).2).map V.int)) ∧ H l = none, fun _ _ h => h, ?_⟩
      refine ⟨Nat.zero_le _, fun u hu => ?_⟩
      have su := same_new (o := .lst []) hu
      have lu : l ≠ u := ne_of_none el hu
      have huH := none_ofM sm hu
      have L0 : LvM H d l u (itM pg k).2 ((itM pg k).1, []) (upd H1 u (.lst [])) := ⟨sm.trans su, su _ _ ed, su _ _ el, upd_same⟩
      refine ⟨_, rfl, l, rfl, ⟨_, lstAt L0.el⟩, ?_⟩
      refine for_list (xs := (nI (itM pg k).2).map V.int) (fun i σ H' => LvM H d l u (itM pg k).2 (((itM pg k).2.take i).foldl (atM pg) ((itM pg k).1, [])) H' ∧ ∃ y4 y5, σ = [some (.ref a), some (.ref d), some (.ref l), some (.ref u), y4, y5])
        ⟨L0, _, _, rfl⟩ (fun i σ H' _ h' => lstAt h'.1.el) (fun i x σ H2 hx h' => ?_) (fun σ H2 h' => ?_)
      · obtain ⟨L, z4, z5, rfl⟩ := h'
        obtain ⟨p, hp, rfl⟩ := nI_at hx
        have plt : p < pg.length := Fk.lt p (Fk.sub p (List.mem_of_getElem? hp))
        have hw2 := hw.on L.sm
        refine ⟨_, rfl, _, rfl, _, pg, p, rfl, hw2.rp, plt, hw.few, hw.ok, fun H3 t s3 tn ht => ?_⟩
        have tu : t ≠ u := fun z => by rw [z, L.eu] at tn; cases tn
        have L3 := L.same s3
        have Fi : GdM pg.length (itM pg k).1.length (((itM pg k).2.take i).foldl (atM pg) ((itM pg k).1, [])) := GdM.ats _ Fk.zero
        rw [show (LvM H d l u (itM pg k).2 (((itM pg k).2.take (i + 1)).foldl (atM pg) ((itM pg k).1, []))) = LvM H d l u (itM pg k).2 (atM pg (((itM pg k).2.take i).foldl (atM pg) ((itM pg k).1, [])) p) from by rw [take_on hp]]
        generalize (((itM pg k).2.take i).foldl (atM pg) ((itM pg k).1, [])) = S0 at L3 Fi ⊢
        refine ⟨t, rfl, ⟨_, lstAt ht⟩, ?_⟩
        refine for_list (xs := (nI (nextsM pg p)).map V.int) (fun j σ H' => LvM H d l u (itM pg k).2 (((nextsM pg p).take j).foldl (goalM pg.length) S0) H' ∧ H' t = some (.lst ((nI (nextsM pg p)).map V.int)) ∧ ∃ y5, σ = [some (.ref a), some (.ref d), some (.ref l), some (.ref u), some (.int (p : Int)), y5])
          ⟨L3, ht, _, rfl⟩ (fun j σ H' _ h' => lstAt h'.2.1) (fun j x2 σ H4 hx2 h' => ?_) (fun σ H4 h' => ?_)
        · obtain ⟨L4, ht4, z5, rfl⟩ := h'
          obtain ⟨g, hg, rfl⟩ := nI_at hx2
          have gle := nexts_le plt hw.ok g (List.mem_of_getElem? hg)
          have Fj : GdM pg.length (itM pg k).1.length (((nextsM pg p).take j).foldl (goalM pg.length) S0) := GdM.goals _ Fi
          rw [show (LvM H d l u (itM pg k).2 (((nextsM pg p).take (j + 1)).foldl (goalM pg.length) S0)) = LvM H d l u (itM pg k).2 (goalM pg.length (((nextsM pg p).take j).foldl (goalM pg.length) S0) g) from by rw [take_on hg]]
          generalize (((nextsM pg p).take j).foldl (goalM pg.length) S0) = S1 at L4 Fj ⊢
          have few := Fj.few
          have flen := Fj.len
          have hfew := hw.few
          refine ⟨_, rfl, _, rfl, a, xs, rfl, .inr (onT L4.sm hS), (g : Int), (xs.length : Int), rfl, rfl, _, rfl, ?_⟩
          rw [hlen]
          have old : ∀ (c : ¬ (g < pg.length ∧ g ∉ S1.1)), goalM pg.length S1 g = S1 := fun c => by
            unfold goalM
            rw [if_neg c]
          by_cases eg : g = pg.length
          · rw [decide_eq_false (by omega)]
            refine ifF rfl (ifF rfl ⟨?_, ht4, _, rfl⟩)
            rw [old (fun c => by omega)]
            exact L4
          · rw [decide_eq_true (by omega)]
            refine ifT rfl ⟨_, rfl, _, rfl, d, _, rfl, DGet.k (k := .inl (g : Int)) L4.ed, _, rfl, ?_⟩
            by_cases mem : g ∈ S1.1
            · refine ifF (by show (!(valV (dI S1.1) (.inl (g : Int))).isSome) = false; rw [dI_val, decide_eq_true mem]; rfl) ⟨?_, ht4, _, rfl⟩
              rw [old (fun c => c.2 mem)]
              exact L4
            · refine ifT (by show (!(valV (dI S1.1) (.inl (g : Int))).isSome) = true; rw [dI_val, decide_eq_false mem]; rfl) ?_
              refine ⟨_, rfl, _, rfl, d, _, rfl, DPut.k (k := .inl (g : Int)) L4.ed (by rw [dI_len]; exact small1000 (by omega)), ?_⟩
              have du : u ≠ d := ne_of L4.eu L4.ed (fun z => nomatch z)
              refine ⟨_, rfl, .inl ⟨rfl, _, lstAt (by rw [upd_ne du]; exact L4.eu)⟩, _, rfl, u, _, _, rfl, rfl, by rw [upd_ne du]; exact L4.eu, by rw [List.length_map, nI_len]; exact small1000 (by omega), ⟨?_, ?_, _, rfl⟩⟩
              · have new : goalM pg.length S1 g = (S1.1 ++ [g], S1.2 ++ [g]) := by
                  unfold goalM
                  rw [if_pos ⟨by omega, mem⟩]
                rw [new]
                exact L4.add hd huH lu mem
              · rw [upd_ne tu, upd_ne (ne_of ht4 L4.ed (fun z => nomatch z))]
                exact ht4
        · obtain ⟨L4, _, z5, rfl⟩ := h'
          rw [List.length_map, nI_len, List.take_length] at L4
          exact ⟨L4, _, _, rfl⟩
      · obtain ⟨L, z4, z5, rfl⟩ := h'
        rw [List.length_map, nI_len, List.take_length] at L
        refine ⟨_, rfl, meaM pg (k + 1), mea_lessM hw.pos ne, k + 1, u, rfl, ⟨_, _, _, rfl⟩, L.sm, L.ed, L.eu, huH⟩
    · have e : (itM pg k).2 = [] := Classical.byContradiction ne
      have e1 : (!decide (nI (itM pg k).2 = [])) = false := by
        rw [decide_eq_true (nI_nil.mpr e)]
        rfl
      rw [e1]
      refine ifF rfl ⟨_, rfl, d, _, rfl, .inl ed, fun t ht => ?_⟩
      have few := Fk.few
      have few2 := hw.few
      refine ⟨t, nI (itM pg k).1, rfl, lstAt (by rw [upd_same, dI_keys]), by rw [nI_len]; omega, fun ns l2 p u hl2 => ?_⟩
      obtain ⟨rs, rfl, R⟩ := sort_rc hw.pos e p u
      have st := sm.trans (same_new (o := .lst ((dI (itM pg k).1).map fun kv => L2.kV kv.1)) ht)
      exact q _ l2 rs (st.trans (same_new hl2)) R (none_ofM st hl2) upd_same
end
end RH
set_option Elab.async false
set_option linter.all false
set_option maxRecDepth 100000
set_option maxHeartbeats 2000000
namespace RH
open PySem PySem.Spec PyProof.Rows L2
/-! ### the law's own run -/
def insL (K : PySem.W.Frag) (H : Hp) (a : Addr) (xs : List V) : Prop := SqL K H a xs ∨ SqT K H a xs
theorem insL.on {K : PySem.W.Frag} {H H' : Hp} {a : Addr} {xs : List V} (e : Same H H') (h : insL K H a xs) : insL K H' a xs := h.elim (fun h => .inl (e.seq h)) (fun h => .inr (onT e h))
theorem insL.ix {K : PySem.W.Frag} {H : Hp} {a : Addr} {xs : List V} (h : insL K H a xs) (i : Nat) (x : V) (Q : VK) (e : xs[i]? = some x) (q : Q x H) : rIx K (.ref a) (.int (i : Int)) H Q :=
  h.elim (fun h => (sq2L h).ix i x Q e q) (fun h => (sq2T h).ix i x Q e q)
/-- a program, as a tuple or as a list -/
def RPL (K : PySem.W.Frag) (H : Hp) (v : V) (pg : List Ins) : Prop := ∃ a xs, v = .ref a ∧ insL K H a xs ∧ Each (RIns K H) xs pg
theorem RPL.on {K : PySem.W.Frag} {H H' : Hp} {v : V} {pg : List Ins} (e : Same H H') (h : RPL K H v pg) : RPL K H' v pg := by
  obtain ⟨a, xs, rfl, h, hE⟩ := h
  exact ⟨a, xs, rfl, h.on e, hE.imp fun _ _ z => z.on (Same.tups e)⟩
/-- None for a shelf that stands, else its habit -/
def HbL (K : PySem.W.Frag) (H : Hp) (v : V) (n : Nat) (h : List (List Int)) : Prop := (v = .non ∧ h = standH n) ∨ (TII K H v h ∧ ∃ a, v = .ref a)
theorem HbL.on {K : PySem.W.Frag} {H H' : Hp} {v : V} {n : Nat} {h : List (List Int)} (e : Same H H') (q : HbL K H v n h) : HbL K H' v n h := q.elim .inl fun ⟨a, b⟩ => .inr ⟨a.on (Same.tups e), b⟩
/-! the parts of a step -/
def putM : Ins → MS → MS
  | .put c, s => { s with hand := c }
  | _, s => s
def sayM : Ins → MS → MS
  | .say, s => { s with said := s.said ++ [s.hand] }
  | _, s => s
def askI (inp : List Int) : Ins → MS → MS
  | .ask, s => askM inp s
  | _, s => s
def jmpM : Ins → MS → MS
  | .go t, s => { s with pos := t }
  | .zero t, s => if s.hand = 0 then { s with pos := t } else s
  | _, s => s
theorem step_parts (h : List (List Int)) (inp : List Int) (i : Ins) (s : MS) : stepM h inp i s = jmpM i (askI inp i (sayM i (putM i (useM h i { s with pos := s.pos + 1 })))) := by
  cases i with
  | ask =>
    unfold stepM jmpM askI sayM putM useM askM
    dsimp only
  | zero t =>
    unfold stepM jmpM askI sayM putM useM
    dsimp only
  | _ => rfl
structure OkS (n cnt il j : Nat) (s : MS) : Prop where
  hl : s.hold.length = n
  ps : s.pos ≤ cnt
  sd : s.said.length ≤ j
  ak : s.asked ≤ il
theorem okS_step {h : List (List Int)} {inp : List Int} {i : Ins} {n cnt j : Nat} {s : MS} (o : OkS n cnt inp.length j s) (lt : s.pos < cnt) (oi : okIns n cnt i) : OkS n cnt inp.length (j + 1) (stepM h inp i s) := by
  have ⟨o1, o2, o3, o4⟩ := o
  refine ⟨by rw [step_len]; exact o1, ?_, ?_, ?_⟩
  · cases i with
    | go t => exact oi
    | zero t =>
      unfold stepM
      dsimp only
      split
      · exact oi
      · exact lt
    | ask =>
      unfold stepM
      dsimp only
      split <;> exact lt
    | _ => exact lt
  · cases i with
    | say =>
      show (s.said ++ [s.hand]).length ≤ j + 1
      rw [List.length_append, List.length_singleton]
      omega
    | zero t =>
      unfold stepM
      dsimp only
      split <;> (show s.said.length ≤ j + 1; omega)
    | ask =>
      unfold stepM
      dsimp only
      split <;> (show s.said.length ≤ j + 1; omega)
    | _ => exact Nat.le_succ_of_le o3
  · cases i with
    | ask =>
      unfold stepM
      dsimp only
      split
      · exact o4
      · show s.asked + 1 ≤ inp.length
        omega
    | zero t =>
      unfold stepM
      dsimp only
      split <;> exact o4
    | _ => exact o4
/-- where the run's own lists stand -/
structure LaF (H : Hp) (cl sl ll : Addr) : Prop where
  c0 : H cl = none
  s0 : H sl = none
  l0 : H ll = none
  cs : cl ≠ sl
  cL : cl ≠ ll
  sL : sl ≠ ll
structure LsM (H : Hp) (cl sl ll : Addr) (inp : List Int) (s : MS) (H' : Hp) : Prop where
  sm : Same H H'
  ec : H' cl = some (.lst (s.hold.map V.int))
  es : H' sl = some (.lst (s.said.map V.int))
  el : H' ll = some (.lst ((inp.drop s.asked).map V.int))
theorem LsM.same {H H1 H2 : Hp} {cl sl ll : Addr} {inp : List Int} {s : MS} (h : LsM H cl sl ll inp s H1) (e : Same H1 H2) : LsM H cl sl ll inp s H2 := ⟨h.sm.trans e, e _ _ h.ec, e _ _ h.es, e _ _ h.el⟩
theorem LsM.of {H H1 : Hp} {cl sl ll : Addr} {inp : List Int} {s s2 : MS} (h : LsM H cl sl ll inp s H1) (e1 : s2.hold = s.hold) (e2 : s2.said = s.said) (e3 : s2.asked = s.asked) : LsM H cl sl ll inp s2 H1 := ⟨h.sm, by rw [e1]; exact h.ec, by rw [e2]; exact h.es, by rw [e3]; exact h.el⟩
theorem LsM.put_c {H H1 : Hp} {cl sl ll : Addr} {inp : List Int} {s : MS} (h : LsM H cl sl ll inp s H1) (F : LaF H cl sl ll) (ns : List Int) : LsM H cl sl ll inp { s with hold := ns } (upd H1 cl (.lst (ns.map V.int))) :=
  ⟨fun b o e => by rw [upd_ne (ne_of_none e F.c0)]; exact h.sm b o e, upd_same, by rw [upd_ne (Ne.symm F.cs)]; exact h.es, by rw [upd_ne (Ne.symm F.cL)]; exact h.el⟩
theorem LsM.put_s {H H1 : Hp} {cl sl ll : Addr} {inp : List Int} {s : MS} (h : LsM H cl sl ll inp s H1) (F : LaF H cl sl ll) (ns : List Int) : LsM H cl sl ll inp { s with said := ns } (upd H1 sl (.lst (ns.map V.int))) :=
  ⟨fun b o e => by rw [upd_ne (ne_of_none e F.s0)]; exact h.sm b o e, by rw [upd_ne F.cs]; exact h.ec, upd_same, by rw [upd_ne (Ne.symm F.sL)]; exact h.el⟩
theorem LsM.put_l {H H1 : Hp} {cl sl ll : Addr} {inp : List Int} {s : MS} (h : LsM H cl sl ll inp s H1) (F : LaF H cl sl ll) (a : Nat) : LsM H cl sl ll inp { s with asked := a } (upd H1 ll (.lst ((inp.drop a).map V.int))) :=
  ⟨fun b o e => by rw [upd_ne (ne_of_none e F.l0)]; exact h.sm b o e, by rw [upd_ne F.cL]; exact h.ec, by rw [upd_ne F.sL]; exact h.es, upd_same⟩
def SgM (pv iv mv nv hv : V) (cl sl ll : Addr) (s : MS) (dn : Nat) (yw : Option V) (σ : L2.St) : Prop := ∃ y12 y13 y14 y15, σ = [some pv, some iv, some mv, some nv, some hv, some (.ref cl), some (.int s.hand), some (.int (s.pos : Int)), some (.ref sl), some (.ref ll), some (.int (dn : Int)), yw, y12, y13, y14, y15, none]
def GM (H : Hp) (a ai : Addr) (k n : Nat) (hv : V) (cl sl ll : Addr) (inp : List Int) (wa : Addr) (dn : Nat) (s : MS) (σ : L2.St) (H' : Hp) : Prop := SgM (.ref a) (.ref ai) (.int (k : Int)) (.int (n : Int)) hv cl sl ll s dn (some (.ref wa)) σ ∧ LsM H cl sl ll inp s H'
theorem use_none {h : List (List Int)} {i : Ins} {s : MS} (e : i.pl = none) : useM h i s = s := by
  cases i <;> first | rfl | cases e
theorem pl_num {i : Ins} {k : Nat} (e : i.pl = some k) : i.num = [(k : Int)] := by
  cases i <;> first | (cases e; rfl) | cases e
theorem pl_ok {n cnt : Nat} {i : Ins} {k : Nat} (e : i.pl = some k) (o : okIns n cnt i) : k < n := by
  cases i <;> first | (cases e; exact o) | cases e
theorem mid_len (i : Ins) (s : MS) : (midM i s).hold.length = s.hold.length := by
  cases i <;> first | rfl | exact List.length_set ..
abbrev kS (z : Str) : L2.Key := Sum.inr z
/-- what the dict of what a hand may become answers -/
theorem more_val {i : Ins} {k : Nat} (e : i.pl = some k) (s : MS) {c : Int} (hc : (midM i s).hold.getD k 0 = c) :
    (valV (mergeK [] [(kS "get", V.int c), (kS "plus", V.int (s.hand + c)), (kS "minus", V.int (s.hand - c))]) (kS i.word)).getD (.int s.hand) = .int (midM i s).hand := by
  have dec : ∀ {x y : Str}, (Sum.inr x : L2.Key) = Sum.inr y ↔ x = y := ⟨fun z => Sum.inr.inj z, fun z => by rw [z]⟩
  show (valV (putK (putK (putK [] (kS "get") (V.int c)) (kS "plus") (V.int (s.hand + c))) (kS "minus") (V.int (s.hand - c))) (kS i.word)).getD (.int s.hand) = _
  rw [valV_put, valV_put, valV_put, valV_nil]
  subst hc
  have w : ∀ {x y : Str} {α : Type} {p q : α}, x ≠ y → (if kS x = kS y then p else q) = q := fun n => if_neg fun z => n (dec.mp z)
  have yes : ∀ {x y : Str} {α : Type} {p q : α}, x = y → (if kS x = kS y then p else q) = p := fun n => if_pos (congrArg kS n)
  cases i with
  | get k2 =>
    cases e
    rw [w (by simp only [Ins.word]; decide +kernel), w (by simp only [Ins.word]; decide +kernel), yes (x := (Ins.get _).word) (y := "get") rfl]
    rfl
  | plus k2 =>
    cases e
    rw [w (by simp only [Ins.word]; decide +kernel), yes (x := (Ins.plus _).word) (y := "plus") rfl]
    rfl
  | minus k2 =>
    cases e
    rw [yes (x := (Ins.minus _).word) (y := "minus") rfl]
    rfl
  | set k2 =>
    rw [w (by simp only [Ins.word]; decide +kernel), w (by simp only [Ins.word]; decide +kernel), w (by simp only [Ins.word]; decide +kernel)]
    rfl
  | touch k2 =>
    rw [w (by simp only [Ins.word]; decide +kernel), w (by simp only [Ins.word]; decide +kernel), w (by simp only [Ins.word]; decide +kernel)]
    rfl
  | _ => cases e
theorem five_in (i : Ins) : inV (.str i.word) ([.str "get", .str "set", .str "plus", .str "minus", .str "touch"]) = i.pl.isSome := by
  cases i <;> (simp only [Ins.word, Ins.pl, Option.isSome_some, Option.isSome_none]; decide +kernel)
theorem word_put (i : Ins) : (∃ c, i = .put c) ∨ (i.word ≠ "put" ∧ ∀ s, putM i s = s) := by
  cases i with
  | put c => exact .inl ⟨c, rfl⟩
  | _ => exact .inr ⟨by simp only [Ins.word]; decide +kernel, fun _ => rfl⟩
theorem word_say (i : Ins) : i = .say ∨ (i.word ≠ "say" ∧ ∀ s, sayM i s = s) := by
  cases i with
  | say => exact .inl rfl
  | _ => exact .inr ⟨by simp only [Ins.word]; decide +kernel, fun _ => rfl⟩
theorem word_ask (inp : List Int) (i : Ins) : i = .ask ∨ (i.word ≠ "ask" ∧ ∀ s, askI inp i s = s) := by
  cases i with
  | ask => exact .inl rfl
  | _ => exact .inr ⟨by simp only [Ins.word]; decide +kernel, fun _ => rfl⟩
theorem word_jmp (i : Ins) : (∃ t, i = .go t) ∨ (∃ t, i = .zero t) ∨ (i.word ≠ "go" ∧ i.word ≠ "zero" ∧ ∀ s, jmpM i s = s) := by
  cases i with
  | go t => exact .inl ⟨t, rfl⟩
  | zero t => exact .inr (.inl ⟨t, rfl⟩)
  | _ => exact .inr (.inr ⟨by simp only [Ins.word]; decide +kernel, by simp only [Ins.word]; decide +kernel, fun _ => rfl⟩)
theorem word_set (i : Ins) : (∃ k, i = .set k) ∨ (i.word ≠ "set" ∧ ∀ s, (midM i s).hold = s.hold) := by
  cases i with
  | set k => exact .inl ⟨k, rfl⟩
  | _ => exact .inr ⟨by simp only [Ins.word]; decide +kernel, fun _ => rfl⟩
section
variable {P : Program} {w : World} {K : PySem.W.Frag} {mg : Str → Option Value} {base : Heap}
def spLRun (K : PySem.W.Frag) : Sp := fun vs H Q _ => ∃ (pv iv hv : V) (k n : Nat) (pg : List Ins) (inp : List Int) (h : List (List Int)), vs = [pv, iv, .int (k : Int), .int (n : Int), hv] ∧ RPL K H pv pg ∧ TI K H iv inp ∧ HbL K H hv n h ∧ Hb n h ∧
  (∀ i ∈ pg, okIns n pg.length i) ∧ pg.length ≤ 30 ∧ inp.length ≤ 50 ∧ k ≤ 300 ∧
  ∀ H' t sa, Same H H' → H' t = some (.tup [.ref sa, .str (endW pg (runM h inp pg k (startM n)))]) → H' sa = some (.tup ((runM h inp pg k (startM n)).said.map V.int)) → Q (.ref t) H'
theorem ok_lrun (F : Df K mg "_law_run" st__law_run ["program", "inputs", "most", "places", "habit"]) (B : Bu mg) : Cal P w K mg base 1 "_law_run" (spLRun K) := by
  refine mkCal F sc__law_run (fun vs H Q E h => ?_) (fun f cdv A outer s H vs Q E hr h => ?_)
  · obtain ⟨pv, iv, hv, k, n, pg, inp, h, rfl, _⟩ := h
    rfl
  · obtain ⟨pv', iv, hv, k, n, pg, inp, h, rfl, hP, hI, hH, hb, ok, few, fi, hk, q⟩ := h
    refine ⟨_, pss_cons (ps_cutM (ps_asg (pe_tup (pa_cons (pe_op op_rep (pe_lst (pa_cons pe_int pa_nil)) (pv 3)) (pa_cons pe_int (pa_cons pe_int (pa_cons (pe_lst pa_nil) (pa_cons (pe_callTy (cl_listOf K) (by rfl) B.list (by decide +kernel) (pa_cons (pv 1) pa_nil)) (pa_cons pe_int pa_nil)))))))
        (pg_tup rfl (pgs_cons (pg_name (i := 5) sc__law_run.nd rfl (Or.inl rfl)) (pgs_cons (pg_name (i := 6) sc__law_run.nd rfl (Or.inl rfl)) (pgs_cons (pg_name (i := 7) sc__law_run.nd rfl (Or.inl rfl)) (pgs_cons (pg_name (i := 8) sc__law_run.nd rfl (Or.inl rfl)) (pgs_cons (pg_name (i := 9) sc__law_run.nd rfl (Or.inl rfl)) (pgs_cons (pg_name (i := 10) sc__law_run.nd rfl (Or.inl rfl)) pgs_nil)))))))))
      (pss_cons (ps_cutM (ps_while PassesOwn.never (PW.pt (pw_and (pt_cmpR op_lt (pv 7) (pe_callB (cl_len K) (by rfl) B.len PySem.boot_len (pa_cons (pv 0) pa_nil)) (nomark _)) (pw_and (pt_cmpR (op_neD hr.units) (pe_ix (ixS K) (pv 0) (pv 7) (fun _ _ => rfl)) (pe_tup (pa_cons pe_str pa_nil)) (nomark _)) (pw_and1 (pt_cmpR op_lt (pv 10) (pv 2) (nomark _))))))
        (pss_cons (ps_cutM (ps_par3 (i := 11) (j := 10) (l := 7) rfl sc__law_run.nd rfl rfl rfl (by decide) (by decide) (by decide) rfl rfl rfl (pa_cons (pe_ix (ixS K) (pv 0) (pv 7) (fun _ _ => rfl)) (pa_cons (pe_op op_add (pv 10) pe_int) (pa_cons (pe_op op_add (pv 7) pe_int) pa_nil))) rfl))
        (pss_cons (ps_cutM (ps_if (pt_cmpR (opIn K) (pe_ix (ixT K) (pv 11) pe_int (fun _ _ => rfl)) (pe_lst (pa_cons pe_str (pa_cons pe_str (pa_cons pe_str (pa_cons pe_str (pa_cons pe_str pa_nil)))))) rfl)
          (pss_cons (ps_set (i := 12) sc__law_run.nd rfl (.inl rfl) (pe_ix (ixT K) (pv 11) pe_int (fun _ _ => rfl)))
          (pss_cons (ps_cutM (ps_if (pt_cmpR op_eq (pe_ix (ixT K) (pv 11) pe_int (fun _ _ => rfl)) pe_str (nomark _)) (pss_one (ps_asg (pv 6) (pg_sub (pv 5) (pv 12) set_list))) pss_nil))
          (pss_cons (ps_set (i := 13) sc__law_run.nd rfl (.inl rfl) (pe_disp (pps_cons pe_str (pe_ix ix_list (pv 5) (pv 12) (fun _ _ => rfl)) (pps_cons pe_str (pe_op op_add (pv 6) (pe_ix ix_list (pv 5) (pv 12) (fun _ _ => rfl))) (pps_cons pe_str (pe_op op_sub (pv 6) (pe_ix ix_list (pv 5) (pv 12) (fun _ _ => rfl))) pps_nil))) rfl rfl (fun z => nomatch z) (by decide)))
          (pss_cons (ps_cutM (ps_set (i := 6) sc__law_run.nd rfl (.inl rfl) (pe_dget2 (hu_of hr) (pv 13) (pe_ix (ixT K) (pv 11) pe_int (fun _ _ => rfl)) (pv 6) ⟨by rfl, by rfl, by rfl, by rfl⟩)))
          (pss_one (ps_if (pt_cmp (pc_notN (pv 4)))
            (pss_cons (ps_set (i := 14) sc__law_run.nd rfl (.inl rfl) (pe_callTy (cl_listOf K) (by rfl) B.list (by decide +kernel) (pa_cons (pv 5) pa_nil)))
            (pss_one (ps_for PassesOwn.never rfl (pi_range1 (by rfl) B.range (pa_cons (pv 3) pa_nil)) (pg_name (i := 15) sc__law_run.nd rfl (.inl rfl))
              (pss_one (ps_asg (pe_ix ix_list (pv 14) (pv 15) (fun _ _ => rfl)) (pg_sub (pv 5) (pe_ix (ixT K) (pe_ix (ixT K) (pv 4) (pv 12) (fun _ _ => rfl)) (pv 15) (fun _ _ => rfl)) set_list)))))) pss_nil)))))) pss_nil))
        (pss_cons (ps_cutM (ps_if (pt_cmpR op_eq (pe_ix (ixT K) (pv 11) pe_int (fun _ _ => rfl)) pe_str (nomark _)) (pss_one (ps_set (i := 6) sc__law_run.nd rfl (.inl rfl) (pe_ix (ixT K) (pv 11) pe_int (fun _ _ => rfl)))) pss_nil))
        (pss_cons (ps_cutM (ps_if (pt_cmpR op_eq (pe_ix (ixT K) (pv 11) pe_int (fun _ _ => rfl)) pe_str (nomark _)) (pss_one (ps_expr (pe_bm PySem.F.plainAttrs_list PySem.F.slot_list_append PySem.F.type_list_append mt_append (pv 8) (pa_cons (pv 6) pa_nil)))) pss_nil))
        (pss_cons (ps_cutM (ps_if (pt_cmpR op_eq (pe_ix (ixT K) (pv 11) pe_int (fun _ _ => rfl)) pe_str (nomark _)) (pss_one (ps_set (i := 6) sc__law_run.nd rfl (.inl rfl) (pe_ifExp (pt_cmpR (op_neD hr.units) (pv 9) (pe_lst pa_nil) (nomark _)) (pe_bm PySem.F.plainAttrs_list PySem.F.slot_list_pop PySem.F.type_list_pop mt_popAt (pv 9) (pa_cons pe_int pa_nil)) pe_int))) pss_nil))
        (pss_one (ps_if (PW.pt (pw_or (pt_cmpR op_eq (pe_ix (ixT K) (pv 11) pe_int (fun _ _ => rfl)) pe_str (nomark _)) (pw_or1 (PW.pt (pw_and (pt_cmpR op_eq (pe_ix (ixT K) (pv 11) pe_int (fun _ _ => rfl)) pe_str (nomark _)) (pw_and1 (pt_cmpR op_eq (pv 6) pe_int (nomark _)))))))) (pss_one (ps_set (i := 7) sc__law_run.nd rfl (.inl rfl) (pe_ix (ixT K) (pv 11) pe_int (fun _ _ => rfl)))) pss_nil)))))))))
      (pss_cons (ps_set (i := 16) sc__law_run.nd rfl (.inl rfl) (pe_or (pe_cmpR op_eq (pv 7) (pe_callB (cl_len K) (by rfl) B.len PySem.boot_len (pa_cons (pv 0) pa_nil)) (nomark _)) (pe_one (pe_cmpR (op_eqD hr.units) (pe_ix (ixS K) (pv 0) (pv 7) (fun _ _ => rfl)) (pe_tup (pa_cons pe_str pa_nil)) (nomark _)))))
      (pss_one (ps_ret (pe_tup (pa_cons (pe_tupleOf (by rfl) B.tuple (pv 8)) (pa_cons (pe_ifExp (pt_val (pv 16)) pe_str pe_str) pa_nil))))))), ?_⟩
    obtain ⟨a, xs, rfl, hL, hE⟩ := id hP
    have hlen := hE.len
    have n5 := hb.hi
    obtain ⟨ai, eiv, hI0⟩ := id hI
    subst eiv
    refine ⟨fun σ1 H1 => ∃ cl sl ll, LaF H cl sl ll ∧ SgM (.ref a) (.ref ai) (.int (k : Int)) (.int (n : Int)) hv cl sl ll (startM n) 0 none σ1 ∧ LsM H cl sl ll inp (startM n) H1, fun σ1 H1 g1 => ?_, ?_⟩
    case refine_2 =>
      refine ⟨by show 1 ≤ sizeLine; decide, fun z hz => ⟨_, rfl, z, (n : Int), [.int 0], rfl, rfl, upd_same, by omega, by omega, ?_, fun cl hcl => ⟨Nat.zero_le _, fun sl hsl => ⟨_, rfl, ai, _, rfl, .inr (onT (((same_new hz).trans (same_new hcl)).trans (same_new hsl)) hI0), fun ll hll => ⟨by show 6 ≤ sizeLine; decide, fun t ht => ?_⟩⟩⟩⟩⟩
      · rw [Int.toNat_natCast]
        exact Nat.le_of_lt (small1000 (by show 1 * n ≤ 1000; omega))
      rw [Int.toNat_natCast, rep_ints] at *
      have z1 := same_new (o := .lst [.int 0]) hz
      have z2 := z1.trans (same_new (o := .lst ((List.replicate n (0 : Int)).map V.int)) hcl)
      have z3 := z2.trans (same_new (o := .lst []) hsl)
      have z4 := z3.trans (same_new (o := .lst (inp.map V.int)) hll)
      refine ⟨t, _, rfl, tupAt upd_same, rfl, _, _, rfl, _, _, rfl, _, _, rfl, _, _, rfl, _, _, rfl, _, _, rfl, rfl, cl, sl, ll, ⟨none_ofM z1 hcl, none_ofM z2 hsl, none_ofM z3 hll, ne_of_none upd_same hsl, ?_, ne_of_none upd_same hll⟩, ⟨_, _, _, _, rfl⟩, ?_⟩
      · exact ne_of_none (same_new (o := .lst []) hsl _ _ upd_same) hll
      · have z5 := same_new (o := .lst (inp.map V.int)) hll
        have z6 := same_new (o := .tup [.ref cl, .int 0, .int 0, .ref sl, .ref ll, .int 0]) ht
        exact ⟨z4.trans z6, z6 _ _ (z5 _ _ (same_new (o := .lst []) hsl _ _ upd_same)), z6 _ _ (z5 _ _ upd_same), z6 _ _ upd_same⟩
    obtain ⟨cl, sl, ll, Fa, ⟨x12, x13, x14, x15, rfl⟩, L0⟩ := g1
    refine ⟨fun σ2 H2 => ∃ yw dn, SgM (.ref a) (.ref ai) (.int (k : Int)) (.int (n : Int)) hv cl sl ll (runM h inp pg k (startM n)) dn yw σ2 ∧ OkS n pg.length inp.length 300 (runM h inp pg k (startM n)) ∧ LsM H cl sl ll inp (runM h inp pg k (startM n)) H2, fun σ2 H2 g2 => ?_, ?_⟩
    · obtain ⟨yw, dn, ⟨y12, y13, y14, y15, rfl⟩, O, L⟩ := g2
      generalize es : runM h inp pg k (startM n) = s at L O q ⊢
      have hL2 := hL.on L.sm
      have fin : ∀ (b : Bool) (H3 : Hp), Same H2 H3 → b = endM pg s.pos → tRet (tTup (tCons (tThen (tVar 8) (kTup K)) (tCons (tIf (tTest (tVar 16)) (tC (.str "stopped")) (tC (.str "running"))) tNil))) { nx := fun _ H' => Q .non H', rt := Q } [some (.ref a), some (.ref ai), some (.int (k : Int)), some (.int (n : Int)), some hv, some (.ref cl), some (.int s.hand), some (.int (s.pos : Int)), some (.ref sl), some (.ref ll), some (.int (dn : Int)), yw, y12, y13, y14, y15, some (.bl b)] H3 := fun b H3 s3 eb => by
        subst eb
        have L3 := L.same s3
        refine ⟨_, rfl, .inl ⟨sl, _, rfl, lstAt L3.es, fun sa hsa => ?_⟩⟩
        have s4 := same_new (o := .tup (s.said.map V.int)) hsa
        have last : ∀ z : Str, endW pg s = z → ∀ t, (upd H3 sa (.tup (s.said.map V.int))) t = none → Q (.ref t) (upd (upd H3 sa (.tup (s.said.map V.int))) t (.tup [.ref sa, .str z])) := fun z ez t ht => by
          have s5 := same_new (o := .tup [.ref sa, .str z]) ht
          exact q _ t sa (L3.sm.trans (s4.trans s5)) (by rw [upd_same, ez]) (s5 _ _ upd_same)
        cases e : endM pg s.pos with
        | true => exact ⟨_, rfl, _, rfl, ifT rfl ⟨by show 2 ≤ sizeLine; decide, last _ (by unfold endW; rw [if_pos e])⟩⟩
        | false => exact ⟨_, rfl, _, rfl, ifF rfl ⟨by show 2 ≤ sizeLine; decide, last _ (by unfold endW; rw [if_neg (by rw [e]; decide)])⟩⟩
      refine ⟨_, rfl, _, rfl, a, xs, rfl, hL2, rfl, _, rfl, ?_⟩
      rw [hlen, dec_int]
      by_cases e : s.pos = pg.length
      · have : ((s.pos : Int) == (pg.length : Int)) = true := by rw [e]; exact beq_self_eq_true _
        rw [this]
        refine ifT rfl (fin _ _ (Same.refl H2) ?_)
        unfold endM
        rw [List.getElem?_eq_none (by omega)]
      · have : ((s.pos : Int) == (pg.length : Int)) = false := by
          rw [beq_eq_false_iff_ne]
          omega
        rw [this]
        have hps := O.ps
        obtain ⟨i, hi⟩ : ∃ i, pg[s.pos]? = some i := ⟨_, List.getElem?_eq_getElem (by omega)⟩
        obtain ⟨x, hx, r⟩ := hE.of hi
        refine ifF rfl ⟨_, rfl, _, rfl, hL2.ix s.pos x _ hx ⟨by show 1 ≤ sizeLine; decide, fun t ht => ?_⟩⟩
        have s1 := same_new (o := .tup [.str "stop"]) ht
        refine ⟨i.data, .tuple [.str "stop"], (r.on (Same.tups (L.sm.trans s1))).dp, .tup (tupAt upd_same) (.cons (.str _) .nil), i.shaped, by decide +kernel, ?_⟩
        rw [i.stop_eq, ← endM_lt hi]
        exact fin _ _ s1 rfl
    · refine ⟨fun m σ H' => ∃ j s yw, m = k - j ∧ j ≤ k ∧ s = runM h inp pg j (startM n) ∧ OkS n pg.length inp.length j s ∧ SgM (.ref a) (.ref ai) (.int (k : Int)) (.int (n : Int)) hv cl sl ll s j yw σ ∧ LsM H cl sl ll inp s H',
        ⟨k, 0, startM n, none, rfl, Nat.zero_le _, rfl, ⟨List.length_replicate, Nat.zero_le _, Nat.zero_le _, Nat.zero_le _⟩, ⟨_, _, _, _, rfl⟩, L0⟩, ?_⟩
      rintro m σ H2 ⟨j, s, yw, rfl, hj, es, O, ⟨y12, y13, y14, y15, rfl⟩, L⟩
      have hL2 := hL.on L.sm
      have O300 : ∀ {s : MS}, OkS n pg.length inp.length j s → OkS n pg.length inp.length 300 s := fun o => ⟨o.hl, o.ps, Nat.le_trans o.sd (by omega), o.ak⟩
      -- the loop ends
      have out : ∀ H3, Same H2 H3 → runM h inp pg k (startM n) = s → ∃ yw2 dn, SgM (.ref a) (.ref ai) (.int (k : Int)) (.int (n : Int)) hv cl sl ll (runM h inp pg k (startM n)) dn yw2 [some (.ref a), some (.ref ai), some (.int (k : Int)), some (.int (n : Int)), some hv, some (.ref cl), some (.int s.hand), some (.int (s.pos : Int)), some (.ref sl), some (.ref ll), some (.int (j : Int)), yw, y12, y13, y14, y15, none] ∧ OkS n pg.length inp.length 300 (runM h inp pg k (startM n)) ∧ LsM H cl sl ll inp (runM h inp pg k (startM n)) H3 := fun H3 s3 e => by
        rw [e]
        exact ⟨yw, j, ⟨_, _, _, _, rfl⟩, O300 O, L.same s3⟩
      have ended : endM pg s.pos = true → runM h inp pg k (startM n) = s := fun e => by
        have : k = j + (k - j) := by omega
        rw [es] at e ⊢
        rw [this, runM_stop e]
      refine ⟨_, rfl, _, rfl, a, xs, rfl, hL2, (s.pos : Int), (xs.length : Int), rfl, rfl, _, rfl, ?_⟩
      rw [hlen]
      by_cases e : s.pos < pg.length
      · rw [decide_eq_true (by omega)]
        obtain ⟨i, hi⟩ : ∃ i, pg[s.pos]? = some i := ⟨_, List.getElem?_eq_getElem e⟩
        obtain ⟨x, hx, r⟩ := hE.of hi
        refine ifT rfl ⟨_, rfl, _, rfl, hL2.ix s.pos x _ hx ⟨by show 1 ≤ sizeLine; decide, fun t ht => ?_⟩⟩
        have s1 := same_new (o := .tup [.str "stop"]) ht
        refine ⟨i.data, .tuple [.str "stop"], (r.on (Same.tups (L.sm.trans s1))).dp, .tup (tupAt upd_same) (.cons (.str _) .nil), i.shaped, by decide +kernel, _, rfl, ?_⟩
        rw [i.stop_eq]
        by_cases est : i = .stop
        · rw [decide_eq_true est]
          refine ifF rfl (ifF rfl (out _ s1 (ended ?_)))
          rw [endM_lt hi, decide_eq_true est]
        · rw [decide_eq_false est]
          refine ifT rfl ⟨_, rfl, _, rfl, (j : Int), (k : Int), rfl, rfl, _, rfl, ?_⟩
          by_cases jk : j < k
          · rw [decide_eq_true (by omega)]
            refine ifT rfl ⟨fun σ' H' => ∃ m', m' < k - j ∧ ∃ j s yw, m' = k - j ∧ j ≤ k ∧ s = runM h inp pg j (startM n) ∧ OkS n pg.length inp.length j s ∧ SgM (.ref a) (.ref ai) (.int (k : Int)) (.int (n : Int)) hv cl sl ll s j yw σ' ∧ LsM H cl sl ll inp s H', fun _ _ h => h, ?_⟩
            have L1 := L.same s1
            have hL1 := hL.on L1.sm
            generalize (upd H2 t (.tup [.str "stop"])) = H3 at L1 hL1
            obtain ⟨wa, rfl, hw⟩ := r
            have oki := ok i (List.mem_of_getElem? hi)
            have w0 : ∀ {vs : List V}, atI (V.str i.word :: vs) 0 = some (V.str i.word) := (show atI _ ((0 : Nat) : Int) = some _ from atI_nat rfl)
            have wat : ∀ {H4 : Hp} {s' : MS}, LsM H cl sl ll inp s' H4 → SqT K H4 wa (.str i.word :: i.num.map V.int) := fun l => onT l.sm hw
            refine ⟨GM H a ai k n hv cl sl ll inp wa (j + 1) { s with pos := s.pos + 1 }, fun σ4 H4 g4 => ?_, ⟨_, rfl, _, rfl, hL1.ix s.pos _ _ hx ⟨_, rfl, (j : Int), 1, rfl, rfl, _, rfl, (s.pos : Int), 1, rfl, rfl, _, _, _, rfl, ⟨_, _, _, _, rfl⟩, L1.of rfl rfl rfl⟩⟩⟩
            obtain ⟨⟨z12, z13, z14, z15, rfl⟩, L4⟩ := g4
            have O1 : ({ s with pos := s.pos + 1 } : MS).hold.length = n := O.hl
            have step := step_parts h inp i s
            have Onew := okS_step (h := h) (inp := inp) O e oki
            generalize es1 : ({ s with pos := s.pos + 1 } : MS) = s1 at L4 O1 step ⊢
            refine ⟨GM H a ai k n hv cl sl ll inp wa (j + 1) (useM h i s1), fun σ5 H5 g5 => ?_, ?_⟩
            case refine_2 =>
              refine ⟨_, rfl, wa, _, 0, .str i.word, rfl, rfl, wat L4, w0, by show 5 ≤ sizeLine; decide, fun la hla => ⟨la, _, rfl, .inl (lstAt upd_same), rfl, by decide, _, rfl, ?_⟩⟩
              have L5 := L4.same (same_new (o := .lst [.str "get", .str "set", .str "plus", .str "minus", .str "touch"]) hla)
              rw [five_in]
              generalize (upd H4 la (.lst [.str "get", .str "set", .str "plus", .str "minus", .str "touch"])) = H5 at L5 ⊢
              cases epl : i.pl with
              | none =>
                refine ifF rfl ⟨?_, ?_⟩
                · rw [use_none epl]
                  exact ⟨_, _, _, _, rfl⟩
                · rw [use_none epl]
                  exact L5
              | some kk =>
                have kn := pl_ok epl oki
                have wn : ∀ {H4 : Hp} {s' : MS}, LsM H cl sl ll inp s' H4 → SqT K H4 wa [.str i.word, .int (kk : Int)] := fun l => by
                  have := wat l
                  rw [pl_num epl] at this
                  exact this
                refine ifT rfl ⟨_, rfl, wa, _, 1, .int (kk : Int), rfl, rfl, wn L5, rfl, ?_⟩
                have kl : kk < s1.hold.length := by rw [O1]; exact kn
                refine ⟨fun σ6 H6 => (∃ y13 y14 y15, σ6 = [some (.ref a), some (.ref ai), some (.int (k : Int)), some (.int (n : Int)), some hv, some (.ref cl), some (.int s1.hand), some (.int (s1.pos : Int)), some (.ref sl), some (.ref ll), some (.int ((j + 1 : Nat) : Int)), some (.ref wa), some (.int (kk : Int)), y13, y14, y15, none]) ∧ LsM H cl sl ll inp { s1 with hold := (midM i s1).hold } H6, fun σ6 H6 g6 => ?_, ?_⟩
                case refine_2 =>
                  refine ⟨_, rfl, wa, _, 0, _, rfl, rfl, wn L5, w0, rfl, _, rfl, ?_⟩
                  rcases word_set i with ⟨k2, rfl⟩ | ⟨ne, same⟩
                  · cases epl
                    refine ifT (str_yes _) ⟨_, rfl, _, rfl, _, rfl, cl, _, (kk : Int), kk, rfl, rfl, L5.ec, ?_, ⟨_, _, _, rfl⟩, ?_⟩
                    · have := ixN_int (n := (s1.hold.map V.int).length) (k := (kk : Int)) (by omega) (by rw [List.length_map]; omega)
                      exact this
                    · have := L5.put_c Fa (s1.hold.set kk s1.hand)
                      rw [List.map_set] at this
                      exact this
                  · refine ifF (str_no ne) ⟨⟨_, _, _, rfl⟩, ?_⟩
                    rw [same]
                    exact L5.of rfl rfl rfl
                obtain ⟨⟨y13, y14, y15, rfl⟩, L6⟩ := g6
                have ml : (midM i s1).hold.length = n := by rw [mid_len, O1]
                obtain ⟨c, hc⟩ : ∃ c, (midM i s1).hold[kk]? = some c := ⟨_, List.getElem?_eq_getElem (by omega)⟩
                have ec : (midM i s1).hold.getD kk 0 = c := by rw [List.getD_eq_getElem?_getD, hc]; rfl
                intro D hD
                have sD := same_new (o := .dK []) hD
                refine ⟨_, rfl, _, rfl, cl, (midM i s1).hold.map V.int, (kk : Int), .int c, rfl, rfl, lstAt (sD _ _ L6.ec), atI_nat (by rw [List.getElem?_map, hc]; rfl), _, rfl, _, rfl, _, rfl, cl, (midM i s1).hold.map V.int, (kk : Int), .int c, rfl, rfl, lstAt (sD _ _ L6.ec), atI_nat (by rw [List.getElem?_map, hc]; rfl), s1.hand, c, rfl, rfl, _, rfl, _, rfl, _, rfl, cl, (midM i s1).hold.map V.int, (kk : Int), .int c, rfl, rfl, lstAt (sD _ _ L6.ec), atI_nat (by rw [List.getElem?_map, hc]; rfl), s1.hand, c, rfl, rfl, upd_same, [(kS "get", V.int c), (kS "plus", V.int (s1.hand + c)), (kS "minus", V.int (s1.hand - c))], rfl, by show 3 ≤ 15; decide, ?_⟩
                rw [upd_upd]
                have sD2 := same_new (o := .dK (mergeK [] [(kS "get", V.int c), (kS "plus", V.int (s1.hand + c)), (kS "minus", V.int (s1.hand - c))])) hD
                have L7 := L6.same sD2
                have eD : (upd H6 D (.dK (mergeK [] [(kS "get", V.int c), (kS "plus", V.int (s1.hand + c)), (kS "minus", V.int (s1.hand - c))]))) D = some (.dK (mergeK [] [(kS "get", V.int c), (kS "plus", V.int (s1.hand + c)), (kS "minus", V.int (s1.hand - c))])) := upd_same
                generalize (upd H6 D (.dK (mergeK [] [(kS "get", V.int c), (kS "plus", V.int (s1.hand + c)), (kS "minus", V.int (s1.hand - c))]))) = H7 at L7 eD ⊢
                refine ⟨fun σ8 H8 => (∃ y13 y14 y15, σ8 = [some (.ref a), some (.ref ai), some (.int (k : Int)), some (.int (n : Int)), some hv, some (.ref cl), some (.int (midM i s1).hand), some (.int (s1.pos : Int)), some (.ref sl), some (.ref ll), some (.int ((j + 1 : Nat) : Int)), some (.ref wa), some (.int (kk : Int)), y13, y14, y15, none]) ∧ LsM H cl sl ll inp (midM i s1) H8, fun σ8 H8 g8 => ?_, ?_⟩
                case refine_2 =>
                  refine ⟨_, rfl, D, rfl, .inl ⟨_, .inl eD⟩, _, rfl, wa, _, 0, _, rfl, rfl, wn L7, w0, _, rfl, _, DGet.k (k := kS i.word) eD, ?_⟩
                  rw [more_val epl s1 ec]
                  refine ⟨⟨_, _, _, rfl⟩, L7.of rfl ?_ ?_⟩
                  · cases i <;> rfl
                  · cases i <;> rfl
                obtain ⟨⟨y13, y14, y15, rfl⟩, L8⟩ := g8
                have ue := use_mid (h := h) (s := s1) epl
                have upos := use_pos h i s1
                rw [ue] at upos
                have finU : ∀ (y13 y14 y15 : Option V) (H9 : Hp), LsM H cl sl ll inp (MS.moved h kk (midM i s1)) H9 → GM H a ai k n hv cl sl ll inp wa (j + 1) (useM h i s1) [some (.ref a), some (.ref ai), some (.int (k : Int)), some (.int (n : Int)), some hv, some (.ref cl), some (.int (midM i s1).hand), some (.int (s1.pos : Int)), some (.ref sl), some (.ref ll), some (.int ((j + 1 : Nat) : Int)), some (.ref wa), some (.int (kk : Int)), y13, y14, y15, none] H9 := fun y13 y14 y15 H9 l => by
                  rw [ue]
                  have ps : (MS.moved h kk (midM i s1)).pos = s1.pos := upos.1
                  refine ⟨⟨some (.int (kk : Int)), y13, y14, y15, ?_⟩, l⟩
                  rw [ps]
                  rfl
                rcases id hH with ⟨rfl, rfl⟩ | ⟨hT, ah, rfl⟩
                · refine ⟨_, rfl, _, rfl, ifF (by rw [decide_eq_true rfl]; rfl) (finU _ _ _ _ (L8.of ?_ rfl rfl))⟩
                  show bm ((standH n).getD kk []) (midM i s1).hold = (midM i s1).hold
                  have : (standH n).getD kk [] = rg n := by
                    unfold standH
                    rw [List.getD_eq_getElem?_getD, List.getElem?_replicate, if_pos kn]
                    rfl
                  rw [this]
                  exact bm_id ml
                · obtain ⟨ah', xh, eah, hSh, hEh⟩ := hT
                  cases eah
                  obtain ⟨mm, hmm⟩ : ∃ mm, h[kk]? = some mm := ⟨_, List.getElem?_eq_getElem (by rw [hb.len]; exact kn)⟩
                  have emm : h.getD kk [] = mm := by rw [List.getD_eq_getElem?_getD, hmm]; rfl
                  have pm := hb.perm mm (List.mem_of_getElem? hmm)
                  have lm := perm_len5 pm
                  obtain ⟨xm, hxm, am, rfl, hM⟩ := hEh.of hmm
                  refine ⟨_, rfl, _, rfl, ifT (by rw [decide_eq_false (fun z => nomatch z)]; rfl) ⟨_, rfl, cl, _, rfl, .inl (lstAt L8.ec), fun o ho => ?_⟩⟩
                  have so := same_new (o := .lst ((midM i s1).hold.map V.int)) ho
                  have oc : o ≠ cl := (ne_of_none L8.ec ho).symm
                  have L9 := L8.same so
                  refine ⟨_, rfl, (n : Int), rfl, by omega, by omega, ?_⟩
                  rw [Int.toNat_natCast]
                  refine for_range (lo := 0) (n := n) (fun ii σ H' => (∃ y15, σ = [some (.ref a), some (.ref ai), some (.int (k : Int)), some (.int (n : Int)), some (.ref ah), some (.ref cl), some (.int (midM i s1).hand), some (.int (s1.pos : Int)), some (.ref sl), some (.ref ll), some (.int ((j + 1 : Nat) : Int)), some (.ref wa), some (.int (kk : Int)), y13, some (.ref o), y15, none]) ∧ LsM H cl sl ll inp { midM i s1 with hold := bmI mm (midM i s1).hold ii } H' ∧ H' o = some (.lst ((midM i s1).hold.map V.int)))
                    ⟨⟨_, rfl⟩, L9.of rfl rfl rfl, upd_same⟩ (fun ii σ H' hii h' => ?_) (fun σ H' h' => ?_)
                  · obtain ⟨⟨w15, rfl⟩, L10, eo⟩ := h'
                    rw [Int.zero_add]
                    obtain ⟨g, hg⟩ : ∃ g, mm[ii]? = some g := ⟨_, List.getElem?_eq_getElem (by omega)⟩
                    obtain ⟨zz, hz⟩ : ∃ zz, (midM i s1).hold[ii]? = some zz := ⟨_, List.getElem?_eq_getElem (by omega)⟩
                    have gr := rg_mem.mp (pm.mem_iff.mp (List.mem_of_getElem? hg))
                    have t10 : Tups K H H' := Same.tups L10.sm
                    refine ⟨_, rfl, _, rfl, o, _, (ii : Int), .int zz, rfl, rfl, lstAt eo, atI_nat (by rw [List.getElem?_map, hz]; rfl), _, rfl, _, rfl, _, rfl, ah, xh, (kk : Int), .ref am, rfl, rfl, t10 _ _ hSh, atI_nat hxm, _, rfl, am, mm.map V.int, (ii : Int), .int g, rfl, rfl, t10 _ _ hM, atI_nat (by rw [List.getElem?_map, hg]; rfl), cl, _, g, g.toNat, rfl, rfl, L10.ec, ?_, ⟨_, rfl⟩, ?_, ?_⟩
                    · have h0 := gr.1
                      have h1 := gr.2
                      have := ixN_int (n := ((bmI mm (midM i s1).hold ii).map V.int).length) (k := g) h0 (by rw [List.length_map, bmI_len]; omega)
                      exact this
                    · have ez : (midM i s1).hold.getD ii 0 = zz := by rw [List.getD_eq_getElem?_getD, hz]; rfl
                      have eg : mm.getD ii 0 = g := by rw [List.getD_eq_getElem?_getD, hg]; rfl
                      have := L10.put_c Fa (bmI mm (midM i s1).hold (ii + 1))
                      rw [bmI_succ, eg, ez, List.map_set] at this
                      rw [bmI_succ, eg, ez]
                      exact this
                    · rw [upd_ne oc]
                      exact eo
                  · obtain ⟨⟨w15, rfl⟩, L10, _⟩ := h'
                    refine finU _ _ _ _ (L10.of ?_ rfl rfl)
                    show bm (h.getD kk []) (midM i s1).hold = bmI mm (midM i s1).hold n
                    rw [emm]
                    unfold bm bmI
                    rw [lm]
            obtain ⟨⟨z12, z13, z14, z15, rfl⟩, L5⟩ := g5
            have a2 : (useM h i s1).said.length ≤ j ∧ (useM h i s1).asked ≤ inp.length := by
              have u := use_pos h i s1
              rw [u.2.1, u.2.2, ← es1]
              exact ⟨O.sd, O.ak⟩
            generalize useM h i s1 = s2 at L5 step a2
            have a3 : (putM i s2).said.length ≤ j ∧ (putM i s2).asked ≤ inp.length := by
              cases i <;> exact a2
            -- put
            refine ⟨GM H a ai k n hv cl sl ll inp wa (j + 1) (putM i s2), fun σ6 H6 g6 => ?_, ?_⟩
            case refine_2 =>
              refine ⟨_, rfl, wa, _, 0, .str i.word, rfl, rfl, wat L5, w0, rfl, _, rfl, ?_⟩
              rcases word_put i with ⟨c, rfl⟩ | ⟨ne, same⟩
              · exact ifT (str_yes _) ⟨_, rfl, wa, _, 1, .int c, rfl, rfl, wat L5, rfl, ⟨_, _, _, _, rfl⟩, L5.of rfl rfl rfl⟩
              · rw [same]
                exact ifF (str_no ne) ⟨⟨_, _, _, _, rfl⟩, L5⟩
            obtain ⟨⟨z12, z13, z14, z15, rfl⟩, L6⟩ := g6
            generalize putM i s2 = s3 at L6 step a3
            have a4 : (sayM i s3).asked ≤ inp.length := by
              cases i <;> exact a3.2
            -- say
            refine ⟨GM H a ai k n hv cl sl ll inp wa (j + 1) (sayM i s3), fun σ7 H7 g7 => ?_, ?_⟩
            case refine_2 =>
              refine ⟨_, rfl, wa, _, 0, .str i.word, rfl, rfl, wat L6, w0, rfl, _, rfl, ?_⟩
              rcases word_say i with rfl | ⟨ne, same⟩
              · refine ifT (str_yes _) ⟨_, rfl, .inl ⟨rfl, _, lstAt L6.es⟩, _, rfl, sl, _, _, rfl, rfl, L6.es, by rw [List.length_map]; exact small1000 (by omega), ⟨_, _, _, _, rfl⟩, ?_⟩
                have := L6.put_s Fa (s3.said ++ [s3.hand])
                rw [List.map_append] at this
                exact this
              · rw [same]
                exact ifF (str_no ne) ⟨⟨_, _, _, _, rfl⟩, L6⟩
            obtain ⟨⟨z12, z13, z14, z15, rfl⟩, L7⟩ := g7
            generalize sayM i s3 = s4 at L7 step a4
            -- ask
            refine ⟨GM H a ai k n hv cl sl ll inp wa (j + 1) (askI inp i s4), fun σ8 H8 g8 => ?_, ?_⟩
            case refine_2 =>
              refine ⟨_, rfl, wa, _, 0, .str i.word, rfl, rfl, wat L7, w0, rfl, _, rfl, ?_⟩
              rcases word_ask inp i with rfl | ⟨ne, same⟩
              · refine ifT (str_yes _) ⟨_, rfl, Nat.zero_le _, fun z hz => ?_⟩
                have Lz := L7.same (same_new (o := .lst []) hz)
                refine ⟨_, _, dp_lst (ns := inp.drop s4.asked) (lstAt Lz.el), dp_lst (ns := []) (lstAt upd_same), PySem.W.ke_shaped_ints _, PySem.W.ke_shaped_ints _, _, rfl, ?_⟩
                rw [eqv_lst]
                generalize (upd H7 z (.lst [])) = Hz at Lz ⊢
                by_cases ea : s4.asked = inp.length
                · have nil : inp.drop s4.asked = [] := List.drop_eq_nil_iff.mpr (by omega)
                  rw [nil, decide_eq_true rfl]
                  refine ifF rfl ?_
                  show GM H a ai k n hv cl sl ll inp wa (j + 1) (askM inp s4) _ _
                  unfold askM
                  rw [if_pos ea]
                  exact ⟨⟨_, _, _, _, rfl⟩, Lz.of rfl rfl rfl⟩
                · have lt : s4.asked < inp.length := by omega
                  obtain ⟨y, hy⟩ : ∃ y, inp[s4.asked]? = some y := ⟨_, List.getElem?_eq_getElem lt⟩
                  have dr : inp.drop s4.asked = y :: inp.drop (s4.asked + 1) := by
                    rw [List.drop_eq_getElem_cons lt]
                    rw [List.getElem?_eq_getElem lt] at hy
                    rw [Option.some.inj hy]
                  have ey : inp.getD s4.asked 0 = y := by rw [List.getD_eq_getElem?_getD, hy]; rfl
                  have el := Lz.el
                  rw [dr] at el
                  rw [dr, decide_eq_false (fun z => nomatch z)]
                  refine ifT rfl ⟨_, rfl, .inl ⟨rfl, _, lstAt el⟩, ll, _, 0, 0, .int y, rfl, rfl, el, by decide, by decide, ?_, rfl, ?_⟩
                  · exact ix_nat (k := 0) (by decide) (by rw [List.length_map, List.length_cons]; omega)
                  · show GM H a ai k n hv cl sl ll inp wa (j + 1) (askM inp s4) _ _
                    unfold askM
                    rw [if_neg ea, ey]
                    refine ⟨⟨_, _, _, _, rfl⟩, ?_⟩
                    have := (Lz.put_l Fa (s4.asked + 1)).of (s2 := { s4 with asked := s4.asked + 1, hand := y }) rfl rfl rfl
                    exact this
              · rw [same]
                exact ifF (str_no ne) ⟨⟨_, _, _, _, rfl⟩, L7⟩
            obtain ⟨⟨z12, z13, z14, z15, rfl⟩, L8⟩ := g8
            generalize askI inp i s4 = s5 at L8 step
            -- go, zero
            have finJ : ∀ (s6 : MS) (y12 y13 y14 y15 : Option V) (H9 : Hp), jmpM i s5 = s6 → LsM H cl sl ll inp s6 H9 → ∃ m', m' < k - j ∧ ∃ j' s yw, m' = k - j' ∧ j' ≤ k ∧ s = runM h inp pg j' (startM n) ∧ OkS n pg.length inp.length j' s ∧
                SgM (.ref a) (.ref ai) (.int (k : Int)) (.int (n : Int)) hv cl sl ll s j' yw [some (.ref a), some (.ref ai), some (.int (k : Int)), some (.int (n : Int)), some hv, some (.ref cl), some (.int s6.hand), some (.int (s6.pos : Int)), some (.ref sl), some (.ref ll), some (.int ((j + 1 : Nat) : Int)), some (.ref wa), y12, y13, y14, y15, none] ∧ LsM H cl sl ll inp s H9 := fun s6 y12 y13 y14 y15 H9 ej l => by
              rw [← step] at ej
              refine ⟨k - (j + 1), by omega, j + 1, s6, some (.ref wa), rfl, by omega, ?_, ?_, ⟨_, _, _, _, rfl⟩, l⟩
              · rw [runM_succ, ← es, hi]
                dsimp only
                rw [if_neg est, ej]
              · rw [← ej]
                exact Onew
            refine ⟨_, rfl, wa, _, 0, .str i.word, rfl, rfl, wat L8, w0, rfl, _, rfl, ?_⟩
            rcases word_jmp i with ⟨t, rfl⟩ | ⟨t, rfl⟩ | ⟨n1, n2, same⟩
            · exact ifT (str_yes _) (ifT rfl ⟨_, rfl, wa, _, 1, .int (t : Int), rfl, rfl, wat L8, rfl, finJ { s5 with pos := t } _ _ _ _ _ rfl (L8.of rfl rfl rfl)⟩)
            · refine ifF (str_no (by simp only [Ins.word]; decide +kernel)) ⟨_, rfl, wa, _, 0, _, rfl, rfl, wat L8, w0, rfl, _, rfl, ifT (str_yes _) ⟨_, rfl, rfl, _, rfl, ?_⟩⟩
              rw [dec_int]
              by_cases hz : s5.hand = 0
              · have : (s5.hand == (0 : Int)) = true := by rw [hz]; rfl
                rw [this]
                refine ifT rfl ⟨_, rfl, wa, _, 1, .int (t : Int), rfl, rfl, wat L8, rfl, finJ { s5 with pos := t } _ _ _ _ _ ?_ (L8.of rfl rfl rfl)⟩
                show (if s5.hand = 0 then { s5 with pos := t } else s5) = _
                rw [if_pos hz]
              · have : (s5.hand == (0 : Int)) = false := beq_eq_false_iff_ne.mpr hz
                rw [this]
                refine ifF rfl (finJ s5 _ _ _ _ _ ?_ L8)
                show (if s5.hand = 0 then { s5 with pos := t } else s5) = _
                rw [if_neg hz]
            · exact ifF (str_no n1) ⟨_, rfl, wa, _, 0, _, rfl, rfl, wat L8, w0, rfl, _, rfl, ifF (str_no n2) (ifF rfl (finJ s5 _ _ _ _ _ (same s5) L8))⟩
          · rw [decide_eq_false (by omega)]
            exact ifF rfl (out _ s1 (by rw [es, show j = k from by omega]))
      · rw [decide_eq_false (by omega)]
        refine ifF rfl (ifF rfl (out _ (Same.refl H2) (ended ?_)))
        unfold endM
        rw [List.getElem?_eq_none (by omega)]
end
end RH
set_option Elab.async false
set_option linter.all false
set_option maxRecDepth 100000
set_option maxHeartbeats 2000000
namespace RH
open PySem PySem.Spec PyProof.Rows L2
/-! ### inputs that the law draws; a restless run -/
section
variable {P : Program} {w : World} {K : PySem.W.Frag} {mg : Str → Option Value} {base : Heap} {Cb Cn Cg Ci : Addr}
def spLInputs (K : PySem.W.Frag) : Sp := fun vs H Q _ => ∃ (p : Addr), vs = [.ref p] ∧ Row K H p ∧ ∀ (H' : Hp) (v : V) (inp : List Int), But p H H' → Row K H' p → GdI K H' v inp → Q v H'
theorem ok_linputs (F : Df K mg "_law_inputs" st__law_inputs ["row"]) (B : Bu mg) (CT : Cal P w K mg base 1 "_law_taken" (spTaken K)) : Cal P w K mg base 2 "_law_inputs" (spLInputs K) := by
  refine mkCal F sc__law_inputs (fun vs H Q E h => ?_) (fun f cdv A outer s H vs Q E hr h => ?_)
  · obtain ⟨p, rfl, _⟩ := h
    rfl
  · obtain ⟨p, rfl, hR, q⟩ := h
    refine ⟨_, pss_one (ps_ret (pe_tupleOf (by rfl) B.tuple (pe_lc (own := [("turn", 1)]) (g := gName 1) (tt := tYes) rfl sc__law_inputs.nd (pi_range1 (by rfl) B.range (pa_cons (pc CT hr (pa_cons (pv 0) (pa_cons pe_int pa_nil))) pa_nil))
        (blkOk_by (N := ["row", "turn"]) (sc := defScope st__law_inputs) (by decide +kernel)) (fun _ _ _ _ _ => pg_name (i := 1) sc__law_inputs.nd rfl (Or.inl rfl)) (fun _ _ _ _ _ => pts_nil) (fun _ _ _ _ _ => pe_op op_sub (pc CT hr (pa_cons (pv 0) (pa_cons pe_int pa_nil))) pe_int)))), ?_⟩
    refine ⟨_, rfl, p, 8, rfl, hR, by decide, by decide, fun kw H6 kw0 kw1 hB6 hR6 => ⟨kw, rfl, by omega, by omega, fun D hD => ?_⟩⟩
    have hpD : p ≠ D := hR6.ne hD
    refine lc_range (lo := 0) (n := kw.toNat) (fun i H' => ∃ ws : List Int, But p H6 H' ∧ Row K H' p ∧ H' D = some (.lst (ws.map V.int)) ∧ ws.length = i ∧ ∀ t ∈ ws, -2 ≤ t ∧ t ≤ 2)
      ⟨[], But.same (same_new hD), hR6.new hD, upd_same, rfl, fun _ hm => absurd hm (List.not_mem_nil)⟩ (fun j H' hj h' => ?_) (fun H7 h7 => ?_)
    · obtain ⟨ws, hB, hR', eD, hl', hws⟩ := h'
      refine ⟨rfl, _, rfl, p, 5, rfl, hR', by decide, by decide, fun k H11 k0 k1 hB11 hR11 => ?_⟩
      have eD11 := hB11 _ _ eD (Ne.symm hpD)
      refine ⟨k, 2, rfl, rfl, _, eD11, ?_, ws ++ [k - 2], (hB.trans hB11).fresh hD, hR11.lst_upd eD11 hpD, ?_, ?_, ?_⟩
      · rw [List.length_map]
        exact small1000 (by omega)
      · rw [upd_same, List.map_append]
        rfl
      · rw [List.length_append, hl']
        rfl
      · intro t hm
        rcases List.mem_append.mp hm with h1 | h1
        · exact hws _ h1
        · rw [List.mem_singleton.mp h1]
          omega
    obtain ⟨ws, hB7, hR7, eD7, lw, hws⟩ := h7
    refine .inl ⟨D, _, rfl, lstAt eD7, fun aw haw => ?_⟩
    have s8 := same_new (o := .tup (ws.map V.int)) haw
    exact q _ _ ws ((hB6.trans hB7).trans (But.same s8)) (hR7.same s8) ⟨⟨aw, rfl, tupAt upd_same⟩, by omega, fun c m => by have := hws c m; omega⟩
theorem CalX.imp {k : Nat} {x : Str} {sp sp' : Sp} (c : CalX P w K mg base k x sp) (h : ∀ vs H Q E, sp' vs H Q E → sp vs H Q E) : CalX P w K mg base k x sp' := by
  obtain ⟨f, fd, ps, F, g, kp, b⟩ := c.ex
  exact ⟨f, fd, ps, F.imp h, g, kp, b⟩
/-- a restless program of so many places -/
structure GdR (K : PySem.W.Frag) (H : Hp) (v : V) (n : Nat) (pg : List Ins) : Prop where
  rp : RPg K H v pg
  l1 : 1 ≤ pg.length
  l30 : pg.length ≤ 30
  ok : ∀ i ∈ pg, okIns n pg.length i ∧ rlI true i
def spRestG (K : PySem.W.Frag) : Sp := fun vs H Q _ => ∃ (n k : Nat) (v1 v2 v3 : V) (h : List (List Int)) (pg : List Ins) (inp : List Int), vs = [v1, v2, v3, .int (k : Int)] ∧ TII K H v1 h ∧ Hb n h ∧ GdR K H v2 n pg ∧ GdI K H v3 inp ∧ k ≤ 100000 ∧
  ∀ H' t sa, Same H H' → H' t = some (.tup [.ref sa, .str (endW pg (runM h inp pg k (startM n)))]) → H' sa = some (.tup ((runM h inp pg k (startM n)).said.map V.int)) → Q (.ref t) H'
theorem rest_good (c : CalX P w K mg base 7 "run_restless" (spRestX K Cb Cn Cg Ci)) : CalX P w K mg base 7 "run_restless" (spRestG K) := by
  refine c.imp fun vs H Q E h => ?_
  obtain ⟨n, k, v1, v2, v3, h, pg, inp, rfl, hT, hb, G, I, hk, q⟩ := h
  refine ⟨v1, v2, v3, .int (k : Int), rfl, .inr ⟨_, hk_of hT hb, hb_ok hb, _, hk_pg G.rp, .inr ⟨?_, _, I.wd, .inr ⟨I.fine, .int _, .inr ⟨k, h, n, pg, inp, rfl, hk, ⟨hT, hb, G.rp, fun i m => (G.ok i m).1, I.ti⟩, q⟩⟩⟩⟩⟩
  rw [List.length_map, hb.len]
  exact pg_fine G.l1 (by have := G.l30; omega) G.ok
/-- a run's answer, as data -/
theorem run_dp {H : Hp} {t sa : Addr} {ns : List Int} {z : Str} (e1 : H t = some (.tup [.ref sa, .str z])) (e2 : H sa = some (.tup (ns.map V.int))) : Dp K H (.ref t) (.tuple [.tuple (ns.map PyData.int), .str z]) :=
  .tup (tupAt e1) (.cons (dp_tup (tupAt e2)) (.cons (.str _) .nil))
theorem run_ok {ns : List Int} {z : Str} (h : ns.length ≤ 1000) : okD 2 (.tuple [.tuple (ns.map PyData.int), .str z]) := by
  refine ⟨by show 2 ≤ 1000; decide, fun d hd => ?_⟩
  rcases List.mem_cons.mp hd with rfl | hd
  · exact ⟨by rw [List.length_map]; exact h, fun d hd => by
      obtain ⟨i, _, rfl⟩ := List.mem_map.mp hd
      exact True.intro⟩
  · rw [List.mem_singleton.mp hd]
    exact True.intro
theorem said_few {h : List (List Int)} {inp : List Int} {pg : List Ins} {n : Nat} (hb : Hb n h) (ok : ∀ i ∈ pg, okIns n pg.length i) : ∀ j, OkS n pg.length inp.length j (runM h inp pg j (startM n))
  | 0 => ⟨List.length_replicate, Nat.zero_le _, Nat.zero_le _, Nat.zero_le _⟩
  | j + 1 => by
    have o := said_few (inp := inp) hb ok j
    rw [runM_succ]
    cases e : pg[(runM h inp pg j (startM n)).pos]? with
    | none => exact ⟨o.hl, o.ps, Nat.le_succ_of_le o.sd, o.ak⟩
    | some i =>
      dsimp only
      by_cases z : i = .stop
      · rw [if_pos z]
        exact ⟨o.hl, o.ps, Nat.le_succ_of_le o.sd, o.ak⟩
      · rw [if_neg z]
        exact okS_step o (List.getElem?_eq_some_iff.mp e).1 (ok i (List.mem_of_getElem? e))
end
end RH
set_option Elab.async false
set_option linter.all false
set_option maxRecDepth 100000
set_option maxHeartbeats 2000000
namespace RH
open PySem PySem.Spec PyProof.Rows L2
/-! ### the law -/
def spLaw (K : PySem.W.Frag) : Sp := fun vs H Q _ => ∃ (a : Addr) (ns : List Int), vs = [.ref a] ∧ Fz K H a (ns.map V.int) ∧ ∀ H', Q (.bl true) H'
def GSL (K : PySem.W.Frag) (a p : Addr) (n : Nat) (vP : V) (pg : List Ins) (σ : L2.St) (H : Hp) : Prop := ∃ y4 y5 y6 y7 y8 y9 y10 y11 y12 y13 y14 y15 y16 : Option V, σ = [some (.ref a), some (.ref p), some (.int (n : Int)), some vP, y4, y5, y6, y7, y8, y9, y10, y11, y12, y13, y14, y15, y16] ∧ Row K H p ∧ GdP K H vP n pg
theorem okD_flat (ns : List Int) (h : ns.length ≤ 1000) : okD 2 (.tuple (ns.map PyData.int)) := by
  refine ⟨by rw [List.length_map]; exact h, fun d hd => ?_⟩
  obtain ⟨i, _, rfl⟩ := List.mem_map.mp hd
  exact True.intro
def prD (l : List (Nat × Nat)) : List PyData := l.map fun x => .tuple [.int (x.1 : Int), .int (x.2 : Int)]
theorem pairs_dp {K : PySem.W.Frag} {H : Hp} : ∀ {us : List V} {l : List (Nat × Nat)}, Each (PrI K H) us l → DpAll K H us (prD l)
  | _, _, .nil => .nil
  | _, _, .cons ⟨a, e, h⟩ t => by
    subst e
    exact .cons (.tup h (.cons (.int _) (.cons (.int _) .nil))) (pairs_dp t)
theorem pairs_ok (l : List (Nat × Nat)) (h : l.length ≤ 1000) : okD 2 (.tuple (prD l)) := by
  refine ⟨by unfold prD; rw [List.length_map]; exact h, fun d hd => ?_⟩
  unfold prD at hd
  obtain ⟨x, _, rfl⟩ := List.mem_map.mp hd
  refine ⟨by show 2 ≤ 1000; decide, fun e he => ?_⟩
  rcases List.mem_cons.mp he with rfl | he
  · exact True.intro
  · rw [List.mem_singleton.mp he]
    exact True.intro
theorem RPg.rpl {K : PySem.W.Frag} {H : Hp} {v : V} {pg : List Ins} (h : RPg K H v pg) : RPL K H v pg := by
  obtain ⟨a, xs, e, hS, hE⟩ := h
  exact ⟨a, xs, e, .inr hS, hE⟩
theorem each_set {α : Type} {R : V → α → Prop} {v : V} {d : α} (r : R v d) : ∀ {xs : List V} {ds : List α} (k : Nat), Each R xs ds → Each R (xs.set k v) (ds.set k d)
  | _, _, _, .nil => .nil
  | _, _, 0, .cons _ t => .cons r t
  | _, _, k + 1, .cons h t => .cons h (each_set r k t)
section
variable {P : Program} {w : World} {K : PySem.W.Frag} {mg : Str → Option Value} {base : Heap}
theorem ok_law {f : Addr} {fd : FuncData} (F : Fun K "law" "law" st_law f fd) (B : Bu mg) (nset : mg "set" = none) (CT : Cal P w K mg base 1 "_law_taken" (spTaken K)) (CPk : Cal P w K mg base 2 "_law_pick" (spPick K)) (CH : Cal P w K mg base 3 "_law_habit" (spHabit K)) (CPr : Cal P w K mg base 3 "_law_program" (spProgL K))
    (CI : Cal P w K mg base 2 "_law_inputs" (spLInputs K)) (CA : Cal P w K mg base 3 "_law_alike" (spAlike K 2)) (CLR : Cal P w K mg base 1 "_law_run" (spLRun K)) (CLN : Cal P w K mg base 1 "_law_nexts" (spLNexts K)) (CLE : Cal P w K mg base 2 "_law_reached" (spLReached K))
    (XS : CalX P w K mg base 7 "run_still" (spStillG K)) (XR : CalX P w K mg base 7 "run_restless" (spRestG K)) (XC : CalX P w K mg base 7 "reached" (spReachG K)) (XU : CalX P w K mg base 7 "used" (spUsedG K)) (XF : CalX P w K mg base 7 "flow" (spFlowG K)) : FnOk P w K mg base CX0 9 f fd ["script"] (spLaw K) := by
  refine F.ok sc_law (fun vs H Q E h => ?_) (fun cdv A outer s H vs Q E hr h => ?_)
  · obtain ⟨a, ns, rfl, _⟩ := h
    rfl
  · obtain ⟨a, scr, rfl, hZ, q⟩ := h
    refine ⟨_, PSs.nox (pss_cons (ps_set (i := 1) sc_law.nd rfl (.inl rfl) (pe_lst (pa_cons (pv 0) (pa_cons pe_int (pa_cons pe_int (pa_cons pe_int pa_nil))))))
      (pss_cons (ps_set (i := 2) sc_law.nd rfl (.inl rfl) (pe_op op_add pe_int (pc CT hr (pa_cons (pv 1) (pa_cons pe_int pa_nil)))))
      (pss_cons (ps_set (i := 3) sc_law.nd rfl (.inr rfl) (pc CPr hr (pa_cons (pv 1) (pa_cons (pv 2) (pa_cons (pe_ix ix_list (pe_lst (pa_cons pe_int (pa_cons pe_int (pa_cons pe_int pa_nil)))) (pc CT hr (pa_cons (pv 1) (pa_cons pe_int pa_nil))) (fun _ _ => rfl)) pa_nil)))))
      (pss_cons (ps_cutM (ps_for PassesOwn.never rfl (pi_range1 (by rfl) B.range (pa_cons pe_int pa_nil)) (pg_name (i := 4) sc_law.nd rfl (.inl rfl)) (pss_cons (ps_par (i := 5) (j := 6) rfl sc_law.nd rfl rfl (by decide) rfl rfl (pa_cons (pc CI hr (pa_cons (pv 1) pa_nil)) (pa_cons (pc CPk hr (pa_cons (pv 1) (pa_cons (pe_lst (pa_cons pe_int (pa_cons (pc CT hr (pa_cons (pv 1) (pa_cons pe_int pa_nil))) (pa_cons pe_int pa_nil)))) pa_nil))) pa_nil)) rfl)
        (pss_cons (ps_cutM (ps_if (pt_not (pt_val (pc CA hr (pa_cons (pcX XS passL hr (pa_cons (pv 2) (pa_cons (pv 3) (pa_cons (pv 5) (pa_cons (pv 6) pa_nil))))) (pa_cons (pc CLR hr (pa_cons (pv 3) (pa_cons (pv 5) (pa_cons (pv 6) (pa_cons (pv 2) (pa_cons pe_non pa_nil)))))) pa_nil))))) (pss_one (ps_ret pe_bl)) pss_nil))
        (pss_cons (ps_cutM (ps_par (i := 7) (j := 8) rfl sc_law.nd rfl rfl (by decide) rfl rfl (pa_cons (pc CH hr (pa_cons (pv 1) (pa_cons (pv 2) pa_nil))) (pa_cons (pe_callTy (cl_listOf K) (by rfl) B.list (by decide +kernel) (pa_cons (pv 3) pa_nil)) pa_nil)) rfl))
        (pss_cons (ps_cutM (ps_for PassesOwn.never rfl (pi_range1 (by rfl) B.range (pa_cons (pc CT hr (pa_cons (pv 1) (pa_cons pe_int pa_nil))) pa_nil)) (pg_name (i := 9) sc_law.nd rfl (.inl rfl)) (pss_one (ps_asg (pe_tup (pa_cons pe_str (pa_cons (pc CT hr (pa_cons (pv 1) (pa_cons (pv 2) pa_nil))) pa_nil))) (pg_sub (pv 8) (pc CT hr (pa_cons (pv 1) (pa_cons (pe_callB (cl_len K) (by rfl) B.len PySem.boot_len (pa_cons (pv 8) pa_nil)) pa_nil))) set_list)))))
        (pss_cons (ps_cutM (ps_set (i := 10) sc_law.nd rfl (.inl rfl) (pc CLR hr (pa_cons (pv 8) (pa_cons (pv 5) (pa_cons (pv 6) (pa_cons (pv 2) (pa_cons (pv 7) pa_nil))))))))
        (pss_one (ps_if (pt_not (pt_val (pc CA hr (pa_cons (pcX XR passL hr (pa_cons (pv 7) (pa_cons (pe_tupleOf (by rfl) B.tuple (pv 8)) (pa_cons (pv 5) (pa_cons (pv 6) pa_nil))))) (pa_cons (pv 10) pa_nil))))) (pss_one (ps_ret pe_bl)) pss_nil)))))))))
      (pss_cons (ps_set (i := 11) sc_law.nd rfl (.inl rfl) (pc CLE hr (pa_cons (pv 3) pa_nil)))
      (pss_cons (ps_cutM (ps_if (pt_not (pt_val (pc CA hr (pa_cons (pcX XC passL hr (pa_cons (pv 2) (pa_cons (pv 3) pa_nil))) (pa_cons (pe_tupleOf (by rfl) B.tuple (pv 11)) pa_nil))))) (pss_one (ps_ret pe_bl)) pss_nil))
      (pss_cons (ps_cutM (ps_setLc (i := 12) (own := [("at", 14)]) (g := gName 14) rfl sc_law.nd rfl rfl (sw_true rfl rfl rfl (by decide +kernel)) (pi_list (pv 11)) (blkOk_by (N := ["script", "row", "places", "program", "turn", "inputs", "most", "habit", "restless", "change", "due", "every", "accesses", "pairs", "at", "word", "other"]) (sc := defScope st_law) (by decide +kernel)) (fun _ _ _ _ _ => pg_name (i := 14) sc_law.nd rfl (Or.inl rfl)) (fun _ _ _ _ _ => pts_one (pt_cmpR (opIn K) (pe_ix (ixT K) (pe_ix (ixT K) (pv 3) (pv 14) (fun _ _ => rfl)) pe_int (fun _ _ => rfl)) (pe_lst (pa_cons pe_str (pa_cons pe_str (pa_cons pe_str (pa_cons pe_str pa_nil))))) rfl)) (fun _ _ _ _ _ => (pe_ix (ixT K) (pv 3) (pv 14) (fun _ _ => rfl)))))
      (pss_cons (ps_cutM (ps_if (pt_not (pt_val (pc CA hr (pa_cons (pcX XU passL hr (pa_cons (pv 2) (pa_cons (pv 3) pa_nil))) (pa_cons (pe_tupleOf (by rfl) B.tuple (pe_callB (cr_sortedSet rfl) (by rfl) B.sorted (by decide +kernel) (pa_cons (pe_callTy (call_setL rfl) (by rfl) nset (by decide +kernel) (pa_cons (pe_lc (own := [("word", 15)]) (g := gName 15) (tt := tYes) rfl sc_law.nd (pi_list (pv 12)) (blkOk_by (N := ["script", "row", "places", "program", "turn", "inputs", "most", "habit", "restless", "change", "due", "every", "accesses", "pairs", "at", "word", "other"]) (sc := defScope st_law) (by decide +kernel)) (fun _ _ _ _ _ => pg_name (i := 15) sc_law.nd rfl (Or.inl rfl)) (fun _ _ _ _ _ => pts_nil) (fun _ _ _ _ _ => (pe_ix (ixT K) (pv 15) pe_int (fun _ _ => rfl)))) pa_nil)) pa_nil))) pa_nil))))) (pss_one (ps_ret pe_bl)) pss_nil))
      (pss_cons (ps_set (i := 13) sc_law.nd rfl (.inl rfl) (pe_lst pa_nil))
      (pss_cons (ps_cutM (ps_for PassesOwn.never rfl (pi_list (pv 11)) (pg_name (i := 14) sc_law.nd rfl (.inr rfl)) (pss_one (ps_set (i := 13) sc_law.nd rfl (.inl rfl) (pe_op op_cat (pv 13) (pe_lc (own := [("other", 16)]) (g := gName 16) (tt := tYes) rfl sc_law.nd (pi_list (pc CLN hr (pa_cons (pv 3) (pa_cons (pv 14) pa_nil)))) (blkOk_by (N := ["script", "row", "places", "program", "turn", "inputs", "most", "habit", "restless", "change", "due", "every", "accesses", "pairs", "at", "word", "other"]) (sc := defScope st_law) (by decide +kernel)) (fun _ _ _ _ _ => pg_name (i := 16) sc_law.nd rfl (Or.inl rfl)) (fun _ _ _ _ _ => pts_nil) (fun _ _ _ _ _ => pe_tup (pa_cons (pv 14) (pa_cons (pv 16) pa_nil)))))))))
      (pss_one (ps_ret (pc CA hr (pa_cons (pcX XF passL hr (pa_cons (pv 2) (pa_cons (pv 3) pa_nil))) (pa_cons (pe_tupleOf (by rfl) B.tuple (pv 13)) pa_nil))))))))))))))), ?_⟩
    -- row
    refine ⟨_, rfl, by show 4 ≤ sizeLine; decide, fun p hp => ?_⟩
    have sp := same_new (o := .lst [.ref a, .int 0, .int 5004, .int 0]) hp
    have hR1 : Row K (upd H p (.lst [.ref a, .int 0, .int 5004, .int 0])) p := ⟨a, scr, 0, 5004, 0, upd_same, hZ.on (Fix.same sp), Int.le_refl _⟩
    generalize (upd H p (.lst [.ref a, .int 0, .int 5004, .int 0])) = H1 at hR1 ⊢
    -- places
    refine ⟨_, rfl, p, 4, rfl, hR1, by decide, by decide, fun k H2 k0 k1 hB2 hR2 => ⟨2, k, rfl, rfl, ?_⟩⟩
    obtain ⟨n, hn⟩ : ∃ n : Nat, 2 + k = (n : Int) := ⟨(2 + k).toNat, by omega⟩
    simp only [hn]
    have n2 : 2 ≤ n := by omega
    have n5 : n ≤ 5 := by omega
    -- program
    refine ⟨_, rfl, _, rfl, by show 3 ≤ sizeLine; decide, fun m hm => ⟨_, rfl, p, 3, rfl, hR2.new hm, by decide, by decide, fun k3 H3 k30 k31 hB3 hR3 => ?_⟩⟩
    have em := hB3 _ _ (upd_same (H := H2) (a := m) (o := .lst [.int 6, .int 12, .int 30])) (Ne.symm (hR2.ne hm))
    obtain ⟨mn, hx, m1, m30⟩ : ∃ mn : Nat, atI [V.int 6, V.int 12, V.int 30] k3 = some (.int (mn : Int)) ∧ 1 ≤ mn ∧ mn ≤ 30 := by
      rcases (show k3 = 0 ∨ k3 = 1 ∨ k3 = 2 by omega) with rfl | rfl | rfl
      · exact ⟨6, rfl, by decide, by decide⟩
      · exact ⟨12, rfl, by decide, by decide⟩
      · exact ⟨30, rfl, by decide, by decide⟩
    refine ⟨m, _, k3, _, rfl, rfl, lstAt em, hx, p, n, mn, rfl, hR3, by omega, n5, m1, m30, fun H4 vP pg hB4 hR4 hP l1 lm okp => ?_⟩
    have G4 : GdP K H4 vP n pg := ⟨hP, l1, by omega, okp⟩
    -- turns
    refine ⟨GSL K a p n vP pg, fun σ5 H5 g5 => ?_, ?_⟩
    case refine_2 =>
      refine ⟨3, rfl, by decide, by decide, ?_⟩
      refine for_range (lo := 0) (n := 3) (fun _ σ H' => GSL K a p n vP pg σ H') ⟨_, _, _, _, _, _, _, _, _, _, _, _, _, rfl, hR4, G4⟩ (fun i σ H5 hi h' => ?_) (fun σ H' h' => h')
      obtain ⟨y4, y5, y6, y7, y8, y9, y10, y11, y12, y13, y14, y15, y16, rfl, R5, G5⟩ := h'
      refine ⟨_, rfl, p, rfl, R5, fun H6 vI inp hB6 hR6 hI6 => ⟨_, rfl, _, rfl, p, 20, rfl, hR6, by decide, by decide, fun k7 H7 k70 k71 hB7 hR7 => ⟨by show 3 ≤ sizeLine; decide, fun l hl => ⟨p, l, _, rfl, hR7.new hl, upd_same, (hR7.ne hl).symm, by show 0 < 3; decide, by show 3 ≤ 1000; decide, fun ip x H8 hx8 hB8 hR8 => ⟨_, _, rfl, ?_⟩⟩⟩⟩⟩
      obtain ⟨kk, rfl, kk300⟩ : ∃ kk : Nat, x = .int (kk : Int) ∧ kk ≤ 300 := by
        match ip, hx8 with
        | 0, e => exact ⟨0, (Option.some.inj e).symm, by decide⟩
        | 1, e => exact ⟨k7.toNat, by rw [← Option.some.inj e]; congr 1; omega, by omega⟩
        | 2, e => exact ⟨300, (Option.some.inj e).symm, by decide⟩
        | j + 3, e => simp at e
      have f68 : Fix H6 H8 := (hR6.fix hB7).trans ((Fix.same (same_new hl)).trans ((hR7.new hl).fix hB8))
      have I8 := hI6.on f68.tups
      have G8 := (G5.on (R5.fix hB6).tups).on f68.tups
      generalize hy4 : some (V.int (0 + (i : Int))) = z4
      -- run_still
      refine ⟨fun σ9 H9 => σ9 = [some (.ref a), some (.ref p), some (.int (n : Int)), some vP, z4, some vI, some (.int (kk : Int)), y7, y8, y9, y10, y11, y12, y13, y14, y15, y16] ∧ Row K H9 p ∧ GdP K H9 vP n pg ∧ GdI K H9 vI inp, fun σ9 H9 g9 => ?_, ?_⟩
      case refine_2 =>
        have okN : ∀ i ∈ pg, okIns n pg.length i := fun i m => (G8.ok i m).1
        have O := said_few (inp := inp) (stand_hb n2 n5) okN kk
        refine ⟨_, rfl, _, rfl, _, rfl, _, rfl, n, kk, vP, vI, pg, inp, rfl, n2, n5, G8, I8, by omega, fun H9 t sa s9 e1 e2 => ?_⟩
        refine ⟨_, rfl, _, rfl, _, rfl, _, rfl, vP, vI, .non, kk, n, pg, inp, standH n, rfl, (G8.on (Same.tups s9)).rp.rpl, I8.ti.on (Same.tups s9), .inl ⟨rfl, rfl⟩, stand_hb n2 n5, okN, G8.l30, I8.few, by omega, fun H10 t2 sa2 s10 e3 e4 => ?_⟩
        refine ⟨_, _, _, rfl, run_dp (s10 _ _ e1) (s10 _ _ e2), run_dp e3 e4, run_ok (by have := O.sd; omega), fun H11 s11 => ⟨_, rfl, ifF rfl ⟨rfl, ?_, ?_, ?_⟩⟩⟩
        · exact hR8.same (s9.trans (s10.trans s11))
        · exact G8.on (Same.tups (s9.trans (s10.trans s11)))
        · exact I8.on (Same.tups (s9.trans (s10.trans s11)))
      obtain ⟨rfl, R9, G9, I9⟩ := g9
      -- habit, restless
      refine ⟨fun σ9 H9 => ∃ vH h r xs, σ9 = [some (.ref a), some (.ref p), some (.int (n : Int)), some vP, z4, some vI, some (.int (kk : Int)), some vH, some (.ref r), y9, y10, y11, y12, y13, y14, y15, y16] ∧ Row K H9 p ∧ GdP K H9 vP n pg ∧ GdI K H9 vI inp ∧ TII K H9 vH h ∧ Hb n h ∧ r ≠ p ∧ H9 r = some (.lst xs) ∧ Each (RIns K H9) xs pg, fun σ10 H10 g10 => ?_, ?_⟩
      case refine_2 =>
        refine ⟨_, rfl, _, rfl, p, n, rfl, R9, n2, n5, fun H10 vH h hb hB10 hR10 hT10 => ?_⟩
        have f10 := R9.fix hB10
        have G10 := G9.on f10.tups
        obtain ⟨ap, xs, rfl, hSp, hEp⟩ := G10.rp
        refine ⟨_, rfl, ap, xs, rfl, .inr hSp, fun r hr0 => ⟨_, _, rfl, vH, h, r, xs, rfl, ?_⟩⟩
        have s10 := same_new (o := .lst xs) hr0
        exact ⟨hR10.same s10, G10.on (Same.tups s10), (I9.on f10.tups).on (Same.tups s10), hT10.on (Same.tups s10), hb, (hR10.ne hr0).symm, upd_same, hEp.imp fun _ _ z => z.on (Same.tups s10)⟩
      obtain ⟨vH, h, r, xs, rfl, R10, G10, I10, hT10, hb, rp, er, hEr⟩ := g10
      -- changes
      refine ⟨fun σ9 H9 => ∃ y9' xs pg', σ9 = [some (.ref a), some (.ref p), some (.int (n : Int)), some vP, z4, some vI, some (.int (kk : Int)), some vH, some (.ref r), y9', y10, y11, y12, y13, y14, y15, y16] ∧ Row K H9 p ∧ GdP K H9 vP n pg ∧ GdI K H9 vI inp ∧ TII K H9 vH h ∧ H9 r = some (.lst xs) ∧ Each (RIns K H9) xs pg' ∧ pg'.length = pg.length ∧ ∀ i ∈ pg', okIns n pg.length i ∧ rlI true i, fun σ11 H11 g11 => ?_, ?_⟩
      case refine_2 =>
        refine ⟨_, rfl, p, 4, rfl, R10, by decide, by decide, fun kc H11 c0 c1 hB11 hR11 => ⟨kc, rfl, by omega, by omega, ?_⟩⟩
        have f11 := R10.fix hB11
        refine for_range (lo := 0) (n := kc.toNat) (fun _ σ9 H9 => ∃ y9' xs pg', σ9 = [some (.ref a), some (.ref p), some (.int (n : Int)), some vP, z4, some vI, some (.int (kk : Int)), some vH, some (.ref r), y9', y10, y11, y12, y13, y14, y15, y16] ∧ Row K H9 p ∧ GdP K H9 vP n pg ∧ GdI K H9 vI inp ∧ TII K H9 vH h ∧ H9 r = some (.lst xs) ∧ Each (RIns K H9) xs pg' ∧ pg'.length = pg.length ∧ ∀ i ∈ pg', okIns n pg.length i ∧ rlI true i)
          ⟨_, xs, pg, rfl, hR11, G10.on f11.tups, I10.on f11.tups, hT10.on f11.tups, hB11 _ _ er rp, hEr.imp fun _ _ z => z.on f11.tups, rfl, fun i m => ⟨(G10.ok i m).1, rlI_of (G10.ok i m).2⟩⟩ (fun ic σ12 H12 hic h' => ?_) (fun σ H' h' => h')
        obtain ⟨y9', xs', pg', rfl, R12, G12, I12, hT12, er12, hE12, len12, ok12⟩ := h'
        have lx := hE12.len
        have l1 := G12.l1
        have l30 := G12.l30
        refine ⟨_, rfl, _, rfl, p, n, rfl, R12, by omega, by omega, fun kt H13 t0 t1 hB13 hR13 => ⟨by show 2 ≤ sizeLine; decide, fun tt htt => ?_⟩⟩
        have f13 := R12.fix hB13
        have er13 := hB13 _ _ er12 rp
        have s13 := same_new (o := .tup [.str "touch", .int kt]) htt
        refine ⟨_, rfl, _, rfl, _, rfl, r, xs', rfl, .inl (lstAt (s13 _ _ er13)), p, (xs'.length : Int), rfl, hR13.same s13, by omega, by omega, fun ki H14 i0 i1 hB14 hR14 => ?_⟩
        have f14 := (hR13.same s13).fix hB14
        have er14 := hB14 _ _ (s13 _ _ er13) rp
        obtain ⟨kn, rfl⟩ : ∃ kn : Nat, kt = (kn : Int) := ⟨kt.toNat, by omega⟩
        have fall := f13.trans ((Fix.same s13).trans f14)
        have fl := Fix.lst (o := .lst (xs'.set ki.toNat (.ref tt))) er14
        have ft := (fall.trans fl).tups (K := K)
        refine ⟨r, xs', ki, ki.toNat, rfl, rfl, er14, ?_, ⟨_, xs'.set ki.toNat (.ref tt), pg'.set ki.toNat (.touch kn), rfl, hR14.lst_upd er14 (Ne.symm rp), G12.on ft, I12.on ft, hT12.on ft, upd_same, ?_, by rw [List.length_set]; exact len12, ?_⟩⟩
        · exact ixN_int (n := xs'.length) (k := ki) i0 (by omega)
        · refine each_set ⟨tt, rfl, ?_⟩ ki.toNat (hE12.imp fun _ _ z => z.on ft)
          exact (f14.trans fl).tups _ _ (tupAt upd_same)
        · intro i m
          rcases List.mem_or_eq_of_mem_set m with m | rfl
          · exact ok12 i m
          · exact ⟨by show kn < n; omega, rfl⟩
      obtain ⟨y9', xs', pg', rfl, R11, G11, I11, hT11, er11, hE11, len11, ok11⟩ := g11
      have l1 := G11.l1
      have l30 := G11.l30
      have okR : ∀ i ∈ pg', okIns n pg'.length i := fun i m => by
        rw [len11]
        exact (ok11 i m).1
      have O := said_few (inp := inp) hb okR kk
      -- due
      refine ⟨fun σ9 H9 => ∃ t sa, σ9 = [some (.ref a), some (.ref p), some (.int (n : Int)), some vP, z4, some vI, some (.int (kk : Int)), some vH, some (.ref r), y9', some (.ref t), y11, y12, y13, y14, y15, y16] ∧ Same H11 H9 ∧ H9 t = some (.tup [.ref sa, .str (endW pg' (runM h inp pg' kk (startM n)))]) ∧ H9 sa = some (.tup ((runM h inp pg' kk (startM n)).said.map V.int)), fun σ12 H12 g12 => ?_, ?_⟩
      case refine_2 =>
        have hTr : ∃ ah, vH = .ref ah := by
          obtain ⟨ah, _, e, _⟩ := hT11
          exact ⟨ah, e⟩
        exact ⟨_, rfl, _, rfl, _, rfl, _, rfl, _, rfl, .ref r, vI, vH, kk, n, pg', inp, h, rfl, ⟨r, xs', rfl, .inl (lstAt er11), hE11⟩, I11.ti, .inr ⟨hT11, hTr⟩, hb, okR, by omega, I11.few, by omega, fun H12 t sa s12 e1 e2 => ⟨t, sa, rfl, s12, e1, e2⟩⟩
      obtain ⟨t, sa, rfl, s12, e1, e2⟩ := g12
      -- run_restless
      refine ⟨_, rfl, _, rfl, .inl ⟨r, xs', rfl, lstAt (s12 _ _ er11), fun q0 hq0 => ?_⟩⟩
      have s13 := s12.trans (same_new (o := .tup xs') hq0)
      have sq := same_new (o := .tup xs') hq0
      refine ⟨_, rfl, _, rfl, n, kk, vH, .ref q0, vI, h, pg', inp, rfl, hT11.on (Same.tups s13), hb, ⟨⟨q0, xs', rfl, tupAt upd_same, hE11.imp fun _ _ z => z.on (Same.tups s13)⟩, by omega, by omega, fun i m => ⟨okR i m, (ok11 i m).2⟩⟩, I11.on (Same.tups s13), by omega, fun H14 t2 sa2 s14 e3 e4 => ?_⟩
      refine ⟨_, rfl, _, _, _, rfl, run_dp e3 e4, run_dp (s14 _ _ (sq _ _ e1)) (s14 _ _ (sq _ _ e2)), run_ok (by have := O.sd; omega), fun H15 s15 => ⟨_, rfl, ifF rfl ?_⟩⟩
      have sA := s13.trans (s14.trans s15)
      exact ⟨_, _, _, _, _, _, _, _, _, _, _, _, _, rfl, R11.same sA, G11.on (Same.tups sA)⟩
    obtain ⟨y4, y5, y6, y7, y8, y9, y10, y11, y12, y13, y14, y15, y16, rfl, R5, G5⟩ := g5
    -- reached
    refine ⟨_, rfl, vP, pg, rfl, G5.wk n5, fun H6 t rs s6 Rc tn et => ?_⟩
    have pos := (G5.wk n5).pos
    have rfew := Rc.few pos
    have l30 := G5.l30
    have G6 := G5.on (Same.tups s6)
    refine ⟨fun σ7 H7 => σ7 = [some (.ref a), some (.ref p), some (.int (n : Int)), some vP, y4, y5, y6, y7, y8, y9, y10, some (.ref t), y12, y13, y14, y15, y16] ∧ Same H6 H7, fun σ7 H7 g7 => ?_, ?_⟩
    case refine_2 =>
      refine ⟨_, rfl, _, rfl, n, vP, pg, rfl, n2, n5, G6, fun H7 u rs2 s7 Rc2 eu => ⟨_, rfl, .inl ⟨t, _, rfl, lstAt (s7 _ _ et), fun u2 hu2 => ?_⟩⟩⟩
      have e := Rc.same Rc2
      subst e
      have s8 := same_new (o := .tup ((nI rs).map V.int)) hu2
      exact ⟨_, _, _, rfl, dp_tup (tupAt (s8 _ _ eu)), dp_tup (tupAt upd_same), okD_flat _ (by rw [nI_len]; omega), fun H9 s9 => ⟨_, rfl, ifF rfl ⟨rfl, s7.trans (s8.trans s9)⟩⟩⟩
    obtain ⟨rfl, s7⟩ := g7
    have et7 := s7 _ _ et
    have G7 := G6.on (Same.tups s7)
    -- accesses
    refine ⟨fun σ8 H8 => ∃ D vs, σ8 = [some (.ref a), some (.ref p), some (.int (n : Int)), some vP, y4, y5, y6, y7, y8, y9, y10, some (.ref t), some (.ref D), y13, y14, y15, y16] ∧ Same H7 H8 ∧ H8 D = some (.lst vs) ∧ Each (RIns K H8) vs (acs pg rs), fun σ8 H8 g8 => ?_, ?_⟩
    case refine_2 =>
      obtain ⟨ap, xs, eap, hS, hE⟩ := id G7.rp
      subst eap
      refine ⟨_, rfl, t, rfl, ⟨_, lstAt et7⟩, fun D hD => ?_⟩
      refine lc_list (xs := (nI rs).map V.int) (fun i H' => Same H7 H' ∧ ∃ vs, H' D = some (.lst vs) ∧ Each (RIns K H') vs (acs pg (rs.take i))) ⟨same_new hD, [], upd_same, .nil⟩ (fun i H' _ h' => lstAt (h'.1 _ _ et7)) (fun i x H' hx h' => ?_) (fun H' h' => ?_)
      · obtain ⟨g, hg, rfl⟩ := nI_at hx
        obtain ⟨sm, vs, eD, ev⟩ := h'
        have glt := Rc.lt pos g (List.mem_of_getElem? hg)
        obtain ⟨i0, hi⟩ : ∃ i0, pg[g]? = some i0 := ⟨_, List.getElem?_eq_getElem glt⟩
        obtain ⟨y, hy, r⟩ := hE.of hi
        have r2 := r.on (Same.tups sm)
        have am := acs_more (pg := pg) hg
        have e0 : acAt pg g = if accB i0 = true then some i0 else none := by
          unfold acAt
          rw [hi]
        obtain ⟨ya, rfl, hya⟩ := id r2
        refine ⟨rfl, _, rfl, _, rfl, ap, xs, (g : Int), .ref ya, rfl, rfl, onT sm hS, atI_nat hy, ya, _, 0, .str i0.word, rfl, rfl, hya, (show atI _ ((0 : Nat) : Int) = some _ from atI_nat rfl), by show 4 ≤ sizeLine; decide, fun la hla => ⟨la, _, rfl, .inl (lstAt upd_same), rfl, by decide, _, rfl, ?_⟩⟩
        have sl := same_new (o := .lst [.str "get", .str "set", .str "plus", .str "minus"]) hla
        have eacc : inV (.str i0.word) [.str "get", .str "set", .str "plus", .str "minus"] = accB i0 := acc_in i0
        rw [eacc]
        have sm := sm.trans sl
        have eD := sl _ _ eD
        have ev := ev.imp fun _ _ z => RIns.on (Same.tups sl) z
        have r2 := r2.on (Same.tups sl)
        generalize (upd H' la (.lst [.str "get", .str "set", .str "plus", .str "minus"])) = H' at sm eD ev r2 ⊢
        cases ea : accB i0 with
        | false =>
          rw [ea, if_neg (by decide)] at e0
          rw [e0, List.append_nil] at am
          show Same H7 H' ∧ ∃ vs, H' D = some (.lst vs) ∧ Each (RIns K H') vs (acs pg (rs.take (i + 1)))
          rw [am]
          exact ⟨sm, vs, eD, ev⟩
        | true =>
          rw [ea, if_pos rfl] at e0
          rw [e0] at am
          have lv : vs.length < sizeLine := by
            have z1 := ev.len
            have z2 := acs_len pg (rs.take i)
            rw [List.length_take] at z2
            exact small1000 (by omega)
          refine ⟨_, rfl, _, rfl, ap, xs, (g : Int), .ref ya, rfl, rfl, onT sm hS, atI_nat hy, vs, eD, lv, ?_⟩
          show Same H7 (upd H' D (.lst (vs ++ [.ref ya]))) ∧ ∃ vs2, (upd H' D (.lst (vs ++ [.ref ya]))) D = some (.lst vs2) ∧ Each (RIns K (upd H' D (.lst (vs ++ [.ref ya])))) vs2 (acs pg (rs.take (i + 1)))
          have tk : Tups K H' (upd H' D (.lst (vs ++ [.ref ya]))) := (Fix.lst eD).tups
          refine ⟨fun b o eb => ?_, vs ++ [.ref ya], upd_same, ?_⟩
          · rw [upd_ne (ne_of_none eb hD)]
            exact sm b o eb
          · rw [am]
            exact (ev.imp fun _ _ z => z.on tk).appM (.cons (r2.on tk) .nil)
      · obtain ⟨sm, vs, eD, ev⟩ := h'
        rw [List.length_map, nI_len, List.take_length] at ev
        exact ⟨D, vs, rfl, sm, eD, ev⟩
    obtain ⟨D, vs, rfl, s8, eD, ev⟩ := g8
    have G8 := G7.on (Same.tups s8)
    have lvs : vs.length ≤ 30 := by
      have z1 := ev.len
      have z2 := acs_len pg rs
      omega
    -- used
    refine ⟨fun σ9 H9 => σ9 = [some (.ref a), some (.ref p), some (.int (n : Int)), some vP, y4, y5, y6, y7, y8, y9, y10, some (.ref t), some (.ref D), y13, y14, y15, y16] ∧ Same H8 H9, fun σ9 H9 g9 => ?_, ?_⟩
    case refine_2 =>
      refine ⟨_, rfl, _, rfl, n, vP, pg, rfl, n2, n5, G8, fun H9 u ns s9 up mem eu => ⟨_, rfl, D, rfl, ⟨_, lstAt (s9 _ _ eD)⟩, fun W hW => ?_⟩⟩
      refine lc_list (xs := vs) (fun i H' => Same H9 H' ∧ H' W = some (.lst ((nms ((acs pg rs).take i)).map V.int)) ∧ (nms ((acs pg rs).take i)).length = i) ⟨same_new hW, upd_same, rfl⟩ (fun i H' _ h' => lstAt (h'.1 _ _ (s9 _ _ eD))) (fun i x H' hx h' => ?_) (fun H' h' => ?_)
      · obtain ⟨sm, eW, ln⟩ := h'
        have ilt := (List.getElem?_eq_some_iff.mp hx).1
        obtain ⟨i0, hi0, r⟩ := (ev.imp fun _ _ z => z.on (Same.tups (s9.trans sm))).at hx
        obtain ⟨m, em1, em2⟩ := acc_pl (acs_acc i0 (List.mem_of_getElem? hi0))
        obtain ⟨c, rfl, hc⟩ := r
        rw [em2] at hc
        have en : nms ((acs pg rs).take (i + 1)) = nms ((acs pg rs).take i) ++ [(m : Int)] := by
          unfold nms
          rw [List.take_add_one, hi0, List.flatMap_append]
          show _ ++ (List.flatMap Ins.num [i0]) = _
          rw [List.flatMap_cons, List.flatMap_nil, List.append_nil, em2]
        refine ⟨rfl, _, rfl, c, _, 1, .int (m : Int), rfl, rfl, hc, rfl, _, eW, by rw [List.length_map, ln]; exact small1000 (by omega), ?_, ?_, ?_⟩
        · exact fun b o eb => by rw [upd_ne (ne_of_none eb hW)]; exact sm b o eb
        · rw [upd_same, en, List.map_append]
          rfl
        · rw [en, List.length_append, ln]
          rfl
      · obtain ⟨sm, eW, ln⟩ := h'
        have full : (acs pg rs).take vs.length = acs pg rs := List.take_of_length_le (by have := ev.len; omega)
        rw [full] at eW ln
        refine ⟨W, _, rfl, lstAt eW, by omega, fun S2 c hS2 hc => ⟨S2, _, c, rfl, upd_same, by omega, fun ms l2 up2 mem2 len2 hl2 => .inl ⟨l2, _, rfl, lstAt upd_same, fun u2 hu2 => ?_⟩⟩⟩
        have e : ms = ns := up_eq up2 up fun x => by
          rw [mem2, decide_eq_true_iff, nms_mem, mem rs Rc]
        subst e
        have sA := (same_new (o := SetO w S2 (fun j => decide (j ∈ nms (acs pg rs))) c) hS2).trans ((same_new (o := .lst (ms.map V.int)) hl2).trans (same_new (o := .tup (ms.map V.int)) hu2))
        exact ⟨_, _, _, rfl, dp_tup (tupAt ((sm.trans sA) _ _ eu)), dp_tup (tupAt upd_same), okD_flat _ (by omega), fun HF sF => ⟨_, rfl, ifF rfl ⟨rfl, s9.trans (sm.trans (sA.trans sF))⟩⟩⟩
    obtain ⟨rfl, s9⟩ := g9
    have G9 := G8.on (Same.tups s9)
    have et9 := s9 _ _ (s8 _ _ et7)
    -- pairs
    refine ⟨Nat.zero_le _, fun l0 hl0 => ?_⟩
    have sl0 := same_new (o := .lst []) hl0
    refine ⟨fun σA HA => ∃ l us yA, σA = [some (.ref a), some (.ref p), some (.int (n : Int)), some vP, y4, y5, y6, y7, y8, y9, y10, some (.ref t), some (.ref D), some (.ref l), yA, y15, y16] ∧ Same H9 HA ∧ HA l = some (.lst us) ∧ Each (PrI K HA) us (flw pg rs), fun σA HA gA => ?_, ?_⟩
    case refine_2 =>
      refine ⟨_, rfl, t, rfl, ⟨_, lstAt (sl0 _ _ et9)⟩, ?_⟩
      refine for_list (xs := (nI rs).map V.int) (fun i σA HA => ∃ l us yA, σA = [some (.ref a), some (.ref p), some (.int (n : Int)), some vP, y4, y5, y6, y7, y8, y9, y10, some (.ref t), some (.ref D), some (.ref l), yA, y15, y16] ∧ Same H9 HA ∧ HA l = some (.lst us) ∧ Each (PrI K HA) us (flw pg (rs.take i)))
        ⟨l0, [], _, rfl, sl0, upd_same, .nil⟩ (fun i σA HA _ h' => lstAt (h'.choose_spec.choose_spec.choose_spec.2.1 _ _ et9)) (fun i x σA HA hx h' => ?_) (fun σA HA h' => ?_)
      · obtain ⟨l, us, yA, rfl, sA, el, eus⟩ := h'
        obtain ⟨g, hg, rfl⟩ := nI_at hx
        have glt := Rc.lt pos g (List.mem_of_getElem? hg)
        have GA := (G9.on (Same.tups sA)).wk n5
        refine ⟨_, rfl, _, rfl, _, rfl, vP, pg, g, rfl, GA.rp, glt, GA.few, GA.ok, fun H2 nl s2 nfresh enl => ⟨nl, rfl, ⟨_, lstAt enl⟩, fun D2 hD2 => ?_⟩⟩
        refine lc_list (xs := (nI (nextsM pg g)).map V.int) (fun j H3 => Same H2 H3 ∧ ∃ us2, H3 D2 = some (.lst us2) ∧ Each (PrI K H3) us2 (((nextsM pg g).take j).map fun o => (g, o))) ⟨same_new hD2, [], upd_same, .nil⟩ (fun j H3 _ h3 => lstAt (h3.1 _ _ enl)) (fun j y H3 hy h3 => ?_) (fun H3 h3 => ?_)
        · obtain ⟨o, ho, rfl⟩ := nI_at hy
          obtain ⟨s3, us2, eD2, eu2⟩ := h3
          refine ⟨rfl, _, rfl, _, rfl, by show 2 ≤ sizeLine; decide, fun T hT => ⟨us2, same_new hT _ _ eD2, ?_, ?_⟩⟩
          · have z1 := eu2.len
            have z3 := nexts_few pg g
            rw [List.length_map, List.length_take] at z1
            exact small1000 (by omega)
          · have sT := same_new (o := .tup [.int (g : Int), .int (o : Int)]) hT
            have eDT := sT _ _ eD2
            have tk : Tups K H3 (upd (upd H3 T (.tup [.int (g : Int), .int (o : Int)])) D2 (.lst (us2 ++ [.ref T]))) := fun c zs hz => (Fix.lst eDT).tups _ _ (Same.tups sT _ _ hz)
            refine ⟨fun c ob ec => ?_, us2 ++ [.ref T], upd_same, ?_⟩
            · rw [upd_ne (ne_of_none ec hD2)]
              exact sT _ _ (s3 c ob ec)
            · rw [List.take_add_one, ho, List.map_append]
              exact (eu2.imp fun _ _ z => z.on tk).appM (.cons ⟨T, rfl, (Fix.lst eDT).tups _ _ (tupAt upd_same)⟩ .nil)
        · obtain ⟨s3, us2, eD2, eu2⟩ := h3
          rw [List.length_map, nI_len, List.take_length] at eu2
          have el3 := s3 _ _ (s2 _ _ el)
          have ln1 := eus.len
          have ln2 := eu2.len
          have fl := flw_len pg (rs.take i)
          have z3 := nexts_few pg g
          rw [List.length_take] at fl
          rw [List.length_map] at ln2
          refine ⟨l, D2, us, us2, rfl, rfl, el3, eD2, by rw [sizeLine_eq]; omega, fun l2 hl2 => ⟨l2, us ++ us2, _, rfl, ?_, upd_same, ?_⟩⟩
          · exact sA.trans (s2.trans (s3.trans (same_new hl2)))
          · rw [flw_more hg]
            have sl := same_new (o := .lst (us ++ us2)) hl2
            exact (eus.imp fun _ _ z => z.on (Same.tups (s2.trans (s3.trans sl)))).appM (eu2.imp fun _ _ z => z.on (Same.tups sl))
      · obtain ⟨l, us, yA, rfl, sA, el, eus⟩ := h'
        rw [List.length_map, nI_len, List.take_length] at eus
        exact ⟨l, us, yA, rfl, sA, el, eus⟩
    obtain ⟨l, us, yA, rfl, sA, el, eus⟩ := gA
    -- flow
    have GA := G9.on (Same.tups sA)
    refine ⟨_, rfl, _, rfl, n, vP, pg, rfl, n2, n5, GA, fun HB u us2 rs2 sB Rc2 eu eus2 => ⟨_, rfl, .inl ⟨l, us, rfl, lstAt (sB _ _ el), fun w0 hw0 => ?_⟩⟩⟩
    have e := Rc.same Rc2
    subst e
    have sw := same_new (o := .tup us) hw0
    exact ⟨_, _, _, rfl, .tup (tupAt (sw _ _ eu)) (pairs_dp (eus2.imp fun _ _ z => z.on (Same.tups sw))), .tup (tupAt upd_same) (pairs_dp (eus.imp fun _ _ z => z.on (Same.tups (sB.trans sw)))), pairs_ok _ (by have := flw_len pg rs; omega), fun HF sF => q HF⟩
end
end RH
set_option Elab.async false
set_option linter.all false
set_option maxRecDepth 100000
set_option maxHeartbeats 2000000
namespace RH
open PySem PySem.Spec PyProof.Rows L2
/-! ### the errors that the checks may raise -/
structure Knd (K : PySem.W.Frag) (mg : Str → Option Value) (E : Addr) (b : Nat) : Prop where
  few : b < 4
  ex : ExcC K E
  sup : ∃ S, mg "ShelfError" = some (.ref S) ∧ PySem.W.exmOne K (.ref E) (.ref S) = some true
  k0 : ∃ c, mg "BadHabit" = some (.ref c) ∧ PySem.W.kitOne K (.ref E) (.ref c) = some (decide (b = 0))
  k1 : ∃ c, mg "BadNumber" = some (.ref c) ∧ PySem.W.kitOne K (.ref E) (.ref c) = some (decide (b = 1))
  k2 : ∃ c, mg "BadProgram" = some (.ref c) ∧ PySem.W.kitOne K (.ref E) (.ref c) = some (decide (b = 2))
  k3 : ∃ c, mg "BadInputs" = some (.ref c) ∧ PySem.W.kitOne K (.ref E) (.ref c) = some (decide (b = 3))
/-- the classes that the law names -/
structure Five (mg : Str → Option Value) (S c0 c1 c2 c3 : Addr) : Prop where
  s : mg "ShelfError" = some (.ref S)
  h0 : mg "BadHabit" = some (.ref c0)
  h1 : mg "BadNumber" = some (.ref c1)
  h2 : mg "BadProgram" = some (.ref c2)
  h3 : mg "BadInputs" = some (.ref c3)
end RH
set_option Elab.async false
set_option linter.all false
set_option maxRecDepth 100000
set_option maxHeartbeats 2000000
namespace RH
open PySem PySem.Spec PyProof.Rows L2
/-! ### what the top has left -/
theorem df_mk {K : PySem.W.Frag} {h : Heap} {mg : Str → Option Value} (X : K.In h) (G : h.Ns mainGlobals mg) {x : Str} {st : Stmt} {ps : List Str} {f : Addr} {od an : Option Addr} {sl : Array (Option Value)} {oc kV dc pm cd ct : Value}
    (a : PySem.W.nsIn K mainGlobals x = some (some (.ref f))) (l : K.lookup f = some ⟨oc, od, .func (PySem.W.fnOf x x (defArgs st) (defBody st) (defScope st) .none kV dc pm an cd ct), sl⟩) (c : PySem.W.codeIn K cd x = true) (k : PySem.W.keepIn K (.ref f) = true)
    (b : ∀ (kV doc pm : Value) (an : Option Addr) (cdv ct : Value) (us : List Value), us.length = ps.length → bindArgs (PySem.W.fnOf x x (defArgs st) (defBody st) (defScope st) .none kV doc pm an cdv ct) ⟨us, []⟩ = pure (ps.zip us)) : Df K mg x st ps := by
  have F := fun_mk (st := st) l c k
  exact ⟨f, _, F, PySem.W.mg_of X G a, F.binds b⟩
/-- the written part that is meant -/
abbrev kOf {K : PySem.W.Frag} {h : Heap} (_ : K.In h) : PySem.W.Frag := K
theorem const_mk {K : PySem.W.Frag} {h : Heap} {mg : Str → Option Value} (X : K.In h) (G : h.Ns mainGlobals mg) {x : Str} {i : Int} {t : Tok} (a : PySem.W.nsIn K mainGlobals x = some (some (.int i t))) : ∃ t, mg x = some (.int i t) := ⟨t, PySem.W.mg_of X G a⟩
theorem ctup_mk {K : PySem.W.Frag} {h : Heap} {mg : Str → Option Value} (X : K.In h) (G : h.Ns mainGlobals mg) {x : Str} {zs : List Str} {a : Addr} {o : Obj} {its : List Value} {n : Nat} (ha : PySem.W.nsIn K mainGlobals x = some (some (.ref a))) (l : K.lookup a = some o) (c : o.cls = .type "tuple") (d : o.data = .seq its.toArray n) (s : its.length ≤ 100) (v : Vals (zs.map V.str) its) : CTup K mg x zs :=
  ⟨a, o, its.toArray, n, PySem.W.mg_of X G ha, l, c, d, by have : (100 : Nat) ≤ sizeLine := (by rw [sizeLine_eq]; decide +kernel); simpa using Nat.le_trans s this, by simpa using v⟩
/-- the code object's file is the law's -/
def fileV (P : Program) : Option Value → Bool
  | some (Value.str file _) => (P.main.file : Str) == file
  | _ => false
def fileOk (P : Program) (o : Obj) : Bool := match o.data with
  | Data.fields vs => fileV P vs[2]?
  | _ => false
theorem fileOk_ex {P : Program} {K : PySem.W.Frag} {c : Addr} {o : Obj} (l : K.lookup c = some o) (h : fileOk P o = true) : ∃ (ccl : Value) (cdd : Option Addr) (vs : Array Value) (ccs : Array (Option Value)) (file : Str) (tf : Tok), K.lookup c = some ⟨ccl, cdd, .fields vs, ccs⟩ ∧ vs[2]? = some (.str file tf) ∧ ((P.main.file : Str) == file) = true := by
  obtain ⟨a, b, d, e⟩ := o
  unfold fileOk at h
  dsimp only at h
  split at h
  · rename_i vs0 vs
    cases hv : vs[2]? with
    | none =>
      rw [hv] at h
      cases h
    | some u =>
      rw [hv] at h
      cases u <;> first | (cases h; done) | skip
      rename_i file tf
      exact ⟨a, b, vs, e, file, tf, l, hv, h⟩
  · cases h
/-- the errors, as the top has left them -/
theorem errs_mk {K : PySem.W.Frag} {h : Heap} {mg : Str → Option Value} (P : Program) (X : K.In h) (G : h.Ns mainGlobals mg) {S c0 c1 c2 c3 : Addr} (aS : PySem.W.nsIn K mainGlobals "ShelfError" = some (some (.ref S)))
    (a0 : PySem.W.nsIn K mainGlobals "BadHabit" = some (some (.ref c0)))
    (a1 : PySem.W.nsIn K mainGlobals "BadNumber" = some (some (.ref c1)))
    (a2 : PySem.W.nsIn K mainGlobals "BadProgram" = some (some (.ref c2)))
    (a3 : PySem.W.nsIn K mainGlobals "BadInputs" = some (some (.ref c3)))
    (kp0 : PySem.W.keepIn K (.ref c0) = true) (b0 : PySem.W.subIn K (.ref c0) (.type "BaseException") = some true) (t0 : PySem.W.typeIn K (.ref c0) = some (.type "type"))
    (xg0 : PySem.W.findIn K (.ref c0) "__getattribute__" = some (some (.builtin "BaseException.__getattribute__"))) (xk0 : PySem.W.findIn K (.ref c0) "__getattr__" = some none) (xd0 : PySem.W.hasDictIn K c0 = true) (xa0 : PySem.W.findIn K (.ref c0) "__class__" = some (some (.builtin "object.__class__"))) (xm0 : PySem.W.mroIn K c0 (.type "object") = some true) (es0 : PySem.W.exmOne K (.ref c0) (.ref S) = some true)
    (o0_0 : PySem.W.kitOne K (.ref c0) (.ref c0) = some true)
    (o0_1 : PySem.W.kitOne K (.ref c0) (.ref c1) = some false)
    (o0_2 : PySem.W.kitOne K (.ref c0) (.ref c2) = some false)
    (o0_3 : PySem.W.kitOne K (.ref c0) (.ref c3) = some false)
    (q1 : PySem.W.excIn K c1 [.type "ValueError", .type "Exception", .type "BaseException", .type "object"] "ValueError.__new__" = true)
    (kp1 : PySem.W.keepIn K (.ref c1) = true) (b1 : PySem.W.subIn K (.ref c1) (.type "BaseException") = some true) (t1 : PySem.W.typeIn K (.ref c1) = some (.type "type"))
    (xg1 : PySem.W.findIn K (.ref c1) "__getattribute__" = some (some (.builtin "BaseException.__getattribute__"))) (xk1 : PySem.W.findIn K (.ref c1) "__getattr__" = some none) (xd1 : PySem.W.hasDictIn K c1 = true) (xa1 : PySem.W.findIn K (.ref c1) "__class__" = some (some (.builtin "object.__class__"))) (xm1 : PySem.W.mroIn K c1 (.type "object") = some true) (es1 : PySem.W.exmOne K (.ref c1) (.ref S) = some true)
    (o1_0 : PySem.W.kitOne K (.ref c1) (.ref c0) = some false)
    (o1_1 : PySem.W.kitOne K (.ref c1) (.ref c1) = some true)
    (o1_2 : PySem.W.kitOne K (.ref c1) (.ref c2) = some false)
    (o1_3 : PySem.W.kitOne K (.ref c1) (.ref c3) = some false)
    (kp2 : PySem.W.keepIn K (.ref c2) = true) (b2 : PySem.W.subIn K (.ref c2) (.type "BaseException") = some true) (t2 : PySem.W.typeIn K (.ref c2) = some (.type "type"))
    (xg2 : PySem.W.findIn K (.ref c2) "__getattribute__" = some (some (.builtin "BaseException.__getattribute__"))) (xk2 : PySem.W.findIn K (.ref c2) "__getattr__" = some none) (xd2 : PySem.W.hasDictIn K c2 = true) (xa2 : PySem.W.findIn K (.ref c2) "__class__" = some (some (.builtin "object.__class__"))) (xm2 : PySem.W.mroIn K c2 (.type "object") = some true) (es2 : PySem.W.exmOne K (.ref c2) (.ref S) = some true)
    (o2_0 : PySem.W.kitOne K (.ref c2) (.ref c0) = some false)
    (o2_1 : PySem.W.kitOne K (.ref c2) (.ref c1) = some false)
    (o2_2 : PySem.W.kitOne K (.ref c2) (.ref c2) = some true)
    (o2_3 : PySem.W.kitOne K (.ref c2) (.ref c3) = some false)
    (q3 : PySem.W.excIn K c3 [.type "ValueError", .type "Exception", .type "BaseException", .type "object"] "ValueError.__new__" = true)
    (kp3 : PySem.W.keepIn K (.ref c3) = true) (b3 : PySem.W.subIn K (.ref c3) (.type "BaseException") = some true) (t3 : PySem.W.typeIn K (.ref c3) = some (.type "type"))
    (xg3 : PySem.W.findIn K (.ref c3) "__getattribute__" = some (some (.builtin "BaseException.__getattribute__"))) (xk3 : PySem.W.findIn K (.ref c3) "__getattr__" = some none) (xd3 : PySem.W.hasDictIn K c3 = true) (xa3 : PySem.W.findIn K (.ref c3) "__class__" = some (some (.builtin "object.__class__"))) (xm3 : PySem.W.mroIn K c3 (.type "object") = some true) (es3 : PySem.W.exmOne K (.ref c3) (.ref S) = some true)
    (o3_0 : PySem.W.kitOne K (.ref c3) (.ref c0) = some false)
    (o3_1 : PySem.W.kitOne K (.ref c3) (.ref c1) = some false)
    (o3_2 : PySem.W.kitOne K (.ref c3) (.ref c2) = some false)
    (o3_3 : PySem.W.kitOne K (.ref c3) (.ref c3) = some true)
    (xn : PySem.W.specialIn K (.builtin "object.__class__") "__get__" = some (some (.builtin "getset_descriptor.__get__"))) (xt : PySem.W.takesIn K (.builtin "object.__class__") = some true)
    {nm0 q0 : Str} {N0 : Addr} {bs0 bm0 : List Value} {sn0 : List Str} {sub0 : List Value} {ab0 : Bool} {col0 : Option Bool} {dd0 : Option Addr} {m0_0 m1_0 m2_0 m3_0 m5_0 : Option Value} {f0 cc0 cda0 : Addr} {oc0 kV0 dc0 pm0 ct0 ccl0 : Value} {od0 an0 cdd0 : Option Addr} {sl0 csl0 : Array (Option Value)} {oo0 : Obj}
    (yL0 : K.lookup c0 = some (excClassObj nm0 q0 c0 N0 bs0 bm0 true sn0 sub0 ab0 col0 dd0 m0_0 m1_0 m2_0 m3_0 m5_0 "ValueError.__new__")) (yR0 : PySem.HandSPX.refsVE bm0 = true) (ysa0 : PySem.W.findIn K (.ref c0) "__setattr__" = some (some (.builtin "object.__setattr__"))) (yno0 : PySem.W.findIn K (.ref c0) "place" = some none)
    (yi0 : PySem.W.findIn K (.ref c0) "__init__" = some (some (.ref f0))) (yt0 : PySem.W.typeIn K (.ref f0) = some (.type "function")) (yl0 : K.lookup f0 = some ⟨oc0, od0, .func (PySem.W.fnX "__init__" "BadHabit.__init__" (defArgs st_e_BadHabit) (defBody st_e_BadHabit) (defScope st_e_BadHabit) [("__class__", cc0)] .none kV0 dc0 pm0 an0 (.ref cda0) ct0), sl0⟩) (yc0 : PySem.W.codeIn K (.ref cda0) "BadHabit.__init__" = true)
    (yo0 : K.lookup cda0 = some oo0) (yf0 : fileOk P oo0 = true) (yk0 : K.lookup cc0 = some ⟨ccl0, cdd0, .cell (some (.ref c0)), csl0⟩) (ym0 : PySem.W.mroIn K c0 (.ref c0) = some true)
    (ys0 : PySem.W.ks_superIn K c0 c0 "__init__" = some (some (.builtin "ValueError.__init__"))) (yv0 : PySem.W.subIn K (.ref c0) (.type "ValueError") = some true)
    {nm2 q2 : Str} {N2 : Addr} {bs2 bm2 : List Value} {sn2 : List Str} {sub2 : List Value} {ab2 : Bool} {col2 : Option Bool} {dd2 : Option Addr} {m0_2 m1_2 m2_2 m3_2 m5_2 : Option Value} {f2 cc2 cda2 : Addr} {oc2 kV2 dc2 pm2 ct2 ccl2 : Value} {od2 an2 cdd2 : Option Addr} {sl2 csl2 : Array (Option Value)} {oo2 : Obj}
    (yL2 : K.lookup c2 = some (excClassObj nm2 q2 c2 N2 bs2 bm2 true sn2 sub2 ab2 col2 dd2 m0_2 m1_2 m2_2 m3_2 m5_2 "ValueError.__new__")) (yR2 : PySem.HandSPX.refsVE bm2 = true) (ysa2 : PySem.W.findIn K (.ref c2) "__setattr__" = some (some (.builtin "object.__setattr__"))) (yno2 : PySem.W.findIn K (.ref c2) "index" = some none)
    (yi2 : PySem.W.findIn K (.ref c2) "__init__" = some (some (.ref f2))) (yt2 : PySem.W.typeIn K (.ref f2) = some (.type "function")) (yl2 : K.lookup f2 = some ⟨oc2, od2, .func (PySem.W.fnX "__init__" "BadProgram.__init__" (defArgs st_e_BadProgram) (defBody st_e_BadProgram) (defScope st_e_BadProgram) [("__class__", cc2)] .none kV2 dc2 pm2 an2 (.ref cda2) ct2), sl2⟩) (yc2 : PySem.W.codeIn K (.ref cda2) "BadProgram.__init__" = true)
    (yo2 : K.lookup cda2 = some oo2) (yf2 : fileOk P oo2 = true) (yk2 : K.lookup cc2 = some ⟨ccl2, cdd2, .cell (some (.ref c2)), csl2⟩) (ym2 : PySem.W.mroIn K c2 (.ref c2) = some true)
    (ys2 : PySem.W.ks_superIn K c2 c2 "__init__" = some (some (.builtin "ValueError.__init__"))) (yv2 : PySem.W.subIn K (.ref c2) (.type "ValueError") = some true)
    (ya : PySem.W.nsIn K cStatics "thirdparty.any" = some none) (yg : PySem.W.nsIn K mainGlobals "super" = some none) (yp : (P.main.scope.names.lookup ("super" : Str)).isSome = false)
    : ∃ S c0 c1 c2 c3, Five mg S c0 c1 c2 c3 ∧ ExcC K c0 ∧ PySem.W.findIn K (.ref c0) "place" = some none ∧ (∀ w base, BhX P w K mg base "BadHabit" "place" c0 (spBI "place" c0)) ∧ ExcC K c2 ∧ PySem.W.findIn K (.ref c2) "index" = some none ∧ (∀ w base, BhX P w K mg base "BadProgram" "index" c2 (spBI "index" c2)) ∧ ExO K mg "BadNumber" c1 ∧ ExO K mg "BadInputs" c3 ∧ Knd K mg c0 0 ∧ Knd K mg c1 1 ∧ Knd K mg c2 2 ∧ Knd K mg c3 3 := by
  have mS := PySem.W.mg_of X G aS
  have m0 := PySem.W.mg_of X G a0
  have m1 := PySem.W.mg_of X G a1
  have m2 := PySem.W.mg_of X G a2
  have m3 := PySem.W.mg_of X G a3
  have x0 : ExcC K c0 := ⟨xg0, xk0, b0, xd0, xa0, xn, xt, xm0⟩
  have x1 : ExcC K c1 := ⟨xg1, xk1, b1, xd1, xa1, xn, xt, xm1⟩
  have x2 : ExcC K c2 := ⟨xg2, xk2, b2, xd2, xa2, xn, xt, xm2⟩
  have x3 : ExcC K c3 := ⟨xg3, xk3, b3, xd3, xa3, xn, xt, xm3⟩
  have ox0 : OexC K c0 := ⟨⟨_, _, _, _, _, _, _, _, _, _, _, _, _, _, _, yL0, yR0⟩, ysa0, b0, t0, kp0⟩
  have M0 : SupC P K mg c0 "BadHabit.__init__" st_e_BadHabit f0 _ cc0 cda0 := ⟨ox0, ⟨_, _, _, _, _, _, _, _, rfl, yl0⟩, yc0, fileOk_ex yo0 yf0, ⟨_, _, _, yk0⟩, ym0, ya, ys0, yv0, PySem.W.mg_none_of X G yg, yp⟩
  have bh0 : ∀ w base, BhX P w K mg base "BadHabit" "place" c0 (spBI "place" c0) := fun w base => ⟨ox0, m0, f0, _, ok_BadHabit M0 yno0, yi0, yt0, .all fun us hl => match us, hl with | [_, _], _ => rfl⟩
  have ox2 : OexC K c2 := ⟨⟨_, _, _, _, _, _, _, _, _, _, _, _, _, _, _, yL2, yR2⟩, ysa2, b2, t2, kp2⟩
  have M2 : SupC P K mg c2 "BadProgram.__init__" st_e_BadProgram f2 _ cc2 cda2 := ⟨ox2, ⟨_, _, _, _, _, _, _, _, rfl, yl2⟩, yc2, fileOk_ex yo2 yf2, ⟨_, _, _, yk2⟩, ym2, ya, ys2, yv2, PySem.W.mg_none_of X G yg, yp⟩
  have bh2 : ∀ w base, BhX P w K mg base "BadProgram" "index" c2 (spBI "index" c2) := fun w base => ⟨ox2, m2, f2, _, ok_BadProgram M2 yno2, yi2, yt2, .all fun us hl => match us, hl with | [_, _], _ => rfl⟩
  exact ⟨S, c0, c1, c2, c3, ⟨mS, m0, m1, m2, m3⟩, x0, yno0, bh0, x2, yno2, bh2, ⟨q1, m1, kp1, b1, t1⟩, ⟨q3, m3, kp3, b3, t3⟩, ⟨by decide, x0, ⟨S, mS, es0⟩, ⟨c0, m0, o0_0⟩, ⟨c1, m1, o0_1⟩, ⟨c2, m2, o0_2⟩, ⟨c3, m3, o0_3⟩⟩, ⟨by decide, x1, ⟨S, mS, es1⟩, ⟨c0, m0, o1_0⟩, ⟨c1, m1, o1_1⟩, ⟨c2, m2, o1_2⟩, ⟨c3, m3, o1_3⟩⟩, ⟨by decide, x2, ⟨S, mS, es2⟩, ⟨c0, m0, o2_0⟩, ⟨c1, m1, o2_1⟩, ⟨c2, m2, o2_2⟩, ⟨c3, m3, o2_3⟩⟩, ⟨by decide, x3, ⟨S, mS, es3⟩, ⟨c0, m0, o3_0⟩, ⟨c1, m1, o3_1⟩, ⟨c2, m2, o3_2⟩, ⟨c3, m3, o3_3⟩⟩⟩
/-- the class, as the top has left it -/
theorem cls_mk {K : PySem.W.Frag} {h : Heap} {mg : Str → Option Value} (X : K.In h) (G : h.Ns mainGlobals mg) {C : Addr} (aC : PySem.W.nsIn K mainGlobals "Machine" = some (some (.ref C)))
    (pg : PySem.W.plainGet K C Str.empty = true) (hd : PySem.W.hasDictIn K C = true) (po : PySem.W.plainOver K C = true) (sa : PySem.W.findIn K (.ref C) "__setattr__" = some (some (.builtin "object.__setattr__"))) (mk : PySem.W.makesIn K C = true) (kc : PySem.W.keepIn K (.ref C) = true)
    (n0 : PySem.W.findIn K (.ref C) "habit" = some none) (n1 : PySem.W.findIn K (.ref C) "program" = some none) (n2 : PySem.W.findIn K (.ref C) "inputs" = some none) (n3 : PySem.W.findIn K (.ref C) "asked" = some none) (n4 : PySem.W.findIn K (.ref C) "holding" = some none) (n5 : PySem.W.findIn K (.ref C) "hand" = some none) (n6 : PySem.W.findIn K (.ref C) "at" = some none) (n7 : PySem.W.findIn K (.ref C) "said" = some none)
    {f0 : Addr} {od0 an0 : Option Addr} {sl0 : Array (Option Value)} {oc0 kV0 dc0 pm0 cd0 ct0 : Value} (at0 : PySem.W.findIn K (.ref C) "__init__" = some (some (.ref f0))) (i0 : PySem.W.isFn K (.ref f0) = true) (l0 : K.lookup f0 = some ⟨oc0, od0, .func (PySem.W.fnOf "__init__" "Machine.__init__" (defArgs st_m___init__) (defBody st_m___init__) (defScope st_m___init__) .none kV0 dc0 pm0 an0 cd0 ct0), sl0⟩) (c0 : PySem.W.codeIn K cd0 "Machine.__init__" = true) (k0 : PySem.W.keepIn K (.ref f0) = true)
    {f1 : Addr} {od1 an1 : Option Addr} {sl1 : Array (Option Value)} {oc1 kV1 dc1 pm1 cd1 ct1 : Value} (at1 : PySem.W.findIn K (.ref C) "is_done" = some (some (.ref f1))) (i1 : PySem.W.isFn K (.ref f1) = true) (l1 : K.lookup f1 = some ⟨oc1, od1, .func (PySem.W.fnOf "is_done" "Machine.is_done" (defArgs st_m_is_done) (defBody st_m_is_done) (defScope st_m_is_done) .none kV1 dc1 pm1 an1 cd1 ct1), sl1⟩) (c1 : PySem.W.codeIn K cd1 "Machine.is_done" = true) (k1 : PySem.W.keepIn K (.ref f1) = true)
    {f2 : Addr} {od2 an2 : Option Addr} {sl2 : Array (Option Value)} {oc2 kV2 dc2 pm2 cd2 ct2 : Value} (at2 : PySem.W.findIn K (.ref C) "step" = some (some (.ref f2))) (i2 : PySem.W.isFn K (.ref f2) = true) (l2 : K.lookup f2 = some ⟨oc2, od2, .func (PySem.W.fnOf "step" "Machine.step" (defArgs st_m_step) (defBody st_m_step) (defScope st_m_step) .none kV2 dc2 pm2 an2 cd2 ct2), sl2⟩) (c2 : PySem.W.codeIn K cd2 "Machine.step" = true) (k2 : PySem.W.keepIn K (.ref f2) = true)
    {f3 : Addr} {od3 an3 : Option Addr} {sl3 : Array (Option Value)} {oc3 kV3 dc3 pm3 cd3 ct3 : Value} (at3 : PySem.W.findIn K (.ref C) "next_input" = some (some (.ref f3))) (i3 : PySem.W.isFn K (.ref f3) = true) (l3 : K.lookup f3 = some ⟨oc3, od3, .func (PySem.W.fnOf "next_input" "Machine.next_input" (defArgs st_m_next_input) (defBody st_m_next_input) (defScope st_m_next_input) .none kV3 dc3 pm3 an3 cd3 ct3), sl3⟩) (c3 : PySem.W.codeIn K cd3 "Machine.next_input" = true) (k3 : PySem.W.keepIn K (.ref f3) = true)
    {f4 : Addr} {od4 an4 : Option Addr} {sl4 : Array (Option Value)} {oc4 kV4 dc4 pm4 cd4 ct4 : Value} (at4 : PySem.W.findIn K (.ref C) "use" = some (some (.ref f4))) (i4 : PySem.W.isFn K (.ref f4) = true) (l4 : K.lookup f4 = some ⟨oc4, od4, .func (PySem.W.fnOf "use" "Machine.use" (defArgs st_m_use) (defBody st_m_use) (defScope st_m_use) .none kV4 dc4 pm4 an4 cd4 ct4), sl4⟩) (c4 : PySem.W.codeIn K cd4 "Machine.use" = true) (k4 : PySem.W.keepIn K (.ref f4) = true)
    {f5 : Addr} {od5 an5 : Option Addr} {sl5 : Array (Option Value)} {oc5 kV5 dc5 pm5 cd5 ct5 : Value} (at5 : PySem.W.findIn K (.ref C) "be_moved" = some (some (.ref f5))) (i5 : PySem.W.isFn K (.ref f5) = true) (l5 : K.lookup f5 = some ⟨oc5, od5, .func (PySem.W.fnOf "be_moved" "Machine.be_moved" (defArgs st_m_be_moved) (defBody st_m_be_moved) (defScope st_m_be_moved) .none kV5 dc5 pm5 an5 cd5 ct5), sl5⟩) (c5 : PySem.W.codeIn K cd5 "Machine.be_moved" = true) (k5 : PySem.W.keepIn K (.ref f5) = true)
    : ∃ C, MaC K mg C ∧ DfI K C "Machine.__init__" st_m___init__ ["self", "habit", "program", "inputs"] ∧ DfM K C "is_done" "Machine.is_done" st_m_is_done ["self"] ∧ DfM K C "step" "Machine.step" st_m_step ["self"] ∧ DfM K C "next_input" "Machine.next_input" st_m_next_input ["self"] ∧ DfM K C "use" "Machine.use" st_m_use ["self", "word", "place"] ∧ DfM K C "be_moved" "Machine.be_moved" st_m_be_moved ["self", "moves"] := by
  have F0 := fun_mk (st := st_m___init__) l0 c0 k0
  have F1 := fun_mk (st := st_m_is_done) l1 c1 k1
  have F2 := fun_mk (st := st_m_step) l2 c2 k2
  have F3 := fun_mk (st := st_m_next_input) l3 c3 k3
  have F4 := fun_mk (st := st_m_use) l4 c4 k4
  have F5 := fun_mk (st := st_m_be_moved) l5 c5 k5
  have no : ∀ f ∈ maAttrs, NoAttr K C f := fun f hf => by
    unfold maAttrs at hf
    simp only [List.mem_cons, List.not_mem_nil, or_false] at hf
    rcases hf with rfl | rfl | rfl | rfl | rfl | rfl | rfl | rfl
    · exact n0
    · exact n1
    · exact n2
    · exact n3
    · exact n4
    · exact n5
    · exact n6
    · exact n7
  exact ⟨C, ⟨⟨pg, hd, po, sa⟩, no, PySem.W.mg_of X G aC⟩, ⟨f0, _, F0, ⟨mk, at0, i0, kc⟩, F0.binds (fun _ _ _ _ _ _ us hl => match us, hl with | [_, _, _, _], _ => rfl)⟩, ⟨f1, _, F1, ⟨at1, i1, k1⟩, F1.binds (fun _ _ _ _ _ _ us hl => match us, hl with | [_], _ => rfl)⟩, ⟨f2, _, F2, ⟨at2, i2, k2⟩, F2.binds (fun _ _ _ _ _ _ us hl => match us, hl with | [_], _ => rfl)⟩, ⟨f3, _, F3, ⟨at3, i3, k3⟩, F3.binds (fun _ _ _ _ _ _ us hl => match us, hl with | [_], _ => rfl)⟩, ⟨f4, _, F4, ⟨at4, i4, k4⟩, F4.binds (fun _ _ _ _ _ _ us hl => match us, hl with | [_, _, _], _ => rfl)⟩, ⟨f5, _, F5, ⟨at5, i5, k5⟩, F5.binds (fun _ _ _ _ _ _ us hl => match us, hl with | [_, _], _ => rfl)⟩⟩
theorem top {P : Program} {w : World} {K : PySem.W.Frag} {mg : Str → Option Value} {fa : Addr} (hfa : mg "law" = some (.ref fa)) (B : Bu mg) (n_set : mg "set" = none) (c_FEWEST_PLACES : ∃ t, mg "FEWEST_PLACES" = some (.int 2 t)) (c_MOST_PLACES : ∃ t, mg "MOST_PLACES" = some (.int 5 t)) (c_MOST_INPUTS : ∃ t, mg "MOST_INPUTS" = some (.int 50 t)) (c_MOST_STILL : ∃ t, mg "MOST_STILL" = some (.int 200 t)) (c_MOST_RESTLESS : ∃ t, mg "MOST_RESTLESS" = some (.int 4000 t)) (c_GREATEST : ∃ t, mg "GREATEST" = some (.int 1000000 t)) (c_MOST_STILL_STEPS : ∃ t, mg "MOST_STILL_STEPS" = some (.int 5000 t)) (c_MOST_RESTLESS_STEPS : ∃ t, mg "MOST_RESTLESS_STEPS" = some (.int 100000 t)) (t_BARE : CTup K mg "BARE" bareZ) (t_JUMPS : CTup K mg "JUMPS" jumpZ) (t_ACCESSES : CTup K mg "ACCESSES" accZ)
    {C : Addr} (T : MaC K mg C) (FI : DfI K C "Machine.__init__" st_m___init__ ["self", "habit", "program", "inputs"]) (M_is_done : DfM K C "is_done" "Machine.is_done" st_m_is_done ["self"]) (M_step : DfM K C "step" "Machine.step" st_m_step ["self"]) (M_next_input : DfM K C "next_input" "Machine.next_input" st_m_next_input ["self"]) (M_use : DfM K C "use" "Machine.use" st_m_use ["self", "word", "place"]) (M_be_moved : DfM K C "be_moved" "Machine.be_moved" st_m_be_moved ["self", "moves"])
    {S c0 c1 c2 c3 : Addr} (Fv : Five mg S c0 c1 c2 c3) (x0 : ExcC K c0) (no0 : PySem.W.findIn K (.ref c0) "place" = some none) (bh0 : ∀ base, BhX P w K mg base "BadHabit" "place" c0 (spBI "place" c0)) (x2 : ExcC K c2) (no2 : PySem.W.findIn K (.ref c2) "index" = some none) (bh2 : ∀ base, BhX P w K mg base "BadProgram" "index" c2 (spBI "index" c2)) (X1 : ExO K mg "BadNumber" c1) (X3 : ExO K mg "BadInputs" c3)
    (K0 : Knd K mg c0 0) (K1 : Knd K mg c1 1) (K2 : Knd K mg c2 2) (K3 : Knd K mg c3 3)
    (F_is_integer : Df K mg "is_integer" st_is_integer ["value"])
    (F_is_number : Df K mg "is_number" st_is_number ["value", "low", "high"])
    (F_is_row : Df K mg "is_row" st_is_row ["value", "low", "high"])
    (F_is_place : Df K mg "is_place" st_is_place ["value", "places"])
    (F_are_places : Df K mg "are_places" st_are_places ["value", "places"])
    (F_is_layout : Df K mg "is_layout" st_is_layout ["value", "places"])
    (F_is_instruction : Df K mg "is_instruction" st_is_instruction ["value", "places", "count", "is_restless"])
    (F_check_number : Df K mg "check_number" st_check_number ["value", "low", "high"])
    (F_check_places : Df K mg "check_places" st_check_places ["places"])
    (F_check_habit : Df K mg "check_habit" st_check_habit ["habit"])
    (F_check_program : Df K mg "check_program" st_check_program ["program", "places", "most", "is_restless"])
    (F_check_still : Df K mg "check_still" st_check_still ["program", "places"])
    (F_check_restless : Df K mg "check_restless" st_check_restless ["program", "places"])
    (F_check_inputs : Df K mg "check_inputs" st_check_inputs ["inputs"])
    (F_is_access : Df K mg "is_access" st_is_access ["instruction"])
    (F_has_ended : Df K mg "has_ended" st_has_ended ["program", "at"])
    (F_nexts_of : Df K mg "nexts_of" st_nexts_of ["program", "at"])
    (F_found_in_order : Df K mg "found_in_order" st_found_in_order ["program"])
    (F_reached_of : Df K mg "reached_of" st_reached_of ["program"])
    (F_names_used : Df K mg "names_used" st_names_used ["program"])
    (F_flow_of : Df K mg "flow_of" st_flow_of ["program"])
    (F_run : Df K mg "run" st_run ["habit", "program", "inputs", "most"])
    (F_run_still : Df K mg "run_still" st_run_still ["places", "program", "inputs", "most"])
    (F_run_restless : Df K mg "run_restless" st_run_restless ["habit", "program", "inputs", "most"])
    (F_reached : Df K mg "reached" st_reached ["places", "program"])
    (F_used : Df K mg "used" st_used ["places", "program"])
    (F_flow : Df K mg "flow" st_flow ["places", "program"])
    (F__law_taken : Df K mg "_law_taken" st__law_taken ["row", "many"])
    (F__law_pick : Df K mg "_law_pick" st__law_pick ["row", "things"])
    (F__law_program : Df K mg "_law_program" st__law_program ["row", "places", "many"])
    (F__law_inputs : Df K mg "_law_inputs" st__law_inputs ["row"])
    (F__law_alike : Df K mg "_law_alike" st__law_alike ["found", "due"])
    (F__law_run : Df K mg "_law_run" st__law_run ["program", "inputs", "most", "places", "habit"])
    (F__law_order : Df K mg "_law_order" st__law_order ["row", "many"])
    (F__law_habit : Df K mg "_law_habit" st__law_habit ["row", "places"])
    (F__law_nexts : Df K mg "_law_nexts" st__law_nexts ["program", "at"])
    (F__law_reached : Df K mg "_law_reached" st__law_reached ["program"])
    (F_law : Df K mg "law" st_law ["script"])
    : ∃ fd : FuncData, (∀ (s : Shared) (v : Value), BindsTo s fd ⟨[v], []⟩ [("script", v)]) ∧ ∀ base : Heap, FnOk P w K mg base CX0 9 fa fd ["script"] (spLaw K) := by
  obtain ⟨f, fd, F, g, b⟩ := F_law.ex
  have e := hfa.symm.trans g
  cases e
  refine ⟨fd, fun s v => ?_, fun base  => ?_⟩
  · obtain ⟨oc, od, kV, doc, pm, an, cdv, ct, osl, rfl, _⟩ := F.ex
    exact .of_eq rfl
  · have C1 := ok_is_integerW (P := P) (w := w) (K := K) (base := base) F_is_integer B
    have C2 := ok_is_numberW F_is_number C1
    have CR := ok_is_rowW (P := P) (w := w) (K := K) (base := base) F_is_row B
    have C3 := ok_is_placeW F_is_place C2
    have C4 := ok_are_placesW F_are_places B C3
    have C5 := ok_is_layoutW F_is_layout B C4
    have CI := ok_is_insW F_is_instruction B t_BARE t_JUMPS t_ACCESSES c_GREATEST CR C2 C3
    have CH := ok_check_habitX F_check_habit B c_FEWEST_PLACES c_MOST_PLACES (bh0 base) CR C5
    have CPs := ok_check_placesX F_check_places c_FEWEST_PLACES c_MOST_PLACES (ok_check_numberX F_check_number X1 C2)
    have CNS := ok_check_numberS F_check_number X1 C2
    have CNR := ok_check_numberR F_check_number X1 C2
    have CPg := ok_check_programX F_check_program B (bh2 base) CR CI
    have CPr := ok_check_restlessX F_check_restless c_MOST_RESTLESS CPg
    have CPs2 := ok_check_stillX F_check_still c_MOST_STILL CPg
    have CIn := ok_check_inputsX F_check_inputs B c_MOST_INPUTS c_GREATEST X3 CR C2
    have CE := ok_has_ended (P := P) (w := w) (K := K) (base := base) F_has_ended B
    have MB := ok_be_moved (P := P) (w := w) (base := base) M_be_moved B T
    have MU := ok_use M_use T MB
    have MN := ok_next_input (P := P) (w := w) (base := base) M_next_input B T
    have MD := ok_is_done M_is_done T CE
    have MS := ok_step M_step B T t_JUMPS MU MN
    have MI := ok_initM (P := P) (w := w) (base := base) FI B T
    have CRn := ok_run F_run B T MI MD MS
    have CT := ok_taken (P := P) (w := w) (K := K) (base := base) F__law_taken B
    have COd := ok_order F__law_order B CT
    have CPk := ok_pick F__law_pick B CT
    have CNx := ok_nexts_of (P := P) (w := w) (K := K) (base := base) F_nexts_of B
    have CAc := ok_is_access (P := P) (w := w) (K := K) (base := base) F_is_access t_ACCESSES
    have CFo := ok_found_in_order F_found_in_order B CNx
    have CRe := ok_reached_of F_reached_of B CFo
    have CNu := ok_names_used F_names_used B CAc CFo
    have CFl := ok_flow_of F_flow_of B CNx CRe
    have CLN := ok_lnexts (P := P) (w := w) (K := K) (base := base) F__law_nexts B n_set
    exact ok_law F B n_set CT CPk (ok_habit F__law_habit B CT COd) (ok_lprogram F__law_program B CT CPk) (ok_linputs F__law_inputs B CT) (ok_alikeS 1 F__law_alike B (ok_alikeS 0 F__law_alike B (ok_alike0 F__law_alike B))) (ok_lrun F__law_run B) CLN (ok_lreached F__law_reached B CLN)
      (ok_run_stillG F_run_still B c_MOST_STILL_STEPS CPs CPs2 CIn CNS CRn) (rest_good (ok_run_restlessX F_run_restless B c_MOST_RESTLESS_STEPS CH CPr CIn CNR CRn)) (ok_reachedG F_reached CPs CPs2 CRe) (ok_usedG F_used CPs CPs2 CNu) (ok_flowG F_flow CPs CPs2 CFl)
end RH
set_option Elab.async false
set_option linter.all false
open PySem PySem.W PyProof.Rows
set_option maxRecDepth 100000 in
set_option maxHeartbeats 0 in
theorem PySem.Challenge.cw_restlesshelf_k04_whole_runs_holds : PySem.Challenge.rw_restlesshelf_k04_whole_runs.Holds := by
  w_on; o_law; k_head; (case hw => w_witness2)
  k_fill
  refine L2.walk_of (l := PySem.Challenge.rw_restlesshelf_k04_whole_runs) (n := 63) (k := 9) (x := "script") (CX := fun _ => L2.CX0) (sp := fun w => RH.spLaw _) rfl (by decide) rfl ⟨rfl, by decide, by decide⟩ (fun w h Y => PySem.W.kIn_of Y) ?F (fun _ _ a ns hl ho hS => ⟨a, ns, rfl, RH.Fz.of ho hS, fun _ => rfl⟩) (fun _ _ _ _ _ h => h)
  case F =>
    intro w mg fa h KX G hmg
    have B : RH.Bu mg := by
      refine' RH.Bu.mk (PySem.W.mg_none_of KX G ?z0) (PySem.W.mg_none_of KX G ?z1) (PySem.W.mg_none_of KX G ?z2) (PySem.W.mg_none_of KX G ?z3) (PySem.W.mg_none_of KX G ?z4) (PySem.W.mg_none_of KX G ?z5) (PySem.W.mg_none_of KX G ?z6) (PySem.W.mg_none_of KX G ?z7) (PySem.W.mg_none_of KX G ?z8) (PySem.W.mg_none_of KX G ?z9) (PySem.W.mg_none_of KX G ?z10) (PySem.W.mg_none_of KX G ?z11) (PySem.W.mg_none_of KX G ?z12)
      (case z0 => k_is); (case z1 => k_is); (case z2 => k_is); (case z3 => k_is); (case z4 => k_is); (case z5 => k_is); (case z6 => k_is); (case z7 => k_is); (case z8 => k_is); (case z9 => k_is); (case z10 => k_is); (case z11 => k_is); (case z12 => k_is)
    have n_set : mg "set" = none := by
      refine' PySem.W.mg_none_of KX G ?a
      (case a => k_is)
    have c_FEWEST_PLACES : ∃ t, mg "FEWEST_PLACES" = some (.int 2 t) := by
      refine' RH.const_mk KX G ?a
      (case a => k_is)
    have c_MOST_PLACES : ∃ t, mg "MOST_PLACES" = some (.int 5 t) := by
      refine' RH.const_mk KX G ?a
      (case a => k_is)
    have c_MOST_INPUTS : ∃ t, mg "MOST_INPUTS" = some (.int 50 t) := by
      refine' RH.const_mk KX G ?a
      (case a => k_is)
    have c_MOST_STILL : ∃ t, mg "MOST_STILL" = some (.int 200 t) := by
      refine' RH.const_mk KX G ?a
      (case a => k_is)
    have c_MOST_RESTLESS : ∃ t, mg "MOST_RESTLESS" = some (.int 4000 t) := by
      refine' RH.const_mk KX G ?a
      (case a => k_is)
    have c_GREATEST : ∃ t, mg "GREATEST" = some (.int 1000000 t) := by
      refine' RH.const_mk KX G ?a
      (case a => k_is)
    have c_MOST_STILL_STEPS : ∃ t, mg "MOST_STILL_STEPS" = some (.int 5000 t) := by
      refine' RH.const_mk KX G ?a
      (case a => k_is)
    have c_MOST_RESTLESS_STEPS : ∃ t, mg "MOST_RESTLESS_STEPS" = some (.int 100000 t) := by
      refine' RH.const_mk KX G ?a
      (case a => k_is)
    have t_BARE : RH.CTup (RH.kOf KX) mg "BARE" RH.bareZ := by
      refine' RH.ctup_mk KX G ?a ?l ?c ?d ?s ?v
      (case a => k_is); (case l => k_is); (case c => exact rfl); (case d => exact rfl); (case v => exact (.cons ⟨_, rfl⟩ (.cons ⟨_, rfl⟩ (.cons ⟨_, rfl⟩ .nil)))); (case s => decide)
    have t_JUMPS : RH.CTup (RH.kOf KX) mg "JUMPS" RH.jumpZ := by
      refine' RH.ctup_mk KX G ?a ?l ?c ?d ?s ?v
      (case a => k_is); (case l => k_is); (case c => exact rfl); (case d => exact rfl); (case v => exact (.cons ⟨_, rfl⟩ (.cons ⟨_, rfl⟩ .nil))); (case s => decide)
    have t_ACCESSES : RH.CTup (RH.kOf KX) mg "ACCESSES" RH.accZ := by
      refine' RH.ctup_mk KX G ?a ?l ?c ?d ?s ?v
      (case a => k_is); (case l => k_is); (case c => exact rfl); (case d => exact rfl); (case v => exact (.cons ⟨_, rfl⟩ (.cons ⟨_, rfl⟩ (.cons ⟨_, rfl⟩ (.cons ⟨_, rfl⟩ .nil))))); (case s => decide)
    have F_is_integer : RH.Df (RH.kOf KX) mg "is_integer" RH.st_is_integer ["value"] := by
      refine' RH.df_mk KX G ?a ?l ?c ?k (fun _ _ _ _ _ _ us hl => match us, hl with | [_], _ => rfl)
      (case a => k_is); (case l => k_is); (case c => k_is); (case k => k_is)
    have F_is_number : RH.Df (RH.kOf KX) mg "is_number" RH.st_is_number ["value", "low", "high"] := by
      refine' RH.df_mk KX G ?a ?l ?c ?k (fun _ _ _ _ _ _ us hl => match us, hl with | [_, _, _], _ => rfl)
      (case a => k_is); (case l => k_is); (case c => k_is); (case k => k_is)
    have F_is_row : RH.Df (RH.kOf KX) mg "is_row" RH.st_is_row ["value", "low", "high"] := by
      refine' RH.df_mk KX G ?a ?l ?c ?k (fun _ _ _ _ _ _ us hl => match us, hl with | [_, _, _], _ => rfl)
      (case a => k_is); (case l => k_is); (case c => k_is); (case k => k_is)
    have F_is_place : RH.Df (RH.kOf KX) mg "is_place" RH.st_is_place ["value", "places"] := by
      refine' RH.df_mk KX G ?a ?l ?c ?k (fun _ _ _ _ _ _ us hl => match us, hl with | [_, _], _ => rfl)
      (case a => k_is); (case l => k_is); (case c => k_is); (case k => k_is)
    have F_are_places : RH.Df (RH.kOf KX) mg "are_places" RH.st_are_places ["value", "places"] := by
      refine' RH.df_mk KX G ?a ?l ?c ?k (fun _ _ _ _ _ _ us hl => match us, hl with | [_, _], _ => rfl)
      (case a => k_is); (case l => k_is); (case c => k_is); (case k => k_is)
    have F_is_layout : RH.Df (RH.kOf KX) mg "is_layout" RH.st_is_layout ["value", "places"] := by
      refine' RH.df_mk KX G ?a ?l ?c ?k (fun _ _ _ _ _ _ us hl => match us, hl with | [_, _], _ => rfl)
      (case a => k_is); (case l => k_is); (case c => k_is); (case k => k_is)
    have F_is_instruction : RH.Df (RH.kOf KX) mg "is_instruction" RH.st_is_instruction ["value", "places", "count", "is_restless"] := by
      refine' RH.df_mk KX G ?a ?l ?c ?k (fun _ _ _ _ _ _ us hl => match us, hl with | [_, _, _, _], _ => rfl)
      (case a => k_is); (case l => k_is); (case c => k_is); (case k => k_is)
    have F_check_number : RH.Df (RH.kOf KX) mg "check_number" RH.st_check_number ["value", "low", "high"] := by
      refine' RH.df_mk KX G ?a ?l ?c ?k (fun _ _ _ _ _ _ us hl => match us, hl with | [_, _, _], _ => rfl)
      (case a => k_is); (case l => k_is); (case c => k_is); (case k => k_is)
    have F_check_places : RH.Df (RH.kOf KX) mg "check_places" RH.st_check_places ["places"] := by
      refine' RH.df_mk KX G ?a ?l ?c ?k (fun _ _ _ _ _ _ us hl => match us, hl with | [_], _ => rfl)
      (case a => k_is); (case l => k_is); (case c => k_is); (case k => k_is)
    have F_check_habit : RH.Df (RH.kOf KX) mg "check_habit" RH.st_check_habit ["habit"] := by
      refine' RH.df_mk KX G ?a ?l ?c ?k (fun _ _ _ _ _ _ us hl => match us, hl with | [_], _ => rfl)
      (case a => k_is); (case l => k_is); (case c => k_is); (case k => k_is)
    have F_check_program : RH.Df (RH.kOf KX) mg "check_program" RH.st_check_program ["program", "places", "most", "is_restless"] := by
      refine' RH.df_mk KX G ?a ?l ?c ?k (fun _ _ _ _ _ _ us hl => match us, hl with | [_, _, _, _], _ => rfl)
      (case a => k_is); (case l => k_is); (case c => k_is); (case k => k_is)
    have F_check_still : RH.Df (RH.kOf KX) mg "check_still" RH.st_check_still ["program", "places"] := by
      refine' RH.df_mk KX G ?a ?l ?c ?k (fun _ _ _ _ _ _ us hl => match us, hl with | [_, _], _ => rfl)
      (case a => k_is); (case l => k_is); (case c => k_is); (case k => k_is)
    have F_check_restless : RH.Df (RH.kOf KX) mg "check_restless" RH.st_check_restless ["program", "places"] := by
      refine' RH.df_mk KX G ?a ?l ?c ?k (fun _ _ _ _ _ _ us hl => match us, hl with | [_, _], _ => rfl)
      (case a => k_is); (case l => k_is); (case c => k_is); (case k => k_is)
    have F_check_inputs : RH.Df (RH.kOf KX) mg "check_inputs" RH.st_check_inputs ["inputs"] := by
      refine' RH.df_mk KX G ?a ?l ?c ?k (fun _ _ _ _ _ _ us hl => match us, hl with | [_], _ => rfl)
      (case a => k_is); (case l => k_is); (case c => k_is); (case k => k_is)
    have F_is_access : RH.Df (RH.kOf KX) mg "is_access" RH.st_is_access ["instruction"] := by
      refine' RH.df_mk KX G ?a ?l ?c ?k (fun _ _ _ _ _ _ us hl => match us, hl with | [_], _ => rfl)
      (case a => k_is); (case l => k_is); (case c => k_is); (case k => k_is)
    have F_has_ended : RH.Df (RH.kOf KX) mg "has_ended" RH.st_has_ended ["program", "at"] := by
      refine' RH.df_mk KX G ?a ?l ?c ?k (fun _ _ _ _ _ _ us hl => match us, hl with | [_, _], _ => rfl)
      (case a => k_is); (case l => k_is); (case c => k_is); (case k => k_is)
    have F_nexts_of : RH.Df (RH.kOf KX) mg "nexts_of" RH.st_nexts_of ["program", "at"] := by
      refine' RH.df_mk KX G ?a ?l ?c ?k (fun _ _ _ _ _ _ us hl => match us, hl with | [_, _], _ => rfl)
      (case a => k_is); (case l => k_is); (case c => k_is); (case k => k_is)
    have F_found_in_order : RH.Df (RH.kOf KX) mg "found_in_order" RH.st_found_in_order ["program"] := by
      refine' RH.df_mk KX G ?a ?l ?c ?k (fun _ _ _ _ _ _ us hl => match us, hl with | [_], _ => rfl)
      (case a => k_is); (case l => k_is); (case c => k_is); (case k => k_is)
    have F_reached_of : RH.Df (RH.kOf KX) mg "reached_of" RH.st_reached_of ["program"] := by
      refine' RH.df_mk KX G ?a ?l ?c ?k (fun _ _ _ _ _ _ us hl => match us, hl with | [_], _ => rfl)
      (case a => k_is); (case l => k_is); (case c => k_is); (case k => k_is)
    have F_names_used : RH.Df (RH.kOf KX) mg "names_used" RH.st_names_used ["program"] := by
      refine' RH.df_mk KX G ?a ?l ?c ?k (fun _ _ _ _ _ _ us hl => match us, hl with | [_], _ => rfl)
      (case a => k_is); (case l => k_is); (case c => k_is); (case k => k_is)
    have F_flow_of : RH.Df (RH.kOf KX) mg "flow_of" RH.st_flow_of ["program"] := by
      refine' RH.df_mk KX G ?a ?l ?c ?k (fun _ _ _ _ _ _ us hl => match us, hl with | [_], _ => rfl)
      (case a => k_is); (case l => k_is); (case c => k_is); (case k => k_is)
    have F_run : RH.Df (RH.kOf KX) mg "run" RH.st_run ["habit", "program", "inputs", "most"] := by
      refine' RH.df_mk KX G ?a ?l ?c ?k (fun _ _ _ _ _ _ us hl => match us, hl with | [_, _, _, _], _ => rfl)
      (case a => k_is); (case l => k_is); (case c => k_is); (case k => k_is)
    have F_run_still : RH.Df (RH.kOf KX) mg "run_still" RH.st_run_still ["places", "program", "inputs", "most"] := by
      refine' RH.df_mk KX G ?a ?l ?c ?k (fun _ _ _ _ _ _ us hl => match us, hl with | [_, _, _, _], _ => rfl)
      (case a => k_is); (case l => k_is); (case c => k_is); (case k => k_is)
    have F_run_restless : RH.Df (RH.kOf KX) mg "run_restless" RH.st_run_restless ["habit", "program", "inputs", "most"] := by
      refine' RH.df_mk KX G ?a ?l ?c ?k (fun _ _ _ _ _ _ us hl => match us, hl with | [_, _, _, _], _ => rfl)
      (case a => k_is); (case l => k_is); (case c => k_is); (case k => k_is)
    have F_reached : RH.Df (RH.kOf KX) mg "reached" RH.st_reached ["places", "program"] := by
      refine' RH.df_mk KX G ?a ?l ?c ?k (fun _ _ _ _ _ _ us hl => match us, hl with | [_, _], _ => rfl)
      (case a => k_is); (case l => k_is); (case c => k_is); (case k => k_is)
    have F_used : RH.Df (RH.kOf KX) mg "used" RH.st_used ["places", "program"] := by
      refine' RH.df_mk KX G ?a ?l ?c ?k (fun _ _ _ _ _ _ us hl => match us, hl with | [_, _], _ => rfl)
      (case a => k_is); (case l => k_is); (case c => k_is); (case k => k_is)
    have F_flow : RH.Df (RH.kOf KX) mg "flow" RH.st_flow ["places", "program"] := by
      refine' RH.df_mk KX G ?a ?l ?c ?k (fun _ _ _ _ _ _ us hl => match us, hl with | [_, _], _ => rfl)
      (case a => k_is); (case l => k_is); (case c => k_is); (case k => k_is)
    have F__law_taken : RH.Df (RH.kOf KX) mg "_law_taken" RH.st__law_taken ["row", "many"] := by
      refine' RH.df_mk KX G ?a ?l ?c ?k (fun _ _ _ _ _ _ us hl => match us, hl with | [_, _], _ => rfl)
      (case a => k_is); (case l => k_is); (case c => k_is); (case k => k_is)
    have F__law_pick : RH.Df (RH.kOf KX) mg "_law_pick" RH.st__law_pick ["row", "things"] := by
      refine' RH.df_mk KX G ?a ?l ?c ?k (fun _ _ _ _ _ _ us hl => match us, hl with | [_, _], _ => rfl)
      (case a => k_is); (case l => k_is); (case c => k_is); (case k => k_is)
    have F__law_program : RH.Df (RH.kOf KX) mg "_law_program" RH.st__law_program ["row", "places", "many"] := by
      refine' RH.df_mk KX G ?a ?l ?c ?k (fun _ _ _ _ _ _ us hl => match us, hl with | [_, _, _], _ => rfl)
      (case a => k_is); (case l => k_is); (case c => k_is); (case k => k_is)
    have F__law_inputs : RH.Df (RH.kOf KX) mg "_law_inputs" RH.st__law_inputs ["row"] := by
      refine' RH.df_mk KX G ?a ?l ?c ?k (fun _ _ _ _ _ _ us hl => match us, hl with | [_], _ => rfl)
      (case a => k_is); (case l => k_is); (case c => k_is); (case k => k_is)
    have F__law_alike : RH.Df (RH.kOf KX) mg "_law_alike" RH.st__law_alike ["found", "due"] := by
      refine' RH.df_mk KX G ?a ?l ?c ?k (fun _ _ _ _ _ _ us hl => match us, hl with | [_, _], _ => rfl)
      (case a => k_is); (case l => k_is); (case c => k_is); (case k => k_is)
    have F__law_run : RH.Df (RH.kOf KX) mg "_law_run" RH.st__law_run ["program", "inputs", "most", "places", "habit"] := by
      refine' RH.df_mk KX G ?a ?l ?c ?k (fun _ _ _ _ _ _ us hl => match us, hl with | [_, _, _, _, _], _ => rfl)
      (case a => k_is); (case l => k_is); (case c => k_is); (case k => k_is)
    have F__law_order : RH.Df (RH.kOf KX) mg "_law_order" RH.st__law_order ["row", "many"] := by
      refine' RH.df_mk KX G ?a ?l ?c ?k (fun _ _ _ _ _ _ us hl => match us, hl with | [_, _], _ => rfl)
      (case a => k_is); (case l => k_is); (case c => k_is); (case k => k_is)
    have F__law_habit : RH.Df (RH.kOf KX) mg "_law_habit" RH.st__law_habit ["row", "places"] := by
      refine' RH.df_mk KX G ?a ?l ?c ?k (fun _ _ _ _ _ _ us hl => match us, hl with | [_, _], _ => rfl)
      (case a => k_is); (case l => k_is); (case c => k_is); (case k => k_is)
    have F__law_nexts : RH.Df (RH.kOf KX) mg "_law_nexts" RH.st__law_nexts ["program", "at"] := by
      refine' RH.df_mk KX G ?a ?l ?c ?k (fun _ _ _ _ _ _ us hl => match us, hl with | [_, _], _ => rfl)
      (case a => k_is); (case l => k_is); (case c => k_is); (case k => k_is)
    have F__law_reached : RH.Df (RH.kOf KX) mg "_law_reached" RH.st__law_reached ["program"] := by
      refine' RH.df_mk KX G ?a ?l ?c ?k (fun _ _ _ _ _ _ us hl => match us, hl with | [_], _ => rfl)
      (case a => k_is); (case l => k_is); (case c => k_is); (case k => k_is)
    have F_law : RH.Df (RH.kOf KX) mg "law" RH.st_law ["script"] := by
      refine' RH.df_mk KX G ?a ?l ?c ?k (fun _ _ _ _ _ _ us hl => match us, hl with | [_], _ => rfl)
      (case a => k_is); (case l => k_is); (case c => k_is); (case k => k_is)
    obtain ⟨S, c0, c1, c2, c3, Fv, x0, no0, bh0, x2, no2, bh2, X1, X3, K0, K1, K2, K3⟩ : ∃ S c0 c1 c2 c3, RH.Five mg S c0 c1 c2 c3 ∧ L2.ExcC (RH.kOf KX) c0 ∧ PySem.W.findIn (RH.kOf KX) (.ref c0) "place" = some none ∧ (∀ w base, RH.BhX (PySem.Challenge.rw_restlesshelf_k04_whole_runs).prog w (RH.kOf KX) mg base "BadHabit" "place" c0 (RH.spBI "place" c0)) ∧ L2.ExcC (RH.kOf KX) c2 ∧ PySem.W.findIn (RH.kOf KX) (.ref c2) "index" = some none ∧ (∀ w base, RH.BhX (PySem.Challenge.rw_restlesshelf_k04_whole_runs).prog w (RH.kOf KX) mg base "BadProgram" "index" c2 (RH.spBI "index" c2)) ∧ RH.ExO (RH.kOf KX) mg "BadNumber" c1 ∧ RH.ExO (RH.kOf KX) mg "BadInputs" c3 ∧ RH.Knd (RH.kOf KX) mg c0 0 ∧ RH.Knd (RH.kOf KX) mg c1 1 ∧ RH.Knd (RH.kOf KX) mg c2 2 ∧ RH.Knd (RH.kOf KX) mg c3 3 := by
      refine' Exists.elim (RH.errs_mk (PySem.Challenge.rw_restlesshelf_k04_whole_runs).prog KX G ?aS ?a0 ?a1 ?a2 ?a3 ?kp0 ?b0 ?t0 ?xg0 ?xk0 ?xd0 ?xa0 ?xm0 ?es0 ?o0_0 ?o0_1 ?o0_2 ?o0_3 ?q1 ?kp1 ?b1 ?t1 ?xg1 ?xk1 ?xd1 ?xa1 ?xm1 ?es1 ?o1_0 ?o1_1 ?o1_2 ?o1_3 ?kp2 ?b2 ?t2 ?xg2 ?xk2 ?xd2 ?xa2 ?xm2 ?es2 ?o2_0 ?o2_1 ?o2_2 ?o2_3 ?q3 ?kp3 ?b3 ?t3 ?xg3 ?xk3 ?xd3 ?xa3 ?xm3 ?es3 ?o3_0 ?o3_1 ?o3_2 ?o3_3 ?xn ?xt ?yL0 ?yR0 ?ysa0 ?yno0 ?yi0 ?yt0 ?yl0 ?yc0 ?yo0 ?yf0 ?yk0 ?ym0 ?ys0 ?yv0 ?yL2 ?yR2 ?ysa2 ?yno2 ?yi2 ?yt2 ?yl2 ?yc2 ?yo2 ?yf2 ?yk2 ?ym2 ?ys2 ?yv2 ?ya ?yg ?yp) (fun C hC => ⟨C, hC⟩)
      (case aS => k_is); (case a0 => k_is); (case a1 => k_is); (case a2 => k_is); (case a3 => k_is); (case kp0 => k_is); (case b0 => k_is); (case t0 => k_is)
      (case xg0 => k_is); (case xk0 => k_is); (case xd0 => k_is); (case xa0 => k_is); (case xm0 => k_is); (case es0 => kts_exm); (case o0_0 => kit_is); (case o0_1 => kit_is)
      (case o0_2 => kit_is); (case o0_3 => kit_is); (case q1 => k_exc); (case kp1 => k_is); (case b1 => k_is); (case t1 => k_is); (case xg1 => k_is); (case xk1 => k_is)
      (case xd1 => k_is); (case xa1 => k_is); (case xm1 => k_is); (case es1 => kts_exm); (case o1_0 => kit_is); (case o1_1 => kit_is); (case o1_2 => kit_is); (case o1_3 => kit_is)
      (case kp2 => k_is); (case b2 => k_is); (case t2 => k_is); (case xg2 => k_is); (case xk2 => k_is); (case xd2 => k_is); (case xa2 => k_is); (case xm2 => k_is)
      (case es2 => kts_exm); (case o2_0 => kit_is); (case o2_1 => kit_is); (case o2_2 => kit_is); (case o2_3 => kit_is); (case q3 => k_exc); (case kp3 => k_is); (case b3 => k_is)
      (case t3 => k_is); (case xg3 => k_is); (case xk3 => k_is); (case xd3 => k_is); (case xa3 => k_is); (case xm3 => k_is); (case es3 => kts_exm); (case o3_0 => kit_is)
      (case o3_1 => kit_is); (case o3_2 => kit_is); (case o3_3 => kit_is); (case xn => k_is); (case xt => k_is); (case yL0 => k_is); (case yR0 => first | rfl | decide +kernel | kernel_rfl); (case ysa0 => k_is)
      (case yno0 => k_is); (case yi0 => k_is); (case yt0 => k_is); (case yl0 => k_is); (case yc0 => k_is); (case yo0 => k_is); (case yf0 => first | rfl | decide +kernel | kernel_rfl); (case yk0 => k_is)
      (case ym0 => k_is); (case ys0 => ks_is); (case yv0 => k_is); (case yL2 => k_is); (case yR2 => first | rfl | decide +kernel | kernel_rfl); (case ysa2 => k_is); (case yno2 => k_is); (case yi2 => k_is)
      (case yt2 => k_is); (case yl2 => k_is); (case yc2 => k_is); (case yo2 => k_is); (case yf2 => first | rfl | decide +kernel | kernel_rfl); (case yk2 => k_is); (case ym2 => k_is); (case ys2 => ks_is)
      (case yv2 => k_is); (case ya => k_is); (case yg => k_is); (case yp => first | rfl | decide +kernel | kernel_rfl)
    obtain ⟨C, T, FI, M_is_done, M_step, M_next_input, M_use, M_be_moved⟩ : ∃ C, RH.MaC (RH.kOf KX) mg C ∧ RH.DfI (RH.kOf KX) C "Machine.__init__" RH.st_m___init__ ["self", "habit", "program", "inputs"] ∧ RH.DfM (RH.kOf KX) C "is_done" "Machine.is_done" RH.st_m_is_done ["self"] ∧ RH.DfM (RH.kOf KX) C "step" "Machine.step" RH.st_m_step ["self"] ∧ RH.DfM (RH.kOf KX) C "next_input" "Machine.next_input" RH.st_m_next_input ["self"] ∧ RH.DfM (RH.kOf KX) C "use" "Machine.use" RH.st_m_use ["self", "word", "place"] ∧ RH.DfM (RH.kOf KX) C "be_moved" "Machine.be_moved" RH.st_m_be_moved ["self", "moves"] := by
      refine' Exists.elim (RH.cls_mk KX G ?aC ?pg ?hd ?po ?sa ?mk ?kc ?n0 ?n1 ?n2 ?n3 ?n4 ?n5 ?n6 ?n7 ?at0 ?i0 ?l0 ?c0 ?k0 ?at1 ?i1 ?l1 ?c1 ?k1 ?at2 ?i2 ?l2 ?c2 ?k2 ?at3 ?i3 ?l3 ?c3 ?k3 ?at4 ?i4 ?l4 ?c4 ?k4 ?at5 ?i5 ?l5 ?c5 ?k5) (fun C hC => ⟨C, hC⟩)
      (case aC => k_is); (case pg => k_is); (case hd => k_is); (case po => k_is); (case sa => k_is); (case mk => k_is); (case kc => k_is); (case n0 => k_is)
      (case n1 => k_is); (case n2 => k_is); (case n3 => k_is); (case n4 => k_is); (case n5 => k_is); (case n6 => k_is); (case n7 => k_is); (case at0 => k_is)
      (case i0 => k_is); (case l0 => k_is); (case c0 => k_is); (case k0 => k_is); (case at1 => k_is); (case i1 => k_is); (case l1 => k_is); (case c1 => k_is)
      (case k1 => k_is); (case at2 => k_is); (case i2 => k_is); (case l2 => k_is); (case c2 => k_is); (case k2 => k_is); (case at3 => k_is); (case i3 => k_is)
      (case l3 => k_is); (case c3 => k_is); (case k3 => k_is); (case at4 => k_is); (case i4 => k_is); (case l4 => k_is); (case c4 => k_is); (case k4 => k_is)
      (case at5 => k_is); (case i5 => k_is); (case l5 => k_is); (case c5 => k_is); (case k5 => k_is)
    obtain ⟨fd, hb, hF⟩ := RH.top (P := (PySem.Challenge.rw_restlesshelf_k04_whole_runs).prog) (w := w) hmg B n_set c_FEWEST_PLACES c_MOST_PLACES c_MOST_INPUTS c_MOST_STILL c_MOST_RESTLESS c_GREATEST c_MOST_STILL_STEPS c_MOST_RESTLESS_STEPS t_BARE t_JUMPS t_ACCESSES  T FI M_is_done M_step M_next_input M_use M_be_moved Fv x0 no0 (bh0 w) x2 no2 (bh2 w) X1 X3 K0 K1 K2 K3 F_is_integer F_is_number F_is_row F_is_place F_are_places F_is_layout F_is_instruction F_check_number F_check_places F_check_habit F_check_program F_check_still F_check_restless F_check_inputs F_is_access F_has_ended F_nexts_of F_found_in_order F_reached_of F_names_used F_flow_of F_run F_run_still F_run_restless F_reached F_used F_flow F__law_taken F__law_pick F__law_program F__law_inputs F__law_alike F__law_run F__law_order F__law_habit F__law_nexts F__law_reached F_law
    exact ⟨fd, hb, fun base _ _ => hF base⟩
