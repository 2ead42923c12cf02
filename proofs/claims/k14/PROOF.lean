import PyProof.Rows.All
import Wide.All
import OpenK.AllK
import Wide.FinOn
import HandS.ForMost
import HandS.Exc
import HandS.TryOnly
import HandS.ExcOwn
import HandS.WordsExc
import HandS.IsInst
import HandS.Conv
import HandS.Sort
import HandS.SortInts
import HandS.Zip
import HandS.Zip0
import HandS.Wide
import HandS.Deep
import HandS.Flow
import HandS.Style
import HandS.TupAny
import KE.GoesEnum
import KE.KEqSeq
import KE.KEqDeep
import PyProof.TupleOfSeq
import HandS.Lambda
import HandS.Nested
import HandS.EndTab
import KE.KDictDisplayH
import KE.KDictCopyH
import KE.KIndexOf
import HandS.Dict
import HandS.DictTup
import HandS.TupLen
import HandS.Defaults
import HandS.SortRule
import KE.GoesZip
import HandS.ExcIs
import HandS.RaiseMore
import HandS.FStr
import HandS.Property
import KE.KExcSuper
import HandS.ExcInit
import HandS.ExcField
import HandS.TupMul
import PyProof.FString2
import HandS.Strs
import HandS.SetFor
import HandS.SetBool
import HandS.SetIn
import HandS.More
import KE.KDictSum
import KE.KDflt
import HandS.TryMany
import KE.SortKeyHeap
import HandS.SortKw
import HandS.ExcValue
import KE.DataFind
import HandS.Iter
import HandS.TupSets
import KE.SortData
import PyProof.Rows.InDataRows
import PySem.Challenge.RW_restlesshelf_k14_whole_alike
set_option Elab.async false
set_option linter.all false
set_option maxRecDepth 100000
set_option maxHeartbeats 2000000
/-! Two rules more: a walk over enumerate of a tuple, sorted of a tuple of ints. -/
namespace RH
open PySem PySem.Spec PyProof.Rows L2
theorem made_enumB {v : Value} {o : Obj} {H : Heap → Prop} (B : Begins v o H) :
    Meets (Builtin.«enumerate.__new__» ⟨[.type "enumerate", v], []⟩) (fun _ R s => H s.heap ∧
      R (.ok (.ret (.ref (s.heap.push o).objs.size))) { s with heap := (s.heap.push o).push { cls := .type "enumerate", data := .fields #[.none, .bool false, .ref s.heap.objs.size, rawInt 0, .none, .none] } }) :=
  .of_wp fun prog w A R s h => by
    obtain ⟨hp, g, d, tz, oz⟩ := s; obtain ⟨h1, h⟩ := h
    have hsub := sub_enumerate
    have q1 : ∀ {A' : Around} {E : Value → Shared → Prop} {Q : Value → Shared → Prop}, Q (.ref hp.objs.size) ⟨hp.push o, g, d, tz, oz⟩ → wpAny (model prog w) A' (pyIter v) Q E ⟨hp, g, d, tz, oz⟩ :=
      fun q => B.iter prog w _ _ ⟨hp, g, d, tz, oz⟩ _ h1 q
    wp_walk using q1
    refine wpAny_stack_any fun st => wpAny_pure ?_
    split
    · rename_i c _ _ _ _ _
      cases (c == Value.type "enumerate")
      · wp_walk using q1
        exact ⟨_, rfl, h⟩
      · wp_walk using q1
        exact ⟨_, rfl, h⟩
    · wp_walk using q1
      exact ⟨_, rfl, h⟩
section
variable {prog : Program} {w : World} {A : Around} {E : Value → Shared → Prop} {s : Shared}
theorem enum_one {v : Value} {o : Obj} {H : Heap → Prop} {Q : Value → Shared → Prop} (B : Begins v o H) (h1 : H s.heap)
    (h : ∀ h', IsEnum h' (s.heap.objs.size + 1) s.heap.objs.size 0 .none → h'.get? s.heap.objs.size = some o → h'.objs.size = s.heap.objs.size + 2 →
      (∀ b o, s.heap.get? b = some o → h'.get? b = some o) → Q (.ref (s.heap.objs.size + 1)) { s with heap := h' }) :
    wpAny (model prog w) A (call (.type "enumerate") [v]) Q E s := by
  refine callType_new F.called_enumerate (by decide) (F.typeCall_enumerate_1 _) (F.newCall_enumerate_1 _) (fun obj => F.args_object_init_2 obj _) F.entry_enumerate_new
    (made_enumB B) ⟨h1, ?_⟩
  have hZ : (s.heap.push o).objs.size = s.heap.objs.size + 1 := Heap.size_push ..
  show _ ∧ _
  rw [hZ]
  have he : IsEnum ((s.heap.push o).push { cls := .type "enumerate", data := .fields #[.none, .bool false, .ref s.heap.objs.size, rawInt 0, .none, .none] }) (s.heap.objs.size + 1) s.heap.objs.size 0 .none := by
    have := Heap.get?_push_size (s.heap.push o) (o := { cls := .type "enumerate", data := .fields #[.none, .bool false, .ref s.heap.objs.size, rawInt 0, .none, .none] }) rfl
    rw [hZ] at this; exact this
  refine ⟨⟨_, he, rfl⟩, h _ he (Heap.get?_push_of_some _ (Heap.get?_push_size _ B.free)) (by rw [Heap.size_push, hZ]) fun b o x => Heap.get?_push_of_some _ (Heap.get?_push_of_some _ x)⟩
end
/-- the tuple at a, each item with vz number in a new pair -/
def IteT (K : PySem.W.Frag) (a : Addr) : It :=
  ⟨fun i H => ∃ (xs : List V) (x : V), SqT K H a xs ∧ xs[i]? = some x, fun i H v H' => ∃ T x, v = .ref T ∧ H T = none ∧ H' = upd H T (.tup [.int (i : Nat), x]) ∧ ∀ xs, SqT K H a xs → xs[i]? = some x, fun i H => ∃ xs : List V, SqT K H a xs ∧ xs.length ≤ i⟩
theorem ne_enum {h : Heap} {e it a : Addr} {i : Int} {old : Value} {vz : Array Value} (he : IsEnum h e it i old) (p : IsTup h a vz) : e ≠ a := fun z => by
  obtain ⟨o, hO, hC, _⟩ := p
  rw [← z, he] at hO
  cases hO
  exact absurd (Value.type.inj hC) (by decide)
theorem turn_enumT {P : Program} {w : World} {K : PySem.W.Frag} {elts : List Expr} {kk : Nat} {tpos : Pos} (a e it : Addr) :
    Turn P w K (.Tuple elts kk tpos) (IteT K a) [e, it] e (fun i h => (∃ old, IsEnum h e it ((i : Nat) : Int) old) ∧ h.IsTupleIter it a i ∧ e ≠ it ∧ a ≠ it) where
  mem := by simp
  obj := fun i h st b hb => by
    obtain ⟨⟨old, he⟩, ⟨o, hO, hC, hD⟩, _⟩ := st
    have e' : b = e ∨ b = it := by simpa using hb
    rcases e' with z | z
    · rw [z]; exact ⟨_, he, fun v q => nomatch q⟩
    · rw [z]; exact ⟨o, hO, fun v q => by rw [hD] at q; cases q⟩
  keep := fun i h h' st k => let ⟨⟨old, he⟩, hi, nEI⟩ := st; ⟨⟨old, k e (by simp) _ he⟩, hi.at fun o q => k it (by simp) o q, nEI⟩
  item := by
    intro X hP hw hK hC i pins s σ H E I hf st hg
    subst hP hw hK
    obtain ⟨⟨old, he⟩, hIt, nEI, nAI⟩ := st
    obtain ⟨xs, x, hSq, hx⟩ := hg
    obtain ⟨vz, rz, p, hZ⟩ := I.tuple hSq
    obtain ⟨u, hu, ru⟩ := rz.get hx
    have ltE : e < s.heap.objs.size := Heap.lt_size he
    have ltI : it < s.heap.objs.size := by obtain ⟨_, q, _⟩ := hIt; exact Heap.lt_size q
    have hlt : i < vz.toArray.size := by
      have := (List.getElem?_eq_some_iff.mp hu).1
      simpa using this
    refine wpAny_pyNext_enum_itemD (Draws.tuple (show X.A.in1.handled = none from I.ok.hd hC) it a nAI vz.toArray) he ⟨hIt, p⟩ hlt nEI (by
      intro hm
      have e' : e = it ∨ e = a := by simpa using hm
      rcases e' with z | z
      · exact nEI z
      · exact ne_enum he p z) fun x' h' tz hP' hO hit' hT hSz kp => ?_
    have ex : x' = u := by
      have h2 : vz.toArray[i]? = some u := by simpa using hu
      rw [h2] at hP'
      exact (Option.some.inj hP').symm
    subst ex
    refine ⟨_, rfl, wpAny_letOwnedTupleGo_enum (s := { s with heap := h', toks := tz + 1 }) hO fun h'' he' sbu => ?_⟩
    have hT2 : h''.get? s.heap.objs.size = some { cls := .type "tuple", data := .seq #[.int i tz, x'] } := (sbu.2 _ (Nat.ne_of_gt ltE)).trans hT
    have new : ObjOk X.prog X.w (upd H s.heap.objs.size (.tup [.int (i : Nat), x])) h'' s.heap.objs.size (.tup [.int (i : Nat), x]) :=
      ⟨by show 2 ≤ sizeLine; decide, [.int i tz, x'], .cons ⟨_, rfl⟩ (.cons ru .nil), ⟨_, hT2, rfl, _, rfl⟩⟩
    have I1 : Inv X pins σ (upd H s.heap.objs.size (.tup [.int (i : Nat), x])) { s with heap := h'', toks := tz + 1 } :=
      I.turnedNew (ch := [e, it]) (fun b ob hb q => (sbu.2 b (fun z => hb (by simp [z]))).trans (kp b ob (fun z => hb (by simp [z])) (fun z => hb (by simp [z])) q)) hf (Nat.le_refl _) new
    refine ⟨.ref s.heap.objs.size, _, I1, rfl, ⟨_, x, rfl, I.hok.fresh (Nat.le_refl _), rfl, fun ys hy => by rw [I.tuple_inj hy hSq]; exact hx⟩, ⟨⟨x', ?_⟩, hit'.1.at fun o q => (sbu.2 it (Ne.symm nEI)).trans q, nEI, nAI⟩, fun b hb => ?_⟩
    · have e1 : ((i + 1 : Nat) : Int) = (i : Int) + 1 := by omega
      rw [e1]; exact he'
    · have hb' : b < s.heap.objs.size := by
        have e' : b = e ∨ b = it := by simpa using hb
        rcases e' with z | z
        · rw [z]; exact ltE
        · rw [z]; exact ltI
      rw [upd_ne (Nat.ne_of_lt hb')]
      exact (hf b hb).1
  done := by
    intro X hP hw hK hC i pins s σ H E I hf st hg
    subst hP hw hK
    obtain ⟨⟨old, he⟩, hIt, nEI, nAI⟩ := st
    obtain ⟨xs, hSq, hx⟩ := hg
    obtain ⟨vz, rz, p, hZ⟩ := I.tuple hSq
    obtain ⟨f0, f1, f2, f3, f4, f5⟩ := hf it (by simp)
    have hl := rz.length
    have hT : s.TypeIs (.ref e) "enumerate" := ⟨_, he, rfl⟩
    unfold pyNext
    refine wpAny_bind (wpAny_attempt (wpAny_callSpecial?_slot (name := Str.ofString "__next__") hT F.slot_enumerate_next
      (wpAny_call_entry F.slot_enumerate_next hT F.entry_enumerate_next ?_ (F.args_enumerate_next_1 _))))
    show wpAny _ _ (field (.ref e) 2 >>= _) _ _ _
    refine wpAny_bind (wpAny_field he rfl (x := .ref it) rfl ?_)
    refine wpAny_bind (wpAny_nextOf_tuple_end (show X.A.in1.handled = none from I.ok.hd hC) hIt p (by simp; omega) fun h' x he' hx' => ?_)
    obtain ⟨o, hO, hc'⟩ := hx'
    refine wpAny_bind (wpAny_isInstance (T := "StopIteration") (b := true) ⟨o, hO, hc'⟩ isSubtype_stop ?_)
    exact wpAny_pure ⟨rfl, I.turned (t' := s.toks) (fun b o hb q => he' b o hb q) f0 f1 f3 f4 f5⟩
  self := fun A i s Q E st h => let ⟨⟨_, he⟩, _⟩ := st; wpAny_pyIter_enum he h
def iEnumT (K : PySem.W.Frag) (ta : TA) : TI := fun σ H R => ta σ H fun vs H1 => ∃ a xs, vs = [.ref a] ∧ SqT K H1 a xs ∧ R (IteT K a) H1
theorem pi_enumT {X : Cx} {e : Expr} {ta : TA} {p pos tpos : Pos} {elts : List Expr} {kk : Nat} (hg : Gl X "enumerate") (hm : X.mg "enumerate" = none) (ha : PA X [e] ta) (hs : starEach [e] X.env = [(false, eval e X.env)] := by rfl) :
    PI X (.Tuple elts kk tpos) (.Call (.Name "enumerate" p) [e] [] pos) (iEnumT X.K ta) := by
  refine ⟨fun pins s σ H R I h => ?_⟩
  refine Call_ (ld_blt I hg hm boot_enumerate (PyProof.Rows.callWith_type1 (thn (ha.run pos pins s σ H _ I h) fun us s1 ⟨vs, H1, I1, r1, q1⟩ => ?_) hs rfl))
  obtain ⟨a, xs, ex, hSq, q⟩ := q1
  subst ex
  cases r1 with
  | cons r rr =>
    cases rr
    cases r
    obtain ⟨vz, rz, p', hZ⟩ := I1.tuple hSq
    have hal : a < s1.heap.objs.size := by obtain ⟨_, q', _⟩ := id p'; exact Heap.lt_size q'
    refine enum_one (begins_tuple a vz.toArray) p' fun h' he hIt hSz kp => wpAny_pyIter_enum he ?_
    have I2 : Inv X pins σ H1 { s1 with heap := h' } := I1.kept (t' := s1.toks) kp
    refine ⟨s1.heap.objs.size + 1, [s1.heap.objs.size + 1, s1.heap.objs.size], _, _, H1, rfl, I2, turn_enumT a (s1.heap.objs.size + 1) s1.heap.objs.size, ⟨⟨.none, he⟩, ⟨_, hIt, rfl, rfl⟩, Nat.succ_ne_self _, Nat.ne_of_lt hal⟩, fun b hb => ?_, q⟩
    have e' : b = s1.heap.objs.size + 1 ∨ b = s1.heap.objs.size := by simpa using hb
    have hle : s1.heap.objs.size ≤ b := by
      rcases e' with z | z
      · rw [z]; exact Nat.le_add_right _ _
      · rw [z]; exact Nat.le_refl _
    exact I1.fpOk hle (I1.hok.fresh hle)
/-! ### sorted(a tuple of ints) -/
def rSortedTup (K : PySem.W.Frag) : List V → Hp → VK → Prop := fun vs H Q => ∃ (a : Addr) (ns : List Int), vs = [V.ref a] ∧ SqT K H a (ns.map V.int) ∧ ns.length < 64 ∧
  ∀ (ns' : List Int) (p : Addr), ns'.Perm ns → ns'.Pairwise (· ≤ ·) → H p = none → Q (.ref p) (upd H p (.lst (ns'.map V.int)))
section
variable {prog : Program} {w : World} {A : Around} {E : Value → Shared → Prop} {s : Shared}
theorem collect_tup {l : Addr} {vs : List Value} {Q : List Value → Shared → Prop} (hl : IsTup s.heap l vs.toArray)
    (h : Q vs { s with heap := (s.heap.push (seqObj "list" #[] 0)).update s.heap.objs.size (Obj.mapSeq (· ++ vs.toArray)) }) (hSz : vs.length ≤ sizeLine := by size_fits) :
    wpAny (model prog w) A (collect (.ref l)) Q E s := by
  obtain ⟨o, hO, hC, n, hD⟩ := id hl
  unfold collect
  refine wpAny_bind (wpAny_runValue (codeAny_builtin F.entry_proto_collect ?_))
  rw [Around.under_plainId F.plain_proto_collect _]
  show wpAny _ A.in1 (newList [] >>= fun l' => again (.builtin "list.__iadd__" ⟨[l', .ref l], []⟩)) _ _ s
  refine wpAny_bind (wpAny_newList (wpAny_pure ⟨plainId_quiet F.plain_list_iadd _, codeAny_builtin F.entry_list_iadd ?_⟩))
  rw [Around.under_plainId F.plain_list_iadd _]
  show wpAny _ _ (Builtin.List.listExtendWith (.ref s.heap.objs.size) (.ref l) (.ref s.heap.objs.size)) _ _ { s with heap := s.heap.push (seqObj "list" #[] 0) }
  unfold Builtin.List.listExtendWith
  have ho' : (s.heap.push (seqObj "list" #[] 0)).get? l = some o := Heap.get?_push_of_some _ hO
  refine wpAny_bind (wpAny_typeOf (T := "tuple") ⟨o, ho', hC⟩ ?_)
  have hT0 : (Value.type "tuple" == Value.type "tuple") = true := by rfl
  rw [if_pos (by rw [hT0]; simp)]
  refine wpAny_bind (listItems_at ho' hD ?_)
  refine wpAny_bind (listItems_at (xs := #[]) (n := 0) (Heap.get?_push_size _ rfl) rfl ?_)
  rw [if_neg (by simp)]
  refine wpAny_bind (listUpdate_at (xs := #[]) (n := 0) (Heap.get?_push_size _ rfl) rfl ?_ (Nat.zero_le _) (by show (#[] ++ vs.toArray).size ≤ sizeLine + 1; simp only [Array.size_append, List.size_toArray, List.length_nil]; omega))
  refine wpAny_pure ?_
  show wpAny (model prog w) A (do
      let o ← load s.heap.objs.size
      match o.data with
      | .seq xs _ => pure xs.toList
      | _ => unsupported "internal:collect") Q E { s with heap := (s.heap.push (seqObj "list" #[] 0)).update s.heap.objs.size (Obj.mapSeq (· ++ vs.toArray)) }
  refine wpAny_bind (wpAny_load (get?_update_seq (Heap.get?_push_size _ rfl) _) ?_)
  show wpAny _ _ (pure ((#[] : Array Value) ++ vs.toArray).toList) Q E _
  rw [show ((#[] : Array Value) ++ vs.toArray).toList = vs by simp]
  exact wpAny_pure h
theorem sorted_intsT {l : Addr} {vs : List Value} {ns : List Int} {Q : Value → Shared → Prop} (hl : IsTup s.heap l vs.toArray) (hI : IntsAre vs ns) (h64 : vs.length < 64)
    (h : ∀ (out : Array Value) (ns' : List Int), IntsAre out.toList ns' → ns'.Perm ns → ns'.Pairwise (· ≤ ·) → Q (.ref (s.heap.objs.size + 1)) { s with heap := sortedAll s.heap vs out }) :
    wpAny (model prog w) A (call (.builtin "sorted") [.ref l]) Q E s := by
  refine Calls.call_function_entry kind_sorted plain_sorted entry_sorted (args_sorted1 _) ?_
  unfold Builtin.«sorted»
  refine wpAny_bind (m := checkCount "sorted" 1 1 _) (wpAny_pure ?_)
  have hsz0 : vs.length ≤ sizeLine := by
    rw [sizeLine_eq]
    omega
  refine wpAny_bind (collect_tup (hSz := hsz0) hl ?_)
  refine wpAny_bind (wpAny_newList ?_)
  have hSz : ((s.heap.push (seqObj "list" #[] 0)).update s.heap.objs.size (Obj.mapSeq (· ++ vs.toArray))).objs.size = s.heap.objs.size + 1 := by
    rw [Heap.size_update, size_push']
  have hOL : (((s.heap.push (seqObj "list" #[] 0)).update s.heap.objs.size (Obj.mapSeq (· ++ vs.toArray))).push (seqObj "list" vs.toArray 0)).get? (s.heap.objs.size + 1) = some (seqObj "list" vs.toArray 0) := by
    rw [← hSz]; exact Heap.get?_push_size _ rfl
  show wpAny _ _ _ _ _ { s with heap := ((s.heap.push (seqObj "list" #[] 0)).update s.heap.objs.size (Obj.mapSeq (· ++ vs.toArray))).push (seqObj "list" vs.toArray 0) }
  rw [hSz]
  refine wpAny_bind (wpAny_holding (wpAny_call_entry slot_list_sort ⟨_, hOL, rfl⟩ entry_list_sort (list_sort_tree hOL hI h64 fun out ns' a1 a2 a3 => ⟨_, rfl, ?_⟩) (args_list_sort _)))
  exact wpAny_pure ⟨_, rfl, h out ns' a1 a2 a3⟩
end
theorem cr_sortedTup {X : Cx} : CallR X (.builtin "sorted") (rSortedTup X.K) := by
  intro pins s σ H vs us Q I r h
  obtain ⟨a, ns, rfl, hs, h64, q⟩ := h
  obtain ⟨vz, rz, hl, _⟩ := I.tuple hs
  rw [Vals.ref1 r]
  have hi := rz.ints
  refine sorted_intsT hl hi (by rw [hi.length]; exact h64) fun out ns' h1 h2 h3 => ?_
  obtain ⟨ep, he'⟩ := PyProof.Rows.sortedAll_at s.heap vz out
  have hLn : (ns'.map V.int).length ≤ sizeLine := by rw [List.length_map, h2.length_eq]; exact small64 h64
  exact ⟨.ref _, upd H (s.heap.objs.size + 1) (.lst (ns'.map V.int)), I.laid (t' := s.toks) (fun _ _ => PyProof.Rows.sortedAll_old) (Nat.le_succ _) ⟨hLn, out.toList, ep, vals_of_ints h1, he'⟩, rfl, q ns' _ h2 h3 (I.hok.fresh (Nat.le_succ _))⟩
end RH
set_option Elab.async false
set_option linter.all false
set_option maxRecDepth 100000
set_option maxHeartbeats 2000000
/-! Lambdas with parameters and captured names, as values: made, handed to a def of the text, called there. -/
namespace RH
open PySem PySem.Spec PyProof.Rows L2
open LamX (Tabs TabS TabB ExtN CodeO codeO_ne inv_table among_app)
open NdefX (NF CellsAt NScope startF ncx inv_startN codeO_at slotAt Caps cells_of upd_none)
/-- a lambda's words, what it captured, its code object -/
structure LF where
  qual : Str
  params : Arguments
  body : Expr
  scope : Scope
  cl : List (Str × Addr)
  c : Addr
abbrev LF.fd (F : LF) (pm ctv : Value) : FuncData := PySem.W.kla_fn "<lambda>" F.qual F.params F.body F.scope F.cl pm (.ref F.c) ctv
abbrev LF.nf (F : LF) : NF := ⟨"<lambda>", F.qual, F.params, [], F.scope, F.cl, F.c⟩
/-- the object at f is this lambda -/
def FnL (f : Addr) (F : LF) : HO := .ext fun h => ∃ (od : Option Addr) (sl : Array (Option Value)) (pm ctv : Value), h.get? f = some (⟨.type "function", od, .func (F.fd pm ctv), sl⟩ : Obj)
theorem fnL_ne {f : Addr} {F : LF} (ps : Array Value) : FnL f F ≠ .tbl ps := fun z => by
  unfold FnL at z
  cases z
theorem fnL_at {P : Program} {w : World} {H : Hp} {h : Heap} {f : Addr} {F : LF} (hok : HOk P w H h) (e : H f = some (FnL f F)) : ∃ (od : Option Addr) (sl : Array (Option Value)) (pm ctv : Value), h.get? f = some (⟨.type "function", od, .func (F.fd pm ctv), sl⟩ : Obj) := (hok f _ e).1
section
variable {X : Cx} {pins : List (Addr × Obj)} {σ : L2.St} {H : Hp} {s : Shared}
theorem inv_lam {F : LF} {h' : Heap} {t' : Nat} {pm ctv : Value} (I : Inv X pins σ H { s with heap := h', toks := t' }) :
    Inv X pins σ (upd H h'.objs.size (FnL h'.objs.size F)) { s with heap := h'.push { cls := .type "function", data := .func (F.fd pm ctv) }, toks := t' } := by
  refine I.laid (t' := t') (a := h'.objs.size) (fun b u e => Heap.get?_push_of_some _ e) (Nat.le_refl _) ?_
  have e : (h'.push ({ cls := .type "function", data := .func (F.fd pm ctv) } : Obj)).get? h'.objs.size = some ({ cls := .type "function", data := .func (F.fd pm ctv) } : Obj) := Heap.get?_push_size _ rfl
  exact ⟨⟨_, _, pm, ctv, e⟩, ⟨_, e⟩, fun h1 h2 ⟨od, sl, p, t, z⟩ st => ⟨od, sl, p, t, st _ z⟩⟩
/-- the lambda is made -/
theorem lam_made {T : List (Addr × Str)} {c P : Addr} {params : Arguments} {body : Expr} {scope : Scope} {pos : Pos} {E : Value → Shared → Prop} {Q : Value → Shared → Prop} (I : Inv X pins σ H s) (TB : TabB X.base X.mg c P) (hcode : X.env.code = .ref c)
    (hm : (P, X.env.qual ++ "<lambda>") ∈ T) (hu : ∀ p ∈ T, p.1 = P → p.2 = X.env.qual ++ "<lambda>") (hT : Tabs T H) (hdef : defaultsOf params X.env = ([], [])) (hfree : ∀ y ∈ scope.names, y.2 = .free → ∃ c, X.env.cells.lookup y.1 = some c)
    (h : ∀ (f c' : Addr) (H1 : Hp) (s' : Shared), Inv X pins σ H1 s' → ExtN H H1 → (∀ b, H1 b = none → H b = none) → Tabs T H1 → H f = none →
      H1 f = some (FnL f ⟨X.env.qual ++ "<lambda>", params, body, scope, cloFrom X.env.cells scope.names [], c'⟩) → H1 c' = some (CodeO c' (X.env.qual ++ "<lambda>")) → Q (.ref f) s') :
    wpAny (model X.prog X.w) X.A (eval (.Lambda params body scope pos) X.env) Q E s := by
  obtain ⟨ps, hP, ht, ha⟩ := hT _ hm
  refine PySem.W.kla_eval hdef ?_
  have bP : s.heap.BuiltinsAt X.mg P := TB.bm.keeps I.bk
  have hP' : s.heap.get? P = some { cls := .none, data := .fields ps } := I.hok P _ hP
  cases hc : codeAmong pos ps.toList with
  | none =>
    refine PySem.W.kla_makeFunction (mg := X.mg) (c := c) (P := P) (ps := ps) (closure_ok hfree) I.ok.glob (I.mod.glob.keeps I.bk) hcode (TB.code.keeps I.bk) hP' ht hc TB.gP bP fun c' ctv h' tk hx hge hlt hrec htb => ?_
    obtain ⟨c2, oc, vs, t, e2, hoc, hd, hv⟩ := hrec
    cases e2
    have nC : H c' = none := I.hok.fresh hge
    have I1 := inv_table (t' := tk) (more := #[rawInt pos.line, rawInt pos.col, .ref c']) (h' := h') I hP (fun b o hb e => hx b o hb e) htb hge ⟨oc, vs, t, hoc, hd, hv⟩
    generalize hG : upd (upd H P (.tbl (ps ++ #[rawInt pos.line, rawInt pos.col, .ref c']))) c' (CodeO c' (X.env.qual ++ "<lambda>")) = G at I1
    have hE : ExtN H G := fun b o e n => by
      rw [← hG, upd_ne (ne_of_none e nC), upd_ne (fun z => n ps (Option.some.inj (e.symm.trans (by rw [z]; exact hP))))]
      exact e
    have gP : G P = some (.tbl (ps ++ #[rawInt pos.line, rawInt pos.col, .ref c'])) := by rw [← hG, upd_ne (ne_of_none hP nC), upd_same]
    have gC : G c' = some (CodeO c' (X.env.qual ++ "<lambda>")) := by rw [← hG, upd_same]
    have gO : ∀ b ps', b ≠ P → H b = some (.tbl ps') → G b = some (.tbl ps') := fun b ps' nb e => by
      rw [← hG, upd_ne (ne_of_none e nC), upd_ne nb]
      exact e
    have gN : ∀ b, G b = none → H b = none := fun b e => by
      rw [← hG] at e
      exact upd_none (upd_none e)
    have eL : (ps ++ #[rawInt pos.line, rawInt pos.col, .ref c']).toList = ps.toList ++ [rawInt pos.line, rawInt pos.col, .ref c'] := by simp
    have T1 : Tabs T G := fun p hp => by
      by_cases hb : p.1 = P
      · rw [hu p hp hb, hb]
        refine ⟨_, gP, by rw [eL]; exact PySem.TriplesOk_snoc _ _ _ _ ht, fun p' cv hcv => ?_⟩
        rw [eL] at hcv
        rcases among_app _ ht hcv with z | z
        · obtain ⟨c0, e1, e2⟩ := ha p' cv z
          exact ⟨c0, e1, hE _ _ e2 codeO_ne⟩
        · exact ⟨c', z, gC⟩
      · obtain ⟨ps', a1, a2, a3⟩ := hT p hp
        refine ⟨ps', gO _ _ hb a1, a2, fun p' cv hcv => ?_⟩
        obtain ⟨c0, e1, e2⟩ := a3 p' cv hcv
        exact ⟨c0, e1, hE _ _ e2 codeO_ne⟩
    have nF : G h'.objs.size = none := I1.hok.fresh (Nat.le_refl _)
    have I2 := inv_lam (F := ⟨X.env.qual ++ "<lambda>", params, body, scope, cloFrom X.env.cells scope.names [], c'⟩) (pm := (X.mg "__name__").getD .none) (ctv := ctv) I1
    refine h h'.objs.size c' _ _ I2 (fun b o e n => ?_) (fun b e => gN b (upd_none e)) (T1.ext fun b o e => ?_) (gN _ nF) upd_same ?_
    · have e1 := hE b o e n
      exact (upd_ne (ne_of_none e1 nF)).trans e1
    · exact (upd_ne (ne_of_none e nF)).trans e
    · exact (upd_ne (ne_of_none gC nF)).trans gC
  | some cv =>
    obtain ⟨c', e, hco⟩ := ha pos cv hc
    subst e
    refine PySem.W.kla_makeFunctionHit (mg := X.mg) (c := c) (P := P) (ps := ps) (closure_ok hfree) I.ok.glob (I.mod.glob.keeps I.bk) hcode (TB.code.keeps I.bk) hP' ht hc bP fun ctv h' tk hx hsz => ?_
    have I1 : Inv X pins σ H { s with heap := h', toks := tk } := I.kept hx
    have nF : H h'.objs.size = none := I1.hok.fresh (Nat.le_refl _)
    have I2 := inv_lam (F := ⟨X.env.qual ++ "<lambda>", params, body, scope, cloFrom X.env.cells scope.names [], c'⟩) (pm := (X.mg "__name__").getD .none) (ctv := ctv) I1
    refine h h'.objs.size c' _ _ I2 (fun b o e n => ?_) (fun b e => upd_none e) (hT.ext fun b o e => ?_) nF upd_same ?_
    · exact (upd_ne (ne_of_none e nF)).trans e
    · exact (upd_ne (ne_of_none e nF)).trans e
    · exact (upd_ne (ne_of_none hco nF)).trans hco
end
/-- lambda a, b: .. as a value -/
def tLamE (T : List (Addr × Str)) (mk : Addr → LF) : TE := fun _ H Q => Tabs T H ∧ ∀ (f c' : Addr) (H1 : Hp), ExtN H H1 → (∀ b, H1 b = none → H b = none) → Tabs T H1 → H f = none → H1 f = some (FnL f (mk c')) → H1 c' = some (CodeO c' (mk c').qual) → Q (.ref f) H1
theorem pe_lam {X : Cx} {T : List (Addr × Str)} {c P : Addr} {params : Arguments} {body : Expr} {scope : Scope} {pos : Pos} (TB : TabB X.base X.mg c P) (hcode : X.env.code = .ref c)
    (hm : (P, X.env.qual ++ "<lambda>") ∈ T) (hu : ∀ p ∈ T, p.1 = P → p.2 = X.env.qual ++ "<lambda>") (hdef : defaultsOf params X.env = ([], []))
    (hfree : ∀ y ∈ scope.names, y.2 = .free → X.env.scope.names.lookup y.1 = some .cell ∨ X.env.scope.names.lookup y.1 = some .free) :
    PE X (.Lambda params body scope pos) (tLamE T fun c' => ⟨X.env.qual ++ "<lambda>", params, body, scope, cloFrom X.env.cells scope.names [], c'⟩) := by
  refine ⟨fun pins s σ H Q I h => ?_⟩
  obtain ⟨hT, q⟩ := h
  refine lam_made I TB hcode hm hu hT hdef (fun y hy e => (hfree y hy e).elim (fun z => I.ok.has _ (.inl z)) fun z => I.ok.has _ (.inr z)) fun f c' H1 s' I' e n T' hf h1 h2 => ?_
  exact ⟨.ref f, H1, I', rfl, q f c' H1 e n T' hf h1 h2⟩
/-! ### what a lambda promises -/
structure LOk (P : Program) (w : World) (K : PySem.W.Frag) (mg : Str → Option Value) (base : Heap) (CX : CXT) (k : Nat) (f : Addr) (F : LF) (ps fr : List Str) (sp : List (Option V) → Sp) : Prop where
  len : ∀ ws vs H Q E, sp ws vs H Q E → vs.length = ps.length
  run : ∀ (A : Around) (outer : List Env) (s : Shared) (H : Hp) (us : List Value) (vs : List V) (ws : List (Option V)) (Q : VK) (E : XK), Room k A → Env0 P w K mg base A outer s H → H f = some (FnL f F) → H F.c = some (CodeO F.c F.qual) →
    CellsAt F.cl fr ws s.heap H → Vals vs us → sp ws vs H Q E → codeAny (model P w) A (.call (.ref f) ⟨us, []⟩) (CR CX outer P w H s Q E) s
section
variable {CX : CXT} {P : Program} {w : World} {K : PySem.W.Frag} {mg : Str → Option Value} {base : Heap} {N ps fr : List Str} {F : LF} {f : Addr} {k j : Nat} {sp : List (Option V) → Sp}
/-- a lambda by its body -/
theorem lok_of (S : NScope N ps fr F.scope) (hb : ∀ (pm ctv : Value) (us : List Value), us.length = ps.length → bindArgs (F.fd pm ctv) ⟨us, []⟩ = pure (ps.zip us)) (len : ∀ ws vs H Q E, sp ws vs H Q E → vs.length = ps.length)
    (hbody : ∀ (A : Around) (outer : List Env) (s : Shared) (H : Hp) (vs : List V) (ws : List (Option V)) (Q : VK) (E : XK), Room k (A.deeper (NdefX.envF F.nf f s.heap.objs.size)) → ws.length = fr.length → sp ws vs H Q E →
      ∃ t, PE (ncx CX P w K mg base N F.nf f A outer s H E) F.body t ∧ t (startF N vs ws) H Q) :
    LOk P w K mg base CX (k + 1) f F ps fr sp := by
  refine ⟨len, fun A outer s H us vs ws Q E hr e0 hf hc C r hsp => ?_⟩
  have hl := len _ _ _ _ _ hsp
  have lim : s.heap.NoLimit := e0.mod.nolimit.keeps fun b o e => (e0.bs b o e).1
  obtain ⟨od, sl, pm, ctv, ho⟩ := fnL_at e0.hok hf
  refine PySem.W.kla_callFunE hr.depth ho rfl S.co S.gen rfl (codeO_at e0.hok hc) ?_
  rw [hb pm ctv us (by rw [← r.length]; exact hl)]
  refine wpAny_pure (wpAny_newFunctionEnv S.nocell (fun ⟨n, _⟩ hy => S.par n (List.of_mem_zip hy).1) (fun h₁ hns hsb => ⟨lim.fresh _ hsb, ?_⟩) S.kind)
  show codeAny _ _ (.expr F.body (NdefX.envF F.nf f s.heap.objs.size)) _ _
  have kp : ∀ b o, s.heap.get? b = some o → h₁.get? b = some o := fun b o e => hsb.extBut b o (Nat.ne_of_lt (Heap.lt_size e)) (Heap.get?_push_of_some _ e)
  obtain ⟨t, ht, hq⟩ := hbody A outer s H vs ws Q E (hr.deeper _) C.len hsp
  have I : Inv (ncx CX P w K mg base N F.nf f A outer s H E) [] (startF N vs ws) H { s with heap := h₁, toks := s.toks + (ps.zip us).length } := inv_startN (F := F.nf) S hr.hd e0 hl r C hns kp
  refine PySem.W.kla_codeExpr (wpAny_mono (ht.run [] _ (startF N vs ws) H Q I hq) (fun v s' hs => ?_) fun e s' hs => hs)
  obtain ⟨v', H', J, rv, q⟩ := hs
  exact ⟨v', H', J.os, J.bare, J.base, J.hok, rv, q⟩
end
/-! ### a def that is handed things that can be called -/
/-- f may be called, from any frame that began at s, H below outer, while live holds -/
structure Callable (P : Program) (w : World) (K : PySem.W.Frag) (mg : Str → Option Value) (base : Heap) (CX : CXT) (k : Nat) (f : Addr) (live : Hp → Prop) (sp : Sp) (outer : List Env) (s : Shared) (H : Hp) : Prop where
  at_ : ∀ (X : Cx), X.prog = P → X.w = w → X.K = K → X.base = base → X.s_0 = s → X.H_0 = H → ∀ pins σ H' s', Inv X pins σ H' s' → live H' → PySem.W.FnAt f s'.heap
  run : ∀ (X : Cx), X.prog = P → X.w = w → X.K = K → X.mg = mg → X.base = base → X.s_0 = s → X.H_0 = H → X.outer = outer → X.ex = [] → Room k X.A → ∀ pins σ H' s' us vs Q E, Inv X pins σ H' s' → live H' → Vals vs us → Passes CX X E → sp vs H' Q E →
    wpAny (model P w) X.A (call (.ref f) us) (EP X pins σ Q) X.xe s'
section
variable {CX : CXT} {P : Program} {w : World} {K : PySem.W.Frag} {mg : Str → Option Value} {base : Heap} {ps fr : List Str} {k : Nat} {f : Addr} {ws : List (Option V)} {outer : List Env} {s : Shared} {H : Hp}
/-- a lambda is alive while its object and its code stand -/
def liveL (f : Addr) (F : LF) : Hp → Prop := fun H => H f = some (FnL f F) ∧ H F.c = some (CodeO F.c F.qual)
theorem callable_lam {F : LF} {sp : List (Option V) → Sp} (Fn : LOk P w K mg base CX k f F ps fr sp) (C : CellsAt F.cl fr ws s.heap H) (nf : ∀ y c, F.cl.lookup y = some c → c ∉ frs outer) :
    Callable P w K mg base CX k f (liveL f F) (sp ws) outer s H := by
  refine ⟨fun X _ _ _ _ _ _ pins σ H' s' I l => ?_, fun X e1 e2 e3 e4 e5 e6 e7 e8 e9 hr pins σ H' s' us vs Q E I l r hx q => ?_⟩
  · obtain ⟨od, sl, pm, ctv, ho⟩ := fnL_at I.hok l.1
    exact ⟨_, od, _, sl, ho⟩
  · subst e1 e2 e3 e4 e5 e6 e7 e8
    have C2 := NdefX.CellsAt.later (X := X) C nf (fun y c _ z => by rw [e9] at z; exact absurd z (by simp)) I
    refine wpAny_call (codeAny_mono (Fn.run X.A X.stack s' H' us vs ws Q E hr I.env0 l.1 l.2 C2 r q) fun r s' hq => ?_)
    cases r with
    | error e => exact hx pins σ H' _ e s' I hq
    | ok fl =>
      cases fl with
      | ret u => exact I.after hq
      | next => exact False.elim hq
      | brk => exact False.elim hq
      | cont => exact False.elim hq
end
def tCan (f : Addr) (live : Hp → Prop) (i : Nat) (sp : Sp) (E : XK) (t : TA) : TE := fun σ H Q => σ[i]? = some (some (.ref f)) ∧ live H ∧ t σ H fun vs H1 => live H1 ∧ sp vs H1 Q E
section
variable {X : Cx} {CX : CXT} {f : Addr} {live : Hp → Prop} {i j k : Nat} {x : Str} {sp : Sp} {E : XK} {t : TA} {e : Expr} {es : List Expr} {p pos : Pos}
theorem pe_can (Cb : Callable X.prog X.w X.K X.mg X.base CX k f live sp X.outer X.s_0 X.H_0) (nx : X.ex = []) (hr : Room j X.A) (hk : k ≤ j) (hx : Passes CX X E)
    (hN : X.N[i]? = some x) (hv : Vis X.env.scope x) (ha : PA X (e :: es) t) (hd : (x == ("__debug__" : Str)) = false := by decide) (hcd : (x == ("__classdict__" : Str)) = false := by decide)
    (he : starEach (e :: es) X.env = (false, eval e X.env) :: starEach es X.env := by rfl) (hpl : (backTo pos (starEach es X.env)).any (·.1) = false := by rfl) :
    PE X (.Call (.Name x p) (e :: es) [] pos) (tCan f live i sp E t) := by
  refine ⟨fun pins s σ H Q I h => ?_⟩
  obtain ⟨hs, hl, ht⟩ := h
  refine wpAny_Call_Name_kw (thn ((pe_var (pos := p) hN hv hd hcd).run pins s σ H (fun v H1 => v = .ref f ∧ H1 = H) I ⟨.ref f, hs, rfl, rfl⟩) fun u s1 ⟨v, H1, I1, r1, q1⟩ => ?_)
  obtain ⟨ev, eH⟩ := q1
  subst ev
  rw [eH] at I1
  obtain rfl : u = Value.ref f := r1
  refine PySem.W.callWith_F (first := []) (Cb.at_ X rfl rfl rfl rfl rfl rfl pins σ H s1 I1 hl) (thn (ha.run pos pins s1 σ H _ I1 ht) fun us s2 ⟨vs, H2, I2, r, h1, q⟩ => ⟨Cb.at_ X rfl rfl rfl rfl rfl rfl pins σ H2 s2 I2 h1, ?_⟩) he hpl
  exact Cb.run X rfl rfl rfl rfl rfl rfl rfl rfl nx (hr.mono hk) pins σ H2 s2 us vs Q E I2 h1 r hx q
end
/-- a def's promise that leans on what it is handed -/
structure FnC (P : Program) (w : World) (K : PySem.W.Frag) (mg : Str → Option Value) (base : Heap) (CX : CXT) (k : Nat) (f : Addr) (fd : FuncData) (ps : List Str) (Pre : List Env → Shared → Hp → Prop) (sp : Sp) : Prop where
  len : ∀ vs H Q E, sp vs H Q E → vs.length = ps.length
  run : ∀ (A : Around) (outer : List Env) (s : Shared) (H : Hp) (args : Args) (us : List Value) (vs : List V) (Q : VK) (E : XK), Room k A → Env0 P w K mg base A outer s H → BindsTo s fd args (ps.zip us) → Vals vs us → Pre outer s H → sp vs H Q E →
    codeAny (model P w) A (.call (.ref f) args) (CR CX outer P w H s Q E) s
section
variable {P : Program} {w : World} {K : PySem.W.Frag} {mg : Str → Option Value} {base : Heap}
theorem fnC_of {x qual : Str} {st : Stmt} {f : Addr} {fd : FuncData} {N ps : List Str} {k : Nat} {sp : Sp} {Pre : List Env → Shared → Hp → Prop} (F : Fun K x qual st f fd) (S : FnScope N ps (defScope st)) (len : ∀ vs H Q E, sp vs H Q E → vs.length = ps.length)
    (hbody : ∀ (cdv : Value) (A : Around) (outer : List Env) (s : Shared) (H : Hp) (vs : List V) (Q : VK) (E : XK), Room k (A.deeper (envOfC qual (defScope st) s.heap.objs.size f cdv)) → Pre outer s H → sp vs H Q E →
      ∃ t, PSs (cxOf CX0 P w K mg base N qual (defScope st) f cdv A outer s H E).nox (defBody st) t ∧ t { nx := fun _ H' => Q .non H', rt := Q } (start N vs) H) : FnC P w K mg base CX0 (k + 1) f fd ps Pre sp := by
  obtain ⟨oc, od, kV, doc, pm, an, cdv, ct, osl, rfl, lk, hcd⟩ := F.ex
  refine ⟨len, fun A outer s H args us vs Q E hr e0 hb r hP hsp => ?_⟩
  have hl := len _ _ _ _ hsp
  have KX : K.In s.heap := e0.mod.kin.keeps fun b o e => (e0.bs b o e).1
  have lim : s.heap.NoLimit := e0.mod.nolimit.keeps fun b o e => (e0.bs b o e).1
  have hkind : ∀ y ∈ ps.zip us, (defScope st).names.lookup y.1 = some .local ∨ ((defScope st).names.lookup y.1 = some .cell ∧ ((cellsFrom (s.heap.objs.size + 1) (defScope st).names []).lookup y.1).isSome = true) := fun y hy =>
    (S.par y.1 (List.of_mem_zip (a := y.1) (b := y.2) hy).1).elim .inl fun q => .inr ⟨q, PySem.W.cellsFrom_some _ _ _ (.inl q)⟩
  refine codeAny_call_function hr.depth (KX _ _ lk) rfl S.co S.gen rfl (PySem.W.codeRec_of KX hcd) (hb _ _ _ _ ?_)
  refine wpAny_newFunctionEnv_cells S.kind hkind fun env he s1 y => ?_
  subst he
  refine ⟨lim.keeps y.toInCall.keep, codeAny_func ?_⟩
  obtain ⟨t, ht, hq⟩ := hbody cdv A outer s H vs Q E (hr.deeper _) hP hsp
  have I : Inv (cxOf CX0 P w K mg base N qual (defScope st) f cdv A outer s H E) [] (L2.start N vs) H s1 := inv_start S hr.hd e0 hl r y
  refine wpAny_mono (ht.nox.run [] s1 (L2.start N vs) H _ I hq) (fun fl s' hs => ?_) fun e s' hs => hs
  cases fl with
  | ret u =>
    obtain ⟨v, σ', H', J, rv, q⟩ := hs
    exact ⟨v, H', J.os, J.bare, J.base, J.hok, rv, q⟩
  | next =>
    obtain ⟨σ', H', J, q⟩ := hs
    exact ⟨V.non, H', J.os, J.bare, J.base, J.hok, rfl, q⟩
  | brk => exact hs.choose_spec.choose_spec.2.elim
  | cont => exact hs.choose_spec.choose_spec.2.elim
end
/-- such a def called: g says with what -/
def tCallC {G : Type} (preS : G → L2.St → Hp → Prop) (sp : G → Sp) (E : XK) (t : TA) : TE := fun σ H Q => t σ H fun vs H1 => ∃ g, preS g σ H1 ∧ sp g vs H1 Q E
theorem pe_callC {G : Type} {X : Cx} {CX : CXT} {k j : Nat} {f : Addr} {fd : FuncData} {ps : List Str} {Pre : G → List Env → Shared → Hp → Prop} {preS : G → L2.St → Hp → Prop} {sp : G → Sp} {E : XK} {x : Str} {p pos : Pos} {e : Expr} {es : List Expr} {t : TA}
    (F : ∀ g, FnC X.prog X.w X.K X.mg X.base CX k f fd ps (Pre g) (sp g)) (hP : ∀ g pins σ H s, Inv X pins σ H s → preS g σ H → Pre g X.stack s H) (hr : Room j X.A) (hk : k ≤ j) (hg : Gl X x) (hm : X.mg x = some (.ref f)) (kp : PySem.W.keepIn X.K (.ref f) = true) (hb : Binds X.K fd ps []) (hx : Passes CX X E)
    (ha : PA X (e :: es) t) (hdb : (x == ("__debug__" : Str)) = false := by decide) (he : starEach (e :: es) X.env = (false, eval e X.env) :: starEach es X.env := by rfl) (hpl : (backTo pos (starEach es X.env)).any (·.1) = false := by rfl) :
    PE X (.Call (.Name x p) (e :: es) [] pos) (tCallC preS sp E t) := by
  refine ⟨fun pins s σ H Q I h => ?_⟩
  refine wpAny_Call_Name_kw (ld_glob I hg hm ?_ hdb)
  refine PySem.W.callWith_K (h₀ := X.base) I.ok.mod.kin kp (thn (ha.run pos pins s σ H _ I h) fun us s1 ⟨vs, H1, I1, r, g, pg, q⟩ => ⟨I1.kIn, ?_⟩) he hpl
  have hl : us.length = ps.length := by rw [← r.length]; exact (F g).len _ _ _ _ q
  have hb' := hb s1 us I1.kIn (by rw [List.append_nil]; exact hl)
  rw [List.append_nil] at hb'
  refine wpAny_call (codeAny_mono ((F g).run X.A X.stack s1 H1 ⟨us, []⟩ us vs Q E (hr.mono hk) I1.env0 hb' r (hP g pins σ H1 s1 I1 pg) q) fun r s' hq => ?_)
  cases r with
  | error e => exact hx pins σ H1 s1 e s' I1 hq
  | ok fl =>
    cases fl with
    | ret u => exact I1.after hq
    | next => exact False.elim hq
    | brk => exact False.elim hq
    | cont => exact False.elim hq
end RH
set_option Elab.async false
set_option linter.all false
set_option maxRecDepth 100000
set_option maxHeartbeats 2000000
/-! Dicts with tuples for keys: one pair written out, their values; where an int stands in a tuple. -/
namespace RH
open PySem PySem.Spec PyProof.Rows L2
theorem one_shape {X : Cx} {k v : Expr} {pos : Pos} : (evalEachOpt [some k] X.env).zip ((evalEach [v] X.env).map fun z => do let x ← z; standAt pos; pure x) = [(eval k X.env, (do let x ← eval v X.env; standAt pos; pure x : Sem Value))].map fun p => (some p.1, p.2) := rfl
end RH
set_option Elab.async false
set_option linter.all false
set_option maxRecDepth 100000
set_option maxHeartbeats 2000000
/-! Tuples told by their very object, and dicts whose keys are such tuples of ints. -/
namespace RH
open PySem PySem.Spec PyProof.Rows L2
def keyOf (s : List Int) : List L2.Key := s.map Sum.inl
theorem keyOf_kV (s : List Int) : (keyOf s).map kV = s.map V.int := by
  unfold keyOf
  rw [List.map_map]
  rfl
theorem mapInt_inj : ∀ {s t : List Int}, s.map V.int = t.map V.int → s = t
  | [], [], _ => rfl
  | [], _ :: _, e => by simp at e
  | _ :: _, [], e => by simp at e
  | a :: s, b :: t, e => by
    rw [List.map_cons, List.map_cons] at e
    injection e with e1 e2
    rw [V.int.inj e1, mapInt_inj e2]
theorem keyOf_inj {s t : List Int} (h : keyOf s = keyOf t) : s = t := by
  have e : (keyOf s).map kV = (keyOf t).map kV := by rw [h]
  rw [keyOf_kV, keyOf_kV] at e
  exact mapInt_inj e
/-- b is a tuple of these ints -/
def KX (H : Hp) (b : Addr) (s : List Int) : Prop := Rd H b (.tup (s.map V.int))
/-- the same, and its very object is known, one without a dict -/
def FT (H : Hp) (b : Addr) (s : List Int) : Prop := ∃ ob, H b = some (.frz ob (.tup (s.map V.int))) ∧ ob.dict = none
theorem FT.kx {H : Hp} {b : Addr} {s : List Int} (h : FT H b s) : KX H b s := let ⟨ob, h, _⟩ := h; .inr ⟨ob, h⟩
inductive XS : List (List Int × V) → List Addr → List (List L2.Key × Addr × Value) → Prop
  | nil : XS [] [] []
  | cons {q : List Int × V} {b : Addr} {u : Value} {as : List (List Int × V)} {bs : List Addr} {xs : List (List L2.Key × Addr × Value)} : RelV q.2 u → XS as bs xs → XS (q :: as) (b :: bs) ((keyOf q.1, b, u) :: xs)
inductive KB (H : Hp) : List (List Int × V) → List Addr → Prop
  | nil : KB H [] []
  | cons {q : List Int × V} {b : Addr} {as : List (List Int × V)} {bs : List Addr} : KX H b q.1 → KB H as bs → KB H (q :: as) (b :: bs)
theorem KB.snoc {H : Hp} {q : List Int × V} {b : Addr} (h : KX H b q.1) : ∀ {as : List (List Int × V)} {bs : List Addr}, KB H as bs → KB H (as ++ [q]) (bs ++ [b])
  | _, _, .nil => .cons h .nil
  | _, _, .cons g t => .cons g (t.snoc h)
theorem KB.imp {H H' : Hp} (f : ∀ b s, KX H b s → KX H' b s) : ∀ {as : List (List Int × V)} {bs : List Addr}, KB H as bs → KB H' as bs
  | _, _, .nil => .nil
  | _, _, .cons g t => .cons (f _ _ g) (t.imp f)
theorem XS.len : ∀ {as : List (List Int × V)} {bs : List Addr} {xs : List (List L2.Key × Addr × Value)}, XS as bs xs → xs.length = as.length
  | _, _, _, .nil => rfl
  | _, _, _, .cons _ t => congrArg (· + 1) t.len
theorem XS.snoc {q : List Int × V} {b : Addr} {u : Value} (h : RelV q.2 u) : ∀ {as : List (List Int × V)} {bs : List Addr} {xs : List (List L2.Key × Addr × Value)}, XS as bs xs → XS (as ++ [q]) (bs ++ [b]) (xs ++ [(keyOf q.1, b, u)])
  | _, _, _, .nil => .cons h .nil
  | _, _, _, .cons g t => .cons g (t.snoc h)
theorem atKey_pos {x : List L2.Key × Addr × Value} {xs : List (List L2.Key × Addr × Value)} {k : List L2.Key} (e : x.1 = k) : atKey (x :: xs) k = some x.2 := by simp [atKey, List.find?_cons, e]
theorem atKey_neg {x : List L2.Key × Addr × Value} {xs : List (List L2.Key × Addr × Value)} {k : List L2.Key} (e : ¬ x.1 = k) : atKey (x :: xs) k = atKey xs k := by simp [atKey, List.find?_cons, e]
theorem XS.no {s : List Int} : ∀ {as : List (List Int × V)} {bs : List Addr} {xs : List (List L2.Key × Addr × Value)}, XS as bs xs → s ∉ as.map Prod.fst → atKey xs (keyOf s) = none
  | _, _, _, .nil, _ => rfl
  | _, _, _, .cons g t, h => (atKey_neg fun e => h (by rw [← keyOf_inj e]; exact List.mem_cons_self ..)).trans (t.no fun z => h (List.mem_cons_of_mem _ z))
theorem XS.yes {s : List Int} : ∀ {as : List (List Int × V)} {bs : List Addr} {xs : List (List L2.Key × Addr × Value)}, XS as bs xs → s ∈ as.map Prod.fst → ∃ v p, atKey xs (keyOf s) = some p ∧ (s, v) ∈ as ∧ RelV v p.2
  | _, _, _, .nil, h => by simp at h
  | q :: as, _, _, .cons (u := u) g t, h => by
    by_cases e : q.1 = s
    · subst e
      exact ⟨q.2, _, atKey_pos rfl, List.mem_cons_self .., g⟩
    · rcases List.mem_cons.mp h with z | z
      · exact absurd z.symm e
      · obtain ⟨v, p, h1, h2, h3⟩ := t.yes z
        exact ⟨v, p, (atKey_neg fun z => e (keyOf_inj z)).trans h1, List.mem_cons_of_mem _ h2, h3⟩
theorem key_ofR {P : Program} {w : World} {H : Hp} {h : Heap} {a : Addr} {s : List Int} (ok : HOk P w H h) (e : KX H a s) : (tupleKind (mixKind P w)).is h (keyOf s) a := by
  obtain ⟨_, its, r, o, h1, h2, n, h3⟩ := (show ObjOk P w H h a (.tup (s.map V.int)) from e.ok ok)
  rw [← keyOf_kV] at r
  exact ⟨o, its.toArray, n, h1, h2, h3, by simpa using items_are r⟩
theorem XS.keys {P : Program} {w : World} {H : Hp} {h : Heap} (ok : HOk P w H h) : ∀ {as : List (List Int × V)} {bs : List Addr} {xs : List (List L2.Key × Addr × Value)}, XS as bs xs → KB H as bs → ∀ x ∈ xs, (tupleKind (mixKind P w)).is h x.1 x.2.1
  | _, _, _, .nil, _, x, hx => nomatch hx
  | _, _, _, .cons g t, .cons k r, x, hx => by
    rcases List.mem_cons.mp hx with e | hx
    · subst e
      exact key_ofR ok k
    · exact t.keys ok r x hx
/-- the dict at d: as with its values, bs its keys' tuples -/
abbrev DE (P : Program) (w : World) (as : List (List Int × V)) (bs : List Addr) (d : Addr) : HO := .ext fun h => (d == sysModules) = false ∧ as.length ≤ sizeLine ∧ ∃ xs : List (List L2.Key × Addr × Value), XS as bs xs ∧
  ∃ o es ep, h.get? d = some o ∧ o.ExactDict ∧ o.data = .dict es ep ∧ es.toList = xs.map (entryOfKey (tupleKind (mixKind P w))) ∧ (xs.map (·.1)).Nodup
theorem DE.ok {P : Program} {w : World} {H : Hp} {h : Heap} {as : List (List Int × V)} {bs : List Addr} {d : Addr} {xs : List (List L2.Key × Addr × Value)} (hd : (d == sysModules) = false) (hl : as.length ≤ sizeLine) (hx : XS as bs xs) (dd : h.DictOfH (tupleKind (mixKind P w)) d xs) : ObjOk P w H h d (DE P w as bs d) := by
  obtain ⟨o, es, ep, h1, h2, h3, h4, _, h5⟩ := dd
  refine ⟨⟨hd, hl, xs, hx, o, es, ep, h1, h2, h3, h4, h5⟩, ⟨o, h1⟩, fun h1 h2 ⟨a1, a2, xs, a3, o, es, ep, b1, b2⟩ k => ⟨a1, a2, xs, a3, o, es, ep, k _ b1, b2⟩⟩
section
variable {X : Cx} {pins : List (Addr × Obj)} {σ : L2.St} {H : Hp} {s : Shared} {a : Addr} {as : List (List Int × V)} {bs : List Addr}
theorem de_of (I : Inv X pins σ H s) (e : H a = some (DE X.prog X.w as bs a)) (k : KB H as bs) : (a == sysModules) = false ∧ as.length ≤ sizeLine ∧ ∃ xs, XS as bs xs ∧ s.heap.DictOfH (tupleKind (mixKind X.prog X.w)) a xs := by
  obtain ⟨h1, h2, xs, h3, o, es, ep, b1, b2, b3, b4, b5⟩ := (show ObjOk X.prog X.w H s.heap a (DE X.prog X.w as bs a) from I.hok a _ e).1
  exact ⟨h1, h2, xs, h3, o, es, ep, b1, b2, b3, b4, h3.keys I.hok k, b5⟩
end
/-! ### the rules -/
def tDisp1E (P : Program) (w : World) (tk tv : TE) : TE := fun σ H Q => ∀ p, H p = none → tk σ (upd H p (DE P w [] [] p)) fun x H1 => tv σ H1 fun y H2 => H2 p = some (DE P w [] [] p) ∧ ∃ (b : Addr) (s : List Int), x = .ref b ∧ KX H2 b s ∧ Q (.ref p) (upd H2 p (DE P w [(s, y)] [b] p))
def tDGetE (P : Program) (w : World) (td ty : TE) : TE := fun σ H Q => td σ H fun x H1 => ty σ H1 fun y H2 => ∃ (a b : Addr) (as : List (List Int × V)) (bs : List Addr) (s : List Int), x = .ref a ∧ y = .ref b ∧ H2 a = some (DE P w as bs a) ∧ KB H2 as bs ∧ KX H2 b s ∧ s ∈ as.map Prod.fst ∧ ∀ v, (s, v) ∈ as → Q v H2
def tDNotInE (P : Program) (w : World) (ty td : TE) : TE := fun σ H Q => ty σ H fun y H1 => td σ H1 fun x H2 => ∃ (a b : Addr) (as : List (List Int × V)) (bs : List Addr) (s : List Int), x = .ref a ∧ y = .ref b ∧ H2 a = some (DE P w as bs a) ∧ KB H2 as bs ∧ KX H2 b s ∧ Q (.bl (!decide (s ∈ as.map Prod.fst))) H2
def sDPutE (P : Program) (w : World) (td ty tv : TE) : TS := fun D σ H => tv σ H fun v H1 => td σ H1 fun x H2 => ty σ H2 fun y H3 => ∃ (a b : Addr) (as : List (List Int × V)) (bs : List Addr) (s : List Int), x = .ref a ∧ y = .ref b ∧ H3 a = some (DE P w as bs a) ∧ KB H3 as bs ∧ KX H3 b s ∧
  s ∉ as.map Prod.fst ∧ as.length < sizeLine ∧ D.nx σ (upd H3 a (DE P w (as ++ [(s, v)]) (bs ++ [b]) a))
section
variable {X : Cx} {o i k v value : Expr} {pos pos' tpos : Pos} {td ty tk tv : TE}
theorem de_typeIs {pins : List (Addr × Obj)} {σ : L2.St} {H : Hp} {s : Shared} {a : Addr} {as : List (List Int × V)} {bs : List Addr} (I : Inv X pins σ H s) (e : H a = some (DE X.prog X.w as bs a)) : s.TypeIs (.ref a) "dict" ∧ ∃ ob, s.heap.get? a = some ob ∧ ob.dict = none := by
  obtain ⟨_, _, xs, _, o, es, ep, b1, b2, _⟩ := (show ObjOk X.prog X.w H s.heap a (DE X.prog X.w as bs a) from I.hok a _ e).1
  exact ⟨⟨o, b1, b2.1⟩, o, b1, b2.2.1⟩
theorem pe_disp1E (hu : X.A.units < cLine) (hk : PE X k tk) (hv : PE X v tv) : PE X (.Dict [some k] [v] pos) (tDisp1E X.prog X.w tk tv) := by
  refine ⟨fun pins s σ H Q I q => ?_⟩
  have hn := I.hok.fresh (Nat.le_refl s.heap.objs.size)
  have hsys : (s.heap.objs.size == sysModules) = false := beq_eq_false_iff_ne.mpr (Ne.symm (Nat.ne_of_lt I.big))
  have I1 := I.laid (a := s.heap.objs.size) (o := DE X.prog X.w [] [] s.heap.objs.size) (h' := s.heap.push { cls := .type "dict", data := .dict #[] }) (t' := s.toks) (fun _ _ q => Heap.get?_push_of_some _ q) (Nat.le_refl _)
    (DE.ok hsys (Nat.zero_le _) .nil (Heap.DictOfH.new s.heap))
  rw [arm_eval_Dict, one_shape, dictDisplay_pairs _ (by simp) (by simp)]
  have ru : (tupleKind (mixKind X.prog X.w)).room X.A := hu
  refine wpAny_bind (wpAny_standAt (wpAny_bind (PySem.wpAny_subDictH (knd := tupleKind (mixKind X.prog X.w)) (Q := fun d s' => wpAny (model X.prog X.w) X.A (pure (Value.ref d)) (EP X pins σ Q) X.xe s') ru (by simp) ?_)))
  show wpAny _ _ (evalPairs (pairTrees [some k] [v] X.env pos)) _ _ _
  refine pairTrees_cons_walk (thn (hk.run pins _ σ _ _ I1 (q _ hn)) fun u s1 ⟨x, H1, I3, rx, q1⟩ => thn (hv.run pins s1 σ H1 _ I3 q1) fun w2 s2 ⟨y, H2, I2, ry, e, b, st, ex, eb, q2⟩ => pairTrees_nil_walk ?_)
  subst ex
  obtain rfl : u = Value.ref b := rx
  obtain ⟨hd, z, xs, rl, dd⟩ := de_of I2 e .nil
  cases rl
  refine ⟨[(keyOf st, b, w2)], ⟨rfl, rfl, key_ofR I2.hok eb, trivial⟩, dd, fun h' tk dd' hs => wpAny_pure ?_⟩
  have hq : ∃ q, h'.get? s.heap.objs.size = some q := let ⟨o, _, _, hq, _⟩ := dd'; ⟨o, hq⟩
  have I4 : Inv X pins σ (upd H2 s.heap.objs.size (DE X.prog X.w [(st, y)] [b] s.heap.objs.size)) { s2 with heap := h', toks := tk } :=
    d_write I2 (by rw [e]; exact True.intro) hs hq (DE.ok hd (by show 1 ≤ sizeLine; decide) (.cons (q := (st, y)) ry .nil) dd')
  exact ⟨.ref s.heap.objs.size, _, I4, rfl, q2⟩
theorem pe_dgetE (hu : X.A.units + 1 < cLine) (ho : PE X o td) (hi : PE X i ty) (hs : NoSl i) : PE X (.Subscript o i pos) (tDGetE X.prog X.w td ty) := by
  refine ⟨fun pins s σ H Q I h => ?_⟩
  refine subD_of PySem.F.slot_dict_getitem.lookup hs (thn (ho.run pins s σ H _ I h) fun u s1 ⟨x, H1, I1, rx, q1⟩ => thn (hi.run pins s1 σ H1 _ I1 q1) fun iv s2 ⟨y, H2, I2, ry, a, b, as, bs, st, ex, ey, e, kb, eb, hm, q2⟩ => ?_)
  subst ex ey
  obtain rfl : u = Value.ref a := rx
  obtain rfl : iv = Value.ref b := ry
  obtain ⟨hd, z, xs, hx, dd⟩ := de_of I2 e kb
  obtain ⟨v, p, h1, h2, h3⟩ := hx.yes hm
  exact ⟨(de_typeIs I2 e).1, wpAny_getItem_heap (tupleKind_room_in1 hu) (key_ofR I2.hok eb) dd h1 ⟨v, H2, I2.tok _, h3, q2 v h2⟩⟩
theorem pc_dnotinE (hu : X.A.units + 1 < cLine) (hi : PE X i ty) (ho : PE X o td) : PC X .NotIn i o (tDNotInE X.prog X.w ty td) := by
  refine ⟨fun pins s σ H Q I h => ?_⟩
  refine thn (hi.run pins s σ H _ I h) fun iv s1 ⟨y, H1, I1, ry, q1⟩ => thn (ho.run pins s1 σ H1 _ I1 q1) fun u s2 ⟨x, H2, I2, rx, a, b, as, bs, st, ex, ey, e, kb, eb, q2⟩ => ?_
  subst ex ey
  obtain rfl : u = Value.ref a := rx
  obtain rfl : iv = Value.ref b := ry
  obtain ⟨hd, z, xs, hx, dd⟩ := de_of I2 e kb
  refine wpAny_notIn_heap (tupleKind_room_in1 hu) (key_ofR I2.hok eb) hd dd ⟨_, H2, I2.tok _, ?_, q2⟩
  by_cases hm : st ∈ as.map Prod.fst
  · obtain ⟨v, p, h1, _⟩ := hx.yes hm
    rw [h1, decide_eq_true hm]
    rfl
  · rw [hx.no hm, decide_eq_false hm]
    rfl
theorem ps_dputE (hu : X.A.units + 1 < cLine) (ho : PE X o td) (hi : PE X i ty) (hv : PE X value tv) (hs : swapsWith value (some (.Subscript o i pos')) pos.line X.env = pure false) : PS X (.Assign [.Subscript o i pos'] value pos) (sDPutE X.prog X.w td ty tv) := by
  refine ⟨fun pins s σ H D I h => ?_⟩
  refine wpAny_Assign_Subscript (thn (hv.run pins s σ H _ I h) fun r s1 ⟨v, H1, I1, rv, q1⟩ => thn (ho.run pins s1 σ H1 _ I1 q1) fun u s2 ⟨x, H2, I2, rx, q2⟩ => thn (hi.run pins s2 σ H2 _ I2 q2) fun iv s3 ⟨y, H3, I3, ry, a, b, as, bs, st, ex, ey, e, kb, eb, hn, hl, q3⟩ => ?_) hs
  subst ex ey
  obtain rfl : u = Value.ref a := rx
  obtain rfl : iv = Value.ref b := ry
  obtain ⟨hd, z, xs, hx, dd⟩ := de_of I3 e kb
  refine wpAny_setItem_heap (hsz := by rw [hx.len]; exact z) (tupleKind_room_in1 hu) (key_ofR I3.hok eb) dd fun h' dd' hs => ?_
  rw [storedH_new (hx.no hn)] at dd'
  have hq : ∃ q, h'.get? a = some q := let ⟨o, _, _, hq, _⟩ := dd'; ⟨o, hq⟩
  exact ⟨σ, _, d_write I3 (by rw [e]; exact True.intro) hs hq (DE.ok hd (by rw [List.length_append]; exact hl) (hx.snoc (q := (st, v)) rv) dd'), q3⟩
def rLenE (P : Program) (w : World) : List V → Hp → VK → Prop := fun xs H Q => ∃ (p : Addr) (as : List (List Int × V)) (bs : List Addr), xs = [.ref p] ∧ H p = some (DE P w as bs p) ∧ KB H as bs ∧ Q (.int ((as.length : Nat) : Int)) H
theorem call_lenE : CallR X (.builtin "len") (rLenE X.prog X.w) := by
  intro pins s σ H xs us Q I r h
  obtain ⟨p, as, bs, rfl, hp, kb, q⟩ := h
  obtain ⟨u, rfl, rx⟩ := vals1 r
  obtain rfl : u = .ref p := rx
  obtain ⟨hd, z, ys, hx, dd⟩ := de_of I hp kb
  refine call_len_dictH hd dd (by rw [hx.len]; rw [sizeLine_eq] at z; omega) ?_
  rw [hx.len]
  exact ⟨.int ((as.length : Nat) : Int), H, I.tok _, ⟨_, rfl⟩, q⟩
theorem XS.vals : ∀ {as : List (List Int × V)} {bs : List Addr} {xs : List (List L2.Key × Addr × Value)}, XS as bs xs → Vals (as.map Prod.snd) (xs.map fun x => x.2.2)
  | _, _, _, .nil => .nil
  | _, _, _, .cons h t => .cons h t.vals
/-- tuple(xs) of a list, told by its very object -/
def kTupF (K : PySem.W.Frag) (x : V) (H : Hp) (Q : VK) : Prop := ∃ p xs, x = .ref p ∧ SqL K H p xs ∧ ∀ q ob, H q = none → ob.dict = none → Q (.ref q) (upd H q (.frz ob (.tup xs)))
theorem pe_tupleF {a : Expr} {ta : TE} {p : Pos} (hg : Gl X "tuple") (hm : X.mg "tuple" = none) (ha : PE X a ta) (na : starEach [a] X.env = (false, eval a X.env) :: starEach [] X.env := by rfl) : PE X (.Call (.Name "tuple" p) [a] [] pos) (tThen ta (kTupF X.K)) := by
  refine ⟨fun pins s σ H Q I h => ?_⟩
  refine Call_ (ld_blt I hg hm boot_tuple (PyProof.Rows.callWith_type1 (one_arg ha I h (fun v s2 x H2 I2 r q => ?_) na) na))
  obtain ⟨p, xs, rfl, hs, q⟩ := q
  obtain rfl : v = .ref p := r
  obtain ⟨its, rv, pl, hz⟩ := I2.list hs
  refine call_tuple_list pl.isList (fun h' hk => ?_) (by rw [List.size_toArray, ← rv.length]; exact hz)
  have I3 : Inv X pins σ H2 { s2 with heap := h' } := I2.kept (t' := s2.toks) hk
  have e : (h'.push { cls := .type "tuple", data := .seq its.toArray }).get? h'.objs.size = some { cls := .type "tuple", data := .seq its.toArray } := Heap.get?_push_size _ rfl
  have I4 : Inv X pins σ (upd H2 h'.objs.size (.frz { cls := .type "tuple", data := .seq its.toArray } (.tup xs))) { s2 with heap := h'.push { cls := .type "tuple", data := .seq its.toArray } } :=
    I3.laid (t' := s2.toks) (fun b o e => Heap.get?_push_of_some _ e) (Nat.le_refl _) ⟨e, hz, its, rv, IsTup.new _ _⟩
  exact ⟨.ref h'.objs.size, _, I4, rfl, q _ _ (I3.hok.fresh (Nat.le_refl _)) rfl⟩
end
end RH
set_option Elab.async false
set_option linter.all false
set_option maxRecDepth 100000
set_option maxHeartbeats 2000000
/-! Sorted lists of tuples of ints, of any length; more rules for dicts whose keys are such tuples. -/
namespace RH
open PySem PySem.Spec PyProof.Rows L2
open SrtO (Swo Srtd Stb SortableO Cmp lt2)
open TS (TupInts intsOf code Bd lex_ints firsts_of)
/-- below 10, by the digits -/
def ltL (s t : List Int) : Bool := decide (code 10 s < code 10 t)
theorem swo_by {α : Type} (f : α → Int) : Swo fun x y : α => decide (f x < f y) := by
  refine ⟨fun x y h => ?_, fun x y z h1 h2 => ?_⟩
  · simp only [decide_eq_true_eq] at h
    simp only [decide_eq_false_iff_not]
    omega
  · simp only [decide_eq_false_iff_not] at *
    omega
theorem ltL_swo : Swo ltL := swo_by (code 10)
section
variable {prog : Program} {w : World} {A : Around} {E : Value → Shared → Prop} {s : Shared}
/-- each of vs is a tuple of d ints below 10 -/
def TupsD (h : Heap) (d : Nat) (vs : List Value) : Prop := ∀ v ∈ vs, TupInts h v (intsOf h v) ∧ (intsOf h v).length = d ∧ Bd 10 (intsOf h v)
theorem tups_cmp {d : Nat} {vs : List Value} {k : Value → Int} (hv : ∀ v ∈ vs, TupInts s.heap v (intsOf s.heap v) ∧ (intsOf s.heap v).length = d ∧ Bd 10 (intsOf s.heap v) ∧ k v = code 10 (intsOf s.heap v)) :
    Cmp prog w A s (tuples' true) (fun p => p.1 ∈ vs) (lt2 fun v u => decide (k v < k u)) := by
  intro p q hm hm'
  obtain ⟨⟨a, xs, e1, ⟨o, ho, hc, n, hd⟩, i1⟩, l1, b1, k1⟩ := hv _ hm
  obtain ⟨⟨a', ys, e2, ⟨o', ho', hc', n', hd'⟩, i2⟩, l2, b2, k2⟩ := hv _ hm'
  show wpAny (model prog w) A (keyLt' (tuples' true) p.1 q.1) (fun r s' => s' = s ∧ r = decide (k p.1 < k q.1)) (fun _ _ => False) s
  rw [k1, k2]
  generalize hx : intsOf s.heap p.1 = ns at *
  generalize hy : intsOf s.heap q.1 = ms at *
  rw [e1, e2]
  refine PySem.W.kat_lt ho hd ho' hd' ?_
  have sz : decide (xs.size < ys.size) = false := by
    have q1 := i1.length
    have q2 := i2.length
    rw [Array.length_toList] at q1 q2
    exact decide_eq_false (by omega)
  rw [sz]
  exact lex_ints 0 i1 i2 (by omega) b1 b2 ⟨rfl, rfl⟩
theorem tups_firsts {h : Heap} {d : Nat} (hd : 1 ≤ d) : ∀ vs : List Value, TupsD h d vs → ∃ fs, PySem.W.KatTups h vs fs ∧ fs.length = vs.length ∧ ∀ f, f ∈ fs → ∃ n t, f = Value.int n t := fun vs x =>
  firsts_of (B := 10) hd vs fun v hv => ⟨_, (x v hv).1, (x v hv).2.1, (x v hv).2.2⟩
theorem tups_sortable {a : Addr} {d : Nat} {vs : List Value} {k : Value → Int} (hd : 1 ≤ d) (h0 : 0 < vs.length) (hv : ∀ v ∈ vs, TupInts s.heap v (intsOf s.heap v) ∧ (intsOf s.heap v).length = d ∧ Bd 10 (intsOf s.heap v) ∧ k v = code 10 (intsOf s.heap v))
    (ha : ∀ o, s.heap.get? a = some o → o.cls ≠ .type "tuple") : SortableO prog w A s a vs fun v u => decide (k v < k u) := by
  intro h' keep
  have hv' : ∀ v ∈ vs, TupInts h' v (intsOf h' v) ∧ (intsOf h' v).length = d ∧ Bd 10 (intsOf h' v) ∧ k v = code 10 (intsOf h' v) := fun v hm => by
    obtain ⟨t, l, b, e⟩ := hv v hm
    have t' := t.keeps (h' := h') fun b o e c => keep b o (fun z => by subst z; exact ha o e c) e
    have e2 : intsOf h' v = intsOf s.heap v := t'.ints
    rw [e2]
    exact ⟨t', l, b, e⟩
  obtain ⟨fs, h1, h2, h3⟩ := tups_firsts hd vs fun v hm => ⟨(hv' v hm).1, (hv' v hm).2.1, (hv' v hm).2.2.1⟩
  refine ⟨tuples' true, fun Q E hq => ?_, tups_cmp hv'⟩
  refine PySem.W.kat_kind (T := .type "int") h1 (by omega) (fun f hm => ?_) (by rfl) ?_
  · obtain ⟨x, t, rfl⟩ := h3 f hm
    exact PySem.W.Looks.of_pure rfl
  · have e : (Value.type "int" != Value.type "tuple") = true := by first | decide +kernel | rfl | decide
    rw [e]
    exact hq
end
/-- each of xs is a tuple of the ints -/
inductive EX (H : Hp) : List V → List (List Int) → Prop
  | nil : EX H [] []
  | cons {b : Addr} {s : List Int} {xs : List V} {ls : List (List Int)} : KX H b s → EX H xs ls → EX H (.ref b :: xs) (s :: ls)
theorem EX.len {H : Hp} : ∀ {xs : List V} {ls : List (List Int)}, EX H xs ls → xs.length = ls.length
  | _, _, .nil => rfl
  | _, _, .cons _ t => congrArg (· + 1) t.len
theorem EX.imp {H H' : Hp} (f : ∀ b s, KX H b s → KX H' b s) : ∀ {xs : List V} {ls : List (List Int)}, EX H xs ls → EX H' xs ls
  | _, _, .nil => .nil
  | _, _, .cons g t => .cons (f _ _ g) (t.imp f)
theorem EX.snoc {H : Hp} {b : Addr} {s : List Int} (h : KX H b s) : ∀ {xs : List V} {ls : List (List Int)}, EX H xs ls → EX H (xs ++ [.ref b]) (ls ++ [s])
  | _, _, .nil => .cons h .nil
  | _, _, .cons g t => .cons g (t.snoc h)
theorem EX.at {H : Hp} : ∀ {xs : List V} {ls : List (List Int)} {i : Nat} {s : List Int}, EX H xs ls → ls[i]? = some s → ∃ b, xs[i]? = some (V.ref b) ∧ KX H b s
  | _, _, _, _, .nil, e => by simp at e
  | _, _, 0, _, .cons h _, e => by
    cases Option.some.inj e
    exact ⟨_, rfl, h⟩
  | _, _, i + 1, _, .cons _ t, e => t.at (i := i) e
theorem kx_ints {P : Program} {w : World} {H : Hp} {h : Heap} {a : Addr} {s : List Int} (ok : HOk P w H h) (e : KX H a s) : TupInts h (.ref a) s := by
  obtain ⟨_, its, r, hl⟩ := (show ObjOk P w H h a (.tup (s.map V.int)) from e.ok ok)
  exact ⟨a, its.toArray, rfl, hl, by simpa using r.ints⟩
theorem EX.vals {P : Program} {w : World} {H : Hp} {h : Heap} (ok : HOk P w H h) : ∀ {xs : List V} {ls : List (List Int)} {vs : List Value}, EX H xs ls → Vals xs vs → vs.map (intsOf h) = ls ∧ ∀ v ∈ vs, ∃ b, v = Value.ref b ∧ KX H b (intsOf h v)
  | _, _, _, .nil, .nil => ⟨rfl, fun _ hv => nomatch hv⟩
  | _, _, _, .cons (s := s) k t, .cons r rs => by
    obtain ⟨e1, e2⟩ := t.vals ok rs
    rename_i b xs ls u us
    obtain rfl : u = Value.ref b := r
    have e := (kx_ints ok k).ints
    refine ⟨by rw [List.map_cons, e1, e], fun v hv => ?_⟩
    rcases List.mem_cons.mp hv with rfl | hv
    · exact ⟨b, rfl, by rw [e]; exact k⟩
    · exact e2 v hv
theorem EX.of {P : Program} {w : World} {H : Hp} {h : Heap} : ∀ {out : List Value}, (∀ v ∈ out, ∃ b, v = Value.ref b ∧ KX H b (intsOf h v)) → Vals (out.map backV) out ∧ EX H (out.map backV) (out.map (intsOf h))
  | [], _ => ⟨.nil, .nil⟩
  | v :: out, hv => by
    obtain ⟨r, e⟩ := EX.of (P := P) (w := w) (H := H) (h := h) (out := out) fun u hu => hv u (List.mem_cons_of_mem _ hu)
    obtain ⟨b, rfl, k⟩ := hv v (List.mem_cons_self ..)
    exact ⟨.cons rfl r, .cons k e⟩
/-- what sorted makes of tuples of the ints ls -/
def SoT (H : Hp) (ls : List (List Int)) (ys : List V) (ls' : List (List Int)) : Prop := Srtd ltL ls' ∧ Stb ltL ls' ls ∧ EX H ys ls' ∧ ls'.length = ls.length
theorem SoT.one {H H' : Hp} {ls a b : List (List Int)} {ys zs : List V} (h1 : SoT H ls ys a) (h2 : SoT H' ls zs b) : a = b :=
  SrtO.stb_uniq ltL_swo h1.1 h2.1 ⟨h1.2.1.perm.trans h2.2.1.perm.symm, fun x => (h1.2.1.cls x).trans (h2.2.1.cls x).symm⟩
def rSortT (K : PySem.W.Frag) : List V → Hp → VK → Prop := fun vs H Q => ∃ (a : Addr) (xs : List V) (ls : List (List Int)) (d : Nat), vs = [V.ref a] ∧ SqL K H a xs ∧ EX H xs ls ∧ 1 ≤ d ∧ (∀ s ∈ ls, s.length = d ∧ Bd 10 s) ∧
  ∀ ys ls' p, SoT H ls ys ls' → H p = none → Q (.ref p) (upd H p (.lst ys))
theorem call_sortT {X : Cx} : CallR X (.builtin "sorted") (rSortT X.K) := by
  intro pins s σ H vs us Q I r h
  obtain ⟨a, xs, ls, d, rfl, hs, hx, hd, hb, q⟩ := h
  obtain ⟨its, rv, hl, hz⟩ := I.list hs
  obtain ⟨u, rfl, ru⟩ := vals1 r
  obtain rfl : u = Value.ref a := ru
  obtain ⟨e1, e2⟩ := hx.vals I.hok rv
  have hT : ∀ v ∈ its, TupInts s.heap v (intsOf s.heap v) ∧ (intsOf s.heap v).length = d ∧ Bd 10 (intsOf s.heap v) ∧ code 10 (intsOf s.heap v) = code 10 (intsOf s.heap v) := fun v hv => by
    obtain ⟨b, rfl, k⟩ := e2 v hv
    have hm : intsOf s.heap (.ref b) ∈ ls := by rw [← e1]; exact List.mem_map.mpr ⟨_, hv, rfl⟩
    exact ⟨kx_ints I.hok k, (hb _ hm).1, (hb _ hm).2, rfl⟩
  refine SrtO.sorted_ord (swo_by fun v => code 10 (intsOf s.heap v)) hl.isList (by rw [← rv.length]; exact hz) (fun h2 h₁ a ha kk => ?_) fun out hs hb2 => ?_
  · refine tups_sortable (s := { s with heap := h₁ }) hd (by omega) (fun v hm => ?_) fun o e => ?_
    · obtain ⟨t, l, b, _⟩ := hT v hm
      have t' := t.keeps (h' := h₁) fun b o e _ => (kk b o e).2
      have e2 : intsOf h₁ v = intsOf s.heap v := t'.ints
      show TupInts h₁ v (intsOf h₁ v) ∧ (intsOf h₁ v).length = d ∧ Bd 10 (intsOf h₁ v) ∧ _ = code 10 (intsOf h₁ v)
      rw [e2]
      exact ⟨t', l, b, rfl⟩
    · have e' : some o = some (seqObj "list" its.toArray 0) := e.symm.trans ha
      cases e'
      intro c
      exact absurd (Value.type.inj c) (by decide)
  · obtain ⟨r3, x3⟩ := EX.of (P := X.prog) (w := X.w) (H := H) (h := s.heap) (out := out) fun v hv => e2 v (hb2.perm.mem_iff.mp hv)
    obtain ⟨n, hn⟩ := sortedAll_at s.heap its out.toArray
    have hlen : out.length = its.length := hb2.len
    have so : SoT H ls (out.map backV) (out.map (intsOf s.heap)) := by
      refine ⟨SrtO.srtd_map hs, ?_, x3, by rw [List.length_map, hlen, ← e1, List.length_map]⟩
      rw [← e1]
      exact SrtO.Stb.map ltL_swo (intsOf s.heap) hb2
    refine ⟨.ref _, upd H (s.heap.objs.size + 1) (.lst (out.map backV)), I.laid (t' := s.toks) (fun b o e => sortedAll_old e) (Nat.le_succ _) ⟨?_, out, n, r3, hn⟩, rfl, q _ _ _ so (I.hok.fresh (Nat.le_succ _))⟩
    rw [List.length_map, hlen, ← rv.length]
    exact hz
end RH
set_option Elab.async false
set_option linter.all false
set_option maxRecDepth 100000
set_option maxHeartbeats 2000000
namespace RH
open PySem PySem.Spec PyProof.Rows L2
open SrtO (Swo Srtd Stb SortableO Cmp lt2)
open TS (TupInts intsOf code Bd lex_ints firsts_of)
theorem KB.ex {H : Hp} : ∀ {as : List (List Int × V)} {bs : List Addr}, KB H as bs → EX H (bs.map V.ref) (as.map Prod.fst)
  | _, _, .nil => .nil
  | _, _, .cons g t => .cons g t.ex
theorem XS.adr : ∀ {as : List (List Int × V)} {bs : List Addr} {xs : List (List L2.Key × Addr × Value)}, XS as bs xs → xs.map (fun x => x.2.1) = bs
  | _, _, _, .nil => rfl
  | _, _, _, .cons _ t => by rw [List.map_cons, t.adr]
theorem vals_refs : ∀ bs : List Addr, Vals (bs.map V.ref) (bs.map Value.ref)
  | [] => .nil
  | b :: bs => .cons rfl (vals_refs bs)
/-- the keys, as they are walked -/
theorem keys_walked {P : Program} {w : World} {as : List (List Int × V)} {bs : List Addr} {xs : List (List L2.Key × Addr × Value)} {es : Array DictEntry} {acc : Array Value} (hx : XS as bs xs) (he : es.toList = xs.map (entryOfKey (tupleKind (mixKind P w))))
    (it : ItemsOf (fun i v => ∃ hi : i < es.size, v = es[i].key) acc es.size) : acc.toList = bs.map Value.ref := by
  have l1 : es.size = xs.length := size_of_entries he
  rw [← hx.adr, List.map_map]
  refine List.ext_getElem? fun j => ?_
  rw [List.getElem?_map]
  have hl : acc.toList.length = xs.length := by rw [Array.length_toList, it.1]; exact l1
  by_cases hj : j < xs.length
  · have h1 : acc.toList[j]? = some acc.toList[j] := List.getElem?_eq_getElem (by omega)
    have h2 : xs[j]? = some xs[j] := List.getElem?_eq_getElem hj
    obtain ⟨hi, hv'⟩ := it.2 j _ (by rw [← Array.getElem?_toList]; exact h1)
    rw [h1, h2, hv']
    have h3 : es.toList[j]? = some es[j] := by rw [Array.getElem?_toList]; exact Array.getElem?_eq_getElem hi
    rw [he, List.getElem?_map, h2] at h3
    rw [← Option.some.inj h3]
    rfl
  · rw [List.getElem?_eq_none (by omega), List.getElem?_eq_none (by omega)]
    rfl
theorem XS.blen : ∀ {as : List (List Int × V)} {bs : List Addr} {xs : List (List L2.Key × Addr × Value)}, XS as bs xs → bs.length = as.length
  | _, _, _, .nil => rfl
  | _, _, _, .cons _ t => congrArg (· + 1) t.blen
/-- list(d) -/
def rListE (P : Program) (w : World) : List V → Hp → VK → Prop := fun xs H Q => ∃ (d : Addr) (as : List (List Int × V)) (bs : List Addr), xs = [.ref d] ∧ H d = some (DE P w as bs d) ∧ ∀ l, H l = none → Q (.ref l) (upd H l (.lst (bs.map V.ref)))
theorem call_listE {X : Cx} (hc : X.calm = true) : CallR X (.type "list") (rListE X.prog X.w) := by
  intro pins s σ H xs us Q I r h
  obtain ⟨d, as, bs, rfl, hd, q⟩ := h
  obtain ⟨u, rfl, rx⟩ := r.one
  cases rx
  obtain ⟨hs, z, ks, hx, o, es, ep, ho, hxd, hdt, he, _⟩ := (show ObjOk X.prog X.w H s.heap d (DE X.prog X.w as bs d) from I.hok d _ hd).1
  have l1 : es.size = ks.length := size_of_entries he
  have l2 : ks.length = as.length := hx.len
  refine PySem.W.kdl_call (KdlSrc.rawDict (es := es) (ep := ep) hs) (I.ok.hd hc) ⟨o, ho, hxd, hdt⟩ (by omega) fun h' tk acc' c' kp e it => ?_
  have ea := keys_walked hx he it
  have rv : Vals (bs.map V.ref) acc'.toList := by rw [ea]; exact vals_refs bs
  refine ⟨.ref s.heap.objs.size, _, I.laid (t' := tk) (o := .lst (bs.map V.ref)) kp (Nat.le_refl _) ?_, rfl, q _ (I.hok.fresh (Nat.le_refl _))⟩
  exact ⟨by rw [List.length_map, hx.blen]; exact z, acc'.toList, c', rv, by rw [Array.toArray_toList]; exact e⟩
/-! ### get, in, a new one, [..] = -/
def tDNewE (P : Program) (w : World) : TE := fun _ H Q => ∀ p, H p = none → Q (.ref p) (upd H p (DE P w [] [] p))
section
variable {X : Cx} {o i e f : Expr} {pos apos cpos : Pos} {td ty tx : TE}
theorem pe_dnewE : PE X (.Dict [] [] pos) (tDNewE X.prog X.w) := ⟨fun pins s σ H Q I h =>
  wpAny_Dict_empty ⟨.ref s.heap.objs.size, _, I.laid (a := s.heap.objs.size) (o := DE X.prog X.w [] [] s.heap.objs.size) (t' := s.toks) (fun _ _ q => Heap.get?_push_of_some _ q) (Nat.le_refl _)
    (DE.ok (beq_eq_false_iff_ne.mpr (Ne.symm (Nat.ne_of_lt I.big))) (Nat.zero_le _) .nil (Heap.DictOfH.new s.heap)), rfl, h _ (I.hok.fresh (Nat.le_refl _))⟩⟩
end
end RH
set_option Elab.async false
set_option linter.all false
set_option maxRecDepth 100000
set_option maxHeartbeats 2000000
/-! Lambdas that a def hands back: the cells that they caught are tracked from then on. -/
namespace RH
open PySem PySem.Spec PyProof.Rows L2
open LamX (Tabs TabS TabB ExtN CodeO codeO_ne)
open NdefX (NF CellsAt NScope startF ncx codeO_at slotAt Caps cells_of)
/-- the cell at c holds v -/
def CellO (c : Addr) (v : V) : HO := .ext fun h => ∃ u, L2.RelV v u ∧ h.IsCell c (some u)
theorem cellO_ne {c : Addr} {v : V} : (∀ y, CellO c v ≠ .own y) ∧ (∀ xs, CellO c v ≠ .tup xs) ∧ (∀ o u, CellO c v ≠ .frz o u) ∧ (∀ ps, CellO c v ≠ .tbl ps) := by
  unfold CellO
  exact ⟨fun _ z => (nomatch z), fun _ z => (nomatch z), fun _ _ z => (nomatch z), fun _ z => (nomatch z)⟩
theorem cellO_ok {P : Program} {w : World} {H : Hp} {h : Heap} {c : Addr} {v : V} (q : ∃ u, L2.RelV v u ∧ h.IsCell c (some u)) : ObjOk P w H h c (CellO c v) :=
  ⟨q, let ⟨_, _, o, e, _⟩ := q; ⟨o, e⟩, fun _ _ ⟨u, r, o, e, d⟩ st => ⟨u, r, o, st o e, d⟩⟩
abbrev CL := List (Addr × V)
/-- f may be called from any place, while it is alive -/
structure CallableA (P : Program) (w : World) (K : PySem.W.Frag) (mg : Str → Option Value) (base : Heap) (CX : CXT) (k : Nat) (f : Addr) (live : Hp → Prop) (sp : Sp) : Prop where
  at_ : ∀ (X : Cx), X.prog = P → X.w = w → X.K = K → X.base = base → ∀ pins σ H' s', Inv X pins σ H' s' → live H' → PySem.W.FnAt f s'.heap
  run : ∀ (X : Cx), X.prog = P → X.w = w → X.K = K → X.mg = mg → X.base = base → Room k X.A → ∀ pins σ H' s' us vs Q E, Inv X pins σ H' s' → live H' → Vals vs us → Passes CX X E → sp vs H' Q E →
    wpAny (model P w) X.A (call (.ref f) us) (EP X pins σ Q) X.xe s'
theorem CallableA.one {P : Program} {w : World} {K : PySem.W.Frag} {mg : Str → Option Value} {base : Heap} {CX : CXT} {k : Nat} {f : Addr} {live : Hp → Prop} {sp : Sp} {outer : List Env} {s : Shared} {H : Hp} (C : CallableA P w K mg base CX k f live sp) : Callable P w K mg base CX k f live sp outer s H :=
  ⟨fun X e1 e2 e3 e4 _ _ => C.at_ X e1 e2 e3 e4, fun X e1 e2 e3 e4 e5 _ _ _ _ hr => C.run X e1 e2 e3 e4 e5 hr⟩
theorem CallableA.imp {P : Program} {w : World} {K : PySem.W.Frag} {mg : Str → Option Value} {base : Heap} {CX : CXT} {k : Nat} {f : Addr} {live live' : Hp → Prop} {sp sp' : Sp} (C : CallableA P w K mg base CX k f live sp) (hl : ∀ H, live' H → live H) (hs : ∀ vs H Q E, live' H → sp' vs H Q E → sp vs H Q E) :
    CallableA P w K mg base CX k f live' sp' :=
  ⟨fun X e1 e2 e3 e4 pins σ H' s' I l => C.at_ X e1 e2 e3 e4 pins σ H' s' I (hl _ l), fun X e1 e2 e3 e4 e5 hr pins σ H' s' us vs Q E I l r hx q => C.run X e1 e2 e3 e4 e5 hr pins σ H' s' us vs Q E I (hl _ l) r hx (hs _ _ _ _ l q)⟩
/-- without the cells, with them -/
def era (l : CL) (H : Hp) : Hp := fun b => match l.lookup b with
  | some _ => none
  | none => H b
def lay (l : CL) (H : Hp) : Hp := fun b => match l.lookup b with
  | some v => some (CellO b v)
  | none => H b
theorem era_in {l : CL} {H : Hp} {b : Addr} {v : V} (e : l.lookup b = some v) : era l H b = none := by
  unfold era
  rw [e]
theorem era_no {l : CL} {H : Hp} {b : Addr} (e : l.lookup b = none) : era l H b = H b := by
  unfold era
  rw [e]
theorem lay_in {l : CL} {H : Hp} {b : Addr} {v : V} (e : l.lookup b = some v) : lay l H b = some (CellO b v) := by
  unfold lay
  rw [e]
theorem lay_no {l : CL} {H : Hp} {b : Addr} (e : l.lookup b = none) : lay l H b = H b := by
  unfold lay
  rw [e]
/-- the cells stand -/
def Stand (l : CL) (H : Hp) : Prop := ∀ b v, l.lookup b = some v → H b = some (CellO b v)
theorem Stand.ext {l : CL} {H H' : Hp} (s : Stand l H) (e : ExtN H H') : Stand l H' := fun b v q => e b _ (s b v q) cellO_ne.2.2.2
theorem Stand.same {l : CL} {H H' : Hp} (s : Stand l H) (e : Same H H') : Stand l H' := fun b v q => e b _ (s b v q)
theorem Stand.lay (l : CL) (H : Hp) : Stand l (lay l H) := fun _ _ q => lay_in q
theorem Stand.cases {l : CL} {H : Hp} (s : Stand l H) {b : Addr} {o : HO} (e : H b = some o) : (∃ v, l.lookup b = some v ∧ o = CellO b v) ∨ (l.lookup b = none ∧ era l H b = some o) := by
  cases q : l.lookup b with
  | some v => exact .inl ⟨v, rfl, Option.some.inj (e.symm.trans (s b v q))⟩
  | none => exact .inr ⟨rfl, (era_no q).trans e⟩
theorem Stand.tup {l : CL} {H : Hp} (s : Stand l H) {b : Addr} {xs : List V} (e : H b = some (.tup xs)) : era l H b = some (.tup xs) := by
  rcases s.cases e with ⟨v, _, z⟩ | ⟨_, z⟩
  · exact absurd z.symm (cellO_ne.2.1 xs)
  · exact z
theorem Stand.frz {l : CL} {H : Hp} (s : Stand l H) {b : Addr} {o : Obj} {u : HO} (e : H b = some (.frz o u)) : era l H b = some (.frz o u) := by
  rcases s.cases e with ⟨v, _, z⟩ | ⟨_, z⟩
  · exact absurd z.symm (cellO_ne.2.2.1 o u)
  · exact z
theorem Stand.rd {l : CL} {H : Hp} (s : Stand l H) {b : Addr} {xs : List V} (e : Rd H b (.tup xs)) : Rd (era l H) b (.tup xs) := by
  rcases e with e | ⟨o, e⟩
  · exact .inl (s.tup e)
  · exact .inr ⟨o, s.frz e⟩
/-- the heap with the cells goes on as the one without them does -/
theorem Stand.on {l : CL} {H H2 : Hp} (s : Stand l H) (e : Same (era l H) H2) : Same H (RH.lay l H2) := fun b o q => by
  rcases s.cases q with ⟨v, z, rfl⟩ | ⟨z, y⟩
  · exact lay_in z
  · exact (lay_no z).trans (e b o y)
theorem Stand.hok {P : Program} {w : World} {l : CL} {H : Hp} {h : Heap} (s : Stand l H) (k : HOk P w H h) : HOk P w (era l H) h := fun a o e => by
  cases q : l.lookup a with
  | some v =>
    rw [era_in q] at e
    cases e
  | none =>
    rw [era_no q] at e
    refine (k a o e).stay (fun _ _ _ z => z) (fun b z => ?_) fun b xs z => s.tup z
    rcases s.cases z with ⟨v, _, y⟩ | ⟨_, y⟩
    · exact absurd y.symm (cellO_ne.1 a)
    · exact y
/-- what a lambda caught, and where -/
structure Cap (F : LF) (fr : List Str) (ws : List V) (l : CL) : Prop where
  len : ws.length = fr.length
  all : ∀ y c, F.cl.lookup y = some c → ∃ v, l.lookup c = some v
  inj : ∀ x y c, F.cl.lookup x = some c → F.cl.lookup y = some c → x = y
  has : ∀ (i : Nat) (y : Str), fr[i]? = some y → ∃ c, F.cl.lookup y = some c ∧ ∀ v, ws[i]? = some v → l.lookup c = some v
/-- the lambda at f stands, with its code and its cells -/
structure LiveK (f : Addr) (F : LF) (l : CL) (H : Hp) : Prop where
  fn : H f = some (FnL f F)
  code : H F.c = some (CodeO F.c F.qual)
  st : Stand l H
theorem LiveK.same {f : Addr} {F : LF} {l : CL} {H H' : Hp} (k : LiveK f F l H) (e : Same H H') : LiveK f F l H' := ⟨e _ _ k.fn, e _ _ k.code, k.st.same e⟩
theorem LiveK.ext {f : Addr} {F : LF} {l : CL} {H H' : Hp} (k : LiveK f F l H) (e : ExtN H H') : LiveK f F l H' := ⟨e _ _ k.fn (fun ps => fnL_ne ps), e _ _ k.code (fun ps => codeO_ne ps), k.st.ext e⟩
section
variable {CX : CXT} {P : Program} {w : World} {K : PySem.W.Frag} {mg : Str → Option Value} {base : Heap} {ps fr : List Str} {k : Nat} {f : Addr} {F : LF} {ws : List V} {l : CL} {outer : List Env} {s : Shared} {H : Hp}
theorem LiveK.nofn {h : Heap} (L : LiveK f F l H) (hok : HOk P w H h) : l.lookup f = none ∧ l.lookup F.c = none := by
  constructor
  · cases q : l.lookup f with
    | none => rfl
    | some v =>
      exfalso
      obtain ⟨od, sl, pm, ctv, ho⟩ := fnL_at hok L.fn
      obtain ⟨⟨u, _, o, e, d⟩, _⟩ := hok f _ (L.st f v q)
      rw [ho] at e
      cases e
      cases d
  · cases q : l.lookup F.c with
    | none => rfl
    | some v =>
      exfalso
      obtain ⟨c, oc, vs, t, e0, h1, h2, _⟩ := codeO_at hok L.code
      cases e0
      obtain ⟨⟨u, _, o, e, d⟩, _⟩ := hok F.c _ (L.st F.c v q)
      rw [h1] at e
      cases e
      rw [h2] at d
      cases d
/-- a lambda that was handed back may be called from anywhere, while it stands -/
theorem callableA_kept {sp : List (Option V) → Sp} (Fn : LOk P w K mg base CX0 k f F ps fr sp) (C : Cap F fr ws l) :
    CallableA P w K mg base CX0 k f (LiveK f F l) (fun vs H Q E => sp (ws.map some) vs (era l H) (fun v H2 => (∀ b y, l.lookup b = some y → H2 b = none) → Q v (lay l H2)) E) := by
  refine ⟨fun X _ _ _ _ pins σ H' s' I L => ?_, fun X e1 e2 e3 e4 e5 hr pins σ H' s' us vs Q E I L r hx q => ?_⟩
  · obtain ⟨od, sl, pm, ctv, ho⟩ := fnL_at I.hok L.fn
    exact ⟨_, od, _, sl, ho⟩
  · subst e1 e2 e3 e4 e5
    obtain ⟨nf, nc⟩ := L.nofn I.hok
    have E0 := I.env0
    have cell : ∀ c v, l.lookup c = some v → ∃ u, L2.RelV v u ∧ s'.heap.IsCell c (some u) := fun c v e => (I.hok c _ (L.st c v e)).1
    have nfr : ∀ c v, l.lookup c = some v → c ∉ frs X.stack := fun c v e z => by
      have := E0.frf c z
      rw [L.st c v e] at this
      cases this
    have Ee : Env0 X.prog X.w X.K X.mg X.base X.A X.stack s' (era l H') := by
      refine ⟨E0.frames, E0.mod, fun b o e => ⟨(E0.bs b o e).1, ?_⟩, E0.bsz, E0.funs, fun b hb => ?_, L.st.hok E0.hok, E0.bare⟩
      · cases q : l.lookup b with
        | some v => exact era_in q
        | none => exact (era_no q).trans (E0.bs b o e).2
      · cases q : l.lookup b with
        | some v => exact era_in q
        | none => exact (era_no q).trans (E0.frf b hb)
    have Ce : CellsAt F.cl fr (ws.map some) s'.heap (era l H') := by
      refine ⟨by rw [List.length_map]; exact C.len, fun y c e => ?_, C.inj, fun i y e => ?_⟩
      · obtain ⟨v, hv⟩ := C.all y c e
        obtain ⟨u, _, z⟩ := cell c v hv
        exact ⟨era_in hv, _, z⟩
      · obtain ⟨c, hc, hv⟩ := C.has i y e
        refine ⟨c, hc, fun v ev => ?_⟩
        rw [List.getElem?_map] at ev
        cases ew : ws[i]? with
        | none =>
          rw [ew] at ev
          cases ev
        | some v' =>
          rw [ew] at ev
          have : v' = v := Option.some.inj (Option.some.inj ev)
          subst this
          exact cell c _ (hv _ ew)
    refine wpAny_call (codeAny_mono (Fn.run X.A X.stack s' (era l H') us vs (ws.map some) _ E hr Ee ((era_no nf).trans L.fn) ((era_no nc).trans L.code) Ce r q) fun r s'' hq => ?_)
    cases r with
    | error e => exact hq.elim
    | ok fl =>
      cases fl with
      | ret u =>
        obtain ⟨v, H2, os, bare, un, hok, rv, hQ⟩ := hq
        have gone : ∀ c v, l.lookup c = some v → H2 c = none := fun c v e => by
          obtain ⟨u, _, o, z, _⟩ := cell c v e
          exact un.free c o z (era_in e) (by simp)
        refine I.after ⟨v, lay l H2, os, bare, ?_, ?_, rv, hQ gone⟩
        · have fwd : ∀ b, H' b = none → l.lookup b = none := fun b e => by
            cases q : l.lookup b with
            | none => rfl
            | some v =>
              rw [L.st b v q] at e
              cases e
          refine ⟨fun b o e n => un.keep b o e ((era_no (fwd b n)).trans n), fun b o e n => un.slot b o e ((era_no (fwd b n)).trans n), fun b o e n x => (lay_no (fwd b n)).trans (un.free b o e ((era_no (fwd b n)).trans n) x), un.there, fun b xs e => ?_, fun b o u e => ?_, fun b ps e => ?_⟩
          · rcases L.st.cases e with ⟨v, _, z⟩ | ⟨n, z⟩
            · exact absurd z.symm (cellO_ne.2.1 xs)
            · exact (lay_no n).trans (un.tups b xs z)
          · rcases L.st.cases e with ⟨v, _, z⟩ | ⟨n, z⟩
            · exact absurd z.symm (cellO_ne.2.2.1 o u)
            · exact (lay_no n).trans (un.frzs b o u z)
          · rcases L.st.cases e with ⟨v, _, z⟩ | ⟨n, z⟩
            · exact absurd z.symm (cellO_ne.2.2.2 ps)
            · obtain ⟨more, y⟩ := un.tbls b ps z
              exact ⟨more, (lay_no n).trans y⟩
        · intro a o e
          cases q : l.lookup a with
          | some v =>
            rw [lay_in q] at e
            cases e
            obtain ⟨u, ru, ob, z, d⟩ := cell a v q
            exact cellO_ok ⟨u, ru, ob, un.keep a ob z (era_in q) (nfr a v q) (by simp), d⟩
          | none =>
            rw [lay_no q] at e
            refine (hok a o e).stay (fun _ _ _ z => z) (fun b z => ?_) fun b xs z => ?_
            · cases q2 : l.lookup b with
              | none => exact (lay_no q2).trans z
              | some v =>
                rw [gone b v q2] at z
                cases z
            · cases q2 : l.lookup b with
              | none => exact (lay_no q2).trans z
              | some v =>
                rw [gone b v q2] at z
                cases z
      | next => exact False.elim hq
      | brk => exact False.elim hq
      | cont => exact False.elim hq
theorem callable_kept {sp : List (Option V) → Sp} (Fn : LOk P w K mg base CX0 k f F ps fr sp) (C : Cap F fr ws l) :
    Callable P w K mg base CX0 k f (LiveK f F l) (fun vs H Q E => sp (ws.map some) vs (era l H) (fun v H2 => (∀ b y, l.lookup b = some y → H2 b = none) → Q v (lay l H2)) E) outer s H :=
  (callableA_kept Fn C).one
end
/-- f(..), f a name that holds a thing that may be called anywhere, in a block too: g says which -/
theorem pe_canA {G : Type} {X : Cx} {CX : CXT} {fa : G → Addr} {live : G → Hp → Prop} {i j k : Nat} {x : Str} {sp : G → Sp} {E : XK} {t : TA} {e : Expr} {es : List Expr} {p pos : Pos} (Cb : ∀ g, CallableA X.prog X.w X.K X.mg X.base CX k (fa g) (live g) (sp g)) (hr : Room j X.A) (hk : k ≤ j) (hx : Passes CX X E)
    (hN : X.N[i]? = some x) (hv : Vis X.env.scope x) (ha : PA X (e :: es) t) (hd : (x == ("__debug__" : Str)) = false := by decide) (hcd : (x == ("__classdict__" : Str)) = false := by decide)
    (he : starEach (e :: es) X.env = (false, eval e X.env) :: starEach es X.env := by rfl) (hpl : (backTo pos (starEach es X.env)).any (·.1) = false := by rfl) :
    PE X (.Call (.Name x p) (e :: es) [] pos) (fun σ H Q => ∃ g, σ[i]? = some (some (.ref (fa g))) ∧ live g H ∧ t σ H fun vs H1 => live g H1 ∧ sp g vs H1 Q E) := by
  refine ⟨fun pins s σ H Q I h => ?_⟩
  obtain ⟨g, hs, hl, ht⟩ := h
  refine wpAny_Call_Name_kw (thn ((pe_var (pos := p) hN hv hd hcd).run pins s σ H (fun v H1 => v = .ref (fa g) ∧ H1 = H) I ⟨.ref (fa g), hs, rfl, rfl⟩) fun u s1 ⟨v, H1, I1, r1, ev, eH⟩ => ?_)
  subst ev
  rw [eH] at I1
  obtain rfl : u = Value.ref (fa g) := r1
  refine PySem.W.callWith_F (first := []) ((Cb g).at_ X rfl rfl rfl rfl pins σ H s1 I1 hl) (thn (ha.run pos pins s1 σ H _ I1 ht) fun us s2 ⟨vs, H2, I2, r, h1, q⟩ => ⟨(Cb g).at_ X rfl rfl rfl rfl pins σ H2 s2 I2 h1, ?_⟩) he hpl
  exact (Cb g).run X rfl rfl rfl rfl rfl (hr.mono hk) pins σ H2 s2 us vs Q E I2 h1 r hx q
/-- f(..), f a name that holds a thing that may be called: g says which -/
def tCanK {G : Type} (fa : G → Addr) (live : G → Hp → Prop) (i : Nat) (sp : G → Sp) (E : XK) (t : TA) : TE := fun σ H Q => ∃ g, σ[i]? = some (some (.ref (fa g))) ∧ live g H ∧ t σ H fun vs H1 => live g H1 ∧ sp g vs H1 Q E
theorem pe_canK {G : Type} {X : Cx} {CX : CXT} {fa : G → Addr} {live : G → Hp → Prop} {i j k : Nat} {x : Str} {sp : G → Sp} {E : XK} {t : TA} {e : Expr} {es : List Expr} {p pos : Pos} (Cb : ∀ g, Callable X.prog X.w X.K X.mg X.base CX k (fa g) (live g) (sp g) X.outer X.s_0 X.H_0) (nx : X.ex = []) (hr : Room j X.A) (hk : k ≤ j) (hx : Passes CX X E)
    (hN : X.N[i]? = some x) (hv : Vis X.env.scope x) (ha : PA X (e :: es) t) (hd : (x == ("__debug__" : Str)) = false := by decide) (hcd : (x == ("__classdict__" : Str)) = false := by decide)
    (he : starEach (e :: es) X.env = (false, eval e X.env) :: starEach es X.env := by rfl) (hpl : (backTo pos (starEach es X.env)).any (·.1) = false := by rfl) :
    PE X (.Call (.Name x p) (e :: es) [] pos) (tCanK fa live i sp E t) := by
  refine ⟨fun pins s σ H Q I h => ?_⟩
  obtain ⟨g, hg⟩ := h
  exact (pe_can (pos := pos) (p := p) (Cb g) nx hr hk hx hN hv ha hd hcd he hpl).run pins s σ H Q I hg
/-! ### a body that ends with a return, its names kept -/
structure PSR (X : Cx) (st : List Stmt) (tr : (V → L2.St → Hp → Prop) → L2.St → Hp → Prop) : Prop where
  run : ∀ (pins : List (Addr × Obj)) (s : Shared) (σ : L2.St) (H : Hp) (R : V → L2.St → Hp → Prop), Inv X pins σ H s → tr R σ H → wpAny (model X.prog X.w) X.A (execs st X.env) (fun fl s' => ∃ u v σ' H', fl = .ret u ∧ Inv X pins σ' H' s' ∧ L2.RelV v u ∧ R v σ' H') X.xe s
theorem psr_ret {X : Cx} {e : Expr} {te : TE} {pos : Pos} (he : PE X e te) : PSR X [.Return (some e) pos] (fun R σ H => te σ H fun v H1 => R v σ H1) := by
  refine ⟨fun pins s σ H R I h => ?_⟩
  refine wpAny_execs_cons (wpAny_Return_some (thn (he.run pins s σ H (fun v H1 => R v σ H1) I h) fun v s1 ⟨x, H1, I1, r1, q1⟩ => ?_))
  exact ⟨v, x, σ, H1, rfl, I1, r1, q1⟩
section
variable {P : Program} {w : World} {K : PySem.W.Frag} {mg : Str → Option Value} {base : Heap}
/-- a def whose end is told with its names and its frame -/
theorem fnR_of {k : Nat} {f : Addr} {name qual : Str} {params : Arguments} {body : List Stmt} {scope : Scope} {dV kV doc pm cdv ct oc : Value} {an od : Option Addr}
    {osl : Array (Option Value)} {N ps : List Str} {sp : Sp} (lk : K.lookup f = some ⟨oc, od, .func (PySem.W.fnOf name qual params body scope dV kV doc pm an cdv ct), osl⟩) (hcd : PySem.W.codeIn K cdv qual = true) (S : FnScope N ps scope)
    (len : ∀ vs H Q E, sp vs H Q E → vs.length = ps.length)
    (hbody : ∀ (A : Around) (outer : List Env) (s : Shared) (H : Hp) (vs : List V) (Q : VK) (E : XK), Room k (A.deeper (envOfC qual scope s.heap.objs.size f cdv)) → sp vs H Q E →
      ∃ (R : V → L2.St → Hp → Prop) (tr : (V → L2.St → Hp → Prop) → L2.St → Hp → Prop), PSR (cxOf CX0 P w K mg base N qual scope f cdv A outer s H E) body tr ∧ tr R (start N vs) H ∧
        ∀ (s' : Shared) (σ' : L2.St) (H' : Hp) (v : V) (u : Value), Inv (cxOf CX0 P w K mg base N qual scope f cdv A outer s H E) [] σ' H' s' → L2.RelV v u → R v σ' H' → CE outer P w H s Q u s') :
    FnOk P w K mg base CX0 (k + 1) f (PySem.W.fnOf name qual params body scope dV kV doc pm an cdv ct) ps sp := by
  refine ⟨len, fun A outer s H args us vs Q E hr e0 hb r hsp => ?_⟩
  have hl := len _ _ _ _ hsp
  have KX : K.In s.heap := e0.mod.kin.keeps fun b o e => (e0.bs b o e).1
  have lim : s.heap.NoLimit := e0.mod.nolimit.keeps fun b o e => (e0.bs b o e).1
  have hkind : ∀ y ∈ ps.zip us, scope.names.lookup y.1 = some .local ∨ (scope.names.lookup y.1 = some .cell ∧ ((cellsFrom (s.heap.objs.size + 1) scope.names []).lookup y.1).isSome = true) := fun ⟨n, v⟩ hy => by
    rcases S.par n (List.of_mem_zip hy).1 with q | q
    · exact .inl q
    · exact .inr ⟨q, PySem.W.cellsFrom_some _ _ _ (.inl q)⟩
  refine codeAny_call_function hr.depth (KX _ _ lk) rfl S.co S.gen rfl (PySem.W.codeRec_of KX hcd) (hb _ _ _ _ ?_)
  refine wpAny_newFunctionEnv_cells S.kind hkind fun env he s1 x => ?_
  subst he
  refine ⟨lim.keeps x.toInCall.keep, codeAny_func ?_⟩
  obtain ⟨R, tr, ht, hq, fin⟩ := hbody A outer s H vs Q E (hr.deeper _) hsp
  have I : Inv (cxOf CX0 P w K mg base N qual scope f cdv A outer s H E) [] (start N vs) H s1 := inv_start S hr.hd e0 hl r x
  refine wpAny_mono (ht.run [] s1 (start N vs) H R I hq) (fun fl s' hs => ?_) fun e s' hs => hs
  obtain ⟨u, v, σ', H', rfl, J, rv, q⟩ := hs
  exact fin s' σ' H' v u J rv q
/-- the end of a def that hands back lambdas: its cells are laid -/
theorem ce_lay {X : Cx} {pins : List (Addr × Obj)} {σ : L2.St} {H' : Hp} {s' : Shared} {v : V} {u : Value} {Q : VK} {l : CL} (hf : ∀ x, X.fn x = true) (J : Inv X pins σ H' s') (hx : X.ex = []) (hfs : X.fs = frs X.outer)
    (hl : ∀ b y, l.lookup b = some y → ∃ (x : Str) (i : Nat), X.env.cells.lookup x = some b ∧ X.N[i]? = some x ∧ σ[i]? = some (some y) ∧ X.env.scope.names.lookup x = some .cell)
    (rv : L2.RelV v u) (q : Q v (lay l H')) : CE X.outer X.prog X.w X.H_0 X.s_0 Q u s' := by
  have cell : ∀ b y, l.lookup b = some y → (∃ u, L2.RelV y u ∧ s'.heap.IsCell b (some u)) ∧ X.s_0.heap.objs.size ≤ b ∧ H' b = none := fun b y e => by
    obtain ⟨x, i, h1, h2, h3, h4⟩ := hl b y e
    refine ⟨?_, J.ok.cab x b (hf x) h1, J.freeC x b h1⟩
    obtain ⟨m, _, hm⟩ := J.loc
    obtain ⟨u, r, lk⟩ := hm i x y h2 h3 (.inr (.inl h4))
    rcases lk with ⟨z, _⟩ | ⟨_, a', ha', hc⟩
    · have z' : X.env.scope.names.lookup x = some .local := z
      rw [h4] at z'
      cases z'
    · rw [h1] at ha'
      cases ha'
      exact ⟨u, r, hc⟩
  have low : ∀ b o, X.s_0.heap.get? b = some o → l.lookup b = none := fun b o e => by
    cases q : l.lookup b with
    | none => rfl
    | some y => exact absurd (Nat.lt_of_lt_of_le (Heap.lt_size e) (cell b y q).2.1) (Nat.lt_irrefl _)
  have up : ∀ b o, H' b = some o → lay l H' b = some o := fun b o e => by
    cases q : l.lookup b with
    | none => exact (lay_no q).trans e
    | some y =>
      rw [(cell b y q).2.2] at e
      cases e
  have U := J.base
  rw [hx, hfs] at U
  refine ⟨v, lay l H', J.os, J.bare, ⟨U.keep, U.slot, fun b o e n x => (lay_no (low b o e)).trans (U.free b o e n x), U.there, fun b xs e => up _ _ (U.tups b xs e), fun b o w e => up _ _ (U.frzs b o w e), fun b ps e => ?_⟩, fun a o e => ?_, rv, q⟩
  · obtain ⟨more, z⟩ := U.tbls b ps e
    exact ⟨more, up _ _ z⟩
  · cases q : l.lookup a with
    | some y =>
      rw [lay_in q] at e
      cases e
      exact cellO_ok (cell a y q).1
    | none =>
      rw [lay_no q] at e
      exact (J.hok a o e).stay (fun _ _ _ z => z) (fun b z => up _ _ z) fun b xs z => up _ _ z
end
end RH
set_option Elab.async false
set_option linter.all false
set_option maxRecDepth 100000
set_option maxHeartbeats 2000000
/-! A walk over zip of a tuple and a list. -/
namespace RH
open PySem PySem.Spec PyProof.Rows L2
/-- the tuple at a with the list at b, item by item in new pairs -/
def ItzM (K : PySem.W.Frag) (a b : Addr) : It :=
  ⟨fun i H => ∃ (xs ys : List V) (x y : V), SqT K H a xs ∧ SqL K H b ys ∧ xs[i]? = some x ∧ ys[i]? = some y,
    fun i H v H' => ∃ T x y, v = .ref T ∧ H T = none ∧ H' = upd H T (.tup [x, y]) ∧ (∀ xs, SqT K H a xs → xs[i]? = some x) ∧ ∀ ys, SqL K H b ys → ys[i]? = some y,
    fun i H => ∃ xs ys : List V, SqT K H a xs ∧ SqL K H b ys ∧ xs.length = ys.length ∧ xs.length = i⟩
abbrev fpz (z TI TO i1 i2 : Addr) : List Addr := [z, TI, TO, i1, i2]
theorem fpz_cases {z TI TO i1 i2 c : Addr} (h : c ∈ fpz z TI TO i1 i2) : c = z ∨ c = TI ∨ c = TO ∨ c = i1 ∨ c = i2 := by simpa using h
theorem turn_zipM {P : Program} {w : World} {K : PySem.W.Frag} {elts : List Expr} {kk : Nat} {tpos : Pos} {a b z TI TO i1 i2 : Addr} (S : ZipSep2 z TI TO i1 i2 [i1, a] [i2, b]) (na : a ≠ i1) (nb : b ≠ i2) :
    Turn P w K (.Tuple elts kk tpos) (ItzM K a b) (fpz z TI TO i1 i2) z (fun i h => IsZip h z TI TO .none ∧ IsTupOf2 h TI (.ref i1) (.ref i2) ∧ (∃ x y, IsTupOf2 h TO x y) ∧ h.IsTupleIter i1 a i ∧ h.IsListIter i2 b i) where
  mem := List.mem_cons_self ..
  obj := fun i h st c hc => by
    obtain ⟨hz, hTI, ⟨x, y, hTO⟩, ⟨o1, e1, c1, d1⟩, ⟨o2, e2, c2, d2⟩⟩ := st
    rcases fpz_cases hc with rfl | rfl | rfl | rfl | rfl
    · exact ⟨_, hz, fun v q => nomatch q⟩
    · exact ⟨_, hTI, fun v q => nomatch q⟩
    · exact ⟨_, hTO, fun v q => nomatch q⟩
    · exact ⟨o1, e1, fun v q => by rw [d1] at q; cases q⟩
    · exact ⟨o2, e2, fun v q => by rw [d2] at q; cases q⟩
  keep := fun i h h' st k => by
    obtain ⟨hz, hTI, ⟨x, y, hTO⟩, j1, j2⟩ := st
    have m : ∀ c, (c = z ∨ c = TI ∨ c = TO ∨ c = i1 ∨ c = i2) → c ∈ fpz z TI TO i1 i2 := fun c q => by simpa using q
    exact ⟨k z (m z (.inl rfl)) _ hz, k TI (m TI (.inr (.inl rfl))) _ hTI, ⟨x, y, k TO (m TO (.inr (.inr (.inl rfl)))) _ hTO⟩,
      j1.at fun o q => k i1 (m i1 (.inr (.inr (.inr (.inl rfl))))) o q, j2.at fun o q => k i2 (m i2 (.inr (.inr (.inr (.inr rfl))))) o q⟩
  item := by
    intro X hP hw hK hc i pins s σ H E I hf st hg
    subst hP hw hK
    obtain ⟨hz, hTI, ⟨x0, y0, hTO⟩, j1, j2⟩ := st
    obtain ⟨xs, ys, x, y, hqx, hqy, hx, hy⟩ := hg
    obtain ⟨va, ra, pa, _⟩ := I.tuple hqx
    obtain ⟨vb, rb, pb, _⟩ := I.list hqy
    obtain ⟨u, hu, ru⟩ := ra.get hx
    obtain ⟨u2, hu2, ru2⟩ := rb.get hy
    have zlt : z < s.heap.objs.size := Heap.lt_size hz
    have hA : X.A.in1.handled = none := I.ok.hd hc
    refine wpAny_pyNext_zipD2_item S (Draws.tuple hA i1 a na va.toArray) (Draws.list hA i2 b nb vb.toArray) hz hTI hTO ⟨j1, pa⟩ ⟨j2, pb.isList⟩ (by simpa using (List.getElem?_eq_some_iff.mp hu).1) (by simpa using (List.getElem?_eq_some_iff.mp hu2).1)
      fun w1 w2 h1 tk y1 y2 g1 g2 g3 g4 g5 g6 g7 => ?_
    have ew1 : w1 = u := Option.some.inj (y1.symm.trans (by simpa using hu))
    have ew2 : w2 = u2 := Option.some.inj (y2.symm.trans (by simpa using hu2))
    subst ew1 ew2
    refine ⟨_, rfl, wpAny_letOwnedTupleGo_zip (s := { s with heap := h1, toks := tk }) g1 fun h2 e2 sb => ?_⟩
    have gT : h2.get? s.heap.objs.size = some { cls := .type "tuple", data := .seq #[w1, w2] } := (sb.2 _ (Nat.ne_of_gt zlt)).trans g5
    have new : ObjOk X.prog X.w (upd H s.heap.objs.size (.tup [x, y])) h2 s.heap.objs.size (.tup [x, y]) := ⟨by show 2 ≤ sizeLine; decide, [w1, w2], .cons ru (.cons ru2 .nil), ⟨_, gT, rfl, _, rfl⟩⟩
    have keep : ∀ c o, c ∉ fpz z TI TO i1 i2 → s.heap.get? c = some o → h2.get? c = some o := fun c o hb q => by
      have n : ∀ d, (d = z ∨ d = TI ∨ d = TO ∨ d = i1 ∨ d = i2) → c ≠ d := fun d hd e => hb (by rw [e]; simpa using hd)
      exact (sb.2 c (n z (.inl rfl))).trans (g7 c o (n z (.inl rfl)) (n TO (.inr (.inr (.inl rfl)))) (n i1 (.inr (.inr (.inr (.inl rfl))))) (n i2 (.inr (.inr (.inr (.inr rfl))))) q)
    have I1 : Inv X pins σ (upd H s.heap.objs.size (.tup [x, y])) { s with heap := h2, toks := tk } := I.turnedNew keep hf (Nat.le_refl _) new
    refine ⟨.ref s.heap.objs.size, _, I1, rfl, ⟨_, x, y, rfl, I.hok.fresh (Nat.le_refl _), rfl, fun l hl => by rw [I.tuple_inj hl hqx]; exact hx, fun l hl => by rw [I.list_inj hl hqy]; exact hy⟩, ⟨e2, ?_, ⟨w1, w2, ?_⟩, ?_, ?_⟩, fun c hcm => ?_⟩
    · exact (sb.2 _ S.TIz).trans (g7 _ _ S.TIz S.TITO S.TIi1 S.TIi2 hTI)
    · exact (sb.2 _ S.TOz).trans g2
    · exact g3.1.at fun o q => (sb.2 _ (Ne.symm S.zi1)).trans q
    · exact g4.1.at fun o q => (sb.2 _ (Ne.symm S.zi2)).trans q
    · have hlt : c < s.heap.objs.size := by
        rcases fpz_cases hcm with rfl | rfl | rfl | rfl | rfl
        · exact zlt
        · exact Heap.lt_size hTI
        · exact Heap.lt_size hTO
        · exact Heap.lt_size j1.choose_spec.1
        · exact Heap.lt_size j2.choose_spec.1
      rw [upd_ne (Nat.ne_of_lt hlt)]
      exact (hf c hcm).1
  done := by
    intro X hP hw hK hc i pins s σ H E I hf st hg
    subst hP hw hK
    obtain ⟨hz, hTI, ⟨x0, y0, hTO⟩, j1, j2⟩ := st
    obtain ⟨xs, ys, hqx, hqy, el, ei⟩ := hg
    obtain ⟨va, ra, pa, _⟩ := I.tuple hqx
    obtain ⟨vb, rb, pb, _⟩ := I.list hqy
    have l1 := ra.length
    have l2 := rb.length
    have hA : X.A.in1.handled = none := I.ok.hd hc
    refine wpAny_pyNext_zipD2_end S (Draws.tuple hA i1 a na va.toArray) (Draws.list hA i2 b nb vb.toArray) hz hTI hTO ⟨j1, pa⟩ ⟨j2, pb.isList⟩ (by rw [List.size_toArray]; omega) (by rw [List.size_toArray]; omega) (.inl (by rw [List.size_toArray]; omega)) fun h1 tk hk => ⟨rfl, I.turnedL (fun c o hb q => ?_) hf⟩
    have n : ∀ d, (d = z ∨ d = TI ∨ d = TO ∨ d = i1 ∨ d = i2) → c ≠ d := fun d hd e => hb (by rw [e]; simpa using hd)
    exact hk c o (n z (.inl rfl)) (n TO (.inr (.inr (.inl rfl)))) (n i1 (.inr (.inr (.inr (.inl rfl))))) (n i2 (.inr (.inr (.inr (.inr rfl))))) q
  self := fun A i s Q E st h => wpAny_pyIter_zip st.1 h
def iZipM (K : PySem.W.Frag) (ta : TA) : TI := fun σ H R => ta σ H fun vs H1 => ∃ a b xs ys, vs = [.ref a, .ref b] ∧ SqT K H1 a xs ∧ SqL K H1 b ys ∧ R (ItzM K a b) H1
theorem pi_zipM {X : Cx} {e e2 : Expr} {ta : TA} {p pos tpos : Pos} {elts : List Expr} {kk : Nat} (hg : Gl X "zip") (hm : X.mg "zip" = none) (ha : PA X [e, e2] ta)
    (hs : starEach [e, e2] X.env = (false, eval e X.env) :: starEach [e2] X.env := by rfl) (hpl : (backTo pos (starEach [e2] X.env)).any (·.1) = false := by rfl) :
    PI X (.Tuple elts kk tpos) (.Call (.Name "zip" p) [e, e2] [] pos) (iZipM X.K ta) := by
  refine ⟨fun pins s σ H R I h => Call_ (ld_blt I hg hm PyProof.Rows.boot_zip (PyProof.Rows.callWith_type1 (thn (ha.run pos pins s σ H _ I h) fun us s1 ⟨vs, H1, I1, r1, q1⟩ => ?_) hs hpl))⟩
  obtain ⟨a, b, xs, ys, rfl, hqx, hqy, q⟩ := q1
  obtain ⟨u1, u2, rfl, e1, e2⟩ : ∃ u1 u2, us = [u1, u2] ∧ L2.RelV (.ref a) u1 ∧ L2.RelV (.ref b) u2 := by
    cases r1 with
    | cons r rr =>
      cases rr with
      | cons r' rr =>
        cases rr
        exact ⟨_, _, rfl, r, r'⟩
  obtain rfl : u1 = Value.ref a := e1
  obtain rfl : u2 = Value.ref b := e2
  obtain ⟨va, ra, pa, _⟩ := I1.tuple hqx
  obtain ⟨vb, rb, pb, _⟩ := I1.list hqy
  have la : a < s1.heap.objs.size := Heap.lt_size pa.choose_spec.1
  have lb : b < s1.heap.objs.size := pb.lt
  refine zip_begins2 (begins_tuple a va.toArray) (begins_list b vb.toArray) pa pb.isList fun h1 hz hTI hTO g1 g2 gs gk => wpAny_pyIter_zip hz ?_
  have I2 : Inv X pins σ H1 { s1 with heap := h1 } := I1.kept (t' := s1.toks) gk
  have S := zip_sep2 (N := s1.heap.objs.size) (fp1 := [a]) (fp2 := [b]) (fun c hc => by rw [List.mem_singleton.mp hc]; exact la) (fun c hc => by rw [List.mem_singleton.mp hc]; exact lb)
  refine ⟨s1.heap.objs.size + 4, _, _, _, H1, rfl, I2, turn_zipM S (Nat.ne_of_lt la) (Nat.ne_of_lt (Nat.lt_succ_of_lt lb)), ⟨hz, hTI, ⟨_, _, hTO⟩, ⟨_, g1, rfl, rfl⟩, ⟨_, g2, rfl, rfl⟩⟩, fun c hc => ?_, q⟩
  have hle : s1.heap.objs.size ≤ c := by
    rcases fpz_cases hc with rfl | rfl | rfl | rfl | rfl
    · exact Nat.le_add_right _ _
    · exact Nat.le_add_right _ _
    · exact Nat.le_add_right _ _
    · exact Nat.le_refl _
    · exact Nat.le_add_right _ _
  exact I1.fpOk hle (I1.hok.fresh hle)
/-- a loop over zip of a tuple and a list of one length -/
theorem for_zipM {K : PySem.W.Frag} {a b : Addr} {xs ys : List V} {g : TG} {tb : TS} {D : Ends} {σ : L2.St} {H : Hp} (hl : xs.length = ys.length) (Pv : Nat → L2.St → Hp → Prop) (h0 : Pv 0 σ H) (hq : ∀ i σ H, Pv i σ H → SqT K H a xs ∧ SqL K H b ys)
    (hs : ∀ (i : Nat) (x y : V) (T : Addr) (σ : L2.St) (H : Hp), xs[i]? = some x → ys[i]? = some y → Pv i σ H → H T = none → g (.ref T) σ (upd H T (.tup [x, y])) fun σ2 H2 => tb { D with nx := Pv (i + 1), ct := Pv (i + 1), bk := D.nx } σ2 H2) (hd : ∀ σ H, Pv xs.length σ H → D.nx σ H) :
    ∃ W : Nat → Nat → L2.St → Hp → Prop, (∃ m, W 0 m σ H) ∧ ∀ i m σ H, W i m σ H →
      ((ItzM K a b).stop i H ∧ D.nx σ H) ∨ ((ItzM K a b).go i H ∧ ∃ N : L2.St → Hp → Prop, (∀ σ' H', N σ' H' → ∃ m', m' < m ∧ W (i + 1) m' σ' H') ∧ ∀ v H', (ItzM K a b).yld i H v H' → g v σ H' fun σ2 H2 => tb { D with nx := N, ct := N, bk := D.nx } σ2 H2) := by
  refine ⟨fun i m σ H => m = xs.length - i ∧ i ≤ xs.length ∧ Pv i σ H, ⟨xs.length, rfl, Nat.zero_le _, h0⟩, fun i m σ H hW => ?_⟩
  obtain ⟨rfl, hi, p⟩ := hW
  obtain ⟨qx, qy⟩ := hq i σ H p
  rcases Nat.lt_or_ge i xs.length with hlt | hge
  · have hx : xs[i]? = some xs[i] := List.getElem?_eq_getElem hlt
    have hy : ys[i]? = some (ys[i]'(by omega)) := List.getElem?_eq_getElem (by omega)
    refine .inr ⟨⟨xs, ys, _, _, qx, qy, hx, hy⟩, Pv (i + 1), fun σ' H' q => ⟨xs.length - (i + 1), by omega, rfl, hlt, q⟩, fun v H' hv => ?_⟩
    obtain ⟨T, x, y, rfl, hT, rfl, fx, fy⟩ := hv
    exact hs i x y T σ H (fx xs qx) (fy ys qy) p hT
  · obtain rfl : i = xs.length := by omega
    exact .inl ⟨⟨xs, ys, qx, qy, hl, rfl⟩, hd σ H p⟩
end RH
set_option Elab.async false
set_option linter.all false
set_option maxRecDepth 100000
set_option maxHeartbeats 2000000
/-! Defs and methods that may raise, lambdas handed back that are called without arguments and may raise, what an except suite asks of its error. -/
set_option Elab.async false
set_option linter.all false
set_option maxRecDepth 100000
set_option maxHeartbeats 4000000
/-! own errors whose __init__ asks super().__init__ first -/
namespace L2
open PySem PySem.Calls PySem.Spec PyProof.Rows PySem.W
open NdefX (NScope NF CellsAt startF ncx envF inv_startN)
end L2
/-! ### isinstance of an error with a dict -/
namespace PySem.W
open PySem PySem.Spec PySem.Calls PyProof.Rows
end PySem.W
namespace L2
open PySem PySem.Spec PyProof.Rows
/-! ### f-strings with None -/
end L2
set_option Elab.async false
set_option linter.all false
set_option maxRecDepth 100000
set_option maxHeartbeats 2000000
/-! Sets of ints, made of a list, of a display, of a comprehension; the tuple of a dict's keys. -/
namespace RH
open PySem PySem.Spec PyProof.Rows L2
/-! ### the tuple of a dict's keys -/
/-! ### a set display of two ints -/
/-! ### set(xs) of a list of ints -/
section
variable {M : Program} {w : World} {A : Around} {E : Value → Shared → Prop} {s : Shared}
/-- what a new set is -/
abbrev bare (w : World) : Obj := { cls := .type "set", dict := none, data := .set #[] 0 (.fresh 0 0 (!w.params.followText "set-order")) }
theorem bare_get (h : Heap) (w : World) : (h.push (bare w)).get? h.objs.size = some (bare w) := Heap.get?_push_size _ rfl
end
end RH
set_option Elab.async false
set_option linter.all false
set_option maxRecDepth 100000
set_option maxHeartbeats 2000000
/-! A set comprehension whose members are ints. -/
set_option Elab.async false
set_option linter.all false
set_option maxRecDepth 100000
set_option maxHeartbeats 2000000
/-! Lambdas with a default, as values that a def of the text calls without arguments, and that may raise. -/
set_option Elab.async false
set_option linter.all false
set_option maxRecDepth 100000
set_option maxHeartbeats 2000000
/-! try with several except clauses, each with a name. -/
namespace RH
open PySem PySem.Spec PyProof.Rows L2
/-- an error of class cls that has come to the try of X, at the heap h -/
structure Caught (X : Cx) (pins : List (Addr × Obj)) (a : Addr) (cls : Value) (d : Option Addr) (σ : L2.St) (H : Hp) (s : Shared) : Prop where
  ex : ∃ (B : Heap) (sI : Shared), Inv X pins σ H sI ∧ (∀ b o, sI.heap.get? b = some o → b ∉ frs X.stack → B.get? b = some o) ∧ sI.heap.UpToSlots s.heap ∧ HandSPX.FlyingZ B (X.env :: X.outer) a (Zc cls d) s.heap ∧ s.os = sI.os ∧ AllBare s.gens
  na : H a = none
section
variable {X : Cx} {pins : List (Addr × Obj)} {a : Addr} {cls : Value} {d : Option Addr} {σ : L2.St} {H : Hp} {s : Shared}
/-- no clause takes it -/
theorem Caught.on {W : WX} {D : Ends} (c : Caught X pins a cls d σ H s) (hs : X.stack = X.env :: X.outer) (hf : X.env.frame = some X.env.locals) (tk : Takes X W) (w : W cls d σ H) : wpAny (model X.prog X.w) X.A (handleBy (.ref a) X.env []) (SP X pins D) X.xe s := by
  obtain ⟨B, sI, I, nb, up, fl, os, ag⟩ := c.ex
  refine wpAny_handleBy_nil ?_
  obtain ⟨_, _, _, oe, vs, T, oT, ts, at_, z, dat, one, _⟩ := id fl
  unfold PySem.passOn
  refine wpAny_bind (wpAny_field at_ dat one ?_)
  rw [if_neg (by simp : ¬ ((Value.ref T == Value.none) = true)), hf]
  have out : wpAny (model X.prog X.w) X.A (setFlight (.ref a) (some X.env.locals)) (fun _ s4 => wpAny (model X.prog X.w) X.A (throw (.ref a) : Sem Flow) (SP X pins D) X.xe s4) X.xe s :=
    HandSPX.setFlight_upZ fl fun h4 hh up4 => wpAny_throw (tk _ _ ⟨a, B, sI, pins, σ, H, cls, d, rfl, I, nb, up.trans up4, .inr (.inr (hs ▸ hh)), c.na, os, ag, w⟩)
  first
    | exact wpAny_bind (wpAny_pure (wpAny_bind out))
    | exact wpAny_bind out
end
end RH
set_option Elab.async false
set_option linter.all false
set_option maxRecDepth 100000
set_option maxHeartbeats 2000000
/-! sorted(range(n), key=f) and sorted(xs, key=f), f a lambda that may see names of the def; tuple.count. -/
namespace RH
open PySem PySem.Spec PyProof.Rows L2
/-! ### keys that stay -/
section
variable {K : PySem.W.Frag} {H H' : Hp}
theorem rdUp (e : Same H H') {b : Addr} {o : HO} (r : Rd H b o) : Rd H' b o := r.elim (fun z => .inl (e _ _ z)) fun ⟨ob, z⟩ => .inr ⟨ob, e _ _ z⟩
theorem keyUp (e : Same H H') {v : V} {d : PyData} (h : Dp K H v d) : Dp K H' v d :=
  Dp.rec (motive_1 := fun v d _ => Dp K H' v d) (motive_2 := fun vs ds _ => DpAll K H' vs ds) .non .bl .int .str (fun hs _ t => .lst (hs.imp_left (rdUp e)) t) (fun hs _ t => .tup (hs.imp_left (rdUp e)) t) .nil (fun _ _ a b => .cons a b) h
end
/-- the keys made so far: for each value a V, and its data -/
inductive KeysOk (K : PySem.W.Frag) (H : Hp) : List Value → List PyData → Prop
  | nil : KeysOk K H [] []
  | cons {u : Value} {us : List Value} {d : PyData} {ds : List PyData} (v : V) : RelV v u → Dp K H v d → KeysOk K H us ds → KeysOk K H (u :: us) (d :: ds)
section
variable {K : PySem.W.Frag} {H H' : Hp} {us : List Value} {ds : List PyData}
theorem KeysOk.up (e : Same H H') (k : KeysOk K H us ds) : KeysOk K H' us ds := by
  induction k with
  | nil => exact .nil
  | cons v r h _ ih => exact .cons v r (keyUp e h) ih
theorem KeysOk.more {u : Value} {d : PyData} {v : V} (k : KeysOk K H us ds) (r : RelV v u) (h : Dp K H v d) : KeysOk K H (us ++ [u]) (ds ++ [d]) := by
  induction k with
  | nil => exact .cons v r h .nil
  | cons v' r' h' _ ih => exact .cons v' r' h' ih
theorem KeysOk.size (k : KeysOk K H us ds) : us.length = ds.length := by
  induction k with
  | nil => rfl
  | cons _ _ _ _ ih => rw [List.length_cons, List.length_cons, ih]
end
/-- f gives the key kd x of each item x, from any state that has come since H -/
def KeyAt (X : Cx) (A : Around) (σ : L2.St) (f : Addr) (H : Hp) (xs : List V) (kd : V → PyData) : Prop :=
  ∀ (pins : List (Addr × Obj)) (H' : Hp) (s : Shared) (x : V) (u : Value), Inv X pins σ H' s → Same H H' → x ∈ xs → RelV x u →
    wpAny (model X.prog X.w) A (call (.ref f) [u]) (EP X pins σ fun v H2 => Dp X.K H2 v (kd x) ∧ Same H' H2) (fun _ _ => False) s
theorem pin_get {X : Cx} {pins : List (Addr × Obj)} {σ : L2.St} {H : Hp} {s : Shared} {h : Heap} {fp : List Addr} (I : Inv X (pins ++ pinsAt fp h) σ H s) {b : Addr} {o : Obj} (hb : b ∈ fp) (e : h.get? b = some o) : s.heap.get? b = some o ∧ H b = none := by
  have q := I.pin (b, o) (List.mem_append_right _ (List.mem_append_right _ (mem_pinsAt hb e)))
  exact ⟨q.1, q.2.1⟩
/-! ### list.sort(key=f) over a list of our own -/
section
variable {X : Cx} {A : Around} {pins : List (Addr × Obj)} {σ : L2.St} {H : Hp} {a kS f : Addr} {xs : List V} {kd : V → PyData} {e1 : Nat}
theorem fp_from {H' : Hp} {b : Addr} (h : FpOk X pins H b) (n : H' b = none) : FpOk X pins H' b := ⟨n, h.2⟩
/-- while the keys are made: the list is empty, the keys so far are kept beside -/
structure Making (X : Cx) (pins : List (Addr × Obj)) (σ : L2.St) (H : Hp) (a kS : Addr) (e1 : Nat) (ds : List PyData) (H' : Hp) (ks : Array Value) (e : Nat) (s : Shared) : Prop where
  inv : Inv X pins σ H' s
  same : Same H H'
  na : H' a = none
  nk : H' kS = none
  la : s.heap.get? a = some (seqObj "list" #[] e1)
  lk : s.heap.get? kS = some (seqObj "list" ks e)
  ok : KeysOk X.K H' ks.toList ds
theorem seq_nocell {t : String} {vs : Array Value} {n : Nat} : ∀ v, (seqObj t vs n).data ≠ .cell v := fun v z => by cases z
theorem Making.call {ds : List PyData} {H' : Hp} {ks : Array Value} {e : Nat} {s : Shared} {x : V} {u : Value} (M : Making X pins σ H a kS e1 ds H' ks e s) (fa : FpOk X pins H a) (fk : FpOk X pins H kS) (hK : KeyAt X A σ f H xs kd) (hx : x ∈ xs) (r : RelV x u) :
    wpAny (model X.prog X.w) A (call (.ref f) [u]) (fun w s2 => ∃ H2 v, Making X pins σ H a kS e1 ds H2 ks e s2 ∧ RelV v w ∧ Dp X.K H2 v (kd x)) (fun _ _ => False) s := by
  have J : Inv X (pins ++ pinsAt [a, kS] s.heap) σ H' s := M.inv.pinned (fun b hb => ?_) fun b hb => ?_
  · refine wpAny_mono (hK _ H' s x u J M.same hx r) (fun w s2 ⟨v, H2, I2, rv, dv, sm⟩ => ?_) fun _ _ z => z
    obtain ⟨ga, ha⟩ := pin_get I2 (List.Mem.head _) M.la
    obtain ⟨gk, hk⟩ := pin_get I2 (List.Mem.tail _ (List.Mem.head _)) M.lk
    exact ⟨H2, v, ⟨I2.unpinned, M.same.trans sm, ha, hk, ga, gk, M.ok.up sm⟩, rv, dv⟩
  · rcases List.mem_cons.mp hb with rfl | hb
    · exact fp_from fa M.na
    · rw [List.mem_singleton.mp hb]
      exact fp_from fk M.nk
  · rcases List.mem_cons.mp hb with rfl | hb
    · exact ⟨_, M.la, seq_nocell⟩
    · rw [List.mem_singleton.mp hb]
      exact ⟨_, M.lk, seq_nocell⟩
theorem Making.push {ds : List PyData} {H' : Hp} {ks : Array Value} {e : Nat} {s : Shared} {w : Value} {v : V} {d : PyData} (M : Making X pins σ H a kS e1 ds H' ks e s) (fk : FpOk X pins H kS) (hka : kS ≠ a) (rv : RelV v w) (dv : Dp X.K H' v d) :
    ∃ e', Making X pins σ H a kS e1 (ds ++ [d]) H' (ks.push w) e' { s with heap := s.heap.update kS (Obj.mapSeq (·.push w)) } := by
  have apart := Heap.SameBut.update s.heap kS (Obj.mapSeq (·.push w))
  refine ⟨_, M.inv.turned (t' := s.toks) (it := kS) (fun b o hb z => (apart.2 b hb).trans z) M.nk fk.2.1 fk.2.2.2.1 fk.2.2.2.2.1 fk.2.2.2.2.2, M.same, M.na, M.nk, (apart.2 a hka.symm).trans M.la, get?_update_seq M.lk (·.push w), ?_⟩
  rw [Array.toList_push]
  exact M.ok.more rv dv
end
/-! ### sorted(.., key=f) -/
/-! ### ranges of one bound, tuple.count -/
end RH
set_option Elab.async false
set_option linter.all false
set_option maxRecDepth 100000
set_option maxHeartbeats 2000000
/-! t[::-1] of a tuple; list(range(a, b, -1)). -/
namespace RH
open PySem PySem.Spec PyProof.Rows L2
section
variable {prog : Program} {w : World} {A : Around} {E : Value → Shared → Prop} {s : Shared}
theorem back_places (n : Nat) : Builtin.Slice.slicePlaces ((n : Int) - 1) (-1) (-1) = n := by
  unfold Builtin.Slice.slicePlaces
  rw [if_neg (by decide)]
  by_cases h : (n : Int) - 1 > -1
  · rw [if_pos h]
    have e : ((n : Int) - 1 - -1 - 1) / - -1 = (n : Int) - 1 := by
      rw [show - -1 = (1 : Int) from rfl, Int.ediv_one]
      omega
    rw [e]
    omega
  · rw [if_neg h]
    have : n = 0 := by omega
    subst this
    rfl
theorem back_pick (xs : Array Value) : ((List.range xs.size).filterMap fun k : Nat => xs[((xs.size : Int) - 1 + (k : Int) * -1).toNat]?).toArray = xs.toList.reverse.toArray := by
  refine congrArg List.toArray ?_
  have e : ∀ k ∈ List.range xs.size, xs[((xs.size : Int) - 1 + (k : Int) * -1).toNat]? = some (xs.toList.reverse.getD k .none) := fun k hk => by
    have hk := List.mem_range.mp hk
    rw [show ((xs.size : Int) - 1 + (k : Int) * -1).toNat = xs.size - 1 - k by omega, List.getD_eq_getElem?_getD, List.getElem?_reverse (by rw [Array.length_toList]; exact hk), Array.length_toList, Array.getElem?_toList, Array.getElem?_eq_getElem (by omega)]
    rfl
  have e2 : ∀ l : List Nat, (∀ k ∈ l, xs[((xs.size : Int) - 1 + (k : Int) * -1).toNat]? = some (xs.toList.reverse.getD k .none)) → l.filterMap (fun k : Nat => xs[((xs.size : Int) - 1 + (k : Int) * -1).toNat]?) = l.map fun k => xs.toList.reverse.getD k .none := fun l h => by
    induction l with
    | nil => rfl
    | cons k l ih => rw [List.filterMap_cons, h k (List.mem_cons_self ..), List.map_cons, ih fun j hj => h j (List.mem_cons_of_mem _ hj)]
  rw [e2 _ e]
  refine List.ext_getElem (by rw [List.length_map, List.length_range, List.length_reverse, Array.length_toList]) fun i h1 h2 => ?_
  rw [List.getElem_map, List.getElem_range, List.getD_eq_getElem?_getD, List.getElem?_eq_getElem h2]
  rfl
/-- what a slice with the step -1 alone comes to -/
theorem back_applied {sl : Addr} {n : Nat} {t : Tok} {Q : Int × Int × Nat → Shared → Prop} (hs : s.heap.IsSliceOf sl .none .none (.int (-1) t)) (h : Q ((n : Int) - 1, -1, n) s) : wpAny (model prog w) A (Builtin.Slice.sliceApplied (.ref sl) (pure (n : Int))) Q E s := by
  obtain ⟨os, hos, hcs, hds⟩ := id hs
  unfold Builtin.Slice.sliceApplied Builtin.Slice.sliceFields
  refine wpAny_bind (wpAny_bind (wpAny_field hos hds (x := .none) rfl (wpAny_bind (wpAny_field hos hds (x := .none) rfl (wpAny_bind (wpAny_field hos hds (x := .int (-1) t) rfl (wpAny_pure ?_)))))))
  refine wpAny_bind (HT.slicePart_ (.int (-1) t) ?_)
  show wpAny _ _ (if ((-1 : Int) == 0) = true then _ else _) _ _ s
  rw [if_neg (by decide)]
  refine wpAny_bind (HT.slicePart_ .none (wpAny_bind (HT.slicePart_ .none (wpAny_bind (wpAny_pure ?_)))))
  have e : Builtin.Slice.sliceAdjust none none (-1) (n : Int) = ((n : Int) - 1, -1) := rfl
  show wpAny _ _ (match Builtin.Slice.sliceAdjust none none (-1) (n : Int) with | (lo, hi) => pure (lo, (-1 : Int), Builtin.Slice.slicePlaces lo hi (-1))) _ _ s
  rw [e]
  show wpAny _ _ (pure ((n : Int) - 1, (-1 : Int), Builtin.Slice.slicePlaces ((n : Int) - 1) (-1) (-1))) _ _ s
  rw [back_places]
  exact wpAny_pure h
theorem item_back {t sl : Addr} {tk : Tok} {its : List Value} {Q : Value → Shared → Prop} (ht : IsTup s.heap t its.toArray) (hs : s.heap.IsSliceOf sl .none .none (.int (-1) tk)) (hz : its.length ≤ sizeLine)
    (h : Q (.ref s.heap.objs.size) { s with heap := s.heap.push { cls := .type "tuple", data := .seq its.reverse.toArray } }) : wpAny (model prog w) A (getItem (.ref t) (.ref sl)) Q E s := by
  obtain ⟨os, hos, hcs, hds⟩ := id hs
  have hTs : s.TypeIs (.ref sl) "slice" := ⟨os, hos, hcs⟩
  have room : sizeOk (.seq its.reverse.toArray) := by
    show its.reverse.toArray.size ≤ sizeLine
    rw [List.size_toArray, List.length_reverse]
    exact hz
  unfold getItem
  try with_reducible refine wpAny_holding ?_
  first | refine wpAny_bind (wpAny_pure ?_) | skip
  refine wpAny_bind (wpAny_sequenceKey ht.typeIs (by decide) ?_)
  refine wpAny_bind (wpAny_callSpecial?_slot (name := Str.ofString "__getitem__") ht.typeIs PyProof.Rows.slot_tuple_getitem
    (wpAny_call_entry PyProof.Rows.slot_tuple_getitem ht.typeIs entry_tuple_getitem ?_ (args_tuple_getitem _ _)))
  show wpAny _ _ (Builtin.Tuple.tupleItemsOf (.ref t) >>= _) _ _ s
  refine wpAny_bind (tupleItemsOf_ ht ?_)
  refine wpAny_bind (wpAny_typeOf hTs ?_)
  rw [if_pos (by decide)]
  refine wpAny_bind (back_applied hs ?_)
  have hno : ¬ (((its.toArray.size : Int) - 1 == 0 && (-1 : Int) == 1 && its.toArray.size == its.toArray.size) = true) := by
    rw [show ((-1 : Int) == 1) = false from rfl, Bool.and_false, Bool.false_and]
    exact Bool.false_ne_true
  show wpAny _ _ (if ((its.toArray.size : Int) - 1 == 0 && (-1 : Int) == 1 && its.toArray.size == its.toArray.size) = true then _ else _) _ _ s
  rw [if_neg hno, back_pick, List.toList_toArray]
  first
    | exact wpAny_bind (m := Builtin.Tuple.tupleExact _) (wpAny_newObj_type (wpAny_pure ⟨_, rfl, wpAny_pure h⟩) room)
    | exact wpAny_bind (m := Builtin.Tuple.tupleExact _) (wpAny_newObj_type (wpAny_bind (wpAny_pure (wpAny_pure ⟨_, rfl, wpAny_pure h⟩))) room)
    | exact wpAny_bind (wpAny_bind (m := Builtin.Tuple.tupleExact _) (wpAny_newObj_type (wpAny_pure (wpAny_pure ⟨_, rfl, wpAny_pure h⟩)) room))
    | exact wpAny_bind (wpAny_bind (m := Builtin.Tuple.tupleExact _) (wpAny_newObj_type (wpAny_pure ⟨_, rfl, wpAny_pure h⟩) room))
end
/-- t[::-1] -/
def tBack (K : PySem.W.Frag) (te : TE) : TE := fun σ H Q => te σ H fun x H1 => ∃ a xs, x = .ref a ∧ SqT K H1 a xs ∧ ∀ p, H1 p = none → Q (.ref p) (upd H1 p (.tup xs.reverse))
section
variable {X : Cx}
theorem pe_back {e : Expr} {te : TE} {k : Nat} {p1 p2 p3 pos : Pos} (K : PySem.W.Frag) (he : PE X e te) (hK : X.K = K := by rfl) : PE X (.Subscript e (.Slice none none (some (.UnaryOp .USub (.Constant (.int 1) k p1) p2)) p3) pos) (tBack K te) := by
  subst hK
  have step : PO X (some (.UnaryOp .USub (.Constant (.int 1) k p1) p2)) (tPart (tUn (rU fun i => .int (-i)) (tC (.int 1)))) := po_some (pe_un un_neg pe_int)
  refine ⟨fun pins s σ H Q I h => Subscript_ (thn (he.run pins s σ H _ I h) fun v s1 ⟨x, H1, I1, r1, a, xs, ex, hx, q⟩ => ?_)⟩
  subst ex
  obtain rfl : v = Value.ref a := r1
  refine wpAny_Slice (thn (po_none.run pins s1 σ H1 (fun o H2 => o = none ∧ H2 = H1) I1 ⟨rfl, rfl⟩) fun vl s2 ⟨l, H2, I2, pl, el, e2⟩ => ?_)
  subst el e2
  refine thn (po_none.run pins s2 σ H2 (fun o H3 => o = none ∧ H3 = H2) I2 ⟨rfl, rfl⟩) fun vu s3 ⟨u, H3, I3, pu, eu, e3⟩ => ?_
  subst eu e3
  refine thn (step.run pins s3 σ H3 (fun o H4 => o = some (-1) ∧ H4 = H3) I3 ⟨1, rfl, -1, rfl, rfl, rfl⟩) fun vs s4 ⟨o, H4, I4, ps, eo, e4⟩ => ?_
  subst eo e4
  cases pl
  cases pu
  cases ps with
  | int _ tk =>
    have I5 : Inv X pins σ H4 { s4 with heap := s4.heap.push { cls := .type "slice", data := .fields #[.none, .none, .int (-1) tk] } } := I4.kept (t' := s4.toks) fun b ob q => Heap.get?_push_of_some _ q
    obtain ⟨its, r, ht, hz⟩ := I5.tuple hx
    show wpAny (model X.prog X.w) X.A (subscriptTail e (.Slice none none (some (.UnaryOp .USub (.Constant (.int 1) k p1) p2)) p3) (.ref a) (.ref s4.heap.objs.size)) (EP X pins σ Q) X.xe { s4 with heap := s4.heap.push { cls := .type "slice", data := .fields #[.none, .none, .int (-1) tk] } }
    refine tail_any (ops := [.ref a, .ref s4.heap.objs.size]) ht.typeIs PyProof.Rows.slot_tuple_getitem.lookup ?_ (by with_unfolding_all rfl)
    refine item_back ht (Heap.IsSliceOf.new _ _ _ _) (by rw [← r.length]; exact hz) ?_
    refine ⟨.ref _, _, I5.laid (t' := s4.toks) (o := .tup xs.reverse) (fun b ob q => Heap.get?_push_of_some _ q) (Nat.le_refl _) ?_, rfl, q _ (I5.hok.fresh (Nat.le_refl _))⟩
    exact ⟨by rw [List.length_reverse]; exact hz, _, r.reverse, IsTup.new _ _⟩
end
end RH
set_option Elab.async false
set_option linter.all false
set_option maxRecDepth 100000
set_option maxHeartbeats 3200000
/-! Sets that are made of a tuple, whatever the members are; `in` of data; a set of one tuple. -/
namespace RH
open PySem PySem.Spec PyProof.Rows L2
/-! ### a set gathers a tuple's members -/
/-- how a set S grows: Gr i holds behind i members; U bounds how deep it may be asked -/
structure Gathers (M : Program) (w : World) (U : Nat) (h0 : Heap) (S : Addr) (cells : Array Value) (Gr : Nat → Heap → Prop) : Prop where
  keep : ∀ i h h', Gr i h → (∀ o, h.get? S = some o → h'.get? S = some o) → (∀ b o, h0.get? b = some o → h'.get? b = some o) → Gr i h'
  add : ∀ (A : Around) (E : Value → Shared → Prop) i v (s : Shared) (Q : Bool → Shared → Prop), A.units ≤ U → cells[i]? = some v → (∀ b o, h0.get? b = some o → s.heap.get? b = some o) → Gr i s.heap →
    (∀ b h' tk, s.toks ≤ tk → Heap.SameBut S s.heap h' → Gr (i + 1) h' → Q b { s with heap := h', toks := tk }) → wpAny (model M w) A (setAdd S v) Q E s
section
variable {M : Program} {w : World} {A : Around} {U : Nat} {h0 : Heap} {S : Addr} {cells : Array Value} {Gr : Nat → Heap → Prop}
theorem gather_loop {I : Addr} {fp wr : List Addr} {G : Array GenState → Array GenState → Prop} {Pv : Nat → Value → Prop} {Wt : Nat → Shared → Prop} {R : Result → Shared → Prop} (W : WalksS M w A.in1 I fp wr G cells.size Pv Wt) (apart : S ∉ fp)
    (vals : ∀ i v, Pv i v → cells[i]? = some v) (g : Gathers M w U h0 S cells Gr) (newS : h0.get? S = none) (newW : ∀ b ∈ wr, h0.get? b = none) (deep : A.in1.units ≤ U) :
    ∀ (m i : Nat) (s : Shared), m + i = cells.size → Wt i s → (∀ b o, h0.get? b = some o → s.heap.get? b = some o) → Gr i s.heap →
      (∀ s', Moved (S :: wr) G s s' → Gr cells.size s'.heap → (∀ b o, h0.get? b = some o → s'.heap.get? b = some o) → R (.ok (.ret .none)) s') → codeAny (model M w) A (.builtin "set.update.loop" ⟨[.ref S, .ref I], []⟩) R s := by
  have apartW : S ∉ wr := fun z => apart (W.sub _ z)
  have wider : ∀ b ∈ wr, b ∈ S :: wr := fun b z => List.mem_cons_of_mem _ z
  have old : ∀ {s s' : Shared}, Moved wr G s s' → (∀ b o, h0.get? b = some o → s.heap.get? b = some o) → ∀ b o, h0.get? b = some o → s'.heap.get? b = some o := fun mv k b o e => by
    refine mv.heap b o (fun z => ?_) (k b o e)
    have := newW b z
    rw [e] at this
    cases this
  intro m
  induction m with
  | zero =>
    intro i s ei st k gr fin
    obtain rfl : i = cells.size := by omega
    refine codeAny_builtin F.entry_set_update_loop ?_
    rw [Around.under_plainId F.plain_set_update_loop _]
    refine wpAny_bind (W.done s _ _ st fun s' mv => ?_)
    have k2 := old mv k
    exact wpAny_pure (fin s' (mv.mono wider) (g.keep _ _ _ gr (fun o e => mv.heap S o apartW e) k2) k2)
  | succ m ih =>
    intro i s ei st k gr fin
    refine codeAny_builtin F.entry_set_update_loop ?_
    rw [Around.under_plainId F.plain_set_update_loop _]
    refine wpAny_bind (W.item i s _ _ (by omega) st fun v s1 pv st1 mv => ?_)
    have k1 := old mv k
    have gr1 := g.keep _ _ _ gr (fun o e => mv.heap S o apartW e) k1
    refine wpAny_bind (wpAny_holding (g.add _ _ i v s1 _ deep (vals i v pv) k1 gr1 fun b h2 tk le sb gr2 => ?_))
    have k2 : ∀ b o, h0.get? b = some o → h2.get? b = some o := fun b o e => by
      rw [sb.2 b (fun z => by rw [z, newS] at e; cases e)]
      exact k1 b o e
    refine wpAny_pure ⟨plainId_quiet F.plain_set_update_loop _, ih (i + 1) _ (by omega) (W.frame _ s1 _ _ st1 le fun b hb o e => ?_) k2 gr2 fun s3 mv3 gr3 k3 => ?_⟩
    · rw [sb.2 b (fun z : b = S => apart (by rw [← z]; exact hb))]
      exact e
    · refine fin s3 (Moved.trans W.gtrans ((mv.mono wider).then_heap le fun b o hb e => ?_) mv3) gr3 k3
      rw [sb.2 b (fun z : b = S => hb (by rw [z]; exact List.mem_cons_self))]
      exact e
theorem tup_no_set : isSubtype (.type "tuple") (.type "set") = pure false := by rw [isSubtype_type]; kernel_rfl
theorem tup_no_frozen : isSubtype (.type "tuple") (.type "frozenset") = pure false := by rw [isSubtype_type]; kernel_rfl
end
section
variable {M : Program} {w : World} {A : Around} {E : Value → Shared → Prop} {s : Shared} {U : Nat} {cells : Array Value} {Gr : Nat → Heap → Prop}
/-- set(t) of a tuple t -/
theorem setT_call {l : Addr} {Q : Value → Shared → Prop} (free : A.handled = none) (isl : s.heap.IsTuple l cells) (g : Gathers M w U s.heap s.heap.objs.size cells Gr) (deep : A.units + 5 ≤ U)
    (start : ∀ h, h.get? s.heap.objs.size = some (bare w) → (∀ b o, s.heap.get? b = some o → h.get? b = some o) → Gr 0 h)
    (fin : ∀ (h2 : Heap) (k2 : Nat), Gr cells.size h2 → (∀ b o, s.heap.get? b = some o → h2.get? b = some o) → Q (.ref s.heap.objs.size) { s with heap := h2, toks := k2 }) :
    wpAny (model M w) A (call (.type "set") [.ref l]) Q E s := by
  obtain ⟨c, tl, hmro⟩ := F.called_set.mro
  have y1 := F.called_set.made
  have y2 := F.called_set.sub
  refine wpAny_call (codeAny_of_tree (wpAny_pure ⟨Code.quiet_builtin _ (by decide +kernel), codeAny_builtin F.entry_type_call ?_⟩))
  rw [Around.under_plain (weight_type_call_type "set" [.ref l] []) rfl]
  have y3 := F.called_set.notType
  have y4 := F.called_set.canCreate
  have y5 := F.typeCall_set_1 (.ref l)
  repeat (any_goals (first | assumption | wp_step))
  refine codeAny_mono (code_set_led1 (.ref l) (E := E) (Q₁ := fun obj s1 => obj = .ref s.heap.objs.size ∧ s1 = { s with heap := s.heap.push (bare w) }) ⟨rfl, rfl⟩) fun r s1 got => ?_
  cases r with
  | error e => exact got
  | ok fl =>
    cases fl with
    | ret obj =>
      obtain ⟨rfl, rfl⟩ := got
      have there := bare_get s.heap w
      have kind : Shared.TypeIs { s with heap := s.heap.push (bare w) } (.ref s.heap.objs.size) "set" := ⟨_, there, rfl⟩
      have y6 := F.called_set.init.lookup
      have y7 := F.called_set.init.bind (.ref s.heap.objs.size)
      repeat (any_goals (first | assumption | wp_step))
      refine codeAny_mono (codeAny_call_builtin (R := wants (fun r s2 => r = .none ∧ ∃ h2 k2, s2 = { s with heap := h2, toks := k2 } ∧ Gr cells.size h2 ∧ (∀ b o, s.heap.get? b = some o → h2.get? b = some o)) E)
        F.called_set.init.plain F.entry_set_init (check_set_init_1 kind ?_)) fun r2 s2 got2 => ?_
      · obtain ⟨⟨ocls, odict, odata, oslots⟩, hol, hcl, nl, hdl⟩ := isl
        simp only at hcl hdl
        subst hcl; subst hdl
        have hol2 : (s.heap.push (bare w)).get? l = some { cls := .type "tuple", dict := odict, data := .seq cells nl, slots := oslots } := Heap.get?_push_of_some _ hol
        have y8 := tup_no_set
        have y9 := tup_no_frozen
        have y10 : (Value.type "tuple" == Value.type "dict") = false := by decide
        have isl2 : (s.heap.push (bare w)).IsTuple l cells := ⟨_, hol2, rfl, nl, rfl⟩
        unfold Builtin.«set.__init__» noKeywords Builtin.Frozenset.updateFrom
        generalize hPI : pyIter = PI
        wp_walk
        subst hPI
        refine wpAny_pyIter_tuple isl2 (wpAny_bind (wpAny_runValue ?_))
        have below : l < s.heap.objs.size := Heap.lt_size hol
        have free3 : A.in1.in1.in1.handled = none := by simp [free]
        have other : l ≠ (s.heap.push (bare w)).objs.size := fun z => by
          rw [Heap.size_push] at z
          exact absurd z (Nat.ne_of_lt (Nat.lt_succ_of_lt below))
        have apart : s.heap.objs.size ∉ [(s.heap.push (bare w)).objs.size, l] := by
          rw [Heap.size_push, List.mem_cons, List.mem_singleton]
          exact fun z => z.elim (fun z => Nat.lt_irrefl _ (Nat.lt_of_lt_of_eq (Nat.lt_succ_self _) z.symm)) fun z => Nat.lt_irrefl _ (Nat.lt_of_lt_of_eq below z)
        have fresh : ∀ b, s.heap.objs.size ≤ b → s.heap.get? b = none := fun b le => by
          cases q : s.heap.get? b with
          | none => rfl
          | some o => exact absurd (Heap.lt_size q) (Nat.not_lt.mpr le)
        refine gather_loop ((Walks.tuple free3 _ l other cells).toS) apart (fun i v e => e) g (fresh _ (Nat.le_refl _)) (fun b hb => fresh b (by rw [List.mem_singleton.mp hb, Heap.size_push]; exact Nat.le_succ _)) ?deep cells.size 0 _ rfl
          ⟨⟨_, Heap.get?_push_size _ rfl, rfl, rfl⟩, isl2.push _⟩ (fun b o e => Heap.get?_push_of_some _ (Heap.get?_push_of_some _ e)) ?begin fun s3 mv gr k => ?_
        case deep => exact Nat.le_trans (Nat.add_le_add_left (by decide : 3 ≤ 5) _) deep
        case begin => exact start _ (Heap.get?_push_of_some _ there) fun b o e => Heap.get?_push_of_some _ (Heap.get?_push_of_some _ e)
        obtain ⟨h3, g3, d3, k3, o3⟩ := s3
        obtain rfl : g3 = s.gens := mv.gens
        obtain rfl : d3 = s.drawn := mv.drawn
        obtain rfl : o3 = s.os := mv.os
        exact wpAny_pure (wpAny_pure ⟨rfl, h3, k3, rfl, gr, k⟩)
      · cases r2 with
        | error e => exact got2
        | ok fl2 =>
          cases fl2 with
          | ret r =>
            obtain ⟨rfl, h2, k2, rfl, gr, keep⟩ := got2
            repeat (any_goals (first | assumption | wp_step))
            exact fin _ _ gr keep
          | _ => exact got2.elim
    | _ => exact got.elim
end
/-! ### tuples of ints -/
section
variable {M : Program} {w : World}
theorem gathers_tups {U : Nat} {h0 : Heap} {S : Addr} {cells : Array Value} (ks : List (Addr × List Int)) (mem : cells.toList = ks.map fun p => Value.ref p.1) (tup : ∀ p ∈ ks, IsT M w h0 p.2 p.1) (few : ks.length < 64) (deep : U < cLine) :
    Gathers M w U h0 S cells fun i h => ∃ L es ep t, SetTR M w h S L es ep t ∧ Got ks i L where
  keep := fun i h h' ⟨L, es, ep, t, R, g⟩ kS k => ⟨L, es, ep, t, R.keep kS fun p hp => isT_keep (tup p (List.mem_of_mem_take (g.sub p hp))) k, g⟩
  add := fun A E i v s Q du hv k ⟨L, es, ep, t, R, g⟩ fin => by
    have hv2 : cells.toList[i]? = some v := by rw [Array.getElem?_toList]; exact hv
    rw [mem, List.getElem?_map] at hv2
    obtain ⟨p, hp, rfl⟩ := Option.map_eq_some_iff.mp hv2
    have x := isT_keep (tup p (List.mem_of_getElem? hp)) k
    have lt : A.units < cLine := Nat.lt_of_le_of_lt du deep
    unfold setAdd
    refine wpAny_holding (wpAny_bind (wpAny_pyHash_tuple lt x ?_))
    have R2 : SetTR M w ({ s with toks := s.toks + (p.2.length + 1) } : Shared).heap S L es ep t := R
    refine add_at (s := { s with toks := s.toks + (p.2.length + 1) }) R2 x lt (by have := g.len; have := (List.getElem?_eq_some_iff.mp hp).1; omega) fun b h' L' es' ep' t' sb R' c1 c2 => ?_
    refine fin b h' _ (Nat.le_add_right _ _) sb ⟨L', es', ep', t', R', ?_⟩
    by_cases c : p.2 ∈ L.map (·.2)
    · rw [c1 c]
      exact g.same hp c
    · exact g.more hp (c2 c)
end
/-- set(t), t a tuple of tuples of ints -/
def rSetTT (K : PySem.W.Frag) (P : Program) (w : World) : List V → Hp → VK → Prop := fun xs H Q => ∃ (l : Addr) (ks : List (Addr × List Int)), xs = [V.ref l] ∧ SqT K H l (ks.map fun p => V.ref p.1) ∧ (∀ p ∈ ks, SqT K H p.1 (p.2.map V.int)) ∧ ks.length < 64 ∧
  ∀ a L, H a = none → (∀ p ∈ L, p ∈ ks) → (∀ p ∈ ks, p.2 ∈ L.map (·.2)) → Q (.ref a) (upd H a (SetTO P w a L))
theorem call_setTT {X : Cx} (hc : X.calm = true) (hu : X.A.units + 64 < cLine) : CallR X (.type "set") (rSetTT X.K X.prog X.w) := by
  intro pins s σ H xs us Q I r h
  obtain ⟨l, ks, rfl, hl, hk, few, q⟩ := h
  rw [Vals.ref1 r]
  obtain ⟨its, rv, pl, _⟩ := I.tuple hl
  refine setT_call (I.ok.hd hc) pl (gathers_tups ks (by simpa using refs_of_vals rv) (fun p hp => I.isT (hk p hp)) few (U := X.A.units + 5) (by omega)) (Nat.le_refl _) (fun h e k => ⟨[], #[], 0, _, setTR_fresh e, Got.zero ks⟩) fun h2 k2 gr k => ?_
  obtain ⟨L, es, ep, t, R, g⟩ := gr
  have e : its.toArray.size = ks.length := by rw [List.size_toArray, ← rv.length, List.length_map]
  rw [e] at g
  exact ⟨.ref s.heap.objs.size, upd H s.heap.objs.size (SetTO X.prog X.w s.heap.objs.size L), I.laid (t' := k2) k (Nat.le_refl _) (setTO_new R.t0), rfl,
    q _ L (I.hok.fresh (Nat.le_refl _)) (fun p hp => List.mem_of_mem_take (g.sub p hp)) fun p hp => g.all p (by rw [List.take_length]; exact hp)⟩
/-! ### a set of one tuple of numbers and truth values -/
/-- a tuple of what counts as numbers -/
def NumTup (M : Program) (w : World) (h : Heap) (t : Addr) : Prop := ∃ ns : List Int, IsTupleKey (leafKind M w) h (ns.map Leaf.num) t
def OneSet (w : World) (h : Heap) (S t : Addr) : Prop := ∃ (hv : Int) (ep : Nat) (tb : SetTable) (o : Obj), h.get? S = some o ∧ o.ExactSet ∧ o.data = .set #[(hv, .ref t)] ep tb ∧ tb.fits 1 = true ∧ Ris tb.place.toList ∧ (w.params.followText "set-order" = true ∨ tb.led = true)
section
variable {M : Program} {w : World} {A : Around} {E : Value → Shared → Prop} {s : Shared}
theorem hashBy_num {ns : List Int} : ∀ {vs : List Value}, ItemsAre (leafKind M w) (ns.map Leaf.num) vs → ∀ v ∈ vs, ∀ n, hashByValue n v = pure true := by
  induction ns with
  | nil => intro vs h v hv; cases h; cases hv
  | cons a ns ih =>
    intro vs h v hv n
    cases h with
    | @cons _ u _ us h1 h2 =>
      rcases List.mem_cons.mp hv with rfl | hv
      · have h1 : Leaf.isOf (.num a) v = true := h1
        cases v <;> first | (cases n <;> rfl) | exact absurd h1 Bool.false_ne_true
      · exact ih h2 v hv n
theorem hashBy_numTup {t : Addr} {Q : Bool → Shared → Prop} (x : NumTup M w s.heap t) (q : Q true s) : wpAny (model M w) A (hashByValue 8 (.ref t)) Q E s := by
  obtain ⟨ns, x⟩ := x
  have kind := x.typeIs
  obtain ⟨o, items, n, ho, _, hd, hi⟩ := x
  unfold hashByValue
  refine wpAny_bind (wpAny_specialOf kind F.slot_tuple_hash.lookup ?_)
  show wpAny _ _ (seqItems? (.ref t) >>= _) _ _ s
  refine wpAny_bind (wpAny_seqItems ho hd (wpAny_bind ?_))
  show wpAny _ _ (forIn items _ _) _ _ s
  rw [← Array.forIn_toList]
  refine wpAny_forIn_list _ (fun rest r s' => r.1 = none ∧ s' = s ∧ ∀ v ∈ rest, ∀ n, hashByValue n v = pure true) _ ?_ ?_ _ _ ⟨rfl, rfl, hashBy_num hi⟩
  · rintro v rest r s' ⟨_, rfl, hall⟩
    rw [hall v List.mem_cons_self]
    refine wpAny_bind (wpAny_pure ?_)
    simp only [Bool.not_true, Bool.false_eq_true, if_false]
    exact wpAny_pure ⟨rfl, rfl, fun u hu => hall u (List.mem_cons_of_mem _ hu)⟩
  · rintro ⟨r1, r2⟩ s' ⟨hr, rfl, _⟩
    simp only at hr
    subst hr
    exact wpAny_pure q
theorem numTup_keep {h h' : Heap} {t : Addr} (x : NumTup M w h t) (k : ∀ b o, h.get? b = some o → h'.get? b = some o) : NumTup M w h' t := by
  obtain ⟨ns, o, items, n, ho, r⟩ := x
  exact ⟨ns, o, items, n, k _ _ ho, r⟩
theorem gathers_one {U : Nat} {h0 : Heap} {S t : Addr} (x : NumTup M w h0 t) (deep : U < cLine) :
    Gathers M w U h0 S #[.ref t] fun i h => if i = 0 then h.get? S = some (bare w) else OneSet w h S t where
  keep := fun i h h' gr kS k => by
    cases i with
    | zero => exact kS _ gr
    | succ i =>
      obtain ⟨hv, ep, tb, o, ho, r⟩ := gr
      exact ⟨hv, ep, tb, o, kS _ ho, r⟩
  add := fun A E i v s Q du hv k gr fin => by
    have lt : A.units < cLine := Nat.lt_of_le_of_lt du deep
    cases i with
    | succ i => simp at hv
    | zero =>
      obtain rfl : v = .ref t := (Option.some.inj hv).symm
      have x1 := numTup_keep x k
      obtain ⟨ns, xk⟩ := id x1
      have ho : s.heap.get? S = some (bare w) := gr
      have hd : (bare w).data = .set #[] 0 (.fresh 0 0 (!w.params.followText "set-order")) := rfl
      unfold setAdd
      refine wpAny_holding (wpAny_bind (wpAny_pyHash_tuple lt xk ?_))
      generalize tupleKeyHash (leafKind M w) (ns.map Leaf.num) = hv
      have R := setTR_fresh (P := M) (w := w) (h := s.heap) (a := S) ho
      have fin : ∀ b h' tk, s.toks ≤ tk → Heap.SameBut S s.heap h' → OneSet w h' S t → Q b { s with heap := h', toks := tk } := fin
      generalize ht : SetTable.fresh 0 0 (!w.params.followText "set-order") = tb at R hd
      obtain ⟨s2, es2⟩ : ∃ s2 : Shared, s2 = { s with toks := s.toks + ((ns.map Leaf.num).length + 1) } := ⟨_, rfl⟩
      have hs2 : s2.heap = s.heap := by rw [es2]
      rw [← es2]
      have ho2 : s2.heap.get? S = some (bare w) := by rw [hs2]; exact ho
      obtain ⟨K, hKf, hK, hKb⟩ := R.tab.first (by rw [List.map_nil, List.length_nil]; exact Nat.zero_le _) hv
      have hK0 : K = 0 := by
        cases K with
        | zero => rfl
        | succ K =>
          have := hKb 0 (Nat.succ_pos _)
          rw [← ht] at this
          simp [SetTable.fresh] at this
      subst hK0
      unfold setAddHashed
      refine wpAny_holding ?_
      rw [show (100000 : Nat) = 99999 + 1 from rfl, setAddHashedIn_succ]
      refine wpAny_bind (wpAny_setState_of ho2 hd R.fits ?_)
      dsimp only
      refine wp_if_neg (by simp [byScan, Value.scannable]) ?_
      try refine wpAny_bind (wpAny_pure ?_)
      have spec := go_spec tb R.tab.ris R.tab.dm (fun i => ((#[] : Array (Int × Value))[i]?.map (·.1)).getD 0) hv (10 * SetTable.turns tb.mask) 0 (tb.probeStart hv) rfl hKf (fun k hk => absurd hk (Nat.not_lt_zero _)) hK
      have probe : tb.probe (fun i => ((#[] : Array (Int × Value))[i]?.map (·.1)).getD 0) hv (tb.probeStart hv) = some (.empty (way tb.mask hv 0) none) := by
        rcases spec with ⟨k, _, hk, _⟩ | ⟨_, e⟩
        · exact absurd hk (Nat.not_lt_zero _)
        · exact e
      refine wpAny_bind ?_
      unfold setSearch
      rw [show (100000 : Nat) = 99999 + 1 from rfl, setSearchFrom_succ]
      refine wpAny_bind (wpAny_setState_of ho2 hd R.fits ?_)
      dsimp only
      refine wp_if_neg R.gw ?_
      try refine wpAny_bind (wpAny_pure ?_)
      have probe2 : tb.probe (fun i => ((#[] : Array (Int × Value))[i]?.map (·.1)).getD 0) hv ((none : Option SetTable.Probe).getD (tb.probeStart hv)) = some (.empty (way tb.mask hv 0) none) := probe
      rw [probe2]
      dsimp only
      refine wpAny_pure ?_
      dsimp only
      refine wpAny_bind (wpAny_setState_of ho2 hd R.fits ?_)
      dsimp only
      obtain ⟨q1, q2, q3, q4, q5, q6, q7, q8, q9⟩ := R.tab.put hK hKb
      have hp1 : (tb.put (way tb.mask hv 0)).1.plain = true := by rw [q6]; exact R.plain
      generalize hpt : tb.put (way tb.mask hv 0) = pt at q1 q3 q4 q5 q6 q7 q8 q9 hp1 ⊢
      obtain ⟨t1, p⟩ := pt
      dsimp only at q1 q3 q4 q5 q6 q7 q8 q9 hp1 ⊢
      subst q1
      have x2 : NumTup M w s2.heap t := by rw [hs2]; exact x1
      first
        | (refine wpAny_bind ?_; refine wp_if_pos hp1 ?_; refine hashBy_numTup x2 ?_)
        | refine wp_if_pos hp1 (wpAny_bind (hashBy_numTup x2 ?_))
      simp only [if_true]
      have hin : (SetTable.insertAt (#[] : Array (Int × Value)) (SetTable.below tb.place (way tb.mask hv 0)) (hv, Value.ref t)).toList = [(hv, Value.ref t)] := by
        rw [SetTable.toList_insertAt]
        simp
      have hin2 : SetTable.insertAt (#[] : Array (Int × Value)) (SetTable.below tb.place (way tb.mask hv 0)) (hv, Value.ref t) = #[(hv, Value.ref t)] := Array.ext' hin
      rw [hin2]
      have one : (([] : List Int).take (SetTable.below tb.place (way tb.mask hv 0)) ++ hv :: ([] : List Int).drop (SetTable.below tb.place (way tb.mask hv 0))) = [hv] := by simp
      have T1 : TabOk t1 [hv] := by
        have z := q3
        simp only [List.map_nil] at z
        rw [one] at z
        exact z
      refine wpAny_bind (wpAny_storeSet_of ho2 hd ?_ (by show 1 ≤ sizeLine; rw [sizeLine_eq]; omega))
      have sb : Heap.SameBut S s2.heap (s2.heap.update S (Obj.putSet #[(hv, Value.ref t)] t1)) := Heap.SameBut.update ..
      have ho1 := store_at (es' := #[(hv, Value.ref t)]) (t' := t1) ho2 hd
      have hmask : t1.mask = 7 := by rw [q4, ← ht]; rfl
      have hfill : t1.fill = 1 := q9
      refine wp_if_neg (by rw [show t1.tooFull = decide (t1.fill * 5 ≥ t1.mask * 3) from rfl, hfill, hmask]; simp) ?_
      try refine wpAny_bind (wpAny_pure ?_)
      refine wpAny_pure ?_
      rw [hs2] at sb ho1
      have := fin true (s.heap.update S (Obj.putSet #[(hv, Value.ref t)] t1)) (s.toks + ((ns.map Leaf.num).length + 1)) (Nat.le_add_right _ _) sb ⟨hv, 0 + 1, t1, _, ho1, ⟨rfl, rfl, rfl⟩, rfl, ?_, T1.ris, by rw [q5]; exact R.led⟩
      · rw [es2]
        exact this
      · have sz := T1.sz
        unfold SetTable.fits SetTable.fill
        rw [T1.dm, Bool.and_eq_true, beq_iff_eq, decide_eq_true_eq]
        show t1.place.size = 1 ∧ t1.place.size + 0 ≤ t1.mask
        rw [sz, hmask]
        exact ⟨rfl, (by decide : 1 + 0 ≤ 7)⟩
end
section
variable {M : Program} {w : World} {A : Around} {E : Value → Shared → Prop} {s : Shared}
theorem sorted_one {a t : Addr} {Q : Value → Shared → Prop} (R : OneSet w s.heap a t) (free : A.handled = none)
    (q : ∀ s' p c, (∀ b o, s.heap.get? b = some o → s'.heap.get? b = some o) → s'.gens = s.gens → s'.os = s.os → s.heap.objs.size ≤ p → s'.heap.get? p = some (seqObj "list" #[Value.ref t] c) → Q (.ref p) s') :
    wpAny (model M w) A (call (.builtin "sorted") [.ref a]) Q E s := by
  obtain ⟨hv, ep, tb, o, ho, hex, hd, fits, ris, led⟩ := R
  refine Calls.call_function_entry PyProof.Rows.kind_sorted PyProof.Rows.plain_sorted PyProof.Rows.entry_sorted (PyProof.Rows.args_sorted1 _) ?_
  unfold Builtin.«sorted»
  refine wpAny_bind (m := checkCount "sorted" 1 1 _) (wpAny_pure ?_)
  refine wpAny_bind (collect_set (A := A.in1) free ⟨o, ho, hex.1, hd⟩ fits (by show 1 < scanBound; unfold scanBound; omega) ris led fun s1 vs k1 hz g1 o1 pm => ?_)
  obtain rfl : vs = [Value.ref t] := List.perm_singleton.mp pm
  refine wpAny_bind (wpAny_newList ?_ (by show 1 ≤ sizeLine; rw [sizeLine_eq]; omega))
  have hoL : (s1.heap.push (seqObj "list" [Value.ref t].toArray 0)).get? s1.heap.objs.size = some (seqObj "list" [Value.ref t].toArray 0) := Heap.get?_push_size _ rfl
  refine wpAny_bind (wpAny_holding (wpAny_call_entry PyProof.Rows.slot_list_sort ⟨_, hoL, rfl⟩ PyProof.Rows.entry_list_sort
    (SK.plain_sort (s := { s1 with heap := s1.heap.push (seqObj "list" [Value.ref t].toArray 0) }) (r := fun _ => 0) hoL (by show 1 < 64; omega) (fun h2 => absurd h2 (by show ¬ 2 ≤ 1; omega)) fun ps out h1 h2 _ => ⟨.none, rfl, ?_⟩) (PyProof.Rows.args_list_sort _)))
  have e : out.toList = [Value.ref t] := by
    rw [h1]
    have z := h2.map Prod.snd
    rw [List.map_snd_zip (Nat.le_refl _)] at z
    exact List.perm_singleton.mp z
  obtain ⟨c, hc⟩ := PyProof.Rows.sortedHeap_at (vs := [Value.ref t]) (out := out) hoL
  have e2 : out = #[Value.ref t] := Array.ext' e
  rw [e2] at hc
  rw [e2]
  refine wpAny_pure ⟨_, rfl, q _ s1.heap.objs.size c (fun b u eb => ?_) g1 o1 hz hc⟩
  have k := k1 b u eb
  have lt := Heap.lt_size k
  show (sortedHeap (s1.heap.push (seqObj "list" [Value.ref t].toArray 0)) s1.heap.objs.size [Value.ref t] #[Value.ref t]).get? b = some u
  rw [PyProof.Rows.sortedHeap_old (Nat.ne_of_lt lt) (by rw [size_push']; exact Nat.lt_succ_of_lt lt)]
  exact Heap.get?_push_of_some _ k
end
/-- the set of the one tuple t -/
def OneO (w : World) (a t : Addr) : HO := .ext fun h => OneSet w h a t
/-- set(l), l the tuple of one tuple (True, 0) -/
def rSetOdd (K : PySem.W.Frag) (w : World) : List V → Hp → VK → Prop := fun xs H Q => ∃ l t : Addr, xs = [V.ref l] ∧ SqT K H l [V.ref t] ∧ SqT K H t [V.bl true, V.int 0] ∧ ∀ a, H a = none → Q (.ref a) (upd H a (OneO w a t))
def rSortOdd (w : World) : List V → Hp → VK → Prop := fun xs H Q => ∃ a t : Addr, xs = [V.ref a] ∧ H a = some (OneO w a t) ∧ ∀ p, H p = none → Q (.ref p) (upd H p (.lst [V.ref t]))
section
variable {X : Cx}
theorem call_setOdd (hc : X.calm = true) (hu : X.A.units + 64 < cLine) : CallR X (.type "set") (rSetOdd X.K X.w) := by
  intro pins s σ H xs us Q I r h
  obtain ⟨l, t, rfl, hl, ht, q⟩ := h
  rw [Vals.ref1 r]
  obtain ⟨its, rv, pl, _⟩ := I.tuple hl
  obtain ⟨u, rfl, ru⟩ := vals1 rv
  obtain rfl : u = Value.ref t := ru
  obtain ⟨ms, rm, ⟨o, ho, hk, n, hd⟩, _⟩ := I.tuple ht
  have x : NumTup X.prog X.w s.heap t := by
    cases rm with
    | cons r1 r2 =>
      cases r2 with
      | cons r2 r3 =>
        cases r3
        cases r1
        obtain ⟨tk, rfl⟩ := r2
        exact ⟨[1, 0], o, _, n, ho, hk, hd, .cons (by show decide ((if true = true then (1 : Int) else 0) = 1) = true; decide) (.cons (by show decide ((0 : Int) = 0) = true; decide) .nil)⟩
  refine setT_call (I.ok.hd hc) pl (gathers_one x (U := X.A.units + 5) (by omega)) (Nat.le_refl _) (fun h e k => e) fun h2 k2 gr k => ?_
  have gr : OneSet X.w h2 s.heap.objs.size t := gr
  obtain ⟨hv, ep, tb, ob, hob, rest⟩ := id gr
  exact ⟨.ref s.heap.objs.size, upd H s.heap.objs.size (OneO X.w s.heap.objs.size t), I.laid (t' := k2) k (Nat.le_refl _) ⟨gr, ⟨ob, hob⟩, fun h1 h2 p kk => by
    obtain ⟨hv, ep, tb, ob, hob, rest⟩ := p
    exact ⟨hv, ep, tb, ob, kk _ hob, rest⟩⟩, rfl, q _ (I.hok.fresh (Nat.le_refl _))⟩
theorem call_sortOdd (hc : X.calm = true) : CallR X (.builtin "sorted") (rSortOdd X.w) := by
  intro pins s σ H xs us Q I r h
  obtain ⟨a, t, rfl, ha, q⟩ := h
  have R : OneSet X.w s.heap a t := (I.hok a _ ha).1
  rw [Vals.ref1 r]
  refine sorted_one R (I.ok.hd hc) fun s' p c k g o hp hg => ?_
  have hn : H p = none := I.hok.fresh hp
  have J : Inv X pins σ (upd H p (.lst [V.ref t])) { s with heap := s'.heap, gens := s'.gens, drawn := s'.drawn, toks := s'.toks } :=
    I.call (ch := []) (Un.laid k hp hn) (I.hok.laid k hp ⟨by show 1 ≤ sizeLine; rw [sizeLine_eq]; omega, [Value.ref t], c, .cons rfl .nil, hg⟩) (by rw [g]; exact I.bare) (fun _ z => nomatch z)
  have e : s' = { s with heap := s'.heap, gens := s'.gens, drawn := s'.drawn, toks := s'.toks } := by
    cases s'
    cases s
    cases o
    rfl
  rw [e]
  exact ⟨.ref p, _, J, rfl, q p hn⟩
/-- x in y, x not in y: data in a list or a tuple of data -/
def rInD (K : PySem.W.Frag) (neg : Bool) : R2 := fun x y H Q => ∃ (c d : PyData) (ds : List PyData), Dp K H y c ∧ (c = .list ds ∨ c = .tuple ds) ∧ Dp K H x d ∧ SeqAt.shaped c = true ∧ SeqAt.shaped d = true ∧
  Q (.bl (if neg then !ds.any fun y => PyData.eqv y d else ds.any fun y => PyData.eqv y d)) H
theorem op_inD (hu : X.A.units + 65 < cLine) : OpR X (compareOp .In) (rInD X.K false) := by
  intro pins s σ H x y v u Q I rx ry h
  obtain ⟨c, d, ds, hc, hs, hd, sc, sd, q⟩ := h
  obtain ⟨as, r1⟩ := Dp.reads I c y u hc ry
  obtain ⟨bs, r2⟩ := Dp.reads I d x v hd rx
  rcases hs with rfl | rfl
  · exact SeqAt.in_list_reads r1 r2 (SeqAt.canLay_of_shaped sc) (SeqAt.canLay_of_shaped sd) (room_in_shaped sd hu) ⟨.bl _, H, I, rfl, q⟩
  · exact SeqAt.in_tuple_reads r1 r2 (SeqAt.canLay_of_shaped sc) (SeqAt.canLay_of_shaped sd) (room_in_shaped sd hu) ⟨.bl _, H, I, rfl, q⟩
theorem op_notInD (hu : X.A.units + 65 < cLine) : OpR X (compareOp .NotIn) (rInD X.K true) := by
  intro pins s σ H x y v u Q I rx ry h
  obtain ⟨c, d, ds, hc, hs, hd, sc, sd, q⟩ := h
  obtain ⟨as, r1⟩ := Dp.reads I c y u hc ry
  obtain ⟨bs, r2⟩ := Dp.reads I d x v hd rx
  rcases hs with rfl | rfl
  · exact SeqAt.notIn_list_reads r1 r2 (SeqAt.canLay_of_shaped sc) (SeqAt.canLay_of_shaped sd) (room_in_shaped sd hu) ⟨.bl _, H, I, rfl, q⟩
  · exact SeqAt.notIn_tuple_reads r1 r2 (SeqAt.canLay_of_shaped sc) (SeqAt.canLay_of_shaped sd) (room_in_shaped sd hu) ⟨.bl _, H, I, rfl, q⟩
end
end RH
set_option Elab.async false
set_option linter.all false
set_option maxRecDepth 100000
set_option maxHeartbeats 2000000
/-! A walk over the keys of a dict with keys of tuples; the dict stays as it is from then on. -/
namespace RH
open PySem PySem.Spec PyProof.Rows L2
/-- the keys of the dict at d in their order -/
def ItE (P : Program) (w : World) (d : Addr) (o : Obj) (as : List (List Int × V)) (bs : List Addr) : It :=
  ⟨fun i H => H d = some (.frz o (DE P w as bs d)) ∧ i < bs.length, fun i H x H' => H' = H ∧ ∃ b, bs[i]? = some b ∧ x = .ref b, fun i H => H d = some (.frz o (DE P w as bs d)) ∧ bs.length ≤ i⟩
theorem frzE {X : Cx} {pins : List (Addr × Obj)} {σ : L2.St} {H : Hp} {s : Shared} {d : Addr} {o : Obj} {as : List (List Int × V)} {bs : List Addr} (I : Inv X pins σ H s) (h : H d = some (.frz o (DE X.prog X.w as bs d))) :
    (d == sysModules) = false ∧ s.heap.get? d = some o ∧ o.ExactDict ∧ ∃ (es : Array DictEntry) (ep : Nat), o.data = .dict es ep ∧ es.size = bs.length ∧ ∀ (i : Nat) (b : Addr), bs[i]? = some b → ∃ en : DictEntry, es[i]? = some en ∧ en.key = .ref b := by
  obtain ⟨hd, ⟨hs, _, xs, hx, o2, es, ep, ho, hxd, hdt, he, _⟩, _⟩ := I.hok d _ h
  rw [hd] at ho
  cases ho
  have sz : es.size = bs.length := by
    have z := congrArg List.length he
    rw [Array.length_toList, List.length_map, hx.len] at z
    rw [z, hx.blen]
  refine ⟨hs, hd, hxd, es, ep, hdt, sz, fun i b hb => ?_⟩
  have hb2 : (xs.map fun x => x.2.1)[i]? = some b := by rw [hx.adr]; exact hb
  rw [List.getElem?_map] at hb2
  obtain ⟨x, hxi, rfl⟩ := Option.map_eq_some_iff.mp hb2
  refine ⟨entryOfKey (tupleKind (mixKind X.prog X.w)) x, ?_, rfl⟩
  rw [← Array.getElem?_toList, he, List.getElem?_map, hxi]
  rfl
section
variable {P : Program} {w : World} {K : PySem.W.Frag} {tg : Expr} {d : Addr} {o : Obj} {es : Array DictEntry} {ep : Nat} {as : List (List Int × V)} {bs : List Addr}
theorem turn_keysE (it : Addr) (hod : o.data = .dict es ep) : Turn P w K tg (ItE P w d o as bs) [it] it (fun i h => h.IsKeyIter it d i bs.length ep) where
  mem := by simp
  obj := fun i h st b hb => by
    obtain ⟨oi, e, _, dd⟩ := st
    rw [List.mem_singleton.mp hb]
    exact ⟨oi, e, fun v z => by rw [dd] at z; cases z⟩
  keep := fun i h h' st k => st.at fun oi e => k it (List.mem_singleton.mpr rfl) oi e
  item := by
    intro X hP hw hK hc i pins s σ H E I hf st hg
    subst hP hw hK
    obtain ⟨hd, hi⟩ := hg
    obtain ⟨f0, f1, f2, f3, f4, f5⟩ := hf it (List.mem_singleton.mpr rfl)
    obtain ⟨_, hgd, _, es2, ep2, hdt, hsz, ent⟩ := frzE I hd
    obtain ⟨rfl, rfl⟩ := dict_ep hod hdt
    have hb : bs[i]? = some bs[i] := List.getElem?_eq_getElem hi
    obtain ⟨en, hen, hkey⟩ := ent i _ hb
    refine next_key_item st hgd hdt hsz hen fun h2 st2 sb => ?_
    have I2 : Inv X pins σ H { s with heap := h2 } := I.turned (t' := s.toks) (fun b ob hb e => (sb.2 b hb).trans e) f0 f1 f3 f4 f5
    obtain ⟨oi, e, c, dd⟩ := id st2
    exact ⟨en.key, rfl, go_of (s := { s with heap := h2 }) e c dd (by decide) ⟨.ref bs[i], H, I2, hkey, ⟨rfl, _, hb, rfl⟩, st2, fun b hb => (hf b hb).1⟩⟩
  done := by
    intro X hP hw hK hc i pins s σ H E I hf st hg
    subst hP hw hK
    obtain ⟨hd, hi⟩ := hg
    obtain ⟨f0, f1, f2, f3, f4, f5⟩ := hf it (List.mem_singleton.mpr rfl)
    obtain ⟨_, hgd, _, es2, ep2, hdt, hsz, _⟩ := frzE I hd
    obtain ⟨rfl, rfl⟩ := dict_ep hod hdt
    exact next_key_end (I.ok.hd hc) st hgd hdt hsz hi fun h2 eb => ⟨rfl, I.turned (t' := s.toks) (fun b ob hb e => eb b ob hb e) f0 f1 f3 f4 f5⟩
  self := fun A i s Q E st h => wpAny_pyIter_keyiter st h
end
/-- for k in d: d is told by its very object from then on -/
def iKeysE (P : Program) (w : World) (td : TE) : TI := fun σ H R => td σ H fun x H1 => ∃ (d : Addr) (as : List (List Int × V)) (bs : List Addr), x = .ref d ∧ H1 d = some (DE P w as bs d) ∧ ∀ o, R (ItE P w d o as bs) (upd H1 d (.frz o (DE P w as bs d)))
theorem pi_keysE {X : Cx} {tg e : Expr} {td : TE} (he : PE X e td) : PI X tg e (iKeysE X.prog X.w td) := by
  refine ⟨fun pins s σ H R I h => ?_⟩
  refine thn (he.run pins s σ H _ I h) fun u s1 ⟨x, H1, I1, rx, d, as, bs, ex, hd, q⟩ => ?_
  subst ex
  obtain rfl : u = Value.ref d := rx
  obtain ⟨o, I2⟩ := I1.lock hd True.intro
  obtain ⟨hs, hgd, hx, es, ep, hdt, hsz, _⟩ := frzE (as := as) (bs := bs) I2 upd_same
  refine iter_keys hs hgd hx hdt (pi_one (tk := s1.toks) I2 _ (turn_keysE (as := as) (bs := bs) _ hdt) ⟨_, Heap.get?_push_size _ rfl, rfl, ?_⟩ (q o))
  rw [hsz] <;> rfl
end RH
set_option Elab.async false
set_option linter.all false
set_option maxRecDepth 100000
set_option maxHeartbeats 2000000
namespace RH
open PySem PySem.Spec PyProof.Rows L2
def topS (i : Nat) : Stmt := PySem.Challenge.pw_restlesshelf_k14_whole_alike.main.body.getD i (.Pass ⟨0, 0, 0, 0⟩)
abbrev st_is_integer : Stmt := topS 8
theorem sc_is_integer : FnScope ["value"] ["value"] (defScope st_is_integer) :=
  ⟨rfl, rfl, rfl, by decide +kernel, rfl, by decide +kernel, by decide +kernel⟩
abbrev st_is_number : Stmt := topS 9
theorem sc_is_number : FnScope ["value", "low", "high"] ["value", "low", "high"] (defScope st_is_number) :=
  ⟨rfl, rfl, rfl, by decide +kernel, rfl, by decide +kernel, by decide +kernel⟩
abbrev st_is_row : Stmt := topS 10
theorem sc_is_row : FnScope ["value", "low", "high"] ["value", "low", "high"] (defScope st_is_row) :=
  ⟨rfl, rfl, rfl, by decide +kernel, rfl, by decide +kernel, by decide +kernel⟩
abbrev st_is_place : Stmt := topS 11
theorem sc_is_place : FnScope ["value", "places"] ["value", "places"] (defScope st_is_place) :=
  ⟨rfl, rfl, rfl, by decide +kernel, rfl, by decide +kernel, by decide +kernel⟩
abbrev st_are_places : Stmt := topS 12
theorem sc_are_places : FnScope ["value", "places", "place"] ["value", "places"] (defScope st_are_places) :=
  ⟨rfl, rfl, rfl, by decide +kernel, rfl, by decide +kernel, by decide +kernel⟩
abbrev st_is_rising : Stmt := topS 13
theorem sc_is_rising : FnScope ["row", "one", "other"] ["row"] (defScope st_is_rising) :=
  ⟨rfl, rfl, rfl, by decide +kernel, rfl, by decide +kernel, by decide +kernel⟩
abbrev st_is_layout : Stmt := topS 14
theorem sc_is_layout : FnScope ["value", "places"] ["value", "places"] (defScope st_is_layout) :=
  ⟨rfl, rfl, rfl, by decide +kernel, rfl, by decide +kernel, by decide +kernel⟩
abbrev st_is_habit : Stmt := topS 15
theorem sc_is_habit : FnScope ["value", "moves"] ["value"] (defScope st_is_habit) :=
  ⟨rfl, rfl, rfl, by decide +kernel, rfl, by decide +kernel, by decide +kernel⟩
abbrev st_check_habits : Stmt := topS 16
theorem sc_check_habits : FnScope ["habits", "most", "index", "habit"] ["habits", "most"] (defScope st_check_habits) :=
  ⟨rfl, rfl, rfl, by decide +kernel, rfl, by decide +kernel, by decide +kernel⟩
abbrev st_is_lot : Stmt := topS 17
theorem sc_is_lot : FnScope ["value", "places"] ["value", "places"] (defScope st_is_lot) :=
  ⟨rfl, rfl, rfl, by decide +kernel, rfl, by decide +kernel, by decide +kernel⟩
abbrev st_check_lot : Stmt := topS 18
theorem sc_check_lot : FnScope ["lot", "places"] ["lot", "places"] (defScope st_check_lot) :=
  ⟨rfl, rfl, rfl, by decide +kernel, rfl, by decide +kernel, by decide +kernel⟩
abbrev st_depths : Stmt := topS 20
theorem sc_depths : FnScope ["start", "touches", "step", "most", "found", "level", "further", "state", "place", "new"] ["start", "touches", "step", "most"] (defScope st_depths) :=
  ⟨rfl, rfl, rfl, by decide +kernel, rfl, by decide +kernel, by decide +kernel⟩
abbrev st_traced : Stmt := topS 21
theorem sc_traced : FnScope ["came", "state", "word", "place"] ["came", "state"] (defScope st_traced) :=
  ⟨rfl, rfl, rfl, by decide +kernel, rfl, by decide +kernel, by decide +kernel⟩
abbrev st_least_word : Stmt := topS 22
theorem sc_least_word : FnScope ["start", "touches", "step", "is_goal", "came", "level", "further", "state", "place", "new"] ["start", "touches", "step", "is_goal"] (defScope st_least_word) :=
  ⟨rfl, rfl, rfl, by decide +kernel, rfl, by decide +kernel, by decide +kernel⟩
abbrev st_test : Stmt := topS 25
theorem sc_test : FnScope ["habit", "other", "lot"] ["habit", "other", "lot"] (defScope st_test) :=
  ⟨rfl, rfl, rfl, by decide +kernel, rfl, by decide +kernel, by decide +kernel⟩
abbrev st_alike_paper : Stmt := topS 26
theorem sc_alike_paper : FnScope ["habit", "other", "lot", "step", "pairs", "first", "pair"] ["habit", "other", "lot"] (defScope st_alike_paper) :=
  ⟨rfl, rfl, rfl, by decide +kernel, rfl, by decide +kernel, by decide +kernel⟩
abbrev st_shows_alike : Stmt := topS 27
theorem sc_shows_alike : FnScope ["habit", "other", "lot", "value", "places", "step", "needed", "has_all", "pair", "place"] ["habit", "other", "lot", "value"] (defScope st_shows_alike) :=
  ⟨rfl, rfl, rfl, by decide +kernel, rfl, by decide +kernel, by decide +kernel⟩
abbrev st_check_two : Stmt := topS 28
theorem sc_check_two : FnScope ["habit", "other", "lot"] ["habit", "other", "lot"] (defScope st_check_two) :=
  ⟨rfl, rfl, rfl, by decide +kernel, rfl, by decide +kernel, by decide +kernel⟩
abbrev st_first_pairs : Stmt := topS 29
theorem sc_first_pairs : FnScope ["habit", "other", "lot", "place"] ["habit", "other", "lot"] (defScope st_first_pairs) :=
  ⟨rfl, rfl, rfl, by decide +kernel, rfl, by decide +kernel, by decide +kernel⟩
abbrev st_pair_step : Stmt := topS 30
theorem sc_pair_step : FnScope ["habit", "other"] ["habit", "other"] (defScope st_pair_step) :=
  ⟨rfl, rfl, rfl, by decide +kernel, rfl, by decide +kernel, by decide +kernel⟩
abbrev st_telling_read : Stmt := topS 31
theorem sc_telling_read : FnScope ["pair", "lot", "one", "other", "read"] ["pair", "lot"] (defScope st_telling_read) :=
  ⟨rfl, rfl, rfl, by decide +kernel, rfl, by decide +kernel, by decide +kernel⟩
abbrev st_shortest_test : Stmt := topS 32
theorem sc_shortest_test : FnScope ["habit", "other", "lot", "best", "step", "place", "first", "word", "marks", "touch"] ["habit", "other", "lot"] (defScope st_shortest_test) :=
  ⟨rfl, rfl, rfl, by decide +kernel, rfl, by decide +kernel, by decide +kernel⟩
abbrev st__law_taken : Stmt := topS 34
theorem sc__law_taken : FnScope ["row", "many", "found", "cell"] ["row", "many"] (defScope st__law_taken) :=
  ⟨rfl, rfl, rfl, by decide +kernel, rfl, by decide +kernel, by decide +kernel⟩
abbrev st__law_lot : Stmt := topS 35
theorem sc__law_lot : FnScope ["row", "places", "found", "place"] ["row", "places"] (defScope st__law_lot) :=
  ⟨rfl, rfl, rfl, by decide +kernel, rfl, by decide +kernel, by decide +kernel⟩
abbrev st__law_order : Stmt := topS 36
theorem sc__law_order : FnScope ["row", "many", "left", "found"] ["row", "many"] (defScope st__law_order) :=
  ⟨rfl, rfl, rfl, by decide +kernel, rfl, by decide +kernel, by decide +kernel⟩
abbrev st__law_habit : Stmt := topS 37
theorem sc__law_habit : FnScope ["row", "places", "way", "found", "place", "moved", "other", "spot"] ["row", "places"] (defScope st__law_habit) :=
  ⟨rfl, rfl, rfl, by decide +kernel, rfl, by decide +kernel, by decide +kernel⟩
abbrev st__law_marks : Stmt := topS 38
theorem sc__law_marks : FnScope ["habit", "other", "lot", "found", "last", "far", "longer", "pair", "place"] ["habit", "other", "lot"] (defScope st__law_marks) :=
  ⟨rfl, rfl, rfl, by decide +kernel, rfl, by decide +kernel, by decide +kernel⟩
abbrev st__law_alike : Stmt := topS 39
theorem sc__law_alike : FnScope ["found", "due", "k"] ["found", "due"] (defScope st__law_alike) :=
  ⟨rfl, rfl, rfl, by decide +kernel, rfl, by decide +kernel, by decide +kernel⟩
abbrev st__law_pick : Stmt := topS 40
theorem sc__law_pick : FnScope ["row", "things"] ["row", "things"] (defScope st__law_pick) :=
  ⟨rfl, rfl, rfl, by decide +kernel, rfl, by decide +kernel, by decide +kernel⟩
abbrev st_law : Stmt := topS 41
theorem sc_law : FnScope ["script", "row", "places", "lot", "habit", "other", "out", "kept", "marks", "told", "found", "every", "one", "turn", "some", "odd", "value", "fine", "pair", "place", "moved", "spot", "two", "more"] ["script"] (defScope st_law) :=
  ⟨rfl, rfl, rfl, by decide +kernel, rfl, by decide +kernel, by decide +kernel⟩
/-! ### what the top has written -/
/-- the def x of the text stands in the module under its name -/
structure Df (K : PySem.W.Frag) (mg : Str → Option Value) (x : Str) (st : Stmt) (ps : List Str) : Prop where
  ex : ∃ (f : Addr) (fd : FuncData), Fun K x x st f fd ∧ mg x = some (.ref f) ∧ Binds K fd ps []
/-- names of the interpreter that the module leaves alone -/
structure Bu (mg : Str → Option Value) : Prop where
  isi : mg "isinstance" = none
  int : mg "int" = none
  bool : mg "bool" = none
  str : mg "str" = none
  tuple : mg "tuple" = none
  list : mg "list" = none
  len : mg "len" = none
  all : mg "all" = none
  zip : mg "zip" = none
  range : mg "range" = none
  sorted : mg "sorted" = none
  enumerate : mg "enumerate" = none
  max : mg "max" = none
section
variable {P : Program} {w : World} {K : PySem.W.Frag} {mg : Str → Option Value} {base : Heap}
/-- a def that may be called by its name -/
structure Cal (P : Program) (w : World) (K : PySem.W.Frag) (mg : Str → Option Value) (base : Heap) (k : Nat) (x : Str) (sp : Sp) : Prop where
  ex : ∃ (f : Addr) (fd : FuncData) (ps : List Str), FnOk P w K mg base CX0 k f fd ps sp ∧ mg x = some (.ref f) ∧ PySem.W.keepIn K (.ref f) = true ∧ Binds K fd ps []
theorem mkCal {x : Str} {st : Stmt} {N ps : List Str} {k : Nat} {sp : Sp} (F : Df K mg x st ps) (S : FnScope N ps (defScope st)) (len : ∀ vs H Q E, sp vs H Q E → vs.length = ps.length)
    (hbody : ∀ (f : Addr) (cdv : Value) (A : Around) (outer : List Env) (s : Shared) (H : Hp) (vs : List V) (Q : VK) (E : XK), Room k (A.deeper (envOfC x (defScope st) s.heap.objs.size f cdv)) → sp vs H Q E →
      ∃ t, PSs (cxOf CX0 P w K mg base N x (defScope st) f cdv A outer s H E).nox (defBody st) t ∧ t { nx := fun _ H' => Q .non H', rt := Q } (start N vs) H) : Cal P w K mg base (k + 1) x sp := by
  obtain ⟨f, fd, F, g, b⟩ := F.ex
  exact ⟨f, fd, ps, F.ok S len (hbody f), g, F.kp, b⟩
theorem Cal.imp {k : Nat} {x : Str} {sp sp' : Sp} (c : Cal P w K mg base k x sp) (h : ∀ vs H Q E, sp' vs H Q E → sp vs H Q E) : Cal P w K mg base k x sp' := by
  obtain ⟨f, fd, ps, F, g, kp, b⟩ := c.ex
  exact ⟨f, fd, ps, F.imp h, g, kp, b⟩
end
theorem pc {X : Cx} {k j : Nat} {x : Str} {sp : Sp} {p pos : Pos} {e : Expr} {es : List Expr} {t : TA} (c : Cal X.prog X.w X.K X.mg X.base k x sp) (hr : Room j X.A) (ha : PA X (e :: es) t) (hk : k ≤ j := by decide) (hg : Gl X x := by rfl)
    (hdb : (x == ("__debug__" : Str)) = false := by decide) (he : starEach (e :: es) X.env = (false, eval e X.env) :: starEach es X.env := by rfl) (hpl : (backTo pos (starEach es X.env)).any (·.1) = false := by rfl) :
    PE X (.Call (.Name x p) (e :: es) [] pos) (tCall sp [] E0 t) := by
  obtain ⟨f, fd, ps, F, hm, kp, b⟩ := c.ex
  exact pe_call F (hr.mono hk) hg hm kp b .nil pass0 ha hdb he hpl
/-- a statement that is never come to -/
theorem ps_no {X : Cx} {st : Stmt} : PS X st (fun _ _ _ => False) := ⟨fun _ _ _ _ _ _ h => h.elim⟩
/-! ### heaps, tuples of ints, and of such -/
theorem same_new {H : Hp} {p : Addr} {o : HO} (h : H p = none) : Same H (upd H p o) := fun b x e => by
  rw [upd_ne (ne_of_none e h)]
  exact e
theorem seqT {K : PySem.W.Frag} {H H' : Hp} {a : Addr} {xs : List V} (e : ∀ o, H a = some o → H' a = some o) (h : SqT K H a xs) : SqT K H' a xs := by
  rcases h with (h | ⟨o, h⟩) | h
  · exact .inl (.inl (e _ h))
  · exact .inl (.inr ⟨o, e _ h⟩)
  · exact .inr h
theorem onT {K : PySem.W.Frag} {H H' : Hp} {a : Addr} {xs : List V} (e : Same H H') (h : SqT K H a xs) : SqT K H' a xs := seqT (fun o => e a o) h
theorem tupAt {K : PySem.W.Frag} {H : Hp} {a : Addr} {xs : List V} (h : H a = some (.tup xs)) : SqT K H a xs := .inl (.inl h)
theorem lstAt {K : PySem.W.Frag} {H : Hp} {a : Addr} {xs : List V} (h : H a = some (.lst xs)) : SqL K H a xs := .inl (.inl h)
/-- a tuple's type -/
theorem ty_tup {K : PySem.W.Frag} {H : Hp} {a : Addr} {xs : List V} (h : SqT K H a xs) : TyX K H (.ref a) (.type "tuple") := by
  rcases h with (h | ⟨o, h⟩) | ⟨o, its, n, h, c, _⟩
  · exact .base (.tup h)
  · exact .fTuple h
  · exact .kTuple h c
/-- each by each -/
inductive Each {α : Type} (R : V → α → Prop) : List V → List α → Prop
  | nil : Each R [] []
  | cons {v : V} {d : α} {vs : List V} {ds : List α} : R v d → Each R vs ds → Each R (v :: vs) (d :: ds)
theorem Each.len {α : Type} {R : V → α → Prop} : ∀ {vs : List V} {ds : List α}, Each R vs ds → vs.length = ds.length
  | _, _, .nil => rfl
  | _, _, .cons _ t => congrArg (· + 1) t.len
theorem Each.imp {α : Type} {R R' : V → α → Prop} (f : ∀ v d, R v d → R' v d) : ∀ {vs : List V} {ds : List α}, Each R vs ds → Each R' vs ds
  | _, _, .nil => .nil
  | _, _, .cons h t => .cons (f _ _ h) (t.imp f)
theorem Each.at {α : Type} {R : V → α → Prop} : ∀ {vs : List V} {ds : List α} {i : Nat} {v : V}, Each R vs ds → vs[i]? = some v → ∃ d, ds[i]? = some d ∧ R v d
  | _, _, _, _, .nil, e => by simp at e
  | _, _, 0, _, .cons h _, e => by
    have e' := Option.some.inj e
    subst e'
    exact ⟨_, rfl, h⟩
  | _, _, i + 1, _, .cons _ t, e => t.at (i := i) e
theorem Each.of {α : Type} {R : V → α → Prop} : ∀ {vs : List V} {ds : List α} {i : Nat} {d : α}, Each R vs ds → ds[i]? = some d → ∃ v, vs[i]? = some v ∧ R v d
  | _, _, _, _, .nil, e => by simp at e
  | _, _, 0, _, .cons h _, e => by
    have e' := Option.some.inj e
    subst e'
    exact ⟨_, rfl, h⟩
  | _, _, i + 1, _, .cons _ t, e => t.of (i := i) e
theorem Each.snoc {α : Type} {R : V → α → Prop} {v : V} {d : α} (h : R v d) : ∀ {vs : List V} {ds : List α}, Each R vs ds → Each R (vs ++ [v]) (ds ++ [d])
  | _, _, .nil => .cons h .nil
  | _, _, .cons g t => .cons g (t.snoc h)
/-- a tuple of ints -/
def TI (K : PySem.W.Frag) (H : Hp) (v : V) (ns : List Int) : Prop := ∃ a, v = .ref a ∧ SqT K H a (ns.map V.int)
/-- a tuple of such -/
def TII (K : PySem.W.Frag) (H : Hp) (v : V) (nss : List (List Int)) : Prop := ∃ a vs, v = .ref a ∧ SqT K H a vs ∧ Each (TI K H) vs nss
def THs (K : PySem.W.Frag) (H : Hp) (v : V) (hs : List (List (List Int))) : Prop := ∃ a vs, v = .ref a ∧ SqT K H a vs ∧ Each (TII K H) vs hs
/-- all tuples stand -/
def Tups (K : PySem.W.Frag) (H H' : Hp) : Prop := ∀ a xs, SqT K H a xs → SqT K H' a xs
theorem Same.tups {K : PySem.W.Frag} {H H' : Hp} (e : Same H H') : Tups K H H' := fun _ _ h => onT e h
theorem TI.on {K : PySem.W.Frag} {H H' : Hp} {v : V} {ns : List Int} (e : Tups K H H') (h : TI K H v ns) : TI K H' v ns := let ⟨a, h1, h2⟩ := h; ⟨a, h1, e _ _ h2⟩
theorem TII.on {K : PySem.W.Frag} {H H' : Hp} {v : V} {nss : List (List Int)} (e : Tups K H H') (h : TII K H v nss) : TII K H' v nss := let ⟨a, vs, h1, h2, h3⟩ := h; ⟨a, vs, h1, e _ _ h2, h3.imp fun _ _ z => z.on e⟩
theorem THs.on {K : PySem.W.Frag} {H H' : Hp} {v : V} {hs : List (List (List Int))} (e : Tups K H H') (h : THs K H v hs) : THs K H' v hs := let ⟨a, vs, h1, h2, h3⟩ := h; ⟨a, vs, h1, e _ _ h2, h3.imp fun _ _ z => z.on e⟩
theorem map_at {ns : List Int} {i : Nat} {x : V} (h : (ns.map V.int)[i]? = some x) : ∃ n, ns[i]? = some n ∧ x = .int n := by
  rw [List.getElem?_map] at h
  cases e : ns[i]? with
  | none =>
    rw [e] at h
    cases h
  | some n =>
    rw [e] at h
    exact ⟨n, rfl, (Option.some.inj h).symm⟩
theorem at_map {ns : List Int} {i : Nat} {n : Int} (h : ns[i]? = some n) : (ns.map V.int)[i]? = some (.int n) := by
  rw [List.getElem?_map, h]
  rfl
theorem all_snoc {α : Type} (f : α → Bool) {l : List α} {i : Nat} {x : α} (h : l[i]? = some x) : (l.take (i + 1)).map f = (l.take i).map f ++ [f x] := by
  rw [List.take_add_one, h, List.map_append]
  rfl
/-! ### lists of ints, compared -/
theorem dpAll_ints {K : PySem.W.Frag} {H : Hp} : ∀ ns : List Int, DpAll K H (ns.map V.int) (ns.map PyData.int)
  | [] => .nil
  | n :: ns => .cons (.int n) (dpAll_ints ns)
theorem dp_lst {K : PySem.W.Frag} {H : Hp} {a : Addr} {ns : List Int} (h : SqL K H a (ns.map V.int)) : Dp K H (.ref a) (.list (ns.map PyData.int)) := .lst h (dpAll_ints ns)
theorem dp_tup {K : PySem.W.Frag} {H : Hp} {a : Addr} {ns : List Int} (h : SqT K H a (ns.map V.int)) : Dp K H (.ref a) (.tuple (ns.map PyData.int)) := .tup h (dpAll_ints ns)
theorem eqv_lst (ns ms : List Int) : PyData.eqv (.list (ns.map PyData.int)) (.list (ms.map PyData.int)) = decide (ns = ms) := by
  rw [PyData.eqv]
  exact PySem.W.ked_eqvAll ns ms
def rg (n : Nat) : List Int := (List.range n).map fun i : Nat => (i : Int)
theorem rgV_rg (n : Nat) : rgV 0 (n : Int) = (rg n).map V.int := by
  unfold rgV rg
  rw [List.map_map, Int.sub_zero, Int.toNat_natCast]
  refine List.map_congr_left fun i _ => ?_
  show V.int (0 + (i : Int)) = V.int (i : Int)
  rw [Int.zero_add]
theorem rg_len (n : Nat) : (rg n).length = n := by
  unfold rg
  rw [List.length_map, List.length_range]
theorem rg_mem {n : Nat} {x : Int} : x ∈ rg n ↔ 0 ≤ x ∧ x < n := by
  unfold rg
  rw [List.mem_map]
  constructor
  · rintro ⟨i, h, rfl⟩
    have := List.mem_range.mp h
    omega
  · rintro ⟨h1, h2⟩
    exact ⟨x.toNat, List.mem_range.mpr (by omega), by omega⟩
theorem rg_at {n i : Nat} (h : i < n) : (rg n)[i]? = some (i : Int) := by
  unfold rg
  rw [List.getElem?_map, List.getElem?_range h]
  rfl
/-! ### walks over enumerate and zip of tuples -/
section
variable {K : PySem.W.Frag} {a b : Addr} {xs ys : List V}
theorem for_enumT {g : TG} {tb : TS} {D : Ends} {σ : L2.St} {H : Hp} (Pv : Nat → L2.St → Hp → Prop) (h0 : Pv 0 σ H) (hl : ∀ i σ H, Pv i σ H → SqT K H a xs)
    (hs : ∀ i x T σ H, xs[i]? = some x → Pv i σ H → H T = none → g (.ref T) σ (upd H T (.tup [.int (i : Nat), x])) fun σ2 H2 => tb { D with nx := Pv (i + 1), ct := Pv (i + 1), bk := D.nx } σ2 H2) (hd : ∀ σ H, Pv xs.length σ H → D.nx σ H) :
    ∃ W : Nat → Nat → L2.St → Hp → Prop, (∃ m, W 0 m σ H) ∧ ∀ i m σ H, W i m σ H →
      ((IteT K a).stop i H ∧ D.nx σ H) ∨ ((IteT K a).go i H ∧ ∃ N : L2.St → Hp → Prop, (∀ σ' H', N σ' H' → ∃ m', m' < m ∧ W (i + 1) m' σ' H') ∧ ∀ x H', (IteT K a).yld i H x H' → g x σ H' fun σ2 H2 => tb { D with nx := N, ct := N, bk := D.nx } σ2 H2) := by
  refine ⟨fun i m σ H => m = xs.length - i ∧ i ≤ xs.length ∧ Pv i σ H, ⟨xs.length, rfl, Nat.zero_le _, h0⟩, ?_⟩
  rintro i m σ H ⟨rfl, hi, p⟩
  have q := hl i σ H p
  by_cases hlt : i < xs.length
  · have hx : xs[i]? = some xs[i] := List.getElem?_eq_getElem hlt
    refine .inr ⟨⟨xs, _, q, hx⟩, Pv (i + 1), fun σ' H' p' => ⟨xs.length - (i + 1), by omega, rfl, hlt, p'⟩, fun v H' y => ?_⟩
    obtain ⟨T, x', rfl, hT, rfl, f1⟩ := y
    exact hs i x' T σ H (f1 xs q) p hT
  · have e : i = xs.length := by omega
    subst e
    exact .inl ⟨⟨xs, q, Nat.le_refl _⟩, hd σ H p⟩
theorem lc_zipT {g : TG} {tt : TT} {te : TE} {vs : List Nat} {σ : L2.St} {H1 : Hp} {D : Addr} {Qd : Hp → Prop} (n : Nat) (hn : n = min xs.length ys.length) (Pv : Nat → Hp → Prop) (h0 : Pv 0 (upd H1 D (.lst []))) (hl : ∀ i H, Pv i H → SqT K H a xs ∧ SqT K H b ys)
    (hs : ∀ i x z T H, xs[i]? = some x → ys[i]? = some z → Pv i H → H T = none → g (.ref T) (wipe σ vs) (upd H T (.tup [x, z])) fun σ2 H2 => wipe σ2 vs = wipe σ vs ∧ tt σ2 H2 fun k H3 =>
      if k = true then te σ2 H3 fun y H4 => ∃ acc, H4 D = some (.lst acc) ∧ acc.length < sizeLine ∧ Pv (i + 1) (upd H4 D (.lst (acc ++ [y]))) else Pv (i + 1) H3) (hd : ∀ H, Pv n H → Qd H) :
    ∃ W : Nat → Nat → Hp → Prop, (∃ m, W 0 m (upd H1 D (.lst []))) ∧ ∀ i m H, W i m H →
      ((RZ.ItzT K a b).stop i H ∧ Qd H) ∨ ((RZ.ItzT K a b).go i H ∧ ∃ Nx : Hp → Prop, (∀ H', Nx H' → ∃ m', m' < m ∧ W (i + 1) m' H') ∧ ∀ x H', (RZ.ItzT K a b).yld i H x H' → g x (wipe σ vs) H' fun σ2 H2 => wipe σ2 vs = wipe σ vs ∧ tt σ2 H2 fun k H3 =>
        if k = true then te σ2 H3 fun y H4 => ∃ acc, H4 D = some (.lst acc) ∧ acc.length < sizeLine ∧ Nx (upd H4 D (.lst (acc ++ [y]))) else Nx H3) := by
  refine ⟨fun i m H => m = n - i ∧ i ≤ n ∧ Pv i H, ⟨n, rfl, Nat.zero_le _, h0⟩, ?_⟩
  rintro i m H ⟨rfl, hi, p⟩
  obtain ⟨q1, q2⟩ := hl i H p
  by_cases hlt : i < n
  · have hx : xs[i]? = some xs[i] := List.getElem?_eq_getElem (by omega)
    have hy : ys[i]? = some ys[i] := List.getElem?_eq_getElem (by omega)
    refine .inr ⟨⟨xs, ys, _, _, q1, q2, hx, hy⟩, Pv (i + 1), fun H' p' => ⟨n - (i + 1), by omega, rfl, hlt, p'⟩, fun v H' y => ?_⟩
    obtain ⟨T, x', z', rfl, hT, rfl, f1, f2⟩ := y
    exact hs i x' z' T H (f1 xs q1) (f2 ys q2) p hT
  · have e : i = n := by omega
    subst e
    exact .inl ⟨⟨xs, ys, q1, q2, by omega⟩, hd H p⟩
end
end RH
set_option Elab.async false
set_option linter.all false
set_option maxRecDepth 100000
set_option maxHeartbeats 2000000
namespace RH
open PySem PySem.Spec PyProof.Rows L2
/-! ### the checks -/
section
variable {P : Program} {w : World} {K : PySem.W.Frag} {mg : Str → Option Value} {base : Heap}
/-- an int alone: its kind -/
def spIsInteger : Sp := fun vs H Q _ => ∃ i : Int, vs = [.int i] ∧ Q (.bl true) H
theorem ok_is_integer (F : Df K mg "is_integer" st_is_integer ["value"]) (B : Bu mg) : Cal P w K mg base 1 "is_integer" spIsInteger := by
  refine mkCal F sc_is_integer (fun vs H Q E h => ?_) (fun f cdv A outer s H vs Q E hr h => ?_)
  · obtain ⟨i, rfl, _⟩ := h
    rfl
  · obtain ⟨i, rfl, q⟩ := h
    refine ⟨_, pss_one (ps_ret (pe_and (pe_callB call_isi (by rfl) B.isi (by decide +kernel) (pa_cons (pv 0) (pa_cons (pe_bltn (v := .ty "int") (by rfl) B.int (by decide +kernel) rfl) pa_nil)))
      (pe_one (pe_not (pe_callB call_isi (by rfl) B.isi (by decide +kernel) (pa_cons (pv 0) (pa_cons (pe_bltn (v := .ty "bool") (by rfl) B.bool (by decide +kernel) rfl) pa_nil))))))), ?_⟩
    exact ⟨_, rfl, .int i, .ty "int", _, _, true, rfl, .ty "int", .base (.int i), kit_ty (by decide +kernel), true, rfl,
      _, rfl, .int i, .ty "bool", _, _, false, rfl, .ty "bool", .base (.int i), kit_ty (by decide +kernel), false, rfl, q⟩
def spIsNumber : Sp := fun vs H Q _ => ∃ i lo hi : Int, vs = [.int i, .int lo, .int hi] ∧ Q (.bl (decide (lo ≤ i) && decide (i ≤ hi))) H
theorem ok_is_number (F : Df K mg "is_number" st_is_number ["value", "low", "high"]) (C1 : Cal P w K mg base 1 "is_integer" spIsInteger) : Cal P w K mg base 2 "is_number" spIsNumber := by
  refine mkCal F sc_is_number (fun vs H Q E h => ?_) (fun f cdv A outer s H vs Q E hr h => ?_)
  · obtain ⟨i, lo, hi, rfl, _⟩ := h
    rfl
  · obtain ⟨i, lo, hi, rfl, q⟩ := h
    refine ⟨_, pss_one (ps_ret (pe_and (pc C1 hr (pa_cons (pv 0) pa_nil)) (pe_one (pe_chain op_le op_le (pv 1) (pv 0) (pv 2))))), ?_⟩
    refine ⟨_, rfl, i, rfl, true, rfl, _, rfl, _, rfl, lo, i, rfl, rfl, _, rfl, ite2 (fun e => ?_) (fun e => ?_)⟩
    · refine ⟨_, rfl, i, hi, rfl, rfl, ?_⟩
      rw [e, Bool.true_and] at q
      exact q
    · have e' : decide (lo ≤ i) = false := by simpa using e
      rw [e', Bool.false_and] at q
      exact q
end
end RH
set_option Elab.async false
set_option linter.all false
set_option maxRecDepth 100000
set_option maxHeartbeats 2000000
namespace RH
open PySem PySem.Spec PyProof.Rows L2
section
variable {P : Program} {w : World} {K : PySem.W.Frag} {mg : Str → Option Value} {base : Heap}
def spIsRow (K : PySem.W.Frag) : Sp := fun vs H Q _ => ∃ (a : Addr) (xs : List V) (lo hi : Int), vs = [.ref a, .int lo, .int hi] ∧ SqT K H a xs ∧ Q (.bl (decide (lo ≤ (xs.length : Int)) && decide ((xs.length : Int) ≤ hi))) H
theorem ok_is_row (F : Df K mg "is_row" st_is_row ["value", "low", "high"]) (B : Bu mg) : Cal P w K mg base 1 "is_row" (spIsRow K) := by
  refine mkCal F sc_is_row (fun vs H Q E h => ?_) (fun f cdv A outer s H vs Q E hr h => ?_)
  · obtain ⟨a, xs, lo, hi, rfl, _⟩ := h
    rfl
  · obtain ⟨a, xs, lo, hi, rfl, hS, q⟩ := h
    refine ⟨_, pss_one (ps_ret (pe_and (pe_callB call_isi (by rfl) B.isi (by decide +kernel) (pa_cons (pv 0) (pa_cons (pe_bltn (v := .ty "tuple") (by rfl) B.tuple (by decide +kernel) rfl) pa_nil)))
      (pe_one (pe_chain op_le op_le (pv 1) (pe_callB call_len_seq (by rfl) B.len PySem.boot_len (pa_cons (pv 0) pa_nil)) (pv 2))))), ?_⟩
    refine ⟨_, rfl, .ref a, .ty "tuple", _, _, true, rfl, .ty "tuple", ty_tup hS, kit_ty (by decide +kernel), true, rfl, _, rfl, _, rfl, a, xs, rfl, .inr hS, lo, (xs.length : Int), rfl, rfl, _, rfl, ite2 (fun e => ?_) (fun e => ?_)⟩
    · refine ⟨_, rfl, _, hi, rfl, rfl, ?_⟩
      rw [e, Bool.true_and] at q
      exact q
    · have e' : decide (lo ≤ (xs.length : Int)) = false := by simpa using e
      rw [e', Bool.false_and] at q
      exact q
def spIsPlace : Sp := fun vs H Q _ => ∃ i p : Int, vs = [.int i, .int p] ∧ Q (.bl (decide (0 ≤ i) && decide (i ≤ p - 1))) H
theorem ok_is_place (F : Df K mg "is_place" st_is_place ["value", "places"]) (C2 : Cal P w K mg base 2 "is_number" spIsNumber) : Cal P w K mg base 3 "is_place" spIsPlace := by
  refine mkCal F sc_is_place (fun vs H Q E h => ?_) (fun f cdv A outer s H vs Q E hr h => ?_)
  · obtain ⟨i, p, rfl, _⟩ := h
    rfl
  · obtain ⟨i, p, rfl, q⟩ := h
    refine ⟨_, pss_one (ps_ret (pc C2 hr (pa_cons (pv 0) (pa_cons pe_int (pa_cons (pe_op op_sub (pv 1) pe_int) pa_nil))))), ?_⟩
    exact ⟨_, rfl, _, rfl, p, 1, rfl, rfl, i, 0, p - 1, rfl, q⟩
/-- all are places -/
def inP (p : Int) (ns : List Int) : Bool := ns.all fun i => decide (0 ≤ i) && decide (i ≤ p - 1)
def spArePlaces (K : PySem.W.Frag) : Sp := fun vs H Q _ => ∃ (v : V) (ns : List Int) (p : Int), vs = [v, .int p] ∧ TI K H v ns ∧ ns.length ≤ 1000 ∧ ∀ H', Same H H' → Q (.bl (inP p ns)) H'
theorem ok_are_places (F : Df K mg "are_places" st_are_places ["value", "places"]) (B : Bu mg) (C3 : Cal P w K mg base 3 "is_place" spIsPlace) : Cal P w K mg base 4 "are_places" (spArePlaces K) := by
  refine mkCal F sc_are_places (fun vs H Q E h => ?_) (fun f cdv A outer s H vs Q E hr h => ?_)
  · obtain ⟨v, ns, p, rfl, _⟩ := h
    rfl
  · obtain ⟨v, ns, p, rfl, ⟨a, rfl, hS⟩, hlen, q⟩ := h
    refine ⟨_, pss_one (ps_ret (pe_and (pe_callB call_isi (by rfl) B.isi (by decide +kernel) (pa_cons (pv 0) (pa_cons (pe_bltn (v := .ty "tuple") (by rfl) B.tuple (by decide +kernel) rfl) pa_nil)))
      (pe_one (pe_callB (cr_all rfl) (by rfl) B.all (by decide +kernel) (pa_cons (pe_lc (own := [("place", 2)]) (g := gName 2) (tt := tYes) rfl sc_are_places.nd (pi_tup (pv 0)) (blkOk_by (N := ["value", "places", "place"]) (sc := defScope st_are_places) (by decide +kernel))
        (fun _ _ _ _ _ => pg_name (i := 2) sc_are_places.nd rfl (Or.inl rfl)) (fun _ _ _ _ _ => pts_nil) (fun _ _ _ _ _ => pc C3 hr (pa_cons (pv 2) (pa_cons (pv 1) pa_nil)))) pa_nil))))), ?_⟩
    refine ⟨_, rfl, .ref a, .ty "tuple", _, _, true, rfl, .ty "tuple", ty_tup hS, kit_ty (by decide +kernel), true, rfl, ?_⟩
    refine ⟨_, rfl, a, rfl, ⟨_, hS⟩, fun D hD => ?_⟩
    refine lc_tup (xs := ns.map V.int) (fun i H' => Same H H' ∧ H' D = some (.lst (((ns.take i).map fun i => decide (0 ≤ i) && decide (i ≤ p - 1)).map V.bl))) ⟨same_new hD, upd_same⟩ (fun i H' _ h' => onT h'.1 hS) (fun i x H' hx h' => ?_) (fun H' h' => ?_)
    · obtain ⟨n, hn, rfl⟩ := map_at hx
      obtain ⟨sm, eD⟩ := h'
      refine ⟨rfl, _, rfl, _, rfl, n, p, rfl, _, eD, ?_, ?_, ?_⟩
      · rw [List.length_map, List.length_map, List.length_take]
        exact small1000 (by omega)
      · intro b o e
        rw [upd_ne (ne_of_none e hD)]
        exact sm b o e
      · rw [upd_same, all_snoc _ hn, List.map_append]
        rfl
    · obtain ⟨sm, eD⟩ := h'
      rw [List.length_map, List.take_length] at eD
      refine ⟨D, _, rfl, lstAt eD, ?_⟩
      have e : ((ns.map fun i => decide (0 ≤ i) && decide (i ≤ p - 1)).all id) = inP p ns := by
        unfold inP
        rw [List.all_map]
        rfl
      rw [e]
      exact q H' sm
end
end RH
set_option Elab.async false
set_option linter.all false
set_option maxRecDepth 100000
set_option maxHeartbeats 2000000
namespace RH
open PySem PySem.Spec PyProof.Rows L2
/-! ### slices and constants -/
theorem cut_from (xs : List V) (k : Nat) : cutV xs (some (k : Int)) none = xs.drop k := by
  unfold cutV
  rw [HT.sIx_nat, HT.sIx_none]
  rcases Nat.le_total k xs.length with h | h
  · rw [Nat.min_eq_left h]
    exact List.take_of_length_le (by rw [List.length_drop]; exact Nat.le_refl _)
  · rw [Nat.min_eq_right h, Nat.sub_self, List.take_zero, List.drop_eq_nil_of_le h]
theorem cut_to (xs : List V) (k : Nat) : cutV xs none (some (k : Int)) = xs.take k := by
  unfold cutV
  rw [HT.sIx_nat, HT.sIx_none, List.drop_zero, Nat.sub_zero]
  rcases Nat.le_total k xs.length with h | h
  · rw [Nat.min_eq_left h]
  · rw [Nat.min_eq_right h, List.take_length, List.take_of_length_le h]
/-- t[k:], k written -/
theorem slT_from {K : PySem.W.Frag} {H : Hp} {a : Addr} {xs : List V} {Q : VK} (z : Int) (k : Nat) (hz : z = (k : Int)) (h : SqT K H a xs) (q : ∀ b H2, Same H H2 → SqT K H2 b (xs.drop k) → Q (.ref b) H2) : rSlA K (.ref a) (some z) none H Q := by
  subst hz
  refine ⟨a, xs, rfl, h, fun hf => q a H (Same.refl H) ?_, fun _ p hp => q p _ (same_new hp) (tupAt (by rw [upd_same, cut_from]))⟩
  have e := hf.1
  rw [HT.sIx_nat] at e
  rcases Nat.le_total k xs.length with h' | h'
  · rw [Nat.min_eq_left h'] at e
    rw [e, List.drop_zero]
    exact h
  · rw [Nat.min_eq_right h'] at e
    have e2 : xs = [] := List.eq_nil_of_length_eq_zero e
    subst e2
    rw [List.drop_nil]
    exact h
/-- a number that the module keeps -/
theorem pk {X : Cx} {x : Str} {i : Int} {pos : Pos} (h : ∃ t, X.mg x = some (.int i t)) (hg : Gl X x := by rfl) (hn : x ≠ "__name__" := by decide) (hd : (x == ("__debug__" : Str)) = false := by decide) : PE X (.Name x pos) (tC (.int i)) := by
  obtain ⟨t, h⟩ := h
  exact pe_glob (v := .int i) hg h ⟨_, rfl⟩ hd
/-! ### rules within a comprehension: the written part is told -/
def rLenK (K : PySem.W.Frag) : List V → Hp → VK → Prop := fun xs H Q => ∃ p ys, xs = [.ref p] ∧ (SqL K H p ys ∨ SqT K H p ys) ∧ Q (.int ys.length) H
theorem cl_len {X : Cx} (K : PySem.W.Frag) (h : X.K = K := by rfl) : CallR X (.builtin "len") (rLenK K) := by
  subst h
  exact call_len_seq
theorem ixT {X : Cx} (K : PySem.W.Frag) (h : X.K = K := by rfl) : IxR X (rIxT K) := by
  subst h
  exact ix_tup
theorem ixL {X : Cx} (K : PySem.W.Frag) (h : X.K = K := by rfl) : IxR X (rIxL K) := by
  subst h
  exact ix_list
theorem opIn {X : Cx} (K : PySem.W.Frag) (h : X.K = K := by rfl) : OpR X (compareOp .In) (rIn K false) := by
  subst h
  exact op_in_seq
/-! ### rising, a layout, a habit -/
def risI (ns : List Int) : Bool := (ns.zip (ns.drop 1)).all fun p => decide (p.1 < p.2)
theorem risI_of : ∀ {ns : List Int}, ns.Pairwise (· < ·) → risI ns = true
  | [], _ => rfl
  | [_], _ => rfl
  | x :: y :: r, h => by
    have h1 := List.rel_of_pairwise_cons h (List.mem_cons_self ..)
    have h2 := risI_of (ns := y :: r) (List.Pairwise.of_cons h)
    show (decide (x < y) && risI (y :: r)) = true
    rw [h2, Bool.and_true]
    exact decide_eq_true h1
def isLay (p : Nat) (ns : List Int) : Bool := ns.isPerm (rg p)
def isHab (nss : List (List Int)) : Bool := decide (2 ≤ nss.length) && decide (nss.length ≤ 5) && nss.all (isLay nss.length)
theorem inP_of {p : Nat} {ns : List Int} (h : ns.Perm (rg p)) : inP p ns = true := by
  unfold inP
  rw [List.all_eq_true]
  intro i hi
  have := rg_mem.mp (h.mem_iff.mp hi)
  rw [Bool.and_eq_true]
  exact ⟨decide_eq_true (by omega), decide_eq_true (by omega)⟩
theorem rg_le (p : Nat) : (rg p).Pairwise (· ≤ ·) := by
  unfold rg
  rw [List.pairwise_map]
  exact (List.pairwise_lt_range (n := p)).imp fun h => by omega
section
variable {P : Program} {w : World} {K : PySem.W.Frag} {mg : Str → Option Value} {base : Heap}
def spIsRising (K : PySem.W.Frag) : Sp := fun vs H Q _ => ∃ (v : V) (ns : List Int), vs = [v] ∧ TI K H v ns ∧ ns.length ≤ 1000 ∧ ∀ H', Same H H' → Q (.bl (risI ns)) H'
theorem ok_is_rising (F : Df K mg "is_rising" st_is_rising ["row"]) (B : Bu mg) : Cal P w K mg base 1 "is_rising" (spIsRising K) := by
  refine mkCal F sc_is_rising (fun vs H Q E h => ?_) (fun f cdv A outer s H vs Q E hr h => ?_)
  · obtain ⟨v, ns, rfl, _⟩ := h
    rfl
  · obtain ⟨v, ns, rfl, ⟨a, rfl, hS⟩, hlen, q⟩ := h
    refine ⟨_, pss_one (ps_ret (pe_callB (cr_all rfl) (by rfl) B.all (by decide +kernel) (pa_cons (pe_lc (own := [("one", 1), ("other", 2)]) (g := gTup K 2 (gCons (gName 1) (gCons (gName 2) gNil))) (tt := tYes) rfl sc_is_rising.nd
        (RZ.pi_zipA (by rfl) B.zip (pa_cons (pv 0) (pa_cons (pe_slice sl_tupA (pv 0) (po_some pe_int) po_none) pa_nil))) (blkOk_by (N := ["row", "one", "other"]) (sc := defScope st_is_rising) (by decide +kernel))
        (fun _ _ _ _ _ => pg_tup rfl (pgs_cons (pg_name (i := 1) sc_is_rising.nd rfl (Or.inl rfl)) (pgs_cons (pg_name (i := 2) sc_is_rising.nd rfl (Or.inl rfl)) pgs_nil))) (fun _ _ _ _ _ => pts_nil)
        (fun _ _ _ _ _ => pe_cmpR op_lt (pv 1) (pv 2) (nomark _))) pa_nil))), ?_⟩
    refine ⟨_, rfl, _, rfl, 1, rfl, ?_⟩
    unfold tNoPart
    dsimp only
    refine slT_from 1 1 rfl hS fun b H2 sm2 hb => ?_
    rw [← List.map_drop] at hb
    refine ⟨a, b, _, _, rfl, .inr ⟨onT sm2 hS, hb, fun D hD => ?_⟩⟩
    refine lc_zipT (xs := ns.map V.int) (ys := (ns.drop 1).map V.int) (ns.zip (ns.drop 1)).length (by rw [List.length_zip, List.length_map, List.length_map])
      (fun i H' => Same H2 H' ∧ H' D = some (.lst ((((ns.zip (ns.drop 1)).take i).map fun p => decide (p.1 < p.2)).map V.bl))) ⟨same_new hD, upd_same⟩ (fun i H' h' => ⟨onT h'.1 (onT sm2 hS), onT h'.1 hb⟩) (fun i x z T H' hx hz h' hT => ?_) (fun H' h' => ?_)
    · obtain ⟨m, hm, rfl⟩ := map_at hx
      obtain ⟨n, hn, rfl⟩ := map_at hz
      obtain ⟨sm, eD⟩ := h'
      have eDT : (upd H' T (.tup [.int m, .int n])) D = H' D := upd_ne (ne_of_none eD hT)
      refine ⟨T, _, rfl, tupAt upd_same, rfl, _, _, rfl, _, _, rfl, rfl, rfl, _, rfl, _, rfl, m, n, rfl, rfl, _, eDT.trans eD, ?_, ?_, ?_⟩
      · rw [List.length_map, List.length_map, List.length_take, List.length_zip]
        exact small1000 (by omega)
      · intro b' o e
        rw [upd_ne (ne_of_none e hD)]
        exact same_new hT b' o (sm b' o e)
      · have hz : (ns.zip (ns.drop 1))[i]? = some (m, n) := by
          rw [List.getElem?_zip_eq_some]
          exact ⟨hm, hn⟩
        rw [upd_same, all_snoc _ hz, List.map_append]
        rfl
    · obtain ⟨sm, eD⟩ := h'
      rw [List.take_length] at eD
      refine ⟨D, _, rfl, lstAt eD, ?_⟩
      have e : (((ns.zip (ns.drop 1)).map fun p => decide (p.1 < p.2)).all id) = risI ns := by
        unfold risI
        rw [List.all_map]
        rfl
      rw [e]
      exact q H' (sm2.trans sm)
def spIsLayout (K : PySem.W.Frag) : Sp := fun vs H Q _ => ∃ (v : V) (ns : List Int) (p : Nat), vs = [v, .int p] ∧ TI K H v ns ∧ ns.length < 64 ∧ p ≤ 1000 ∧ ∀ H', Same H H' → Q (.bl (isLay p ns)) H'
theorem ok_is_layout (F : Df K mg "is_layout" st_is_layout ["value", "places"]) (B : Bu mg) (C4 : Cal P w K mg base 4 "are_places" (spArePlaces K)) : Cal P w K mg base 5 "is_layout" (spIsLayout K) := by
  refine mkCal F sc_is_layout (fun vs H Q E h => ?_) (fun f cdv A outer s H vs Q E hr h => ?_)
  · obtain ⟨v, ns, p, rfl, _⟩ := h
    rfl
  · obtain ⟨v, ns, p, rfl, ⟨a, rfl, hS⟩, hlen, hp, q⟩ := h
    refine ⟨_, pss_one (ps_ret (pe_and (pc C4 hr (pa_cons (pv 0) (pa_cons (pv 1) pa_nil)))
      (pe_one (pe_cmpR (op_eqD hr.units) (pe_callB cr_sortedTup (by rfl) B.sorted (by decide +kernel) (pa_cons (pv 0) pa_nil)) (pe_listRg rfl (by rfl) B.list (prg_1 (by rfl) B.range (pv 1))) (nomark _))))), ?_⟩
    refine ⟨_, rfl, _, rfl, .ref a, ns, p, rfl, ⟨a, rfl, hS⟩, by omega, fun H1 sm1 => ⟨_, rfl, ite2 (fun e => ?_) (fun e => ?_)⟩⟩
    · refine ⟨_, rfl, a, ns, rfl, onT sm1 hS, hlen, fun ns' pL hpm hpw nL => ⟨_, rfl, (p : Int), rfl, ⟨by omega, by omega, by omega, by omega, by omega⟩, fun q' nq => ?_⟩⟩
      have nqp : pL ≠ q' := ne_of_none upd_same nq
      refine ⟨_, _, dp_lst (ns := ns') (lstAt ?_), dp_lst (ns := rg p) (lstAt ?_), PySem.W.ke_shaped_ints _, PySem.W.ke_shaped_ints _, ?_⟩
      · rw [upd_ne nqp, upd_same]
      · rw [upd_same, rgV_rg]
      · have e2 : PyData.eqv (.list (ns'.map PyData.int)) (.list ((rg p).map PyData.int)) = isLay p ns := by
          rw [eqv_lst, Bool.eq_iff_iff, decide_eq_true_iff]
          unfold isLay
          rw [List.isPerm_iff]
          constructor
          · intro z
            rw [← z]
            exact hpm.symm
          · intro z
            exact PySem.W.ksm_same (hpm.trans z) hpw (rg_le p)
        rw [e2]
        exact q _ (sm1.trans ((same_new nL).trans (same_new nq)))
    · have e2 : isLay p ns = false := by
        cases z : isLay p ns with
        | false => rfl
        | true => exact absurd (inP_of (List.isPerm_iff.mp z)) e
      have e3 : inP (p : Int) ns = false := by simpa using e
      rw [e2] at q
      exact q _ sm1
def spIsHabit (K : PySem.W.Frag) : Sp := fun vs H Q _ => ∃ (v : V) (nss : List (List Int)), vs = [v] ∧ TII K H v nss ∧ nss.length ≤ 1000 ∧ (∀ ns ∈ nss, ns.length < 64) ∧ ∀ H', Same H H' → Q (.bl (isHab nss)) H'
theorem ok_is_habit (F : Df K mg "is_habit" st_is_habit ["value"]) (B : Bu mg) (c2 : ∃ t, mg "FEWEST_PLACES" = some (.int 2 t)) (c5 : ∃ t, mg "MOST_PLACES" = some (.int 5 t))
    (C1 : Cal P w K mg base 1 "is_row" (spIsRow K)) (C5 : Cal P w K mg base 5 "is_layout" (spIsLayout K)) : Cal P w K mg base 6 "is_habit" (spIsHabit K) := by
  refine mkCal F sc_is_habit (fun vs H Q E h => ?_) (fun f cdv A outer s H vs Q E hr h => ?_)
  · obtain ⟨v, nss, rfl, _⟩ := h
    rfl
  · obtain ⟨v, nss, rfl, ⟨a, xs, rfl, hS, hE⟩, hlen, h64, q⟩ := h
    have hxl : xs.length = nss.length := hE.len
    refine ⟨_, pss_one (ps_ret (pe_and (pc C1 hr (pa_cons (pv 0) (pa_cons (pk c2) (pa_cons (pk c5) pa_nil))))
      (pe_one (pe_callB (cr_all rfl) (by rfl) B.all (by decide +kernel) (pa_cons (pe_lc (own := [("moves", 1)]) (g := gName 1) (tt := tYes) rfl sc_is_habit.nd (pi_tup (pv 0)) (blkOk_by (N := ["value", "moves"]) (sc := defScope st_is_habit) (by decide +kernel))
        (fun _ _ _ _ _ => pg_name (i := 1) sc_is_habit.nd rfl (Or.inl rfl)) (fun _ _ _ _ _ => pts_nil) (fun _ _ _ _ _ => pc C5 hr (pa_cons (pv 1) (pa_cons (pe_callB (cl_len K) (by rfl) B.len PySem.boot_len (pa_cons (pv 0) pa_nil)) pa_nil)))) pa_nil))))), ?_⟩
    refine ⟨_, rfl, a, xs, 2, 5, rfl, hS, _, rfl, ite2 (fun e => ?_) (fun e => ?_)⟩
    · refine ⟨_, rfl, a, rfl, ⟨_, hS⟩, fun D hD => ?_⟩
      refine lc_tup (xs := xs) (fun i H' => Same H H' ∧ H' D = some (.lst (((nss.take i).map (isLay nss.length)).map V.bl))) ⟨same_new hD, upd_same⟩ (fun i H' _ h' => onT h'.1 hS) (fun i x H' hx h' => ?_) (fun H' h' => ?_)
      · obtain ⟨sm, eD⟩ := h'
        obtain ⟨ns, hn, hT⟩ := hE.at hx
        refine ⟨rfl, x, rfl, _, rfl, a, xs, rfl, .inr (onT sm hS), x, ns, nss.length, congrArg (fun m : Nat => [x, V.int m]) hxl, hT.on (fun _ _ z => onT sm z), h64 _ (List.mem_of_getElem? hn), hlen, fun H3 sm3 => ⟨_, sm3 _ _ eD, ?_, ?_, ?_⟩⟩
        · rw [List.length_map, List.length_map, List.length_take]
          exact small1000 (by omega)
        · intro b' o e'
          rw [upd_ne (ne_of_none e' hD)]
          exact sm3 b' o (sm b' o e')
        · rw [upd_same, all_snoc _ hn, List.map_append]
          rfl
      · obtain ⟨sm, eD⟩ := h'
        rw [hxl, List.take_length] at eD
        refine ⟨D, _, rfl, lstAt eD, ?_⟩
        have e2 : ((nss.map (isLay nss.length)).all id) = isHab nss := by
          unfold isHab
          rw [List.all_map, Bool.eq_iff_iff]
          rw [hxl] at e
          simp only [Bool.and_eq_true, decide_eq_true_eq] at e ⊢
          constructor
          · intro z
            exact ⟨⟨by omega, by omega⟩, z⟩
          · intro z
            exact z.2
        rw [e2]
        exact q H' sm
    · have e2 : isHab nss = false := by
        cases z : isHab nss with
        | false => rfl
        | true =>
          exfalso
          apply e
          unfold isHab at z
          rw [hxl]
          simp only [Bool.and_eq_true, decide_eq_true_eq] at z ⊢
          omega
      rw [e2] at q
      have e3 : (decide ((2 : Int) ≤ (xs.length : Int)) && decide ((xs.length : Int) ≤ 5)) = false := by simpa using e
      exact q _ (Same.refl H)
end
end RH
set_option Elab.async false
set_option linter.all false
set_option maxRecDepth 100000
set_option maxHeartbeats 2000000
namespace RH
open PySem PySem.Spec PyProof.Rows L2
/-! ### the mathematics of marks -/
theorem ifT {c : Bool} {A B : Prop} (hc : c = true) (h : A) : if c = true then A else B := by
  rw [if_pos hc]
  exact h
theorem ifF {c : Bool} {A B : Prop} (hc : c = false) (h : B) : if c = true then A else B := by
  rw [hc, if_neg Bool.false_ne_true]
  exact h
theorem flat_ints : ∀ ns : List Int, (ns.map V.int).all flatV = true
  | [] => rfl
  | n :: ns => by
    rw [List.map_cons, List.all_cons, flat_ints ns]
    rfl
/-- a habit of n places -/
structure Hb (n : Nat) (h : List (List Int)) : Prop where
  len : h.length = n
  perm : ∀ ns ∈ h, ns.Perm (rg n)
  lo : 2 ≤ n
  hi : n ≤ 5
theorem Hb.is {n : Nat} {h : List (List Int)} (q : Hb n h) : isHab h = true := by
  unfold isHab
  simp only [Bool.and_eq_true, decide_eq_true_eq, List.all_eq_true]
  refine ⟨⟨by have := q.len; have := q.lo; omega, by have := q.len; have := q.hi; omega⟩, fun ns hm => ?_⟩
  unfold isLay
  rw [q.len, List.isPerm_iff]
  exact q.perm ns hm
theorem Hb.short {n : Nat} {h : List (List Int)} (q : Hb n h) {ns : List Int} (hm : ns ∈ h) : ns.length = n := by
  rw [(q.perm ns hm).length_eq, rg_len]
def mv (h : List (List Int)) (t s : Int) : Int := (h.getD t.toNat []).getD s.toNat 0
theorem Hb.at {n : Nat} {h : List (List Int)} (q : Hb n h) {t s : Int} (t0 : 0 ≤ t) (t1 : t < n) (s0 : 0 ≤ s) (s1 : s < n) :
    ∃ ns, h[t.toNat]? = some ns ∧ ns[s.toNat]? = some (mv h t s) ∧ 0 ≤ mv h t s ∧ mv h t s < n := by
  have h1 : t.toNat < h.length := by rw [q.len]; omega
  have e1 : h[t.toNat]? = some h[t.toNat] := List.getElem?_eq_getElem h1
  have hm : h[t.toNat] ∈ h := List.getElem_mem h1
  have h2 : s.toNat < h[t.toNat].length := by rw [q.short hm]; omega
  have e2 : h[t.toNat][s.toNat]? = some h[t.toNat][s.toNat] := List.getElem?_eq_getElem h2
  have e4 : h.getD t.toNat [] = h[t.toNat] := by
    rw [List.getD_eq_getElem?_getD, e1]
    rfl
  have e3 : mv h t s = h[t.toNat][s.toNat] := by
    unfold mv
    rw [e4, List.getD_eq_getElem?_getD, e2]
    rfl
  have h4 := rg_mem.mp ((q.perm _ hm).mem_iff.mp (List.getElem_mem h2))
  rw [← e3] at h4
  exact ⟨_, e1, by rw [e3]; exact e2, h4⟩
/-- where a mark stands behind its own touch and a word -/
def mark (h : List (List Int)) (pl : Int) (ws : List Int) : Int := ws.foldl (fun s t => mv h t s) (mv h pl pl)
def InR (n : Nat) (i : Int) : Prop := 0 ≤ i ∧ i < n
theorem Hb.mark {n : Nat} {h : List (List Int)} (q : Hb n h) {pl : Int} (hp : InR n pl) : ∀ ws : List Int, (∀ t ∈ ws, InR n t) → InR n (mark h pl ws) := by
  intro ws hw
  unfold RH.mark
  have h0 : InR n (mv h pl pl) := (q.at hp.1 hp.2 hp.1 hp.2).choose_spec.2.2
  generalize mv h pl pl = s at h0
  induction ws generalizing s with
  | nil => exact h0
  | cons t ws ih =>
    have ht := hw t (List.mem_cons_self ..)
    exact ih (fun u hu => hw u (List.mem_cons_of_mem _ hu)) _ (q.at ht.1 ht.2 h0.1 h0.2).choose_spec.2.2
theorem mark_snoc (h : List (List Int)) (pl : Int) (ws : List Int) (t : Int) : mark h pl (ws ++ [t]) = mv h t (mark h pl ws) := by
  unfold mark
  rw [List.foldl_append]
  rfl
theorem take_more {α : Type} {l : List α} {i : Nat} {x : α} (h : l[i]? = some x) : l.take (i + 1) = l.take i ++ [x] := by
  rw [List.take_add_one, h]
  rfl
/-- an item of an int's place -/
theorem at_int {α : Type} {xs : List α} {z : Int} {v : α} (h0 : 0 ≤ z) (h : xs[z.toNat]? = some v) : atI xs z = some v := by
  have e : z = ((z.toNat : Nat) : Int) := by omega
  rw [e]
  exact atI_nat h
/-- a def with defaults, of which none is written where it is called -/
structure DfD (K : PySem.W.Frag) (mg : Str → Option Value) (x : Str) (st : Stmt) (ps : List Str) (dvs : List V) : Prop where
  ex : ∃ (f : Addr) (fd : FuncData), FunD K x x (defArgs st) (defBody st) (defScope st) dvs [] f fd ∧ mg x = some (.ref f) ∧ ∃ ds, Vals dvs ds ∧ Binds K fd ps ds
structure CalD (P : Program) (w : World) (K : PySem.W.Frag) (mg : Str → Option Value) (base : Heap) (k : Nat) (x : Str) (dvs : List V) (sp : Sp) : Prop where
  ex : ∃ (f : Addr) (fd : FuncData) (ps : List Str) (ds : List Value), FnOk P w K mg base CX0 k f fd ps sp ∧ mg x = some (.ref f) ∧ PySem.W.keepIn K (.ref f) = true ∧ Vals dvs ds ∧ Binds K fd ps ds
theorem mkCalD {P : Program} {w : World} {K : PySem.W.Frag} {mg : Str → Option Value} {base : Heap} {x : Str} {st : Stmt} {N ps : List Str} {dvs : List V} {k : Nat} {sp : Sp} (F : DfD K mg x st ps dvs) (S : FnScope N ps (defScope st)) (len : ∀ vs H Q E, sp vs H Q E → vs.length = ps.length)
    (hbody : ∀ (f : Addr) (cdv : Value) (A : Around) (outer : List Env) (s : Shared) (H : Hp) (vs : List V) (Q : VK) (E : XK), Room k (A.deeper (envOfC x (defScope st) s.heap.objs.size f cdv)) → sp vs H Q E →
      ∃ t, PSs (cxOf CX0 P w K mg base N x (defScope st) f cdv A outer s H E).nox (defBody st) t ∧ t { nx := fun _ H' => Q .non H', rt := Q } (start N vs) H) : CalD P w K mg base (k + 1) x dvs sp := by
  obtain ⟨f, fd, F, g, ds, hv, b⟩ := F.ex
  exact ⟨f, fd, ps, ds, F.ok S len (fun cdv A outer s H vs Q E hr hsp => by
    obtain ⟨t, h, q⟩ := hbody f cdv A outer s H vs Q E hr hsp
    exact ⟨t, h.nox, q⟩), g, F.kp, hv, b⟩
theorem pcD {X : Cx} {k j : Nat} {x : Str} {sp : Sp} {dvs : List V} {p pos : Pos} {e : Expr} {es : List Expr} {t : TA} (c : CalD X.prog X.w X.K X.mg X.base k x dvs sp) (hr : Room j X.A) (ha : PA X (e :: es) t) (hk : k ≤ j := by decide) (hg : Gl X x := by rfl)
    (hdb : (x == ("__debug__" : Str)) = false := by decide) (he : starEach (e :: es) X.env = (false, eval e X.env) :: starEach es X.env := by rfl) (hpl : (backTo pos (starEach es X.env)).any (·.1) = false := by rfl) :
    PE X (.Call (.Name x p) (e :: es) [] pos) (tCall sp dvs E0 t) := by
  obtain ⟨f, fd, ps, ds, F, hm, kp, hv, b⟩ := c.ex
  exact pe_call F (hr.mono hk) hg hm kp b hv pass0 ha hdb he hpl
section
variable {P : Program} {w : World} {K : PySem.W.Frag} {mg : Str → Option Value} {base : Heap}
def spCheckHabits (K : PySem.W.Frag) : Sp := fun vs H Q _ => ∃ (v : V) (hs : List (List (List Int))) (n : Nat) (m : Int), vs = [v, .int m] ∧ THs K H v hs ∧ 1 ≤ hs.length ∧ (hs.length : Int) ≤ m ∧ (∀ h ∈ hs, Hb n h) ∧ ∀ H', Same H H' → Q .non H'
theorem ok_check_habits (F : DfD K mg "check_habits" st_check_habits ["habits", "most"] [.int 3]) (B : Bu mg)
    (C1 : Cal P w K mg base 1 "is_row" (spIsRow K)) (C6 : Cal P w K mg base 6 "is_habit" (spIsHabit K)) : CalD P w K mg base 7 "check_habits" [.int 3] (spCheckHabits K) := by
  refine mkCalD F sc_check_habits (fun vs H Q E h => ?_) (fun f cdv A outer s H vs Q E hr h => ?_)
  · obtain ⟨v, hs, n, m, rfl, _⟩ := h
    rfl
  · obtain ⟨v, hs, n, m, rfl, ⟨a, xs, rfl, hS, hE⟩, l1, l3, hb, q⟩ := h
    have hxl : xs.length = hs.length := hE.len
    refine ⟨_, pss_cons (ps_if (pt_not (pt_val (pc C1 hr (pa_cons (pv 0) (pa_cons pe_int (pa_cons (pv 1) pa_nil)))))) (pss_one ps_no) pss_nil)
      (pss_one (ps_for PassesOwn.never rfl (pi_enumT (by rfl) B.enumerate (pa_cons (pv 0) pa_nil)) (pg_tup rfl (pgs_cons (pg_name (i := 2) sc_check_habits.nd rfl (.inl rfl)) (pgs_cons (pg_name (i := 3) sc_check_habits.nd rfl (.inl rfl)) pgs_nil)))
        (pss_one (ps_if (PW.pt (pw_or (pt_not (pt_val (pc C6 hr (pa_cons (pv 3) pa_nil)))) (pw_or1 (pt_cmpR op_ne (pe_callB (cl_len K) (by rfl) B.len PySem.boot_len (pa_cons (pv 3) pa_nil))
          (pe_callB (cl_len K) (by rfl) B.len PySem.boot_len (pa_cons (pe_ix (ixT K) (pv 0) pe_int (fun _ _ => rfl)) pa_nil)) (nomark _))))) (pss_one ps_no) pss_nil)))), ?_⟩
    refine ⟨_, rfl, _, rfl, a, xs, 1, m, rfl, hS, _, rfl, ifF ?_ ?_⟩
    · rw [hxl, decide_eq_true (by omega), decide_eq_true (by omega)]
      rfl
    refine ⟨_, rfl, a, xs, rfl, hS, ?_⟩
    refine for_enumT (xs := xs) (fun i σ H' => Same H H' ∧ ∃ y1 y2, σ = [some (.ref a), some (.int m), y1, y2]) ⟨Same.refl H, none, none, rfl⟩ (fun i σ H' h' => onT h'.1 hS) (fun i x T σ H' hx h' hT => ?_) (fun σ H' h' => q H' h'.1)
    obtain ⟨sm, y1, y2, rfl⟩ := h'
    obtain ⟨h, hh, hTx⟩ := hE.at hx
    have hbx := hb h (List.mem_of_getElem? hh)
    have sT : Same H (upd H' T (.tup [.int (i : Nat), x])) := sm.trans (same_new hT)
    have hT2 : TII K (upd H' T (.tup [.int (i : Nat), x])) x h := hTx.on (fun _ _ z => onT sT z)
    obtain ⟨x0, hx0⟩ : ∃ x0, xs[0]? = some x0 := ⟨xs[0], List.getElem?_eq_getElem (by omega)⟩
    obtain ⟨h0, hh0, hT0⟩ := hE.at hx0
    have hb0 := hb h0 (List.mem_of_getElem? hh0)
    refine ⟨T, _, rfl, tupAt upd_same, rfl, _, _, rfl, _, _, rfl, rfl, _, rfl, x, h, rfl, hT2, by rw [hbx.len]; have := hbx.hi; omega, fun ns hm => by rw [hbx.short hm]; have := hbx.hi; omega, fun H3 sm3 => ⟨_, rfl, ifF (by rw [hbx.is]; rfl) ?_⟩⟩
    have hT3 := hT2.on (fun _ _ z => onT sm3 z)
    have hT03 := hT0.on (H' := H3) (fun _ _ z => onT sm3 (onT sT z))
    obtain ⟨ax, xx, rfl, hSx, hEx⟩ := hT3
    obtain ⟨a0, xx0, rfl, hS0, hE0⟩ := hT03
    refine ⟨_, rfl, ax, xx, rfl, .inr hSx, _, rfl, a, xs, 0, .ref a0, rfl, rfl, onT sm3 (onT sT hS), atI_nat (j := 0) hx0, a0, xx0, rfl, .inr hS0, rfl, _, rfl, ifF ?_ ?_⟩
    · rw [hEx.len, hE0.len, hbx.len, hb0.len]
      simp
    · exact ⟨sT.trans sm3, _, _, rfl⟩
def spCheckLot (K : PySem.W.Frag) : Sp := fun vs H Q _ => ∃ (v : V) (ns : List Int) (p : Nat), vs = [v, .int p] ∧ TI K H v ns ∧ 1 ≤ ns.length ∧ ns.length ≤ p ∧ p ≤ 5 ∧ (∀ i ∈ ns, InR p i) ∧ ns.Pairwise (· < ·) ∧ ∀ H', Same H H' → Q .non H'
theorem inP_in {p : Nat} {ns : List Int} (h : ∀ i ∈ ns, InR p i) : inP p ns = true := by
  unfold inP
  rw [List.all_eq_true]
  intro i hi
  obtain ⟨h1, h2⟩ := h i hi
  rw [Bool.and_eq_true]
  exact ⟨decide_eq_true h1, decide_eq_true (by omega)⟩
def spIsLot (K : PySem.W.Frag) : Sp := fun vs H Q _ => ∃ (v : V) (ns : List Int) (p : Nat), vs = [v, .int p] ∧ TI K H v ns ∧ 1 ≤ ns.length ∧ ns.length ≤ p ∧ p ≤ 5 ∧ (∀ i ∈ ns, InR p i) ∧ ns.Pairwise (· < ·) ∧ ∀ H', Same H H' → Q (.bl true) H'
theorem ok_is_lot (F : Df K mg "is_lot" st_is_lot ["value", "places"]) (C1 : Cal P w K mg base 1 "is_row" (spIsRow K)) (C4 : Cal P w K mg base 4 "are_places" (spArePlaces K)) (CR : Cal P w K mg base 1 "is_rising" (spIsRising K)) :
    Cal P w K mg base 5 "is_lot" (spIsLot K) := by
  refine mkCal F sc_is_lot (fun vs H Q E h => ?_) (fun f cdv A outer s H vs Q E hr h => ?_)
  · obtain ⟨v, ns, p, rfl, _⟩ := h
    rfl
  · obtain ⟨v, ns, p, rfl, ⟨a, rfl, hS⟩, l1, l2, l5, hin, hri, q⟩ := h
    refine ⟨_, pss_one (ps_ret (pe_and (pc C1 hr (pa_cons (pv 0) (pa_cons pe_int (pa_cons (pv 1) pa_nil)))) (pe_and (pc C4 hr (pa_cons (pv 0) (pa_cons (pv 1) pa_nil))) (pe_one (pc CR hr (pa_cons (pv 0) pa_nil)))))), ?_⟩
    have e1 : (decide ((1 : Int) ≤ ((ns.map V.int).length : Int)) && decide (((ns.map V.int).length : Int) ≤ (p : Int))) = true := by
      rw [List.length_map, decide_eq_true (by omega), decide_eq_true (by omega)]
      rfl
    refine ⟨_, rfl, _, rfl, a, ns.map V.int, 1, p, rfl, hS, true, by rw [e1], ?_⟩
    refine ⟨_, rfl, _, rfl, .ref a, ns, p, rfl, ⟨a, rfl, hS⟩, by omega, fun H1 sm1 => ⟨true, by rw [inP_in hin], ?_⟩⟩
    refine ⟨_, rfl, .ref a, ns, rfl, ⟨a, rfl, onT sm1 hS⟩, by omega, fun H2 sm2 => ?_⟩
    rw [risI_of hri]
    exact q H2 (sm1.trans sm2)
theorem ok_check_lot (F : Df K mg "check_lot" st_check_lot ["lot", "places"]) (C5 : Cal P w K mg base 5 "is_lot" (spIsLot K)) : Cal P w K mg base 6 "check_lot" (spCheckLot K) := by
  refine mkCal F sc_check_lot (fun vs H Q E h => ?_) (fun f cdv A outer s H vs Q E hr h => ?_)
  · obtain ⟨v, ns, p, rfl, _⟩ := h
    rfl
  · obtain ⟨v, ns, p, rfl, hT, l1, l2, l5, hin, hri, q⟩ := h
    refine ⟨_, pss_one (ps_if (pt_not (pt_val (pc C5 hr (pa_cons (pv 0) (pa_cons (pv 1) pa_nil))))) (pss_one ps_no) pss_nil), ?_⟩
    exact ⟨_, rfl, _, rfl, v, ns, p, rfl, hT, l1, l2, l5, hin, hri, fun H1 s1 => ⟨_, rfl, ifF rfl (q H1 s1)⟩⟩
end
end RH
set_option Elab.async false
set_option linter.all false
set_option maxRecDepth 100000
set_option maxHeartbeats 2000000
namespace RH
open PySem PySem.Spec PyProof.Rows L2
theorem ix2 {K : PySem.W.Frag} {H : Hp} {xs : List V} {h : List (List Int)} {n : Nat} (hE : Each (TI K H) xs h) (q : Hb n h) {t s : Int} (ht : InR n t) (hs : InR n s) :
    ∃ (a' : Addr) (ns : List Int), atI xs t = some (.ref a') ∧ SqT K H a' (ns.map V.int) ∧ atI (ns.map V.int) s = some (.int (mv h t s)) := by
  obtain ⟨ns, e1, e2, _⟩ := q.at ht.1 ht.2 hs.1 hs.2
  obtain ⟨v, e3, a', rfl, hS⟩ := hE.of e1
  exact ⟨a', ns, at_int ht.1 e3, hS, at_int hs.1 (at_map e2)⟩
theorem V_int (a b : Int) : decide (V.int a = V.int b) = decide (a = b) := by
  rw [Bool.eq_iff_iff, decide_eq_true_iff, decide_eq_true_iff]
  exact ⟨fun h => V.int.inj h, fun h => by rw [h]⟩
theorem V_bl (a b : Bool) : decide (V.bl a = V.bl b) = decide (a = b) := by
  rw [Bool.eq_iff_iff, decide_eq_true_iff, decide_eq_true_iff]
  exact ⟨fun h => V.bl.inj h, fun h => by rw [h]⟩
end RH
set_option Elab.async false
set_option linter.all false
set_option maxRecDepth 100000
set_option maxHeartbeats 2000000
namespace RH
open PySem PySem.Spec PyProof.Rows L2
/-! ### the law's own row of draws -/
/-- all but what stands at p is as it was -/
def But (p : Addr) (H H' : Hp) : Prop := ∀ b o, H b = some o → b ≠ p → H' b = some o
theorem But.refl (p : Addr) (H : Hp) : But p H H := fun _ _ e _ => e
theorem But.trans {p : Addr} {H H1 H2 : Hp} (a : But p H H1) (b : But p H1 H2) : But p H H2 := fun c o e n => b c o (a c o e n) n
theorem But.same {p : Addr} {H H1 : Hp} (a : Same H H1) : But p H H1 := fun c o e _ => a c o e
theorem But.upd {p : Addr} {H H1 : Hp} {o : HO} (a : But p H H1) : But p H (upd H1 p o) := fun c u e n => by
  rw [upd_ne n]
  exact a c u e n
/-- all that is no list is as it was -/
def Fix (H H' : Hp) : Prop := ∀ b o, H b = some o → (∀ xs, o ≠ .lst xs) → H' b = some o
theorem Fix.refl (H : Hp) : Fix H H := fun _ _ e _ => e
theorem Fix.trans {H H1 H2 : Hp} (a : Fix H H1) (b : Fix H1 H2) : Fix H H2 := fun c o e n => b c o (a c o e n) n
theorem Fix.same {H H1 : Hp} (a : Same H H1) : Fix H H1 := fun c o e _ => a c o e
theorem Fix.lst {H : Hp} {p : Addr} {xs : List V} {o : HO} (h : H p = some (.lst xs)) : Fix H (L2.upd H p o) := fun b u e n => by
  by_cases z : b = p
  · subst z
    rw [h] at e
    cases e
    exact absurd rfl (n _)
  · rw [upd_ne z]
    exact e
theorem Fix.tups {K : PySem.W.Frag} {H H' : Hp} (b : Fix H H') : Tups K H H' := fun a xs hS => by
  rcases hS with (hS | ⟨u, hS⟩) | hS
  · exact .inl (.inl (b _ _ hS (fun _ z => nomatch z)))
  · exact .inl (.inr ⟨u, b _ _ hS (fun _ z => nomatch z)⟩)
  · exact .inr hS
theorem But.fix {H H' : Hp} {p : Addr} {xs : List V} (h : H p = some (.lst xs)) (b : But p H H') : Fix H H' := fun c o e n => b c o e fun z => by
  subst z
  rw [h] at e
  cases e
  exact n _ rfl
/-- a list that never changes -/
def Fz (K : PySem.W.Frag) (H : Hp) (a : Addr) (xs : List V) : Prop := (∃ o, H a = some (.frz o (.lst xs))) ∨ ∀ H', SqL K H' a xs
theorem Fz.seq {K : PySem.W.Frag} {H : Hp} {a : Addr} {xs : List V} (h : Fz K H a xs) : SqL K H a xs := by
  rcases h with ⟨o, h⟩ | h
  · exact .inl (.inr ⟨o, h⟩)
  · exact h H
theorem Fz.on {K : PySem.W.Frag} {H H' : Hp} {a : Addr} {xs : List V} (f : Fix H H') (h : Fz K H a xs) : Fz K H' a xs := by
  rcases h with ⟨o, h⟩ | h
  · exact .inl ⟨o, f _ _ h (fun _ z => nomatch z)⟩
  · exact .inr h
theorem Fz.of {K : PySem.W.Frag} {H : Hp} {a : Addr} {xs : List V} (o : Only H) (h : SqL K H a xs) : Fz K H a xs := by
  rcases h with (h | h) | h
  · rcases o a with e | ⟨u, ys, e⟩
    · rw [e] at h
      cases h
    · rw [e] at h
      cases h
  · exact .inl h
  · exact .inr fun H' => .inr h
/-- row: the script, how many of it are taken, the running number, what is left of a great one -/
structure RowA (K : PySem.W.Frag) (H : Hp) (p a : Addr) (ns : List Int) (i r c : Int) : Prop where
  at_ : H p = some (.lst [.ref a, .int i, .int r, .int c])
  fz : Fz K H a (ns.map V.int)
  pos : 0 ≤ i
theorem RowA.scr {K : PySem.W.Frag} {H : Hp} {p a : Addr} {ns : List Int} {i r c : Int} (h : RowA K H p a ns i r c) : SqL K H a (ns.map V.int) := h.fz.seq
def Row (K : PySem.W.Frag) (H : Hp) (p : Addr) : Prop := ∃ a ns i r c, RowA K H p a ns i r c
theorem RowA.put {K : PySem.W.Frag} {H : Hp} {p a : Addr} {ns : List Int} {i r c i' r' c' : Int} (h : RowA K H p a ns i r c) (hi : 0 ≤ i') :
    RowA K (upd H p (.lst [.ref a, .int i', .int r', .int c'])) p a ns i' r' c' :=
  ⟨upd_same, h.fz.on (Fix.lst h.at_), hi⟩
theorem RowA.row {K : PySem.W.Frag} {H : Hp} {p a : Addr} {ns : List Int} {i r c : Int} (h : RowA K H p a ns i r c) : Row K H p := ⟨_, _, _, _, _, h⟩
theorem Row.lst {K : PySem.W.Frag} {H : Hp} {p : Addr} (h : Row K H p) : ∃ xs, H p = some (.lst xs) := by
  obtain ⟨a, ns, i, r, c, h⟩ := h
  exact ⟨_, h.at_⟩
theorem Row.fix {K : PySem.W.Frag} {H H' : Hp} {p : Addr} (h : Row K H p) (b : But p H H') : Fix H H' := by
  obtain ⟨xs, e⟩ := h.lst
  exact But.fix e b
theorem Row.on {K : PySem.W.Frag} {H H' : Hp} {p : Addr} (h : Row K H p) (f : Fix H H') (e : H' p = H p) : Row K H' p := by
  obtain ⟨a, ns, i, r, c, h⟩ := h
  exact ⟨a, ns, i, r, c, e.trans h.at_, h.fz.on f, h.pos⟩
theorem Row.same {K : PySem.W.Frag} {H H' : Hp} {p : Addr} (h : Row K H p) (s : Same H H') : Row K H' p := by
  obtain ⟨xs, e⟩ := h.lst
  exact h.on (Fix.same s) ((s _ _ e).trans e.symm)
/-- another list is written -/
theorem Row.lst_upd {K : PySem.W.Frag} {H : Hp} {p q : Addr} {xs : List V} {o : HO} (h : Row K H p) (e : H q = some (.lst xs)) (n : p ≠ q) : Row K (upd H q o) p := h.on (Fix.lst e) (upd_ne n)
/-- a new object -/
theorem Row.new {K : PySem.W.Frag} {H : Hp} {p q : Addr} {o : HO} (h : Row K H p) (e : H q = none) : Row K (upd H q o) p := h.same (same_new e)
theorem Row.ne {K : PySem.W.Frag} {H : Hp} {p q : Addr} (h : Row K H p) (e : H q = none) : p ≠ q := by
  obtain ⟨xs, e'⟩ := h.lst
  exact ne_of_none e' e
section
variable {P : Program} {w : World} {K : PySem.W.Frag} {mg : Str → Option Value} {base : Heap}
def spTaken (K : PySem.W.Frag) : Sp := fun vs H Q _ => ∃ (p : Addr) (m : Int), vs = [.ref p, .int m] ∧ Row K H p ∧ 0 < m ∧ m < 1048576 ∧ ∀ k H', 0 ≤ k → k < m → But p H H' → Row K H' p → Q (.int k) H'
theorem ok_taken (F : Df K mg "_law_taken" st__law_taken ["row", "many"]) (B : Bu mg) : Cal P w K mg base 1 "_law_taken" (spTaken K) := by
  refine mkCal F sc__law_taken (fun vs H Q E h => ?_) (fun f cdv A outer s H vs Q E hr h => ?_)
  · obtain ⟨p, m, rfl, _⟩ := h
    rfl
  · obtain ⟨p, m, rfl, ⟨a, ns, i, r, c, hR⟩, m0, m1, q⟩ := h
    refine ⟨_, pss_cons (ps_if (pt_cmpR op_gt (pe_ix ix_list (pv 0) pe_int (fun _ _ => rfl)) pe_int (nomark _))
        (pss_cons (ps_set (i := 2) sc__law_taken.nd rfl (.inl rfl) (pe_op op_mod (pe_callTy call_int1 (by rfl) B.int (by decide +kernel) (pa_cons (pe_ix ix_list (pv 0) pe_int (fun _ _ => rfl)) pa_nil)) (pv 1)))
        (pss_cons (ps_asg (pe_op op_fdiv (pe_ix ix_list (pv 0) pe_int (fun _ _ => rfl)) (pv 1)) (pg_sub (pv 0) pe_int set_list))
        (pss_one (ps_ret (pv 2))))) pss_nil)
      (pss_cons (ps_asg (pe_op op_add (pe_ix ix_list (pv 0) pe_int (fun _ _ => rfl)) pe_int) (pg_sub (pv 0) pe_int set_list))
      (pss_cons (ps_if (pt_cmpR op_gt (pe_ix ix_list (pv 0) pe_int (fun _ _ => rfl)) (pe_callB (cl_len K) (by rfl) B.len PySem.boot_len (pa_cons (pe_ix ix_list (pv 0) pe_int (fun _ _ => rfl)) pa_nil)) (nomark _))
        (pss_cons (ps_asg (pe_op op_mod (pe_callTy call_int1 (by rfl) B.int (by decide +kernel) (pa_cons (pe_op op_add (pe_op op_mul (pe_ix ix_list (pv 0) pe_int (fun _ _ => rfl)) pe_int) pe_int) pa_nil)) pe_int) (pg_sub (pv 0) pe_int set_list))
        (pss_one (ps_ret (pe_op op_mod (pe_callTy call_int1 (by rfl) B.int (by decide +kernel) (pa_cons (pe_op op_fdiv (pe_ix ix_list (pv 0) pe_int (fun _ _ => rfl)) pe_int) pa_nil)) (pv 1))))) pss_nil)
      (pss_cons (ps_set (i := 3) sc__law_taken.nd rfl (.inl rfl) (pe_ix ix_list (pe_ix ix_list (pv 0) pe_int (fun _ _ => rfl)) (pe_op op_sub (pe_ix ix_list (pv 0) pe_int (fun _ _ => rfl)) pe_int) (fun _ _ => rfl)))
      (pss_cons (ps_asg (pe_op op_mod (pe_callTy call_int1 (by rfl) B.int (by decide +kernel) (pa_cons (pe_op op_add (pe_op op_add (pe_op op_mul (pe_ix ix_list (pv 0) pe_int (fun _ _ => rfl)) pe_int) (pv 3)) pe_int) pa_nil)) pe_int) (pg_sub (pv 0) pe_int set_list))
      (pss_cons (ps_if (pt_cmpR op_ge (pv 3) (pe_op op_pow pe_int pe_int) (nomark _))
        (pss_one (ps_asg (pe_op op_fdiv (pv 3) (pv 1)) (pg_sub (pv 0) pe_int set_list))) pss_nil)
      (pss_one (ps_ret (pe_op op_mod (pe_callTy call_int1 (by rfl) B.int (by decide +kernel) (pa_cons (pv 3) pa_nil)) (pv 1))))))))), ?_⟩
    have L := hR.at_
    refine ⟨_, rfl, p, _, 3, .int c, rfl, rfl, lstAt L, rfl, c, 0, rfl, rfl, _, rfl, ite2 (fun e => ?_) (fun e => ?_)⟩
    · refine ⟨_, rfl, p, _, 3, .int c, rfl, rfl, lstAt L, rfl, .inl ⟨c, rfl, _, rfl, c, m, rfl, rfl, m0, ?_⟩⟩
      refine ⟨_, rfl, p, _, 3, .int c, rfl, rfl, lstAt L, rfl, _, rfl, c, m, rfl, rfl, ⟨m0, by omega⟩, _, rfl, p, _, 3, 3, rfl, rfl, L, rfl, ?_⟩
      exact ⟨_, rfl, q (c % m) _ (Int.emod_nonneg _ (by omega)) (Int.emod_lt_of_pos _ m0) (But.upd (But.refl p H)) (hR.put hR.pos).row⟩
    · refine ⟨_, rfl, p, _, 1, .int i, rfl, rfl, lstAt L, rfl, i, 1, rfl, rfl, _, rfl, p, _, 1, 1, rfl, rfl, L, rfl, ?_⟩
      have R1 : RowA K (upd H p (.lst [.ref a, .int (i + 1), .int r, .int c])) p a ns (i + 1) r c := hR.put (by have := hR.pos; omega)
      have L1 := R1.at_
      refine ⟨_, rfl, p, _, 1, .int (i + 1), rfl, rfl, lstAt L1, rfl, _, rfl, p, _, 0, .ref a, rfl, rfl, lstAt L1, rfl, a, _, rfl, .inl R1.scr, _, _, rfl, rfl, _, rfl, ite2 (fun e1 => ?_) (fun e1 => ?_)⟩
      · refine ⟨_, rfl, p, _, 2, .int r, rfl, rfl, lstAt L1, rfl, r, 48271, rfl, rfl, .inr ⟨by decide, by decide⟩, _, 11, rfl, rfl, .inl ⟨_, rfl, _, _, rfl, rfl, (by show (0 : Int) < 2147483647; decide), _, rfl, p, _, 2, 2, rfl, rfl, L1, rfl, ?_⟩⟩
        have R2 : RowA K (upd (upd H p (.lst [.ref a, .int (i + 1), .int r, .int c])) p (.lst [.ref a, .int (i + 1), .int ((r * 48271 + 11) % 2147483647), .int c])) p a ns (i + 1) ((r * 48271 + 11) % 2147483647) c := R1.put R1.pos
        refine ⟨_, rfl, p, _, 2, _, rfl, rfl, lstAt R2.at_, rfl, _, 7, rfl, rfl, ⟨by decide, by decide⟩, .inl ⟨_, rfl, _, rfl, _, m, rfl, rfl, m0, ?_⟩⟩
        exact q _ _ (Int.emod_nonneg _ (by omega)) (Int.emod_lt_of_pos _ m0) (But.upd (But.upd (But.refl p H))) R2.row
      · have hi : i < (ns.length : Int) := by
          rw [List.length_map] at e1
          have e9 : i + 1 ≤ (ns.length : Int) := by simpa using e1
          omega
        have hi0 := hR.pos
        obtain ⟨z, hz⟩ : ∃ z, ns[i.toNat]? = some z := ⟨ns[i.toNat]'(by omega), List.getElem?_eq_getElem (by omega)⟩
        refine ⟨_, rfl, p, _, 0, .ref a, rfl, rfl, lstAt L1, rfl, _, rfl, p, _, 1, .int (i + 1), rfl, rfl, lstAt L1, rfl, _, 1, rfl, rfl, a, _, i + 1 - 1, .int z, rfl, rfl, R1.scr, at_int (by omega) (at_map (by rw [show (i + 1 - 1).toNat = i.toNat by omega]; exact hz)), ?_⟩
        refine ⟨_, rfl, p, _, 2, .int r, rfl, rfl, lstAt L1, rfl, r, 48271, rfl, rfl, .inr ⟨by decide, by decide⟩, _, rfl, _, z, rfl, rfl, _, 11, rfl, rfl, .inl ⟨_, rfl, _, _, rfl, rfl, (by show (0 : Int) < 2147483647; decide), _, rfl, p, _, 2, 2, rfl, rfl, L1, rfl, ?_⟩⟩
        have R2 : RowA K (upd (upd H p (.lst [.ref a, .int (i + 1), .int r, .int c])) p (.lst [.ref a, .int (i + 1), .int ((r * 48271 + z + 11) % 2147483647), .int c])) p a ns (i + 1) ((r * 48271 + z + 11) % 2147483647) c := R1.put R1.pos
        refine ⟨_, rfl, 10, 18, rfl, rfl, ⟨by decide, by decide, by decide⟩, z, _, rfl, rfl, _, rfl, ite2 (fun e2 => ?_) (fun e2 => ?_)⟩
        · refine ⟨_, rfl, _, rfl, z, m, rfl, rfl, ⟨m0, by omega⟩, _, rfl, p, _, 3, 3, rfl, rfl, R2.at_, rfl, ?_⟩
          refine ⟨_, rfl, .inl ⟨z, rfl, _, rfl, z, m, rfl, rfl, m0, ?_⟩⟩
          exact q _ _ (Int.emod_nonneg _ (by omega)) (Int.emod_lt_of_pos _ m0) (But.upd (But.upd (But.upd (But.refl p H)))) (R2.put R2.pos).row
        · refine ⟨_, rfl, .inl ⟨z, rfl, _, rfl, z, m, rfl, rfl, m0, ?_⟩⟩
          exact q _ _ (Int.emod_nonneg _ (by omega)) (Int.emod_lt_of_pos _ m0) (But.upd (But.upd (But.refl p H))) R2.row
end
end RH
set_option Elab.async false
set_option linter.all false
set_option maxRecDepth 100000
set_option maxHeartbeats 2000000
namespace RH
open PySem PySem.Spec PyProof.Rows L2
theorem ix_nat {n : Nat} {k : Int} (h0 : 0 ≤ k) (h1 : k < n) : seqIndex? k n = some k.toNat := by
  unfold seqIndex?
  have e : (if k < 0 then k + (n : Int) else k) = k := if_neg (by omega)
  simp only [e]
  rw [if_pos]
  simp [h0, h1]
theorem But.fresh {p l : Addr} {H H1 : Hp} {o : HO} (a : But p H H1) (e : H l = none) : But p H (L2.upd H1 l o) := fun c u h n => by
  rw [upd_ne (ne_of_none h e)]
  exact a c u h n
theorem map_erase (ns : List Int) (k : Nat) : (ns.map V.int).eraseIdx k = (ns.eraseIdx k).map V.int := by
  induction ns generalizing k with
  | nil => rfl
  | cons n ns ih =>
    cases k with
    | zero => rfl
    | succ k =>
      show V.int n :: (ns.map V.int).eraseIdx k = V.int n :: (ns.eraseIdx k).map V.int
      rw [ih]
theorem perm_erase : ∀ {ls : List Int} {k : Nat} {y : Int}, ls[k]? = some y → ls.Perm (y :: ls.eraseIdx k)
  | [], k, y, h => by simp at h
  | a :: ls, 0, y, h => by
    have e : a = y := Option.some.inj h
    subst e
    exact List.Perm.refl _
  | a :: ls, k + 1, y, h => by
    have ih := perm_erase (ls := ls) (k := k) (y := y) h
    exact (ih.cons a).trans (List.Perm.swap ..)
section
variable {P : Program} {w : World} {K : PySem.W.Frag} {mg : Str → Option Value} {base : Heap}
def spPick (K : PySem.W.Frag) : Sp := fun vs H Q _ => ∃ (p l : Addr) (xs : List V), vs = [.ref p, .ref l] ∧ Row K H p ∧ H l = some (.lst xs) ∧ l ≠ p ∧ 0 < xs.length ∧ xs.length ≤ 1000 ∧
  ∀ (i : Nat) x H', xs[i]? = some x → But p H H' → Row K H' p → Q x H'
theorem ok_pick (F : Df K mg "_law_pick" st__law_pick ["row", "things"]) (B : Bu mg) (CT : Cal P w K mg base 1 "_law_taken" (spTaken K)) : Cal P w K mg base 2 "_law_pick" (spPick K) := by
  refine mkCal F sc__law_pick (fun vs H Q E h => ?_) (fun f cdv A outer s H vs Q E hr h => ?_)
  · obtain ⟨p, l, xs, rfl, _⟩ := h
    rfl
  · obtain ⟨p, l, xs, rfl, hR, hl, hlp, l0, l1, q⟩ := h
    refine ⟨_, pss_one (ps_ret (pe_ix ix_list (pv 1) (pc CT hr (pa_cons (pv 0) (pa_cons (pe_callB (cl_len K) (by rfl) B.len PySem.boot_len (pa_cons (pv 1) pa_nil)) pa_nil))) (fun _ _ => rfl))), ?_⟩
    refine ⟨_, rfl, _, rfl, _, rfl, l, xs, rfl, .inl (lstAt hl), p, xs.length, rfl, hR, by omega, by omega, fun k H' k0 k1 hB hR' => ?_⟩
    have hk : k.toNat < xs.length := by omega
    exact ⟨l, xs, k, _, rfl, rfl, lstAt (hB _ _ hl hlp), at_int k0 (List.getElem?_eq_getElem hk), q _ _ H' (List.getElem?_eq_getElem hk) hB hR'⟩
def spOrder (K : PySem.W.Frag) : Sp := fun vs H Q _ => ∃ (p : Addr) (n : Nat), vs = [.ref p, .int n] ∧ Row K H p ∧ n ≤ 1000 ∧ ∀ (H' : Hp) (q : Addr) (ns : List Int), ns.Perm (rg n) → But p H H' → Row K H' p → H q = none → FT H' q ns → Q (.ref q) H'
theorem ok_order (F : Df K mg "_law_order" st__law_order ["row", "many"]) (B : Bu mg) (CT : Cal P w K mg base 1 "_law_taken" (spTaken K)) : Cal P w K mg base 2 "_law_order" (spOrder K) := by
  refine mkCal F sc__law_order (fun vs H Q E h => ?_) (fun f cdv A outer s H vs Q E hr h => ?_)
  · obtain ⟨p, n, rfl, _⟩ := h
    rfl
  · obtain ⟨p, n, rfl, hR, hn, q⟩ := h
    refine ⟨_, pss_cons (ps_par (i := 2) (j := 3) rfl sc__law_order.nd rfl rfl (by decide) rfl rfl (pa_cons (pe_listRg rfl (by rfl) B.list (prg_1 (by rfl) B.range (pv 1))) (pa_cons (pe_lst pa_nil) pa_nil)) rfl)
      (pss_cons (ps_while PassesOwn.never (pt_cmpR (op_neD hr.units) (pv 2) (pe_lst pa_nil) (nomark _))
        (pss_one (ps_expr (pe_bm PySem.F.plainAttrs_list PySem.F.slot_list_append PySem.F.type_list_append mt_append (pv 3) (pa_cons (pe_bm PySem.F.plainAttrs_list PySem.F.slot_list_pop PySem.F.type_list_pop mt_popAt (pv 2)
          (pa_cons (pc CT hr (pa_cons (pv 0) (pa_cons (pe_callB (cl_len K) (by rfl) B.len PySem.boot_len (pa_cons (pv 2) pa_nil)) pa_nil))) pa_nil)) pa_nil)))))
      (pss_one (ps_ret (pe_tupleF (by rfl) B.tuple (pv 3))))), ?_⟩
    refine ⟨_, rfl, n, rfl, ⟨by omega, by omega, by omega, by omega, by omega⟩, fun l hl => ⟨Nat.zero_le _, fun g hg => ⟨_, _, rfl, ?_⟩⟩⟩
    have hlg : l ≠ g := ne_of_none upd_same hg
    have hgH : H g = none := by
      rw [upd_ne (Ne.symm hlg)] at hg
      exact hg
    have hpl : p ≠ l := hR.ne hl
    have hpg : p ≠ g := hR.ne hgH
    refine ⟨fun m σ H' => ∃ ls fs : List Int, m = ls.length ∧ σ = [some (.ref p), some (.int n), some (.ref l), some (.ref g)] ∧ But p H H' ∧ Row K H' p ∧ H' l = some (.lst (ls.map V.int)) ∧ H' g = some (.lst (fs.map V.int)) ∧ (fs ++ ls).Perm (rg n),
      ⟨(rg n).length, rg n, [], rfl, rfl, But.same (Same.trans (same_new hl) (same_new hg)), (hR.new hl).new hg, ?_, upd_same, List.Perm.refl _⟩, ?_⟩
    · rw [upd_ne hlg, upd_same, rgV_rg]
    rintro m σ H1 ⟨ls, fs, rfl, rfl, hB, hR1, e1, e2, hpm⟩
    refine ⟨_, rfl, Nat.zero_le _, fun z hz => ?_⟩
    have sz : Same H1 (upd H1 z (.lst [])) := same_new hz
    refine ⟨_, _, dp_lst (ns := ls) (lstAt (sz _ _ e1)), dp_lst (ns := []) (lstAt upd_same), PySem.W.ke_shaped_ints _, PySem.W.ke_shaped_ints _, _, rfl, ?_⟩
    rw [eqv_lst]
    have len1 : fs.length + ls.length = n := by
      have := hpm.length_eq
      rw [List.length_append, rg_len] at this
      exact this
    cases ls with
    | nil =>
      refine ifF rfl ⟨_, rfl, g, _, rfl, lstAt (sz _ _ e2), fun t ob ht hob => ?_⟩
      rw [List.append_nil] at hpm
      have st : Same H1 (upd (upd H1 z (.lst [])) t (.frz ob (.tup (fs.map V.int)))) := sz.trans (same_new ht)
      refine q _ t fs hpm (hB.trans (But.same st)) (hR1.same st) ?_ ⟨ob, upd_same, hob⟩
      cases e : H t with
      | none => rfl
      | some o =>
        exfalso
        by_cases zp : t = p
        · obtain ⟨xs, ep⟩ := hR1.lst
          rw [zp, sz _ _ ep] at ht
          cases ht
        · rw [sz _ _ (hB _ _ e zp)] at ht
          cases ht
    | cons y ls =>
      have hRz : Row K (upd H1 z (.lst [])) p := hR1.same sz
      have e1z := sz _ _ e1
      have e2z := sz _ _ e2
      refine ifT rfl ⟨fun σ' H' => ∃ m', m' < (y :: ls).length ∧ ∃ ls fs : List Int, m' = ls.length ∧ σ' = [some (.ref p), some (.int n), some (.ref l), some (.ref g)] ∧ But p H H' ∧ Row K H' p ∧ H' l = some (.lst (ls.map V.int)) ∧ H' g = some (.lst (fs.map V.int)) ∧ (fs ++ ls).Perm (rg n), fun _ _ h => h, ?_⟩
      refine ⟨_, rfl, .inl ⟨rfl, _, lstAt e2z⟩, _, rfl, .inl ⟨rfl, _, lstAt e1z⟩, _, rfl, _, rfl, l, _, rfl, .inl (lstAt e1z), p, _, rfl, hRz, ?_, ?_, fun k H3 k0 k1 hB3 hR3 => ?_⟩
      · rw [List.length_map, List.length_cons]
        omega
      · rw [List.length_map]
        omega
      rw [List.length_map] at k1
      have e1' := hB3 _ _ e1z (Ne.symm hpl)
      have e2' := hB3 _ _ e2z (Ne.symm hpg)
      have hk : k.toNat < (y :: ls).length := by omega
      obtain ⟨v, hv⟩ : ∃ v, (y :: ls)[k.toNat]? = some v := ⟨_, List.getElem?_eq_getElem hk⟩
      have e2u : (upd H3 l (.lst (((y :: ls).map V.int).eraseIdx k.toNat))) g = some (.lst (fs.map V.int)) := by
        rw [upd_ne (Ne.symm hlg)]
        exact e2'
      refine ⟨l, _, k, k.toNat, .int v, rfl, rfl, e1', by omega, by omega, ?_, at_map hv, g, _, .int v, rfl, rfl, e2u, ?_, ?_⟩
      · rw [List.length_map]
        exact ix_nat k0 k1
      · rw [List.length_map]
        exact small1000 (by have := List.length_cons (a := y) (as := ls); omega)
      · refine ⟨((y :: ls).eraseIdx k.toNat).length, ?_, (y :: ls).eraseIdx k.toNat, fs ++ [v], rfl, rfl, ?_, ?_, ?_, ?_, ?_⟩
        · rw [List.length_eraseIdx_of_lt hk]
          omega
        · exact (((hB.trans (But.same sz)).trans hB3).fresh hl).fresh hgH
        · exact (hR3.lst_upd e1' hpl).lst_upd e2u hpg
        · rw [upd_ne hlg, upd_same, map_erase]
        · rw [upd_same, List.map_append]
          rfl
        · have hp2 := perm_erase hv
          refine List.Perm.trans ?_ hpm
          rw [List.append_assoc]
          exact List.Perm.append_left fs hp2.symm
end
end RH
set_option Elab.async false
set_option linter.all false
set_option maxRecDepth 100000
set_option maxHeartbeats 2000000
namespace RH
open PySem PySem.Spec PyProof.Rows L2
section
variable {P : Program} {w : World} {K : PySem.W.Frag} {mg : Str → Option Value} {base : Heap}
def spLot (K : PySem.W.Frag) : Sp := fun vs H Q _ => ∃ (p : Addr) (n : Nat), vs = [.ref p, .int n] ∧ Row K H p ∧ 1 ≤ n ∧ n ≤ 1000 ∧
  ∀ (H' : Hp) (q : Addr) (ns : List Int), ns.Pairwise (· < ·) → 1 ≤ ns.length → ns.length ≤ n → (∀ i ∈ ns, InR n i) → But p H H' → Row K H' p → H' q = some (.tup (ns.map V.int)) → Q (.ref q) H'
theorem rg_lt (p : Nat) : (rg p).Pairwise (· < ·) := by
  unfold rg
  rw [List.pairwise_map]
  exact (List.pairwise_lt_range (n := p)).imp fun h => by omega
theorem ok_lot (F : Df K mg "_law_lot" st__law_lot ["row", "places"]) (B : Bu mg) (CT : Cal P w K mg base 1 "_law_taken" (spTaken K)) : Cal P w K mg base 2 "_law_lot" (spLot K) := by
  refine mkCal F sc__law_lot (fun vs H Q E h => ?_) (fun f cdv A outer s H vs Q E hr h => ?_)
  · obtain ⟨p, n, rfl, _⟩ := h
    rfl
  · obtain ⟨p, n, rfl, hR, n1, n2, q⟩ := h
    refine ⟨_, pss_cons (ps_setLc (i := 2) (own := [("place", 3)]) (g := gName 3) rfl sc__law_lot.nd rfl rfl (sw_true rfl rfl rfl (by decide +kernel)) (pi_range1 (by rfl) B.range (pa_cons (pv 1) pa_nil))
        (blkOk_by (N := ["row", "places", "found", "place"]) (sc := defScope st__law_lot) (by decide +kernel)) (fun _ _ _ _ _ => pg_name (i := 3) sc__law_lot.nd rfl (Or.inl rfl))
        (fun _ _ _ _ _ => pts_one (pt_cmpR op_gt (pc CT hr (pa_cons (pv 0) (pa_cons pe_int pa_nil))) pe_int (nomark _))) (fun _ _ _ _ _ => pv 3))
      (pss_one (ps_ret (pe_ifExp (pt_cmpR (op_neD hr.units) (pv 2) (pe_lst pa_nil) (nomark _)) (pe_tupleOf (by rfl) B.tuple (pv 2)) (pe_tupRg rfl (by rfl) B.tuple (prg_1 (by rfl) B.range (pv 1)))))), ?_⟩
    refine ⟨_, rfl, n, rfl, by omega, by omega, fun D hD => ?_⟩
    have hpD : p ≠ D := hR.ne hD
    rw [Int.toNat_natCast]
    refine lc_range (lo := 0) (n := n) (fun i H' => ∃ fs : List Int, But p H H' ∧ Row K H' p ∧ H' D = some (.lst (fs.map V.int)) ∧ fs.Pairwise (· < ·) ∧ (∀ x ∈ fs, InR i x) ∧ fs.length ≤ i)
      ⟨[], But.same (same_new hD), hR.new hD, upd_same, List.Pairwise.nil, fun x hx => absurd hx (List.not_mem_nil), Nat.le_refl _⟩ (fun i H' hi h' => ?_) (fun H' h' => ?_)
    · obtain ⟨fs, hB, hR', eD, hp, hin, hl⟩ := h'
      refine ⟨rfl, _, rfl, p, 3, rfl, hR', by decide, by decide, fun k H3 k0 k1 hB3 hR3 => ⟨_, _, rfl, rfl, _, rfl, ite2 (fun e => ?_) (fun e => ?_)⟩⟩
      · have eD3 := hB3 _ _ eD (Ne.symm hpD)
        refine ⟨_, rfl, _, eD3, ?_, fs ++ [(i : Int)], ?_, hR3.lst_upd eD3 hpD, ?_, ?_, ?_, ?_⟩
        · rw [List.length_map]
          exact small1000 (by omega)
        · exact (hB.trans hB3).fresh hD
        · rw [upd_same, List.map_append, Int.zero_add]
          rfl
        · rw [List.pairwise_append]
          refine ⟨hp, List.pairwise_singleton _ _, fun a ha b hb => ?_⟩
          have := (hin a ha).2
          have := List.mem_singleton.mp hb
          omega
        · intro x hx
          rcases List.mem_append.mp hx with h1 | h1
          · exact ⟨(hin x h1).1, by have := (hin x h1).2; omega⟩
          · have := List.mem_singleton.mp h1
            exact ⟨by omega, by omega⟩
        · rw [List.length_append]
          show fs.length + 1 ≤ i + 1
          omega
      · exact ⟨fs, hB.trans hB3, hR3, hB3 _ _ eD (Ne.symm hpD), hp, fun x hx => ⟨(hin x hx).1, by have := (hin x hx).2; omega⟩, by omega⟩
    · obtain ⟨fs, hB, hR', eD, hp, hin, hl⟩ := h'
      refine ⟨_, rfl, Nat.zero_le _, fun z hz => ⟨_, _, dp_lst (ns := fs) (lstAt (same_new hz _ _ eD)), dp_lst (ns := []) (lstAt upd_same), PySem.W.ke_shaped_ints _, PySem.W.ke_shaped_ints _, _, rfl, ?_⟩⟩
      rw [eqv_lst]
      refine ite2 (fun e => ?_) (fun e => ?_)
      · refine ⟨_, rfl, .inl ⟨D, _, rfl, lstAt (same_new hz _ _ eD), fun t ht => ?_⟩⟩
        have st := Same.trans (same_new (o := .lst []) hz) (same_new (o := .tup (fs.map V.int)) ht)
        refine q _ t fs hp ?_ hl hin (hB.trans (But.same st)) (hR'.same st) upd_same
        cases fs with
        | nil => exact absurd e (by decide)
        | cons x fs => exact Nat.succ_le_succ (Nat.zero_le _)
      · refine ⟨_, rfl, n, rfl, ⟨by omega, by omega, by omega, by omega, by omega⟩, fun t ht => ?_⟩
        rw [rgV_rg] at *
        have st := Same.trans (same_new (o := .lst []) hz) (same_new (o := .tup ((rg n).map V.int)) ht)
        exact q _ t (rg n) (rg_lt n) (by rw [rg_len]; exact n1) (by rw [rg_len]; exact Nat.le_refl _) (fun i hi => rg_mem.mp hi) (hB.trans (But.same st)) (hR'.same st) upd_same
/-! ### _law_alike: an int with an int, a tuple of ints with a tuple of ints -/
end
end RH
set_option Elab.async false
set_option linter.all false
set_option maxRecDepth 100000
set_option maxHeartbeats 2000000
namespace RH
open PySem PySem.Spec PyProof.Rows L2
/-! ### _law_alike of equal data -/
theorem Dp.on {K : PySem.W.Frag} {H H' : Hp} (s : Same H H') : ∀ (d : PyData) (v : V), Dp K H v d → Dp K H' v d
  | d, v, h => by
    refine Dp.rec (motive_1 := fun v d _ => Dp K H' v d) (motive_2 := fun vs ds _ => DpAll K H' vs ds) .non .bl .int .str ?_ ?_ .nil ?_ h
    · intro a xs ds h1 _ h2
      exact .lst (s.seq h1) h2
    · intro a xs ds h1 _ h2
      exact .tup (onT s h1) h2
    · intro v vs d ds _ _ h1 h2
      exact .cons h1 h2
theorem DpAll.len {K : PySem.W.Frag} {H : Hp} : ∀ {vs : List V} {ds : List PyData}, DpAll K H vs ds → vs.length = ds.length
  | _, _, .nil => rfl
  | _, _, .cons _ t => congrArg (· + 1) (DpAll.len t)
theorem DpAll.of {K : PySem.W.Frag} {H : Hp} : ∀ {vs : List V} {ds : List PyData} {i : Nat} {d : PyData}, DpAll K H vs ds → ds[i]? = some d → ∃ v, vs[i]? = some v ∧ Dp K H v d
  | _, _, _, _, .nil, e => by simp at e
  | _, _, 0, _, .cons h _, e => by
    have e' := Option.some.inj e
    subst e'
    exact ⟨_, rfl, h⟩
  | _, _, i + 1, _, .cons _ t, e => DpAll.of (i := i) t e
def okD : Nat → PyData → Prop
  | 0, .none => True
  | 0, .bool _ => True
  | 0, .int _ => True
  | 0, .str _ => True
  | 0, _ => False
  | _ + 1, .none => True
  | _ + 1, .bool _ => True
  | _ + 1, .int _ => True
  | _ + 1, .str _ => True
  | k + 1, .list ds => ds.length ≤ 1000 ∧ ∀ d ∈ ds, okD k d
  | k + 1, .tuple ds => ds.length ≤ 1000 ∧ ∀ d ∈ ds, okD k d
  | _ + 1, .dict _ => False
theorem kit2 {K : PySem.W.Frag} {t : String} {b1 b2 : Bool} (h1 : kitB t "tuple" = some b1) (h2 : kitB t "list" = some b2) : PySem.W.kitAny K (.type t) [.type "tuple", .type "list"] = some (b1 || b2) := by
  cases b1 with
  | true => exact kitAny_cons (kit_ty h1) (fun z => nomatch z) (fun _ => rfl)
  | false =>
    cases b2 with
    | true => exact kitAny_cons (kit_ty h1) (fun _ => kitAny_cons (kit_ty h2) (fun z => nomatch z) (fun _ => rfl)) (fun z => nomatch z)
    | false => exact kitAny_cons (kit_ty h1) (fun _ => kitAny_cons (kit_ty h2) (fun _ => kitAny_nil) (fun z => nomatch z)) (fun z => nomatch z)
theorem cls2 : Paired ClsV [V.ty "tuple", V.ty "list"] [Value.type "tuple", Value.type "list"] := .cons (.ty _) (.cons (.ty _) .nil)
theorem ixS {X : Cx} (K : PySem.W.Frag) (h : X.K = K := by rfl) : IxR X (rIx K) := by
  subst h
  exact ix_seq
/-- a list or a tuple -/
structure Sq2 (K : PySem.W.Frag) (H : Hp) (a : Addr) (xs : List V) (T : String) (b : Bool) : Prop where
  ty : TyX K H (.ref a) (.type T)
  sq : SqL K H a xs ∨ SqT K H a xs
  k1 : PySem.W.kitAny K (.type T) [.type "tuple", .type "list"] = some true
  k2 : PySem.W.kitOne K (.type T) (.type "list") = some b
  ix : ∀ (i : Nat) (x : V) (Q : VK), xs[i]? = some x → Q x H → rIx K (.ref a) (.int (i : Int)) H Q
theorem sq2T {K : PySem.W.Frag} {H : Hp} {a : Addr} {xs : List V} (h : SqT K H a xs) : Sq2 K H a xs "tuple" false :=
  ⟨ty_tup h, .inr h, kit2 (b1 := true) (b2 := false) (by decide +kernel) (by decide +kernel), kit_ty (by decide +kernel), fun i x Q e q => .inr (.inl ⟨a, xs, i, x, rfl, rfl, h, atI_nat e, q⟩)⟩
theorem ty_lst {K : PySem.W.Frag} {H : Hp} {a : Addr} {xs : List V} (h : SqL K H a xs) : TyX K H (.ref a) (.type "list") := by
  rcases h with (h | ⟨o, h⟩) | ⟨o, vz, n, h, c, _⟩
  · exact .base (.lst h)
  · exact .base (.frz h)
  · exact .kList h c
theorem sq2L {K : PySem.W.Frag} {H : Hp} {a : Addr} {xs : List V} (h : SqL K H a xs) : Sq2 K H a xs "list" true :=
  ⟨ty_lst h, .inl h, kit2 (b1 := false) (b2 := true) (by decide +kernel) (by decide +kernel), kit_ty (by decide +kernel), fun i x Q e q => .inl ⟨a, xs, i, x, rfl, rfl, h, atI_nat e, q⟩⟩
theorem pss_no {X : Cx} {sts : List Stmt} : PSs X sts (fun _ _ _ => False) := ⟨fun _ _ _ _ _ _ h => h.elim⟩
section
variable {P : Program} {w : World} {K : PySem.W.Frag} {mg : Str → Option Value} {base : Heap}
def spAlike (K : PySem.W.Frag) (k : Nat) : Sp := fun vs H Q _ => ∃ (v u : V) (d : PyData), vs = [v, u] ∧ Dp K H v d ∧ Dp K H u d ∧ okD k d ∧ ∀ H', Same H H' → Q (.bl true) H'
theorem ok_alike0 (F : Df K mg "_law_alike" st__law_alike ["found", "due"]) (B : Bu mg) : Cal P w K mg base 1 "_law_alike" (spAlike K 0) := by
  refine mkCal F sc__law_alike (fun vs H Q E h => ?_) (fun f cdv A outer s H vs Q E hr h => ?_)
  · obtain ⟨v, u, d, rfl, _⟩ := h
    rfl
  · obtain ⟨v, u, d, rfl, hv, hu, hk, q⟩ := h
    refine ⟨_, pss_cons (ps_if (pt_val (pe_callB call_isiT (by rfl) B.isi (by decide +kernel) (pa_cons (pv 1) (pa_cons (pe_tup (pa_cons (pe_bltn (v := .ty "tuple") (by rfl) B.tuple (by decide +kernel) rfl) (pa_cons (pe_bltn (v := .ty "list") (by rfl) B.list (by decide +kernel) rfl) pa_nil))) pa_nil)))) pss_no pss_nil)
      (pss_cons (ps_if (PW.pt (pw_or (pt_cmp (pc_isN (pv 1))) (pw_or1 (pt_val (pe_callB call_isi (by rfl) B.isi (by decide +kernel) (pa_cons (pv 1) (pa_cons (pe_bltn (v := .ty "str") (by rfl) B.str (by decide +kernel) rfl) pa_nil)))))))
        (pss_one (ps_ret (pe_and (pe_cmpR op_eq (pv 0) (pv 1) (nomark _)) (pe_one (pe_cmpR op_eq (pe_callB call_isi (by rfl) B.isi (by decide +kernel) (pa_cons (pv 0) (pa_cons (pe_bltn (v := .ty "str") (by rfl) B.str (by decide +kernel) rfl) pa_nil)))
          (pe_callB call_isi (by rfl) B.isi (by decide +kernel) (pa_cons (pv 1) (pa_cons (pe_bltn (v := .ty "str") (by rfl) B.str (by decide +kernel) rfl) pa_nil))) (nomark _)))))) pss_nil)
      (pss_one (ps_ret (pe_and (pe_callB call_isi (by rfl) B.isi (by decide +kernel) (pa_cons (pv 0) (pa_cons (pe_bltn (v := .ty "int") (by rfl) B.int (by decide +kernel) rfl) pa_nil)))
        (pe_and (pe_cmpR op_eq (pe_callB call_isi (by rfl) B.isi (by decide +kernel) (pa_cons (pv 0) (pa_cons (pe_bltn (v := .ty "bool") (by rfl) B.bool (by decide +kernel) rfl) pa_nil)))
          (pe_callB call_isi (by rfl) B.isi (by decide +kernel) (pa_cons (pv 1) (pa_cons (pe_bltn (v := .ty "bool") (by rfl) B.bool (by decide +kernel) rfl) pa_nil))) (nomark _)) (pe_one (pe_cmpR op_eq (pv 0) (pv 1) (nomark _)))))))), ?_⟩
    cases hv with
    | non =>
      cases hu
      refine ⟨_, rfl, (by show 2 ≤ sizeLine; decide), fun t ht => ⟨.non, t, _, _, _, false, rfl, upd_same, cls2, .base .non, kit2 (b1 := false) (b2 := false) (by decide +kernel) (by decide +kernel), _, rfl, ifF rfl ?_⟩⟩
      refine ⟨_, rfl, _, rfl, ifT (decide_eq_true rfl) (ifT rfl ?_)⟩
      exact ⟨_, rfl, _, rfl, rfl, _, rfl, ifT (decide_eq_true rfl) ⟨_, rfl, .non, .ty "str", _, _, false, rfl, .ty "str", .base .non, kit_ty (by decide +kernel), _, rfl, .non, .ty "str", _, _, false, rfl, .ty "str", .base .non, kit_ty (by decide +kernel), rfl, q _ (same_new ht)⟩⟩
    | bl b =>
      cases hu
      refine ⟨_, rfl, (by show 2 ≤ sizeLine; decide), fun t ht => ⟨.bl b, t, _, _, _, false, rfl, upd_same, cls2, .base (.bl b), kit2 (b1 := false) (b2 := false) (by decide +kernel) (by decide +kernel), _, rfl, ifF rfl ?_⟩⟩
      refine ⟨_, rfl, _, rfl, ifF (decide_eq_false (fun z => nomatch z)) ⟨_, rfl, .bl b, .ty "str", _, _, false, rfl, .ty "str", .base (.bl b), kit_ty (by decide +kernel), _, rfl, ifF rfl ?_⟩⟩
      refine ⟨_, rfl, .bl b, .ty "int", _, _, true, rfl, .ty "int", .base (.bl b), kit_ty (by decide +kernel), _, rfl, ifT rfl ?_⟩
      refine ⟨_, rfl, .bl b, .ty "bool", _, _, true, rfl, .ty "bool", .base (.bl b), kit_ty (by decide +kernel), _, rfl, .bl b, .ty "bool", _, _, true, rfl, .ty "bool", .base (.bl b), kit_ty (by decide +kernel), rfl, _, rfl, ifT (decide_eq_true rfl) ?_⟩
      refine ⟨_, rfl, _, rfl, rfl, ?_⟩
      rw [decide_eq_true (rfl : V.bl b = V.bl b)]
      exact q _ (same_new ht)
    | int i =>
      cases hu
      refine ⟨_, rfl, (by show 2 ≤ sizeLine; decide), fun t ht => ⟨.int i, t, _, _, _, false, rfl, upd_same, cls2, .base (.int i), kit2 (b1 := false) (b2 := false) (by decide +kernel) (by decide +kernel), _, rfl, ifF rfl ?_⟩⟩
      refine ⟨_, rfl, _, rfl, ifF (decide_eq_false (fun z => nomatch z)) ⟨_, rfl, .int i, .ty "str", _, _, false, rfl, .ty "str", .base (.int i), kit_ty (by decide +kernel), _, rfl, ifF rfl ?_⟩⟩
      refine ⟨_, rfl, .int i, .ty "int", _, _, true, rfl, .ty "int", .base (.int i), kit_ty (by decide +kernel), _, rfl, ifT rfl ?_⟩
      refine ⟨_, rfl, .int i, .ty "bool", _, _, false, rfl, .ty "bool", .base (.int i), kit_ty (by decide +kernel), _, rfl, .int i, .ty "bool", _, _, false, rfl, .ty "bool", .base (.int i), kit_ty (by decide +kernel), rfl, _, rfl, ifT (decide_eq_true rfl) ?_⟩
      refine ⟨_, rfl, _, rfl, rfl, ?_⟩
      rw [decide_eq_true (rfl : V.int i = V.int i)]
      exact q _ (same_new ht)
    | str x =>
      cases hu
      refine ⟨_, rfl, (by show 2 ≤ sizeLine; decide), fun t ht => ⟨.str x, t, _, _, _, false, rfl, upd_same, cls2, .base (.str x), kit2 (b1 := false) (b2 := false) (by decide +kernel) (by decide +kernel), _, rfl, ifF rfl ?_⟩⟩
      refine ⟨_, rfl, _, rfl, ifF (decide_eq_false (fun z => nomatch z)) ⟨_, rfl, .str x, .ty "str", _, _, true, rfl, .ty "str", .base (.str x), kit_ty (by decide +kernel), _, rfl, ifT rfl ?_⟩⟩
      exact ⟨_, rfl, _, rfl, rfl, _, rfl, ifT (decide_eq_true rfl) ⟨_, rfl, .str x, .ty "str", _, _, true, rfl, .ty "str", .base (.str x), kit_ty (by decide +kernel), _, rfl, .str x, .ty "str", _, _, true, rfl, .ty "str", .base (.str x), kit_ty (by decide +kernel), rfl, q _ (same_new ht)⟩⟩
    | lst _ _ => exact hk.elim
    | tup _ _ => exact hk.elim
end
end RH
set_option Elab.async false
set_option linter.all false
set_option maxRecDepth 100000
set_option maxHeartbeats 2000000
namespace RH
open PySem PySem.Spec PyProof.Rows L2
theorem alike_cases {K : PySem.W.Frag} {H : Hp} {k : Nat} {v u : V} {d : PyData} (hv : Dp K H v d) (hu : Dp K H u d) (hk : okD (k + 1) d) : okD 0 d ∨ ∃ (a b : Addr) (xs ys : List V) (ds : List PyData) (T : String) (bl : Bool), v = .ref a ∧ u = .ref b ∧
    (∀ H', Same H H' → Sq2 K H' a xs T bl) ∧ (∀ H', Same H H' → Sq2 K H' b ys T bl) ∧ DpAll K H xs ds ∧ DpAll K H ys ds ∧ ds.length ≤ 1000 ∧ ∀ d ∈ ds, okD k d := by
  cases hv with
  | non => exact .inl True.intro
  | bl _ => exact .inl True.intro
  | int _ => exact .inl True.intro
  | str _ => exact .inl True.intro
  | @lst a xs ds h1 h2 =>
    cases hu with
    | @lst b ys _ h3 h4 => exact .inr ⟨a, b, xs, ys, ds, "list", true, rfl, rfl, fun _ s => sq2L (s.seq h1), fun _ s => sq2L (s.seq h3), h2, h4, hk.1, hk.2⟩
  | @tup a xs ds h1 h2 =>
    cases hu with
    | @tup b ys _ h3 h4 => exact .inr ⟨a, b, xs, ys, ds, "tuple", false, rfl, rfl, fun _ s => sq2T (onT s h1), fun _ s => sq2T (onT s h3), h2, h4, hk.1, hk.2⟩
section
variable {P : Program} {w : World} {K : PySem.W.Frag} {mg : Str → Option Value} {base : Heap}
theorem ok_alikeS (k : Nat) (F : Df K mg "_law_alike" st__law_alike ["found", "due"]) (B : Bu mg) (C : Cal P w K mg base (k + 1) "_law_alike" (spAlike K k)) : Cal P w K mg base (k + 2) "_law_alike" (spAlike K (k + 1)) := by
  refine mkCal F sc__law_alike (fun vs H Q E h => ?_) (fun f cdv A outer s H vs Q E hr h => ?_)
  · obtain ⟨v, u, d, rfl, _⟩ := h
    rfl
  · obtain ⟨v, u, d, rfl, hv, hu, hk, q⟩ := h
    refine ⟨_, pss_cons (ps_if (pt_val (pe_callB call_isiT (by rfl) B.isi (by decide +kernel) (pa_cons (pv 1) (pa_cons (pe_tup (pa_cons (pe_bltn (v := .ty "tuple") (by rfl) B.tuple (by decide +kernel) rfl) (pa_cons (pe_bltn (v := .ty "list") (by rfl) B.list (by decide +kernel) rfl) pa_nil))) pa_nil))))
        (pss_cons (ps_if (PW.pt (pw_or (pt_not (pt_val (pe_callB call_isiT (by rfl) B.isi (by decide +kernel) (pa_cons (pv 0) (pa_cons (pe_tup (pa_cons (pe_bltn (v := .ty "tuple") (by rfl) B.tuple (by decide +kernel) rfl) (pa_cons (pe_bltn (v := .ty "list") (by rfl) B.list (by decide +kernel) rfl) pa_nil))) pa_nil)))))
            (pw_or1 (pt_cmpR op_ne (pe_callB call_isi (by rfl) B.isi (by decide +kernel) (pa_cons (pv 0) (pa_cons (pe_bltn (v := .ty "list") (by rfl) B.list (by decide +kernel) rfl) pa_nil)))
              (pe_callB call_isi (by rfl) B.isi (by decide +kernel) (pa_cons (pv 1) (pa_cons (pe_bltn (v := .ty "list") (by rfl) B.list (by decide +kernel) rfl) pa_nil))) (nomark _))))) (pss_one (ps_ret pe_bl)) pss_nil)
        (pss_cons (ps_if (pt_cmpR op_ne (pe_callB (cl_len K) (by rfl) B.len PySem.boot_len (pa_cons (pv 0) pa_nil)) (pe_callB (cl_len K) (by rfl) B.len PySem.boot_len (pa_cons (pv 1) pa_nil)) (nomark _)) (pss_one (ps_ret pe_bl)) pss_nil)
        (pss_one (ps_ret (pe_cmpR (op_eqD hr.units) (pe_lc (own := [("k", 2)]) (g := gName 2) rfl sc__law_alike.nd (pi_range1 (by rfl) B.range (pa_cons (pe_callB (cl_len K) (by rfl) B.len PySem.boot_len (pa_cons (pv 1) pa_nil)) pa_nil))
          (blkOk_by (N := ["found", "due", "k"]) (sc := defScope st__law_alike) (by decide +kernel)) (fun _ _ _ _ _ => pg_name (i := 2) sc__law_alike.nd rfl (Or.inl rfl))
          (fun _ _ _ _ _ => pts_one (pt_not (pt_val (pc C hr (pa_cons (pe_ix (ixS K) (pv 0) (pv 2) (fun _ _ => rfl)) (pa_cons (pe_ix (ixS K) (pv 1) (pv 2) (fun _ _ => rfl)) pa_nil)) (hk := Nat.le_refl _))))) (fun _ _ _ _ _ => pv 2)) (pe_lst pa_nil) (nomark _)))))) pss_nil)
      (pss_cons (ps_if (PW.pt (pw_or (pt_cmp (pc_isN (pv 1))) (pw_or1 (pt_val (pe_callB call_isi (by rfl) B.isi (by decide +kernel) (pa_cons (pv 1) (pa_cons (pe_bltn (v := .ty "str") (by rfl) B.str (by decide +kernel) rfl) pa_nil)))))))
        (pss_one (ps_ret (pe_and (pe_cmpR op_eq (pv 0) (pv 1) (nomark _)) (pe_one (pe_cmpR op_eq (pe_callB call_isi (by rfl) B.isi (by decide +kernel) (pa_cons (pv 0) (pa_cons (pe_bltn (v := .ty "str") (by rfl) B.str (by decide +kernel) rfl) pa_nil)))
          (pe_callB call_isi (by rfl) B.isi (by decide +kernel) (pa_cons (pv 1) (pa_cons (pe_bltn (v := .ty "str") (by rfl) B.str (by decide +kernel) rfl) pa_nil))) (nomark _)))))) pss_nil)
      (pss_one (ps_ret (pe_and (pe_callB call_isi (by rfl) B.isi (by decide +kernel) (pa_cons (pv 0) (pa_cons (pe_bltn (v := .ty "int") (by rfl) B.int (by decide +kernel) rfl) pa_nil)))
        (pe_and (pe_cmpR op_eq (pe_callB call_isi (by rfl) B.isi (by decide +kernel) (pa_cons (pv 0) (pa_cons (pe_bltn (v := .ty "bool") (by rfl) B.bool (by decide +kernel) rfl) pa_nil)))
          (pe_callB call_isi (by rfl) B.isi (by decide +kernel) (pa_cons (pv 1) (pa_cons (pe_bltn (v := .ty "bool") (by rfl) B.bool (by decide +kernel) rfl) pa_nil))) (nomark _)) (pe_one (pe_cmpR op_eq (pv 0) (pv 1) (nomark _)))))))), ?_⟩
    rcases alike_cases hv hu hk with hk0 | ⟨a, b, xs, ys, ds, T, bl, rfl, rfl, ha, hb, hx, hy, hl, hd⟩
    · clear hk
      cases hv with
      | non =>
        cases hu
        refine ⟨_, rfl, (by show 2 ≤ sizeLine; decide), fun t ht => ⟨.non, t, _, _, _, false, rfl, upd_same, cls2, .base .non, kit2 (b1 := false) (b2 := false) (by decide +kernel) (by decide +kernel), _, rfl, ifF rfl ?_⟩⟩
        refine ⟨_, rfl, _, rfl, ifT (decide_eq_true rfl) (ifT rfl ?_)⟩
        exact ⟨_, rfl, _, rfl, rfl, _, rfl, ifT (decide_eq_true rfl) ⟨_, rfl, .non, .ty "str", _, _, false, rfl, .ty "str", .base .non, kit_ty (by decide +kernel), _, rfl, .non, .ty "str", _, _, false, rfl, .ty "str", .base .non, kit_ty (by decide +kernel), rfl, q _ (same_new ht)⟩⟩
      | bl b =>
        cases hu
        refine ⟨_, rfl, (by show 2 ≤ sizeLine; decide), fun t ht => ⟨.bl b, t, _, _, _, false, rfl, upd_same, cls2, .base (.bl b), kit2 (b1 := false) (b2 := false) (by decide +kernel) (by decide +kernel), _, rfl, ifF rfl ?_⟩⟩
        refine ⟨_, rfl, _, rfl, ifF (decide_eq_false (fun z => nomatch z)) ⟨_, rfl, .bl b, .ty "str", _, _, false, rfl, .ty "str", .base (.bl b), kit_ty (by decide +kernel), _, rfl, ifF rfl ?_⟩⟩
        refine ⟨_, rfl, .bl b, .ty "int", _, _, true, rfl, .ty "int", .base (.bl b), kit_ty (by decide +kernel), _, rfl, ifT rfl ?_⟩
        refine ⟨_, rfl, .bl b, .ty "bool", _, _, true, rfl, .ty "bool", .base (.bl b), kit_ty (by decide +kernel), _, rfl, .bl b, .ty "bool", _, _, true, rfl, .ty "bool", .base (.bl b), kit_ty (by decide +kernel), rfl, _, rfl, ifT (decide_eq_true rfl) ?_⟩
        refine ⟨_, rfl, _, rfl, rfl, ?_⟩
        rw [decide_eq_true (rfl : V.bl b = V.bl b)]
        exact q _ (same_new ht)
      | int i =>
        cases hu
        refine ⟨_, rfl, (by show 2 ≤ sizeLine; decide), fun t ht => ⟨.int i, t, _, _, _, false, rfl, upd_same, cls2, .base (.int i), kit2 (b1 := false) (b2 := false) (by decide +kernel) (by decide +kernel), _, rfl, ifF rfl ?_⟩⟩
        refine ⟨_, rfl, _, rfl, ifF (decide_eq_false (fun z => nomatch z)) ⟨_, rfl, .int i, .ty "str", _, _, false, rfl, .ty "str", .base (.int i), kit_ty (by decide +kernel), _, rfl, ifF rfl ?_⟩⟩
        refine ⟨_, rfl, .int i, .ty "int", _, _, true, rfl, .ty "int", .base (.int i), kit_ty (by decide +kernel), _, rfl, ifT rfl ?_⟩
        refine ⟨_, rfl, .int i, .ty "bool", _, _, false, rfl, .ty "bool", .base (.int i), kit_ty (by decide +kernel), _, rfl, .int i, .ty "bool", _, _, false, rfl, .ty "bool", .base (.int i), kit_ty (by decide +kernel), rfl, _, rfl, ifT (decide_eq_true rfl) ?_⟩
        refine ⟨_, rfl, _, rfl, rfl, ?_⟩
        rw [decide_eq_true (rfl : V.int i = V.int i)]
        exact q _ (same_new ht)
      | str x =>
        cases hu
        refine ⟨_, rfl, (by show 2 ≤ sizeLine; decide), fun t ht => ⟨.str x, t, _, _, _, false, rfl, upd_same, cls2, .base (.str x), kit2 (b1 := false) (b2 := false) (by decide +kernel) (by decide +kernel), _, rfl, ifF rfl ?_⟩⟩
        refine ⟨_, rfl, _, rfl, ifF (decide_eq_false (fun z => nomatch z)) ⟨_, rfl, .str x, .ty "str", _, _, true, rfl, .ty "str", .base (.str x), kit_ty (by decide +kernel), _, rfl, ifT rfl ?_⟩⟩
        exact ⟨_, rfl, _, rfl, rfl, _, rfl, ifT (decide_eq_true rfl) ⟨_, rfl, .str x, .ty "str", _, _, true, rfl, .ty "str", .base (.str x), kit_ty (by decide +kernel), _, rfl, .str x, .ty "str", _, _, true, rfl, .ty "str", .base (.str x), kit_ty (by decide +kernel), rfl, q _ (same_new ht)⟩⟩
      | lst _ _ => exact hk0.elim
      | tup _ _ => exact hk0.elim
    · have lx : xs.length = ds.length := DpAll.len hx
      have ly : ys.length = ds.length := DpAll.len hy
      refine ⟨_, rfl, (by show 2 ≤ sizeLine; decide), fun t ht => ?_⟩
      have s1 : Same H (upd H t (.tup [.ty "tuple", .ty "list"])) := same_new ht
      have b1 := hb _ s1
      refine ⟨.ref b, t, _, _, _, true, rfl, upd_same, cls2, b1.ty, b1.k1, _, rfl, ifT rfl ?_⟩
      refine ⟨_, rfl, (by show 2 ≤ sizeLine; decide), fun t2 ht2 => ?_⟩
      have s2 := s1.trans (same_new (o := .tup [.ty "tuple", .ty "list"]) ht2)
      have a2 := ha _ s2
      have b2 := hb _ s2
      refine ⟨.ref a, t2, _, _, _, true, rfl, upd_same, cls2, a2.ty, a2.k1, _, rfl, ifF rfl ?_⟩
      refine ⟨_, rfl, .ref a, .ty "list", _, _, bl, rfl, .ty "list", a2.ty, a2.k2, _, rfl, .ref b, .ty "list", _, _, bl, rfl, .ty "list", b2.ty, b2.k2, rfl, _, rfl, ifF (by rw [decide_eq_true (rfl : V.bl bl = V.bl bl)]; rfl) ?_⟩
      refine ⟨_, rfl, a, xs, rfl, a2.sq, _, rfl, b, ys, rfl, b2.sq, rfl, _, rfl, ifF (by rw [lx, ly, decide_eq_true rfl]; rfl) ?_⟩
      refine ⟨_, rfl, b, ys, rfl, b2.sq, _, rfl, by omega, by omega, fun D hD => ?_⟩
      rw [Int.toNat_natCast]
      refine lc_range (lo := 0) (n := ys.length) (fun i H' => Same (upd (upd H t (.tup [.ty "tuple", .ty "list"])) t2 (.tup [.ty "tuple", .ty "list"])) H' ∧ H' D = some (.lst [])) ⟨same_new hD, upd_same⟩ (fun i H' hi h' => ?_) (fun H' h' => ?_)
      · obtain ⟨sm, eD⟩ := h'
        have s3 := s2.trans sm
        obtain ⟨d, hdi⟩ : ∃ d, ds[i]? = some d := ⟨_, List.getElem?_eq_getElem (by omega)⟩
        obtain ⟨x, hxi, hxd⟩ := DpAll.of hx hdi
        obtain ⟨y, hyi, hyd⟩ := DpAll.of hy hdi
        rw [Int.zero_add]
        refine ⟨rfl, _, rfl, _, rfl, ?_⟩
        refine (ha _ s3).ix i x _ hxi ⟨_, rfl, _, rfl, ?_⟩
        refine (hb _ s3).ix i y _ hyi ⟨x, y, d, rfl, Dp.on s3 d x hxd, Dp.on s3 d y hyd, hd d (List.mem_of_getElem? hdi), fun H4 s4 => ⟨_, rfl, ifF rfl ⟨?_, s4 _ _ eD⟩⟩⟩
        exact sm.trans s4
      · obtain ⟨sm, eD⟩ := h'
        refine ⟨Nat.zero_le _, fun z hz => ?_⟩
        refine ⟨_, _, dp_lst (ns := []) (lstAt (same_new hz _ _ eD)), dp_lst (ns := []) (lstAt upd_same), PySem.W.ke_shaped_ints _, PySem.W.ke_shaped_ints _, ?_⟩
        exact q _ (s2.trans (sm.trans (same_new hz)))
end
end RH
set_option Elab.async false
set_option linter.all false
set_option maxRecDepth 100000
set_option maxHeartbeats 2000000
namespace RH
open PySem PySem.Spec PyProof.Rows L2
theorem ixN_int {n : Nat} {k : Int} (h0 : 0 ≤ k) (h1 : k < n) : ixN n k = some k.toNat := by
  unfold ixN
  rw [if_pos h0, if_pos h1]
def tF (n pl : Nat) : List Int := (List.range n).map fun s : Nat => ((s : Int) + (pl : Int)) % (n : Int)
def mF (n pl : Nat) : List Int := (List.range n).map fun s : Nat => (s : Int) + (if decide ((s : Int) < (pl : Int)) = true then 1 else 0)
def fF (n pl : Nat) : List Int := (mF n pl).take pl ++ [0] ++ (mF n pl).drop (pl + 1)
def sF (n pl : Nat) : List Int := ((rg n).set pl ((pl - 1 : Nat) : Int)).set (pl - 1) (pl : Int)
theorem perm_all : ∀ n, n < 6 → ∀ pl, pl < n → (tF n pl).isPerm (rg n) = true ∧ (fF n pl).isPerm (rg n) = true ∧ (sF n pl).isPerm (rg n) = true := by decide +kernel
theorem mF_len (n pl : Nat) : (mF n pl).length = n := by
  unfold mF
  rw [List.length_map, List.length_range]
theorem range_more {f : Nat → Int} (i : Nat) : ((List.range (i + 1)).map f).map V.int = ((List.range i).map f).map V.int ++ [V.int (f i)] := by
  rw [List.range_succ, List.map_append, List.map_append]
  rfl
/-- the permutations found so far -/
def HI (K : PySem.W.Frag) (p g : Addr) (H : Hp) (n i : Nat) (H' : Hp) : Prop := ∃ (xs : List V) (hs : List (List Int)), But p H H' ∧ Row K H' p ∧ H' g = some (.lst xs) ∧ Each (TI K H') xs hs ∧ hs.length = i ∧ ∀ ns ∈ hs, ns.Perm (rg n)
theorem HI.step {K : PySem.W.Frag} {p g : Addr} {H H1 H5 : Hp} {n i : Nat} (h : HI K p g H n i H1) (hg : H g = none) (hpg : p ≠ g) (b : But p H1 H5) (r : Row K H5 p) :
    ∃ xs, H5 g = some (.lst xs) ∧ xs.length = i ∧ ∀ (q : Addr) (ns : List Int) (H6 : Hp), Same H5 H6 → SqT K H6 q (ns.map V.int) → ns.Perm (rg n) → HI K p g H n (i + 1) (upd H6 g (.lst (xs ++ [.ref q]))) := by
  obtain ⟨xs, hs, hB, hR, e, hE, hl, hp⟩ := h
  have e5 := b _ _ e (Ne.symm hpg)
  refine ⟨xs, e5, hE.len.trans hl, fun q ns H6 s6 hq hpm => ⟨xs ++ [.ref q], hs ++ [ns], ?_, ?_, upd_same, ?_, ?_, ?_⟩⟩
  · exact ((hB.trans b).trans (But.same s6)).fresh hg
  · exact (r.same s6).lst_upd (s6 _ _ e5) hpg
  · have f1 : Fix H1 (upd H6 g (.lst (xs ++ [.ref q]))) := (hR.fix b).trans ((Fix.same s6).trans (Fix.lst (s6 _ _ e5)))
    exact Each.snoc ⟨q, rfl, Fix.tups (Fix.lst (s6 _ _ e5)) _ _ hq⟩ (hE.imp fun _ _ z => z.on f1.tups)
  · rw [List.length_append, hl]
    rfl
  · intro ns' hm
    rcases List.mem_append.mp hm with h1 | h1
    · exact hp _ h1
    · rw [List.mem_singleton.mp h1]
      exact hpm
section
variable {P : Program} {w : World} {K : PySem.W.Frag} {mg : Str → Option Value} {base : Heap}
def spHabit (K : PySem.W.Frag) : Sp := fun vs H Q _ => ∃ (p : Addr) (n : Nat), vs = [.ref p, .int n] ∧ Row K H p ∧ 2 ≤ n ∧ n ≤ 5 ∧ ∀ (H' : Hp) (v : V) (h : List (List Int)), Hb n h → But p H H' → Row K H' p → TII K H' v h → Q v H'
theorem ok_habit (F : Df K mg "_law_habit" st__law_habit ["row", "places"]) (B : Bu mg) (CT : Cal P w K mg base 1 "_law_taken" (spTaken K)) (CO : Cal P w K mg base 2 "_law_order" (spOrder K)) : Cal P w K mg base 3 "_law_habit" (spHabit K) := by
  refine mkCal F sc__law_habit (fun vs H Q E h => ?_) (fun f cdv A outer s H vs Q E hr h => ?_)
  · obtain ⟨p, n, rfl, _⟩ := h
    rfl
  · obtain ⟨p, n, rfl, hR, n2, n5, q⟩ := h
    refine ⟨_, pss_cons (ps_par (i := 2) (j := 3) rfl sc__law_habit.nd rfl rfl (by decide) rfl rfl (pa_cons (pc CT hr (pa_cons (pv 0) (pa_cons pe_int pa_nil))) (pa_cons (pe_lst pa_nil) pa_nil)) rfl)
      (pss_cons (ps_for PassesOwn.never rfl (pi_range1 (by rfl) B.range (pa_cons (pv 1) pa_nil)) (pg_name (i := 4) sc__law_habit.nd rfl (Or.inr rfl))
        (pss_one (ps_if (pt_cmpR op_eq (pv 2) pe_int (nomark _))
          (pss_one (ps_expr (pe_bm PySem.F.plainAttrs_list PySem.F.slot_list_append PySem.F.type_list_append mt_append (pv 3) (pa_cons (pe_tupleOf (by rfl) B.tuple (pe_lc (own := [("spot", 7)]) (g := gName 7) (tt := tYes) rfl sc__law_habit.nd
            (pi_range1 (by rfl) B.range (pa_cons (pv 1) pa_nil)) (blkOk_by (N := ["row", "places", "way", "found", "place", "moved", "other", "spot"]) (sc := defScope st__law_habit) (by decide +kernel)) (fun _ _ _ _ _ => pg_name (i := 7) sc__law_habit.nd rfl (Or.inl rfl))
            (fun _ _ _ _ _ => pts_nil) (fun _ _ _ _ _ => pe_op op_mod (pe_op op_add (pv 7) (pv 4)) (pv 1)))) pa_nil))))
        (pss_one (ps_if (pt_cmpR op_eq (pv 2) pe_int (nomark _))
          (pss_cons (ps_setLc (i := 5) (own := [("spot", 7)]) (g := gName 7) (tt := tYes) rfl sc__law_habit.nd rfl rfl (sw_true rfl rfl rfl (by decide +kernel)) (pi_range1 (by rfl) B.range (pa_cons (pv 1) pa_nil))
            (blkOk_by (N := ["row", "places", "way", "found", "place", "moved", "other", "spot"]) (sc := defScope st__law_habit) (by decide +kernel)) (fun _ _ _ _ _ => pg_name (i := 7) sc__law_habit.nd rfl (Or.inl rfl))
            (fun _ _ _ _ _ => pts_nil) (fun _ _ _ _ _ => pe_op op_add (pv 7) (pe_callTy call_int1 (by rfl) B.int (by decide +kernel) (pa_cons (pe_cmpR op_lt (pv 7) (pv 4) (nomark _)) pa_nil))))
          (pss_one (ps_expr (pe_bm PySem.F.plainAttrs_list PySem.F.slot_list_append PySem.F.type_list_append mt_append (pv 3) (pa_cons (pe_tupleOf (by rfl) B.tuple (pe_op op_cat (pe_op op_cat (pe_slice sl_list (pv 5) po_none (po_some (pv 4))) (pe_lst (pa_cons pe_int pa_nil)))
            (pe_slice sl_list (pv 5) (po_some (pe_op op_add (pv 4) pe_int)) po_none))) pa_nil)))))
        (pss_one (ps_if (pt_cmpR op_eq (pv 2) pe_int (nomark _))
          (pss_cons (ps_set (i := 6) sc__law_habit.nd rfl (.inl rfl) (pe_callB (call_max2 rfl) (by rfl) B.max (by decide +kernel) (pa_cons pe_int (pa_cons (pe_op op_sub (pv 4) pe_int) pa_nil))))
          (pss_cons (ps_set (i := 5) sc__law_habit.nd rfl (.inl rfl) (pe_listRg rfl (by rfl) B.list (prg_1 (by rfl) B.range (pv 1))))
          (pss_cons (ps_asg (pe_tup (pa_cons (pv 6) (pa_cons (pv 4) pa_nil))) (pg_tup rfl (pgs_cons (pg_sub (pv 5) (pv 4) set_list) (pgs_cons (pg_sub (pv 5) (pv 6) set_list) pgs_nil))))
          (pss_one (ps_expr (pe_bm PySem.F.plainAttrs_list PySem.F.slot_list_append PySem.F.type_list_append mt_append (pv 3) (pa_cons (pe_tupleOf (by rfl) B.tuple (pv 5)) pa_nil)))))))
        (pss_one (ps_if (PW.pt (pw_and (pt_cmpR op_eq (pv 2) pe_int (nomark _)) (pw_and1 (pt_cmpR op_eq (pc CT hr (pa_cons (pv 0) (pa_cons pe_int pa_nil))) pe_int (nomark _)))))
          (pss_one (ps_expr (pe_bm PySem.F.plainAttrs_list PySem.F.slot_list_append PySem.F.type_list_append mt_append (pv 3) (pa_cons (pe_tupRg rfl (by rfl) B.tuple (prg_1 (by rfl) B.range (pv 1))) pa_nil))))
          (pss_one (ps_expr (pe_bm PySem.F.plainAttrs_list PySem.F.slot_list_append PySem.F.type_list_append mt_append (pv 3) (pa_cons (pc CO hr (pa_cons (pv 0) (pa_cons (pv 1) pa_nil))) pa_nil))))))))))))) 
      (pss_one (ps_ret (pe_tupleOf (by rfl) B.tuple (pv 3))))), ?_⟩
    refine ⟨_, rfl, p, 5, rfl, hR, by decide, by decide, fun wy H0 w0 w1 hB0 hR0 => ⟨Nat.zero_le _, fun g hg0 => ⟨_, _, rfl, ?_⟩⟩⟩
    have hpg : p ≠ g := hR0.ne hg0
    have hg : H g = none := by
      cases e : H g with
      | none => rfl
      | some o =>
        rw [hB0 _ _ e (Ne.symm hpg)] at hg0
        cases hg0
    refine ⟨_, rfl, n, rfl, by omega, by omega, ?_⟩
    rw [Int.toNat_natCast]
    refine for_range (lo := 0) (n := n) (fun i σ H' => HI K p g H n i H' ∧ ∃ y4 y5 y6 y7, σ = [some (.ref p), some (.int n), some (.int wy), some (.ref g), y4, y5, y6, y7])
      ⟨⟨[], [], hB0.fresh hg, hR0.new hg0, upd_same, .nil, rfl, fun _ hm => absurd hm (List.not_mem_nil)⟩, none, none, none, none, rfl⟩ (fun i σ H1 hi h' => ?_) (fun σ H' h' => ?_)
    · obtain ⟨hI, y4, y5, y6, y7, rfl⟩ := h'
      obtain ⟨pT, pF, pS⟩ := perm_all n (by omega) i hi
      have hR1 : Row K H1 p := hI.choose_spec.choose_spec.2.1
      rw [Int.zero_add]
      refine ⟨_, rfl, rfl, _, rfl, ite2 (fun _ => ?_) (fun _ => ?_)⟩
      · -- turned round
        obtain ⟨xs, e1, xl, st⟩ := hI.step hg hpg (But.refl p H1) hR1
        refine ⟨_, rfl, .inl ⟨rfl, _, lstAt e1⟩, _, rfl, n, rfl, by omega, by omega, fun D hD => ?_⟩
        rw [Int.toNat_natCast]
        refine lc_range (lo := 0) (n := n) (fun j H' => Same H1 H' ∧ H' D = some (.lst (((List.range j).map fun s : Nat => ((s : Int) + (i : Int)) % (n : Int)).map V.int))) ⟨same_new hD, upd_same⟩ (fun j H' hj h' => ?_) (fun H' h' => ?_)
        · obtain ⟨sm, eD⟩ := h'
          refine ⟨rfl, _, rfl, _, rfl, _, _, rfl, rfl, _, rfl, _, n, rfl, rfl, by omega, _, eD, ?_, ?_, ?_⟩
          · rw [List.length_map, List.length_map, List.length_range]
            exact small1000 (by omega)
          · intro b o e
            rw [upd_ne (ne_of_none e hD)]
            exact sm b o e
          · rw [upd_same, range_more, Int.zero_add]
        · obtain ⟨sm, eD⟩ := h'
          refine .inl ⟨D, _, rfl, lstAt eD, fun t ht => ?_⟩
          have sT := sm.trans (same_new (o := .tup ((tF n i).map V.int)) ht)
          refine ⟨g, xs, .ref t, rfl, rfl, sT _ _ e1, small1000 (by omega), st t (tF n i) _ sT (tupAt upd_same) (List.isPerm_iff.mp pT), _, _, _, _, rfl⟩
      · refine ⟨_, rfl, rfl, _, rfl, ite2 (fun _ => ?_) (fun _ => ?_)⟩
        · -- to the front
          refine ⟨_, rfl, n, rfl, by omega, by omega, fun D hD => ?_⟩
          rw [Int.toNat_natCast]
          refine lc_range (lo := 0) (n := n) (fun j H' => Same H1 H' ∧ H' D = some (.lst (((List.range j).map fun s : Nat => (s : Int) + (if decide ((s : Int) < (i : Int)) = true then 1 else 0)).map V.int))) ⟨same_new hD, upd_same⟩ (fun j H' hj h' => ?_) (fun H' h' => ?_)
          · obtain ⟨sm, eD⟩ := h'
            refine ⟨rfl, _, rfl, _, rfl, _, rfl, _, _, rfl, rfl, .inr ⟨_, rfl, _, _, rfl, rfl, _, eD, ?_, ?_, ?_⟩⟩
            · rw [List.length_map, List.length_map, List.length_range]
              exact small1000 (by omega)
            · intro b o e
              rw [upd_ne (ne_of_none e hD)]
              exact sm b o e
            · rw [upd_same, range_more, Int.zero_add]
          · obtain ⟨sm, eD⟩ := h'
            have hR2 := hR1.same sm
            obtain ⟨xs, e1, xl, st⟩ := hI.step hg hpg (But.same sm) hR2
            have hDl : ((List.range n).map fun s : Nat => (s : Int) + (if decide ((s : Int) < (i : Int)) = true then 1 else 0)) = mF n i := rfl
            rw [hDl] at eD
            refine ⟨_, rfl, .inl ⟨rfl, _, lstAt e1⟩, _, rfl, _, rfl, (i : Int), rfl, D, _, rfl, lstAt eD, fun a1 ha1 => ⟨by show 1 ≤ sizeLine; decide, fun a2 ha2 => ?_⟩⟩
            rw [cut_to] at *
            have q1 := same_new (o := .lst (((mF n i).map V.int).take i)) ha1
            have q2 := same_new (o := .lst [.int 0]) ha2
            refine ⟨a1, a2, ((mF n i).map V.int).take i, [.int 0], rfl, rfl, q2 _ _ upd_same, upd_same, ?_, fun a3 ha3 => ?_⟩
            · rw [List.length_take, List.length_map, mF_len]
              exact Nat.le_of_lt (small1000 (by show min i n + 1 ≤ 1000; omega))
            have q3 := same_new (o := .lst (((mF n i).map V.int).take i ++ [.int 0])) ha3
            refine ⟨_, rfl, _, rfl, (i : Int), 1, rfl, rfl, (i : Int) + 1, rfl, D, _, rfl, lstAt (q3 _ _ (q2 _ _ (q1 _ _ eD))), fun a4 ha4 => ?_⟩
            have q4 := same_new (o := .lst (cutV ((mF n i).map V.int) (some ((i : Int) + 1)) none)) ha4
            have ec : cutV ((mF n i).map V.int) (some ((i : Int) + 1)) none = ((mF n i).map V.int).drop (i + 1) := cut_from _ (i + 1)
            refine ⟨a3, a4, _, _, rfl, rfl, q4 _ _ upd_same, upd_same, ?_, fun a5 ha5 => ?_⟩
            · rw [ec, List.length_append, List.length_take, List.length_drop, List.length_map, mF_len]
              exact Nat.le_of_lt (small1000 (by show min i n + 1 + (n - (i + 1)) ≤ 1000; omega))
            have q5 := same_new (o := .lst ((((mF n i).map V.int).take i ++ [.int 0]) ++ cutV ((mF n i).map V.int) (some ((i : Int) + 1)) none)) ha5
            refine .inl ⟨a5, _, rfl, lstAt upd_same, fun t ht => ?_⟩
            have q6 := same_new (o := .tup ((((mF n i).map V.int).take i ++ [.int 0]) ++ cutV ((mF n i).map V.int) (some ((i : Int) + 1)) none)) ht
            have qq := q1.trans (q2.trans (q3.trans (q4.trans (q5.trans q6))))
            have et : ((((mF n i).map V.int).take i ++ [.int 0]) ++ cutV ((mF n i).map V.int) (some ((i : Int) + 1)) none) = (fF n i).map V.int := by
              rw [ec]
              unfold fF
              rw [List.map_append, List.map_append, List.map_take, List.map_drop]
              rfl
            exact ⟨g, xs, .ref t, rfl, rfl, qq _ _ e1, small1000 (by omega), st t (fF n i) _ qq (tupAt (by rw [upd_same, et])) (List.isPerm_iff.mp pF), _, _, _, _, rfl⟩
        · refine ⟨_, rfl, rfl, _, rfl, ite2 (fun _ => ?_) (fun _ => ?_)⟩
          · -- neighbours
            refine ⟨_, rfl, (i : Int), 1, rfl, rfl, 0, (i : Int) - 1, rfl, ?_⟩
            have eo : (if (i : Int) - 1 > 0 then (i : Int) - 1 else 0) = ((i - 1 : Nat) : Int) := by
              split <;> omega
            rw [eo]
            refine ⟨_, rfl, n, rfl, ⟨by omega, by omega, by omega, by omega, by omega⟩, fun m hm => ?_⟩
            rw [rgV_rg] at *
            have hpm : p ≠ m := hR1.ne hm
            have s1 := same_new (o := .lst ((rg n).map V.int)) hm
            refine ⟨_, rfl, _, rfl, by show 2 ≤ sizeLine; decide, fun t ht => ?_⟩
            have s2 := same_new (o := .tup [.int ((i - 1 : Nat) : Int), .int (i : Int)]) ht
            have em := s2 _ _ (upd_same (H := H1) (a := m) (o := .lst ((rg n).map V.int)))
            have ll : ((rg n).map V.int).length = n := by rw [List.length_map, rg_len]
            refine ⟨t, _, rfl, tupAt upd_same, rfl, _, _, rfl, _, rfl, _, rfl, m, _, (i : Int), i, rfl, rfl, em, ?_, ?_⟩
            · have := ixN_int (n := ((rg n).map V.int).length) (k := (i : Int)) (by omega) (by omega)
              exact this
            refine ⟨_, _, rfl, _, rfl, _, rfl, m, _, ((i - 1 : Nat) : Int), i - 1, rfl, rfl, upd_same, ?_, rfl, ?_⟩
            · have := ixN_int (n := (((rg n).map V.int).set i (.int ((i - 1 : Nat) : Int))).length) (k := ((i - 1 : Nat) : Int)) (by omega) (by rw [List.length_set]; omega)
              exact this
            have et : (((rg n).map V.int).set i (.int ((i - 1 : Nat) : Int))).set (i - 1) (.int (i : Int)) = (sF n i).map V.int := by
              unfold sF
              rw [List.map_set, List.map_set]
            rw [et]
            have hR5 := ((hR1.same (s1.trans s2)).lst_upd (o := .lst (((rg n).map V.int).set i (.int ((i - 1 : Nat) : Int)))) em hpm).lst_upd (o := .lst ((sF n i).map V.int)) upd_same hpm
            obtain ⟨xs, e1, xl, st⟩ := hI.step hg hpg (((But.same (s1.trans s2)).fresh (o := .lst (((rg n).map V.int).set i (.int ((i - 1 : Nat) : Int)))) hm).fresh (o := .lst ((sF n i).map V.int)) hm) hR5
            refine ⟨_, rfl, .inl ⟨rfl, _, lstAt e1⟩, _, rfl, .inl ⟨m, _, rfl, lstAt upd_same, fun t2 ht2 => ?_⟩⟩
            have s6 := same_new (o := .tup ((sF n i).map V.int)) ht2
            exact ⟨g, xs, .ref t2, rfl, rfl, s6 _ _ e1, small1000 (by omega), st t2 (sF n i) _ s6 (tupAt upd_same) (List.isPerm_iff.mp pS), _, _, _, _, rfl⟩
          · have any : ∀ H3, But p H1 H3 → Row K H3 p → ∃ xs, H3 g = some (.lst xs) ∧ xs.length = i ∧ ∀ (q : Addr) (ns : List Int) (H6 : Hp), Same H3 H6 → SqT K H6 q (ns.map V.int) → ns.Perm (rg n) → HI K p g H n (i + 1) (upd H6 g (.lst (xs ++ [.ref q]))) := fun H3 b3 r3 => hI.step hg hpg b3 r3
            refine ⟨_, rfl, rfl, _, rfl, ite2 (fun _ => ?_) (fun _ => ?_)⟩
            · refine ⟨_, rfl, p, 2, rfl, hR1, by decide, by decide, fun k H3 k0 k1 hB3 hR3 => ⟨rfl, _, rfl, ite2 (fun _ => ?_) (fun _ => ?_)⟩⟩
              · obtain ⟨xs, e1, xl, st⟩ := any H3 hB3 hR3
                refine ⟨_, rfl, .inl ⟨rfl, _, lstAt e1⟩, _, rfl, n, rfl, ⟨by omega, by omega, by omega, by omega, by omega⟩, fun t ht => ?_⟩
                rw [rgV_rg] at *
                have s6 := same_new (o := .tup ((rg n).map V.int)) ht
                exact ⟨g, xs, .ref t, rfl, rfl, s6 _ _ e1, small1000 (by omega), st t (rg n) _ s6 (tupAt upd_same) (List.Perm.refl _), _, _, _, _, rfl⟩
              · obtain ⟨xs, e1, xl, st⟩ := any H3 hB3 hR3
                refine ⟨_, rfl, .inl ⟨rfl, _, lstAt e1⟩, _, rfl, _, rfl, p, n, rfl, hR3, by omega, fun H4 t ns pm b4 r4 _ e4 => ?_⟩
                obtain ⟨xs', e1', xl', st'⟩ := any H4 (hB3.trans b4) r4
                exact ⟨g, xs', .ref t, rfl, rfl, e1', small1000 (by omega), st' t ns _ (Same.refl H4) (.inl (FT.kx e4)) pm, _, _, _, _, rfl⟩
            · obtain ⟨xs, e1, xl, st⟩ := any H1 (But.refl p H1) hR1
              refine iteF ⟨_, rfl, .inl ⟨rfl, _, lstAt e1⟩, _, rfl, _, rfl, p, n, rfl, hR1, by omega, fun H4 t ns pm b4 r4 _ e4 => ?_⟩
              obtain ⟨xs', e1', xl', st'⟩ := any H4 b4 r4
              exact ⟨g, xs', .ref t, rfl, rfl, e1', small1000 (by omega), st' t ns _ (Same.refl H4) (.inl (FT.kx e4)) pm, _, _, _, _, rfl⟩
    · obtain ⟨⟨xs, hs, hB, hR', e, hE, hl, hp⟩, y4, y5, y6, y7, rfl⟩ := h'
      refine ⟨_, rfl, .inl ⟨g, xs, rfl, lstAt e, fun t ht => q _ _ hs ⟨hl, hp, n2, n5⟩ (hB.trans (But.same (same_new ht))) (hR'.new ht) ⟨t, xs, rfl, tupAt upd_same, hE.imp fun _ _ z => z.on (Same.tups (same_new ht))⟩⟩⟩
end
end RH
set_option Elab.async false
set_option linter.all false
set_option maxRecDepth 100000
set_option maxHeartbeats 2000000
namespace RH
open PySem PySem.Spec PyProof.Rows L2
/-! ### a search level by level, with words -/
abbrev SW := List Int × List Int
def exq (st : Int → List Int → List Int) (ts : List Int) (q : SW) : List SW := (ts).map fun p => (st p q.1, q.2 ++ [p])
def exl (st : Int → List Int → List Int) (ts : List Int) (l : List SW) : List SW := l.flatMap (exq st ts)
/-- those that are new: in no state of F, nor ahead -/
def ddS (F : List (List Int)) (acc : List SW) (q : SW) : List SW := if q.1 ∈ F ∨ q.1 ∈ acc.map Prod.fst then acc else acc ++ [q]
def dd (F : List (List Int)) (l : List SW) : List SW := l.foldl (ddS F) []
theorem dd_app (F : List (List Int)) (l m : List SW) : dd F (l ++ m) = m.foldl (ddS F) (dd F l) := List.foldl_append ..
theorem dd_snoc (F : List (List Int)) (l : List SW) (q : SW) : dd F (l ++ [q]) = ddS F (dd F l) q := dd_app F l [q]
theorem nd_one {α : Type} (a : α) : [a].Nodup := List.nodup_cons.mpr ⟨List.not_mem_nil, List.nodup_nil⟩
theorem snoc_ind {α : Type} {P : List α → Prop} (h0 : P []) (hs : ∀ l q, P l → P (l ++ [q])) : ∀ l, P l := by
  have : ∀ r : List α, P r.reverse := fun r => by
    induction r with
    | nil => exact h0
    | cons a r ih =>
      rw [List.reverse_cons]
      exact hs _ _ ih
  intro l
  have := this l.reverse
  rwa [List.reverse_reverse] at this
theorem ddS_in {F : List (List Int)} {acc : List SW} {q : SW} (h : q.1 ∈ F ∨ q.1 ∈ acc.map Prod.fst) : ddS F acc q = acc := if_pos h
theorem ddS_new {F : List (List Int)} {acc : List SW} {q : SW} (h : ¬ (q.1 ∈ F ∨ q.1 ∈ acc.map Prod.fst)) : ddS F acc q = acc ++ [q] := if_neg h
theorem dd_mono {F : List (List Int)} : ∀ {m acc : List SW} {q : SW}, q ∈ acc → q ∈ m.foldl (ddS F) acc
  | [], _, _, h => h
  | x :: m, acc, q, h => by
    rw [List.foldl_cons]
    refine dd_mono (m := m) ?_
    unfold ddS
    split
    · exact h
    · exact List.mem_append_left _ h
theorem dd_has (F : List (List Int)) : ∀ l : List SW, ∀ q ∈ l, q.1 ∈ F ∨ q.1 ∈ (dd F l).map Prod.fst := by
  refine snoc_ind (fun q hq => nomatch hq) fun l x ih q hq => ?_
  rw [dd_snoc]
  rcases List.mem_append.mp hq with z | z
  · rcases ih q z with y | y
    · exact .inl y
    · refine .inr ?_
      unfold ddS
      split
      · exact y
      · rw [List.map_append]
        exact List.mem_append_left _ y
  · rw [List.mem_singleton.mp z]
    by_cases hx : x.1 ∈ F ∨ x.1 ∈ (dd F l).map Prod.fst
    · rw [ddS_in hx]
      exact hx
    · rw [ddS_new hx, List.map_append]
      exact .inr (List.mem_append_right _ (List.mem_singleton.mpr rfl))
structure DdOk (F : List (List Int)) (l d : List SW) : Prop where
  sub : ∀ q ∈ d, q ∈ l
  new : ∀ q ∈ d, q.1 ∉ F
  nd : (d.map Prod.fst).Nodup
theorem dd_ok (F : List (List Int)) : ∀ l : List SW, DdOk F l (dd F l) := by
  refine snoc_ind ⟨fun q hq => (nomatch hq), fun q hq => (nomatch hq), List.nodup_nil⟩ fun l x ih => ?_
  rw [dd_snoc]
  by_cases hx : x.1 ∈ F ∨ x.1 ∈ (dd F l).map Prod.fst
  · rw [ddS_in hx]
    exact ⟨fun q hq => List.mem_append_left _ (ih.sub q hq), ih.new, ih.nd⟩
  · rw [ddS_new hx]
    refine ⟨fun q hq => ?_, fun q hq => ?_, ?_⟩
    · rcases List.mem_append.mp hq with z | z
      · exact List.mem_append_left _ (ih.sub q z)
      · exact List.mem_append_right _ z
    · rcases List.mem_append.mp hq with z | z
      · exact ih.new q z
      · rw [List.mem_singleton.mp z]
        exact fun y => hx (.inl y)
    · rw [List.map_append, List.nodup_append]
      refine ⟨ih.nd, nd_one _, fun a ha b hb e => ?_⟩
      rw [List.map_singleton, List.mem_singleton] at hb
      rw [e, hb] at ha
      exact hx (.inr ha)
/-- what is found, and the level, behind k levels -/
def bf (st : Int → List Int → List Int) (ts : List Int) (L : List Int) : Nat → List SW × List SW
  | 0 => ([(L, [])], [(L, [])])
  | k + 1 => ((bf st ts L k).1 ++ dd ((bf st ts L k).1.map Prod.fst) (exl st ts (bf st ts L k).2), dd ((bf st ts L k).1.map Prod.fst) (exl st ts (bf st ts L k).2))
def fd (st : Int → List Int → List Int) (ts : List Int) (L : List Int) (k : Nat) : List SW := (bf st ts L k).1
def lv (st : Int → List Int → List Int) (ts : List Int) (L : List Int) (k : Nat) : List SW := (bf st ts L k).2
section
variable {st : Int → List Int → List Int} {ts : List Int} {L : List Int}
theorem fd_succ (k : Nat) : fd st ts L (k + 1) = fd st ts L k ++ lv st ts L (k + 1) := rfl
theorem lv_succ (k : Nat) : lv st ts L (k + 1) = dd ((fd st ts L k).map Prod.fst) (exl st ts (lv st ts L k)) := rfl
theorem fd_mono {k j : Nat} (hk : k ≤ j) {q : SW} (hq : q ∈ fd st ts L k) : q ∈ fd st ts L j := by
  induction hk with
  | refl => exact hq
  | step _ ih => exact List.mem_append_left _ ih
theorem lv_fd {k : Nat} {q : SW} (hq : q ∈ lv st ts L k) : q ∈ fd st ts L k := by
  cases k with
  | zero => exact hq
  | succ k => exact List.mem_append_right _ hq
theorem lv_ex {k : Nat} {q : SW} (hq : q ∈ lv st ts L k) {p : Int} (hp : p ∈ ts) : st p q.1 ∈ (fd st ts L (k + 1)).map Prod.fst := by
  have hm : (st p q.1, q.2 ++ [p]) ∈ exl st ts (lv st ts L k) := List.mem_flatMap.mpr ⟨q, hq, List.mem_map.mpr ⟨p, hp, rfl⟩⟩
  rw [fd_succ, List.map_append, List.mem_append]
  exact dd_has _ _ _ hm
theorem fd_ex {q : SW} {p : Int} (hp : p ∈ ts) : ∀ {k : Nat}, q ∈ fd st ts L k → st p q.1 ∈ (fd st ts L (k + 1)).map Prod.fst
  | 0, hq => lv_ex (k := 0) hq hp
  | k + 1, hq => by
    rw [fd_succ, List.mem_append] at hq
    rcases hq with hq | hq
    · have := fd_ex hp hq
      rw [fd_succ (k + 1), List.map_append, List.mem_append]
      exact .inl this
    · exact lv_ex hq hp
theorem exl_len {l : List SW} {k : Nat} (hl : ∀ q ∈ l, q.2.length = k) : ∀ q ∈ exl st ts l, q.2.length = k + 1 := fun q hq => by
  obtain ⟨x, hx, hq⟩ := List.mem_flatMap.mp hq
  obtain ⟨p, _, rfl⟩ := List.mem_map.mp hq
  rw [List.length_append, hl x hx]
  rfl
theorem lv_len : ∀ k : Nat, ∀ q ∈ lv st ts L k, q.2.length = k
  | 0, q, hq => by
    rw [List.mem_singleton.mp hq]
    rfl
  | k + 1, q, hq => exl_len (lv_len k) q ((dd_ok _ _).sub q hq)
theorem fd_len : ∀ k : Nat, ∀ q ∈ fd st ts L k, q.2.length ≤ k
  | 0, q, hq => by
    rw [List.mem_singleton.mp hq]
    exact Nat.le_refl _
  | k + 1, q, hq => by
    rw [fd_succ, List.mem_append] at hq
    rcases hq with hq | hq
    · exact Nat.le_succ_of_le (fd_len k q hq)
    · exact Nat.le_of_eq (lv_len (k + 1) q hq)
theorem fd_nd : ∀ k : Nat, ((fd st ts L k).map Prod.fst).Nodup
  | 0 => nd_one _
  | k + 1 => by
    rw [fd_succ, List.map_append, List.nodup_append]
    refine ⟨fd_nd k, (dd_ok _ _).nd, fun a ha b hb e => ?_⟩
    obtain ⟨x, hx, rfl⟩ := List.mem_map.mp hb
    exact (dd_ok _ _).new x hx (e ▸ ha)
theorem lv_done {a : Nat} (e : lv st ts L a = []) : ∀ j : Nat, lv st ts L (a + j) = [] ∧ fd st ts L (a + j) = fd st ts L a
  | 0 => ⟨e, rfl⟩
  | j + 1 => by
    obtain ⟨h1, h2⟩ := lv_done e j
    have h3 : lv st ts L (a + j + 1) = [] := by
      rw [lv_succ, h1]
      rfl
    refine ⟨h3, ?_⟩
    show fd st ts L (a + j + 1) = _
    rw [fd_succ, h3, List.append_nil, h2]
theorem fd_all {a k : Nat} (ha : lv st ts L a = []) {q : SW} (hq : q ∈ fd st ts L k) : q ∈ fd st ts L a := by
  rcases Nat.le_total k a with z | z
  · exact fd_mono z hq
  · obtain ⟨j, rfl⟩ := Nat.exists_eq_add_of_le z
    rw [← (lv_done ha j).2]
    exact hq
theorem fd_start (k : Nat) : (L, []) ∈ fd st ts L k := fd_mono (Nat.zero_le k) (List.mem_singleton.mpr rfl)
theorem fd_least {C : List Int → Prop} (h0 : C L) (hs : ∀ s, C s → ∀ p ∈ ts, C (st p s)) : ∀ k : Nat, ∀ q ∈ fd st ts L k, C q.1
  | 0, q, hq => by
    rw [List.mem_singleton.mp hq]
    exact h0
  | k + 1, q, hq => by
    rw [fd_succ, List.mem_append] at hq
    rcases hq with hq | hq
    · exact fd_least h0 hs k q hq
    · have := (dd_ok _ _).sub q hq
      obtain ⟨x, hx, hq⟩ := List.mem_flatMap.mp this
      obtain ⟨p, hp, rfl⟩ := List.mem_map.mp hq
      exact hs _ (fd_least h0 hs k x (lv_fd hx)) p hp
theorem fd_val {k : Nat} {s w w' : List Int} (h1 : (s, w) ∈ fd st ts L k) (h2 : (s, w') ∈ fd st ts L k) : w = w' := by
  have nd : ∀ {l : List SW}, (l.map Prod.fst).Nodup → (s, w) ∈ l → (s, w') ∈ l → w = w' := fun {l} => by
    induction l with
    | nil => exact fun _ z _ => nomatch z
    | cons x l ih =>
      intro nd a b
      rw [List.map_cons, List.nodup_cons] at nd
      rcases List.mem_cons.mp a with e1 | a
      · rcases List.mem_cons.mp b with e2 | b
        · rw [← e1] at e2
          exact (Prod.mk.inj e2).2.symm
        · rw [← e1] at nd
          exact absurd (List.mem_map.mpr ⟨_, b, rfl⟩) nd.1
      · rcases List.mem_cons.mp b with e2 | b
        · rw [← e2] at nd
          exact absurd (List.mem_map.mpr ⟨_, a, rfl⟩) nd.1
        · exact ih nd.2 a b
  exact nd (fd_nd k) h1 h2
end
theorem nd_len {α : Type} [DecidableEq α] : ∀ {l m : List α}, l.Nodup → (∀ x ∈ l, x ∈ m) → l.length ≤ m.length
  | [], _, _, _ => Nat.zero_le _
  | a :: l, m, nd, hs => by
    rw [List.nodup_cons] at nd
    have ha := hs a (List.mem_cons_self ..)
    have := nd_len (l := l) (m := m.erase a) nd.2 fun x hx => (List.mem_erase_of_ne (fun e => nd.1 (by rw [← e]; exact hx))).mpr (hs x (List.mem_cons_of_mem _ hx))
    rw [List.length_erase_of_mem ha] at this
    have hm := List.length_pos_of_mem ha
    rw [List.length_cons]
    omega
/-- what is new behind m expansions of the k-th level -/
def prt (st : Int → List Int → List Int) (ts : List Int) (L : List Int) (k m : Nat) : List SW := dd ((fd st ts L k).map Prod.fst) ((exl st ts (lv st ts L k)).take m)
section
variable {st : Int → List Int → List Int} {ts : List Int} {L : List Int}
theorem exl_cons (q : SW) (l : List SW) : exl st ts (q :: l) = exq st ts q ++ exl st ts l := rfl
theorem prt_zero (k : Nat) : prt st ts L k 0 = [] := by
  unfold prt
  rw [List.take_zero]
  rfl
theorem exq_len (q : SW) : (exq st ts q).length = ts.length := List.length_map ..
theorem exl_length : ∀ l : List SW, (exl st ts l).length = l.length * ts.length
  | [] => by
    rw [List.length_nil, Nat.zero_mul]
    rfl
  | q :: l => by
    rw [exl_cons, List.length_append, exq_len, exl_length l, List.length_cons, Nat.succ_mul, Nat.add_comm]
theorem exl_at : ∀ {l : List SW} {i j : Nat} {q : SW} {p : Int}, l[i]? = some q → ts[j]? = some p → (exl st ts l)[i * ts.length + j]? = some (st p q.1, q.2 ++ [p])
  | [], _, _, _, _, e, _ => by simp at e
  | a :: l, 0, j, q, p, e, hj => by
    cases Option.some.inj e
    rw [exl_cons, Nat.zero_mul, Nat.zero_add, List.getElem?_append_left (by rw [exq_len]; exact (List.getElem?_eq_some_iff.mp hj).1)]
    unfold exq
    rw [List.getElem?_map, hj]
    rfl
  | a :: l, i + 1, j, q, p, e, hj => by
    rw [exl_cons, List.getElem?_append_right (by rw [exq_len, Nat.succ_mul]; omega), exq_len, show (i + 1) * ts.length + j - ts.length = i * ts.length + j by rw [Nat.succ_mul]; omega]
    exact exl_at (l := l) (i := i) e hj
theorem prt_all (k : Nat) : prt st ts L k ((lv st ts L k).length * ts.length) = lv st ts L (k + 1) := by
  unfold prt
  rw [← exl_length, List.take_length, lv_succ]
theorem prt_old {k i j : Nat} {q : SW} {p : Int} (hq : (lv st ts L k)[i]? = some q) (hj : ts[j]? = some p) (hk : st p q.1 ∈ (fd st ts L k ++ prt st ts L k (i * ts.length + j)).map Prod.fst) : prt st ts L k (i * ts.length + j + 1) = prt st ts L k (i * ts.length + j) := by
  unfold prt at hk ⊢
  rw [take_more (exl_at hq hj), dd_snoc, ddS_in]
  rw [List.map_append, List.mem_append] at hk
  exact hk
theorem prt_new {k i j : Nat} {q : SW} {p : Int} (hq : (lv st ts L k)[i]? = some q) (hj : ts[j]? = some p) (hk : st p q.1 ∉ (fd st ts L k ++ prt st ts L k (i * ts.length + j)).map Prod.fst) :
    prt st ts L k (i * ts.length + j + 1) = prt st ts L k (i * ts.length + j) ++ [(st p q.1, q.2 ++ [p])] := by
  unfold prt at hk ⊢
  rw [take_more (exl_at hq hj), dd_snoc, ddS_new]
  rw [List.map_append, List.mem_append] at hk
  exact hk
theorem prt_sub {k m : Nat} {q : SW} (hq : q ∈ prt st ts L k m) : q ∈ lv st ts L (k + 1) := by
  rw [lv_succ, ← List.take_append_drop m (exl st ts (lv st ts L k)), dd_app]
  exact dd_mono hq
theorem prt_fd {k m : Nat} {q : SW} (hq : q ∈ fd st ts L k ++ prt st ts L k m) : q ∈ fd st ts L (k + 1) := by
  rcases List.mem_append.mp hq with z | z
  · exact List.mem_append_left _ z
  · exact lv_fd (prt_sub z)
theorem prt_nd (k m : Nat) : ((fd st ts L k ++ prt st ts L k m).map Prod.fst).Nodup := by
  rw [List.map_append, List.nodup_append]
  refine ⟨fd_nd k, (dd_ok _ _).nd, fun a ha b hb e => ?_⟩
  obtain ⟨x, hx, rfl⟩ := List.mem_map.mp hb
  exact (dd_ok _ _).new x hx (e ▸ ha)
/-- how far the search is from its end -/
def mea (st : Int → List Int → List Int) (ts : List Int) (L : List Int) (k : Nat) : Nat := 2 * (120 - (fd st ts L k).length) + (if lv st ts L k = [] then 0 else 1)
end
/-! ### few states -/
/-- the states are of C, of which there are few -/
structure Sys (st : Int → List Int → List Int) (ts : List Int) (C : List Int → Prop) (U : List (List Int)) : Prop where
  go : ∀ s, C s → ∀ p ∈ ts, C (st p s)
  few : ∀ s, C s → s ∈ U
  num : U.length ≤ 120
  len : ∀ s, C s → s.length ≤ 1000
  tl : ts.length ≤ 1000
/-- the state behind a word -/
def rn (st : Int → List Int → List Int) (L w : List Int) : List Int := w.foldl (fun s p => st p s) L
theorem rn_snoc (st : Int → List Int → List Int) (L w : List Int) (p : Int) : rn st L (w ++ [p]) = st p (rn st L w) := by
  unfold rn
  rw [List.foldl_append]
  rfl
section
variable {st : Int → List Int → List Int} {ts : List Int} {L : List Int} {C : List Int → Prop} {U : List (List Int)}
theorem Sys.fd_C (q : Sys st ts C U) (hL : C L) (k : Nat) : ∀ x ∈ fd st ts L k, C x.1 := fd_least hL q.go k
theorem Sys.cnt (q : Sys st ts C U) {l : List SW} (nd : (l.map Prod.fst).Nodup) (hp : ∀ x ∈ l, C x.1) : l.length ≤ 120 := by
  have := nd_len nd (m := U) fun s hs => by
    obtain ⟨x, hx, rfl⟩ := List.mem_map.mp hs
    exact q.few _ (hp x hx)
  rw [List.length_map] at this
  exact Nat.le_trans this q.num
theorem Sys.prt_few (q : Sys st ts C U) (hL : C L) (k m : Nat) : (fd st ts L k ++ prt st ts L k m).length ≤ 120 :=
  q.cnt (prt_nd k m) fun x hx => q.fd_C hL (k + 1) x (prt_fd hx)
theorem Sys.fd_few (q : Sys st ts C U) (hL : C L) (k : Nat) : (fd st ts L k).length ≤ 120 := q.cnt (fd_nd k) (q.fd_C hL k)
theorem Sys.lv_C (q : Sys st ts C U) (hL : C L) (k : Nat) : ∀ x ∈ lv st ts L k, C x.1 := fun x hx => q.fd_C hL k x (lv_fd hx)
theorem Sys.mea_less (q : Sys st ts C U) (hL : C L) {k : Nat} (e : lv st ts L k ≠ []) : mea st ts L (k + 1) < mea st ts L k := by
  unfold mea
  rw [if_neg e, fd_succ, List.length_append]
  have h1 := q.fd_few hL (k + 1)
  rw [fd_succ, List.length_append] at h1
  by_cases z : lv st ts L (k + 1) = []
  · rw [if_pos z, z, List.length_nil]
    omega
  · rw [if_neg z]
    have : 0 < (lv st ts L (k + 1)).length := List.length_pos_iff.mpr z
    omega
theorem low : ∀ k : Nat, lv st ts L k ≠ [] → k + 1 ≤ (fd st ts L k).length
  | 0, _ => Nat.le_refl _
  | k + 1, e => by
    have e1 : lv st ts L k ≠ [] := fun z => e (by rw [lv_succ, z]; rfl)
    have := low k e1
    have h2 : 0 < (lv st ts L (k + 1)).length := List.length_pos_iff.mpr e
    rw [fd_succ, List.length_append]
    omega
/-- what is found is come to by its word -/
theorem fd_rn : ∀ k : Nat, ∀ q ∈ fd st ts L k, rn st L q.2 = q.1 ∧ ∀ p ∈ q.2, p ∈ ts
  | 0, q, hq => by
    rw [List.mem_singleton.mp hq]
    exact ⟨rfl, fun _ z => nomatch z⟩
  | k + 1, q, hq => by
    rw [fd_succ, List.mem_append] at hq
    rcases hq with hq | hq
    · exact fd_rn k q hq
    · have := (dd_ok _ _).sub q hq
      obtain ⟨x, hx, hq⟩ := List.mem_flatMap.mp this
      obtain ⟨p, hp, rfl⟩ := List.mem_map.mp hq
      obtain ⟨h1, h2⟩ := fd_rn k x (lv_fd hx)
      refine ⟨by rw [rn_snoc, h1], fun r hr => ?_⟩
      rcases List.mem_append.mp hr with z | z
      · exact h2 r z
      · rw [List.mem_singleton.mp z]
        exact hp
/-- what a word leads to is found -/
theorem rn_fd : ∀ w : List Int, (∀ p ∈ w, p ∈ ts) → rn st L w ∈ (fd st ts L w.length).map Prod.fst := by
  refine snoc_ind (fun _ => List.mem_map.mpr ⟨_, fd_start 0, rfl⟩) fun w p ih h => ?_
  obtain ⟨x, hx, e⟩ := List.mem_map.mp (ih fun r hr => h r (List.mem_append_left _ hr))
  rw [rn_snoc, ← e, List.length_append]
  exact fd_ex (h p (List.mem_append_right _ (List.mem_singleton.mpr rfl))) hx
theorem rn_all {a : Nat} (ha : lv st ts L a = []) {w : List Int} (h : ∀ p ∈ w, p ∈ ts) : ∃ x ∈ fd st ts L a, x.1 = rn st L w := by
  obtain ⟨x, hx, e⟩ := List.mem_map.mp (rn_fd (st := st) (L := L) w h)
  exact ⟨x, fd_all ha hx, e⟩
/-- a least one of some -/
structure Lst1 (st : Int → List Int → List Int) (ts L : List Int) (gp : List Int → Bool) (w : List Int) : Prop where
  wd : ∀ p ∈ w, p ∈ ts
  at_ : gp (rn st L w) = true
  min : ∀ v : List Int, (∀ p ∈ v, p ∈ ts) → gp (rn st L v) = true → w.length ≤ v.length
theorem lst1_of {gp : List Int → Bool} {k : Nat} {s w : List Int} (hm : (s, w) ∈ fd st ts L (k + 1)) (hg : gp s = true) (hlo : ∀ x ∈ fd st ts L k, gp x.1 = false) : Lst1 st ts L gp w := by
  obtain ⟨h1, h2⟩ := fd_rn (k + 1) _ hm
  refine ⟨h2, by rw [h1]; exact hg, fun v hv hgv => ?_⟩
  rcases Nat.lt_or_ge v.length (k + 1) with z | z
  · exfalso
    obtain ⟨x, hx, e⟩ := List.mem_map.mp (rn_fd (st := st) (L := L) v hv)
    have := hlo x (fd_mono (by omega) hx)
    rw [e, hgv] at this
    cases this
  · have h3 : w.length ≤ k + 1 := fd_len (k + 1) _ hm
    omega
end
end RH
set_option Elab.async false
set_option linter.all false
set_option maxRecDepth 100000
set_option maxHeartbeats 2000000
namespace RH
open PySem PySem.Spec PyProof.Rows L2
open NdefX (NScope CellsAt Caps slotAt cells_of startF ncx)
/-! ### the search for depths -/
/-- tuples stay -/
def TK (H H' : Hp) : Prop := ∀ b xs, Rd H b (.tup xs) → Rd H' b (.tup xs)
theorem TK.refl (H : Hp) : TK H H := fun _ _ e => e
theorem TK.trans {H H1 H2 : Hp} (a : TK H H1) (b : TK H1 H2) : TK H H2 := fun c xs e => b c xs (a c xs e)
theorem TK.same {H H1 : Hp} (a : Same H H1) : TK H H1 := fun c xs e => by
  rcases e with e | ⟨o, e⟩
  · exact .inl (a c _ e)
  · exact .inr ⟨o, a c _ e⟩
/-- what holds no tuple -/
def NoT (o : HO) : Prop := (∀ xs, o ≠ .tup xs) ∧ ∀ ob u, o ≠ .frz ob u
theorem TK.upd {H : Hp} {p : Addr} {o o' : HO} (h : H p = some o) (n : NoT o) : TK H (upd H p o') := fun b xs e => by
  by_cases z : b = p
  · subst z
    rcases e with e | ⟨ob, e⟩
    · rw [h] at e
      exact absurd (Option.some.inj e) (n.1 xs)
    · rw [h] at e
      exact absurd (Option.some.inj e) (n.2 ob _)
  · rcases e with e | ⟨ob, e⟩
    · exact .inl (by rw [upd_ne z]; exact e)
    · exact .inr ⟨ob, by rw [upd_ne z]; exact e⟩
theorem EX.on {H H' : Hp} {xs : List V} {ls : List (List Int)} (e : TK H H') (h : EX H xs ls) : EX H' xs ls := h.imp fun b s z => e b _ z
theorem KB.on {H H' : Hp} {as : List (List Int × V)} {bs : List Addr} (e : TK H H') (h : KB H as bs) : KB H' as bs := h.imp fun b s z => e b _ z
theorem Same.upd {H H' : Hp} {p : Addr} {o : HO} (a : Same H H') (h : H p = none) : Same H (upd H' p o) := fun b u e => by
  rw [upd_ne (ne_of_none e h)]
  exact a b u e
theorem not_tup_l {xs : List V} : NoT (.lst xs) := ⟨fun _ z => (nomatch z), fun _ _ z => (nomatch z)⟩
theorem not_tup_d {φ : Heap → Prop} : NoT (.ext φ) := ⟨fun _ z => (nomatch z), fun _ _ z => (nomatch z)⟩
section
variable {P : Program} {w : World} {K : PySem.W.Frag} {mg : Str → Option Value} {base : Heap}
theorem fst_snoc {bs : List (List Int × V)} {ls : List SW} {x : List Int × V} {y : SW} (h : bs.map Prod.fst = ls.map Prod.fst) (e : x.1 = y.1) : (bs ++ [x]).map Prod.fst = (ls ++ [y]).map Prod.fst := by
  rw [List.map_append, List.map_append, h, List.map_singleton, List.map_singleton, e]
/-- what stands within a level -/
def MidB (P : Program) (w : World) (H : Hp) (st : Int → List Int → List Int) (ts : List Int) (L : List Int) (R : Hp → List SW → List (List Int × V) → Prop) (k : Nat) (d l u : Addr) (xs : List V) (i j : Nat) (H' : Hp) : Prop :=
  ∃ (as : List (List Int × V)) (ks : List Addr) (us : List V), Same H H' ∧ H' d = some (DE P w as ks d) ∧ KB H' as ks ∧ as.map Prod.fst = (fd st ts L k ++ prt st ts L k (i * ts.length + j)).map Prod.fst ∧ R H' (fd st ts L k ++ prt st ts L k (i * ts.length + j)) as ∧
    H' l = some (.lst xs) ∧ EX H' xs ((lv st ts L k).map Prod.fst) ∧ H' u = some (.lst us) ∧ EX H' us ((prt st ts L k (i * ts.length + j)).map Prod.fst)
theorem lv_row {st : Int → List Int → List Int} {ts : List Int} {L : List Int} {k i : Nat} {xs : List V} {x : V} {H : Hp} (hE : EX H xs ((lv st ts L k).map Prod.fst)) (hx : xs[i]? = some x) : ∃ (q : SW) (b : Addr), (lv st ts L k)[i]? = some q ∧ x = .ref b ∧ KX H b q.1 := by
  have hi : i < (lv st ts L k).length := by
    have h1 := (List.getElem?_eq_some_iff.mp hx).1
    rw [hE.len, List.length_map] at h1
    exact h1
  have hq : (lv st ts L k)[i]? = some (lv st ts L k)[i] := List.getElem?_eq_getElem hi
  have hs : ((lv st ts L k).map Prod.fst)[i]? = some ((lv st ts L k)[i]).1 := by
    rw [List.getElem?_map, hq]
    rfl
  obtain ⟨b, h1, h2⟩ := hE.at hs
  rw [hx] at h1
  exact ⟨_, b, hq, Option.some.inj h1, h2⟩
theorem MidB.row {P : Program} {w : World} {H H' : Hp} {st : Int → List Int → List Int} {ts : List Int} {L : List Int} {R : Hp → List SW → List (List Int × V) → Prop} {k : Nat} {d l u : Addr} {xs : List V} {i : Nat} (m : MidB P w H st ts L R k d l u xs i ts.length H') : MidB P w H st ts L R k d l u xs (i + 1) 0 H' := by
  unfold MidB at m ⊢
  rw [show (i + 1) * ts.length + 0 = i * ts.length + ts.length by rw [Nat.succ_mul]; rfl]
  exact m
end
/-! ### the way back, the least word -/
theorem nd_val {s w w' : List Int} : ∀ {l : List SW}, (l.map Prod.fst).Nodup → (s, w) ∈ l → (s, w') ∈ l → w = w'
  | [], _, z, _ => nomatch z
  | x :: l, nd, a, b => by
    rw [List.map_cons, List.nodup_cons] at nd
    rcases List.mem_cons.mp a with e1 | a
    · rcases List.mem_cons.mp b with e2 | b
      · rw [← e1] at e2
        exact (Prod.mk.inj e2).2.symm
      · rw [← e1] at nd
        exact absurd (List.mem_map.mpr ⟨_, b, rfl⟩) nd.1
    · rcases List.mem_cons.mp b with e2 | b
      · rw [← e2] at nd
        exact absurd (List.mem_map.mpr ⟨_, a, rfl⟩) nd.1
      · exact nd_val nd.2 a b
/-- from where each state was come to -/
def CW (L : List Int) (H : Hp) (l : List SW) (as : List (List Int × V)) : Prop := as.map Prod.fst = l.map Prod.fst ∧ ∀ q ∈ as, (q.1 = L ∧ q.2 = .non ∧ (L, []) ∈ l) ∨
  ∃ (t b : Addr) (p : Int) (s' w' : List Int), q.2 = .ref t ∧ Rd H t (.tup [.ref b, .int p]) ∧ KX H b s' ∧ (s', w') ∈ l ∧ (q.1, w' ++ [p]) ∈ l
theorem CW.on {L : List Int} {H H' : Hp} {l : List SW} {as : List (List Int × V)} (e : TK H H') (c : CW L H l as) : CW L H' l as := ⟨c.1, fun q hq => by
  rcases c.2 q hq with z | ⟨t, b, p, s', w', h1, h2, h3, h4⟩
  · exact .inl z
  · exact .inr ⟨t, b, p, s', w', h1, e _ _ h2, e _ _ h3, h4⟩⟩
theorem CW.snoc {L : List Int} {H : Hp} {l : List SW} {as : List (List Int × V)} {s s' w' : List Int} {t b : Addr} {p : Int} (c : CW L H l as) (h2 : Rd H t (.tup [.ref b, .int p])) (h3 : KX H b s') (h4 : (s', w') ∈ l) : CW L H (l ++ [(s, w' ++ [p])]) (as ++ [(s, .ref t)]) := by
  refine ⟨fst_snoc c.1 rfl, fun q hq => ?_⟩
  rcases List.mem_append.mp hq with hq | hq
  · rcases c.2 q hq with ⟨z1, z2, z3⟩ | ⟨t, b, p, s', w', h1, h2, h3, h4, h5⟩
    · exact .inl ⟨z1, z2, List.mem_append_left _ z3⟩
    · exact .inr ⟨t, b, p, s', w', h1, h2, h3, List.mem_append_left _ h4, List.mem_append_left _ h5⟩
  · rw [List.mem_singleton.mp hq]
    exact .inr ⟨t, b, p, s', w', rfl, h2, h3, List.mem_append_left _ h4, List.mem_append_right _ (List.mem_singleton.mpr rfl)⟩
theorem fns : ∀ {as : List (List Int × V)} {s : List Int} {v w : V}, (as.map Prod.fst).Nodup → (s, v) ∈ as → (s, w) ∈ as → v = w
  | q :: as, s, v, w, nd, h1, h2 => by
    rw [List.map_cons, List.nodup_cons] at nd
    rcases List.mem_cons.mp h1 with e1 | h1
    · rcases List.mem_cons.mp h2 with e2 | h2
      · exact (Prod.mk.inj (e1.trans e2.symm)).2
      · rw [← e1] at nd
        exact absurd (List.mem_map.mpr ⟨_, h2, rfl⟩) nd.1
    · rcases List.mem_cons.mp h2 with e2 | h2
      · rw [← e2] at nd
        exact absurd (List.mem_map.mpr ⟨_, h1, rfl⟩) nd.1
      · exact fns nd.2 h1 h2
theorem ref_non (t : Addr) : decide (V.ref t = V.non) = false := decide_eq_false fun z => nomatch z
section
variable {P : Program} {w : World} {K : PySem.W.Frag} {mg : Str → Option Value} {base : Heap}
def spTraced (P : Program) (w : World) : Sp := fun vs H Q _ => ∃ (c b : Addr) (as : List (List Int × V)) (ks : List Addr) (s L wd : List Int) (l : List SW), vs = [.ref c, .ref b] ∧ H c = some (DE P w as ks c) ∧ KB H as ks ∧ KX H b s ∧ (l.map Prod.fst).Nodup ∧ CW L H l as ∧ (s, wd) ∈ l ∧ wd.length ≤ 1000 ∧
  ∀ (H' : Hp) (q : Addr), Same H H' → H' q = some (.tup (wd.map V.int)) → Q (.ref q) H'
theorem ok_traced (F : Df K mg "traced" st_traced ["came", "state"]) (B : Bu mg) : Cal P w K mg base 1 "traced" (spTraced P w) := by
  refine mkCal F sc_traced (fun vs H Q E h => ?_) (fun f cdv A outer s H vs Q E hr h => ?_)
  · obtain ⟨c, b, as, ks, s, L, wd, l, rfl, _⟩ := h
    rfl
  · obtain ⟨c, b, as, ks, s, L, wd, sl, rfl, hc, hkb, hb, hnd, hR, hs, hd, q⟩ := h
    refine ⟨_, pss_cons (ps_set (i := 2) sc_traced.nd rfl (.inl rfl) (pe_lst pa_nil))
      (pss_cons (ps_while PassesOwn.never (pt_cmp (pc_notN (pe_dgetE (hu_of hr) (pv 0) (pv 1) (fun _ _ => rfl))))
        (pss_cons (ps_asg (pe_dgetE (hu_of hr) (pv 0) (pv 1) (fun _ _ => rfl)) (pg_tup rfl (pgs_cons (pg_name (i := 1) sc_traced.nd rfl (Or.inl rfl)) (pgs_cons (pg_name (i := 3) sc_traced.nd rfl (Or.inl rfl)) pgs_nil))))
        (pss_one (ps_expr (pe_bm PySem.F.plainAttrs_list PySem.F.slot_list_append PySem.F.type_list_append mt_append (pv 2) (pa_cons (pv 3) pa_nil))))))
      (pss_cons (ps_expr (pe_bm0 PySem.F.plainAttrs_list PySem.F.slot_list_reverse PySem.F.type_list_reverse mt_reverse (pv 2)))
      (pss_one (ps_ret (pe_tupleOf (by rfl) B.tuple (pv 2)))))), ?_⟩
    have hnd2 : (as.map Prod.fst).Nodup := by rw [hR.1]; exact hnd
    have has : ∀ {x y : List Int}, (x, y) ∈ sl → x ∈ as.map Prod.fst := fun hx => by
      rw [hR.1]
      exact List.mem_map.mpr ⟨_, hx, rfl⟩
    refine ⟨Nat.zero_le _, fun l hl => ?_⟩
    refine ⟨fun m σ H' => ∃ (b' : Addr) (s' w' ws : List Int), m = w'.length ∧ (∃ y, σ = [some (.ref c), some (.ref b'), some (.ref l), y]) ∧ Same H H' ∧ KX H' b' s' ∧ (s', w') ∈ sl ∧ H' l = some (.lst (ws.map V.int)) ∧ wd = w' ++ ws.reverse,
      ⟨wd.length, b, s, wd, [], rfl, ⟨none, rfl⟩, same_new hl, TK.same (same_new hl) _ _ hb, hs, upd_same, (List.append_nil _).symm⟩, ?_⟩
    rintro m σ H1 ⟨b', s', w', ws, rfl, ⟨y, rfl⟩, sm, eb, hs', eL, hlen⟩
    have hkb1 := hkb.on (TK.same sm)
    have hl2 : wd.length = w'.length + ws.length := by rw [hlen, List.length_append, List.length_reverse]
    refine ⟨_, rfl, _, rfl, c, b', as, ks, s', rfl, rfl, sm _ _ hc, hkb1, eb, has hs', fun v hvm => ⟨_, rfl, ?_⟩⟩
    rcases hR.2 _ hvm with ⟨e1, e2, e3⟩ | ⟨t, b2, p, s2, w2, e1, h2, h3, h4, h5⟩
    · have e2 : v = .non := e2
      have e1' : s' = L := e1
      subst e2
      have ew : w' = [] := nd_val hnd hs' (by rw [e1']; exact e3)
      refine ifF rfl ⟨_, rfl, .inl ⟨rfl, _, lstAt eL⟩, l, _, rfl, rfl, eL, ?_⟩
      have el : (upd H1 l (.lst (ws.map V.int).reverse)) l = some (.lst (ws.map V.int).reverse) := upd_same
      refine ⟨_, rfl, .inl ⟨l, _, rfl, lstAt el, fun r hr2 => q _ r ((Same.upd sm hl).trans (same_new hr2)) ?_⟩⟩
      rw [upd_same, hlen, ew, List.nil_append, List.map_reverse]
    · have e1 : v = .ref t := e1
      subst e1
      have h5 : (s', w2 ++ [p]) ∈ sl := h5
      have ew : w' = w2 ++ [p] := nd_val hnd hs' h5
      have ewl : w'.length = w2.length + 1 := by rw [ew, List.length_append]; rfl
      refine ifT (by rw [ref_non]; rfl) ⟨fun σ' H' => ∃ m', m' < w'.length ∧ ∃ (b' : Addr) (s' w' ws : List Int), m' = w'.length ∧ (∃ y, σ' = [some (.ref c), some (.ref b'), some (.ref l), y]) ∧ Same H H' ∧ KX H' b' s' ∧ (s', w') ∈ sl ∧ H' l = some (.lst (ws.map V.int)) ∧ wd = w' ++ ws.reverse, fun _ _ h => h, ?_⟩
      refine ⟨_, rfl, _, rfl, c, b', as, ks, s', rfl, rfl, sm _ _ hc, hkb1, eb, has hs', fun v2 hvm2 => ?_⟩
      have ev2 : v2 = .ref t := fns hnd2 hvm2 hvm
      subst ev2
      refine ⟨t, _, rfl, .inl (TK.same sm _ _ h2), rfl, _, _, rfl, _, _, rfl, rfl, ?_⟩
      refine ⟨_, rfl, .inl ⟨rfl, _, lstAt eL⟩, _, rfl, l, _, .int p, rfl, rfl, eL, by rw [List.length_map]; exact small1000 (by omega), ?_⟩
      refine ⟨w2.length, by omega, b2, s2, w2, ws ++ [p], rfl, ⟨_, rfl⟩, Same.upd sm hl, ?_, h4, ?_, ?_⟩
      · exact TK.upd eL not_tup_l _ _ (TK.same sm _ _ h3)
      · rw [upd_same, List.map_append]
        rfl
      · rw [hlen, ew, List.reverse_append, List.append_assoc]
        rfl
end
theorem none_of {H H' : Hp} {p : Addr} (a : Same H H') (h : H' p = none) : H p = none := by
  cases e : H p with
  | none => rfl
  | some o =>
    rw [a _ _ e] at h
    cases h
theorem FT.same {H H' : Hp} {b : Addr} {s : List Int} (e : Same H H') (h : FT H b s) : FT H' b s := let ⟨ob, h1, h2⟩ := h; ⟨ob, e _ _ h1, h2⟩
theorem FT.fix {H H' : Hp} {b : Addr} {s : List Int} (f : Fix H H') (h : FT H b s) : FT H' b s := let ⟨ob, h1, h2⟩ := h; ⟨ob, f _ _ h1 (fun xs z => nomatch z), h2⟩
theorem FT.sq {K : PySem.W.Frag} {H : Hp} {b : Addr} {s : List Int} (h : FT H b s) : SqT K H b (s.map V.int) := .inl h.kx
theorem eqv_tup (ns ms : List Int) : PyData.eqv (.tuple (ns.map PyData.int)) (.tuple (ms.map PyData.int)) = decide (ns = ms) := by
  rw [PyData.eqv]
  exact PySem.W.ked_eqvAll ns ms
section
variable {P : Program} {w : World} {K : PySem.W.Frag} {mg : Str → Option Value} {base : Heap} {CX : CXT} {k : Nat} {f : Addr} {live live' : Hp → Prop} {sp sp' : Sp} {outer : List Env} {s : Shared} {H : Hp}
theorem Callable.imp (c : Callable P w K mg base CX k f live sp outer s H) (hl : ∀ H, live' H → live H) (hs : ∀ vs H Q E, live' H → sp' vs H Q E → sp vs H Q E) : Callable P w K mg base CX k f live' sp' outer s H :=
  ⟨fun X e1 e2 e3 e4 e5 e6 pins σ H' s' I l => c.at_ X e1 e2 e3 e4 e5 e6 pins σ H' s' I (hl _ l),
    fun X e1 e2 e3 e4 e5 e6 e7 e8 e9 hr pins σ H' s' us vs Q E I l r hx q => c.run X e1 e2 e3 e4 e5 e6 e7 e8 e9 hr pins σ H' s' us vs Q E I (hl _ l) r hx (hs _ _ _ _ l q)⟩
end
def lamP : Expr → Arguments
  | .Lambda p _ _ _ => p
  | _ => defArgs st_law
def lamB : Expr → Expr
  | .Lambda _ b _ _ => b
  | e => e
def lamS : Expr → Scope
  | .Lambda _ _ sc _ => sc
  | _ => defScope st_law
def lamO : Expr → Pos
  | .Lambda _ _ _ p => p
  | _ => ⟨0, 0, 0, 0⟩
/-- what the search for a goal is handed -/
structure GL where
  f : Addr
  live : Hp → Prop
  st : Int → List Int → List Int
  ts : List Int
  C : List Int → Prop
  U : List (List Int)
  f2 : Addr
  live2 : Hp → Prop
  gp : List Int → Bool
section
variable {P : Program} {w : World} {K : PySem.W.Frag} {mg : Str → Option Value} {base : Heap}
/-- what a step promises -/
def spStepG (st : Int → List Int → List Int) (ts : List Int) (C : List Int → Prop) : Sp := fun vs H Q _ => ∃ (a : Addr) (L : List Int) (p : Int), vs = [.ref a, .int p] ∧ KX H a L ∧ C L ∧ p ∈ ts ∧
  ∀ H' q, Same H H' → H q = none → KX H' q (st p L) → Q (.ref q) H'
/-- is it a goal? -/
def spGoalG (C : List Int → Prop) (gp : List Int → Bool) : Sp := fun vs H Q _ => ∃ (a : Addr) (L : List Int), vs = [.ref a] ∧ KX H a L ∧ C L ∧ Q (.bl (gp L)) H
def preL (P : Program) (w : World) (K : PySem.W.Frag) (mg : Str → Option Value) (base : Heap) (g : GL) : List Env → Shared → Hp → Prop := fun outer s H =>
  Callable P w K mg base CX0 2 g.f g.live (spStepG g.st g.ts g.C) outer s H ∧ Callable P w K mg base CX0 2 g.f2 g.live2 (spGoalG g.C g.gp) outer s H
def spLeast (K : PySem.W.Frag) (g : GL) : Sp := fun vs H Q _ => ∃ (a t : Addr) (L : List Int), vs = [.ref a, .ref t, .ref g.f, .ref g.f2] ∧ KX H a L ∧ SqT K H t (g.ts.map V.int) ∧
  (∀ H', Same H H' → g.live H') ∧ (∀ H', Same H H' → g.live2 H') ∧ Sys g.st g.ts g.C g.U ∧ g.C L ∧
  (∀ (H' : Hp) (q : Addr) (wd : List Int), Same H H' → Lst1 g.st g.ts L g.gp wd → H' q = some (.tup (wd.map V.int)) → wd.length ≤ 120 → Q (.ref q) H') ∧
  (∀ (H' : Hp), Same H H' → (∀ v, (∀ p ∈ v, p ∈ g.ts) → g.gp (rn g.st L v) = false) → Q .non H')
theorem ok_least {f : Addr} {fdat : FuncData} (F : Fun K "least_word" "least_word" st_least_word f fdat) (B : Bu mg) (CT : Cal P w K mg base 1 "traced" (spTraced P w)) (g : GL) : FnC P w K mg base CX0 3 f fdat ["start", "touches", "step", "is_goal"] (preL P w K mg base g) (spLeast K g) := by
  refine fnC_of F sc_least_word (fun vs H Q E h => ?_) (fun cdv A outer s H vs Q E hr hP h => ?_)
  · obtain ⟨a, t, L, rfl, _⟩ := h
    rfl
  · obtain ⟨a, t, L, rfl, ha, ht, hlive, hlive2, sy, hL, qy, qn0⟩ := h
    obtain ⟨hP1, hP2⟩ := hP
    refine ⟨_, pss_cons (ps_if (pt_val (pe_can hP2 rfl hr (by decide) pass0 (i := 3) rfl (Or.inl rfl) (pa_cons (pv 0) pa_nil))) (pss_one (ps_ret (pe_tup pa_nil))) pss_nil)
      (pss_cons (ps_set (i := 4) sc_least_word.nd rfl (.inl rfl) (pe_disp1E hr.units0 (pv 0) pe_non))
      (pss_cons (ps_set (i := 5) sc_least_word.nd rfl (.inl rfl) (pe_lst (pa_cons (pv 0) pa_nil)))
      (pss_cons (ps_while PassesOwn.never (pt_truth (pv 5) (by intro _; rfl))
        (pss_cons (ps_set (i := 6) sc_least_word.nd rfl (.inl rfl) (pe_lst pa_nil))
        (pss_cons (ps_for PassesOwn.never rfl (pi_list (pv 5)) (pg_name (i := 7) sc_least_word.nd rfl (Or.inl rfl))
          (pss_one (ps_for PassesOwn.never rfl (pi_tup (pv 1)) (pg_name (i := 8) sc_least_word.nd rfl (Or.inl rfl))
            (pss_cons (ps_set (i := 9) sc_least_word.nd rfl (.inl rfl) (pe_can hP1 rfl hr (by decide) pass0 (i := 2) rfl (Or.inl rfl) (pa_cons (pv 7) (pa_cons (pv 8) pa_nil))))
            (pss_one (ps_if (pt_cmp (pc_dnotinE (hu_of hr) (pv 9) (pv 4)))
              (pss_cons (ps_dputE (hu_of hr) (pv 4) (pv 9) (pe_tup (pa_cons (pv 7) (pa_cons (pv 8) pa_nil))) rfl)
              (pss_cons (ps_if (pt_val (pe_can hP2 rfl hr (by decide) pass0 (i := 3) rfl (Or.inl rfl) (pa_cons (pv 9) pa_nil))) (pss_one (ps_ret (pc CT hr (pa_cons (pv 4) (pa_cons (pv 9) pa_nil))))) pss_nil)
              (pss_one (ps_expr (pe_bm PySem.F.plainAttrs_list PySem.F.slot_list_append PySem.F.type_list_append mt_append (pv 6) (pa_cons (pv 9) pa_nil)))))) pss_nil))))))
        (pss_one (ps_set (i := 5) sc_least_word.nd rfl (.inl rfl) (pv 6))))))
      (pss_one (ps_ret pe_non))))), ?_⟩
    refine ⟨rfl, hlive2 _ (Same.refl H), _, rfl, hlive2 _ (Same.refl H), a, L, rfl, ha, hL, _, rfl, ite2 (fun eg => ?_) (fun eg => ?_)⟩
    · exact ⟨Nat.zero_le _, fun r hr2 => qy _ r [] (same_new hr2) ⟨fun _ z => (nomatch z), eg, fun _ _ _ => Nat.zero_le _⟩ upd_same (Nat.zero_le _)⟩
    have eg : g.gp L = false := by simpa using eg
    intro d hd
    refine ⟨_, rfl, upd_same, a, L, rfl, TK.same (same_new hd) _ _ ha, ?_⟩
    have hd1 : Same H (upd (upd H d (DE P w [] [] d)) d (DE P w [(L, .non)] [a] d)) := Same.upd (same_new hd) hd
    refine ⟨_, rfl, by show 1 ≤ sizeLine; decide, fun l hl => ?_⟩
    refine ⟨fun m σ H' => ∃ (k : Nat) (as : List (List Int × V)) (ks : List Addr) (xs : List V) (l : Addr), m = mea g.st g.ts L k ∧ (∃ y6 y7 y8 y9, σ = [some (.ref a), some (.ref t), some (.ref g.f), some (.ref g.f2), some (.ref d), some (.ref l), y6, y7, y8, y9]) ∧
      Same H H' ∧ H' d = some (DE P w as ks d) ∧ KB H' as ks ∧ CW L H' (fd g.st g.ts L k) as ∧ (∀ x ∈ fd g.st g.ts L k, g.gp x.1 = false) ∧ H' l = some (.lst xs) ∧ EX H' xs ((lv g.st g.ts L k).map Prod.fst), ⟨mea g.st g.ts L 0, 0, [(L, .non)], [a], [.ref a], l, rfl, ⟨none, none, none, none, rfl⟩, hd1.trans (same_new hl), same_new hl _ _ upd_same, ?_, ?_, ?_, upd_same, ?_⟩, ?_⟩
    · exact .cons (TK.same (hd1.trans (same_new hl)) _ _ ha) .nil
    · refine ⟨rfl, fun q hq => .inl ?_⟩
      rw [List.mem_singleton.mp hq]
      exact ⟨rfl, rfl, fd_start 0⟩
    · intro x hx
      rw [List.mem_singleton.mp hx]
      exact eg
    · exact .cons (TK.same (hd1.trans (same_new hl)) _ _ ha) .nil
    rintro m σ H1 ⟨k, as, ks, xs, l, rfl, ⟨y6, y7, y8, y9, rfl⟩, sm, eD, kb, hv, hg, eL, hE⟩
    have lx : xs.length = (lv g.st g.ts L k).length := hE.len.trans (List.length_map ..)
    refine ⟨_, rfl, !xs.isEmpty, .inl ⟨xs, lstAt eL, rfl⟩, ite2 (fun ex => ?_) (fun ex => ?_)⟩
    · have hne : lv g.st g.ts L k ≠ [] := by
        intro z
        rw [z] at lx
        rw [List.eq_nil_of_length_eq_zero lx] at ex
        cases ex
      have hk : k + 1 ≤ 120 := by
        have h1 := low k hne
        have h2 := sy.fd_few hL k
        omega
      refine ⟨fun σ' H' => ∃ m', m' < mea g.st g.ts L k ∧ ∃ (k : Nat) (as : List (List Int × V)) (ks : List Addr) (xs : List V) (l : Addr), m' = mea g.st g.ts L k ∧ (∃ y6 y7 y8 y9, σ' = [some (.ref a), some (.ref t), some (.ref g.f), some (.ref g.f2), some (.ref d), some (.ref l), y6, y7, y8, y9]) ∧
        Same H H' ∧ H' d = some (DE P w as ks d) ∧ KB H' as ks ∧ CW L H' (fd g.st g.ts L k) as ∧ (∀ x ∈ fd g.st g.ts L k, g.gp x.1 = false) ∧ H' l = some (.lst xs) ∧ EX H' xs ((lv g.st g.ts L k).map Prod.fst), fun _ _ h => h, ?_⟩
      refine ⟨Nat.zero_le _, fun u hu => ?_⟩
      have su := same_new (o := .lst []) hu
      have hlu : l ≠ u := ne_of_none eL hu
      have huH := none_of sm hu
      refine ⟨_, rfl, l, rfl, ⟨_, lstAt (su _ _ eL)⟩, ?_⟩
      refine for_list (xs := xs) (fun i σ H' => MidB P w H g.st g.ts L (fun H' l as => CW L H' l as ∧ (∀ x ∈ l, g.gp x.1 = false)) k d l u xs i 0 H' ∧ ∃ y7 y8 y9, σ = [some (.ref a), some (.ref t), some (.ref g.f), some (.ref g.f2), some (.ref d), some (.ref l), some (.ref u), y7, y8, y9])
        ⟨⟨as, ks, [], sm.trans su, su _ _ eD, kb.on (TK.same su), ?_, ?_, su _ _ eL, hE.on (TK.same su), upd_same, ?_⟩, _, _, _, rfl⟩ (fun i σ H' _ h' => ?_) (fun i x σ H2 hx h' => ?_) (fun σ H2 h' => ?_)
      · rw [Nat.zero_mul, prt_zero, List.append_nil]
        exact hv.1
      · rw [Nat.zero_mul, prt_zero, List.append_nil]
        exact ⟨hv.on (TK.same su), hg⟩
      · rw [Nat.zero_mul, prt_zero]
        exact .nil
      · obtain ⟨⟨_, _, _, _, _, _, _, _, e, _⟩, _⟩ := h'
        exact lstAt e
      · obtain ⟨hM, z7, z8, z9, rfl⟩ := h'
        obtain ⟨q0, b, hq0, rfl, _⟩ := lv_row hE hx
        have hp0 := sy.lv_C hL k q0 (List.mem_of_getElem? hq0)
        refine ⟨_, rfl, t, rfl, ⟨_, onT (hM.choose_spec.choose_spec.choose_spec.1) ht⟩, ?_⟩
        refine for_tup (xs := g.ts.map V.int) (fun j σ H' => MidB P w H g.st g.ts L (fun H' l as => CW L H' l as ∧ (∀ x ∈ l, g.gp x.1 = false)) k d l u xs i j H' ∧ ∃ y8 y9, σ = [some (.ref a), some (.ref t), some (.ref g.f), some (.ref g.f2), some (.ref d), some (.ref l), some (.ref u), some (.ref b), y8, y9])
          ⟨hM, _, _, rfl⟩ (fun j σ H' _ h' => onT (h'.1.choose_spec.choose_spec.choose_spec.1) ht) (fun j x2 σ H3 hx2 h' => ?_) (fun σ H3 h' => ?_)
        · obtain ⟨⟨bs, ks, us, sm3, eD3, kb3, hf3, hv3, eL3, hE3, eU3, hF3⟩, w8, w9, rfl⟩ := h'
          obtain ⟨pj, hpj, rfl⟩ := map_at hx2
          obtain ⟨q0', b', hq0', eb', hb3⟩ := lv_row hE3 hx
          cases eb'
          rw [hq0] at hq0'
          cases hq0'
          have hfew := sy.prt_few hL k (i * g.ts.length + j)
          have blen : bs.length ≤ 120 := by
            have := congrArg List.length hf3
            rw [List.length_map, List.length_map] at this
            omega
          have ulen : us.length ≤ 120 := by
            have h1 := hF3.len
            rw [List.length_map] at h1
            rw [List.length_append] at hfew
            omega
          have hin0 : (q0.1, q0.2) ∈ fd g.st g.ts L k ++ prt g.st g.ts L k (i * g.ts.length + j) := List.mem_append_left _ (lv_fd (List.mem_of_getElem? hq0))
          refine ⟨rfl, hlive _ sm3, _, rfl, _, rfl, hlive _ sm3, b, q0.1, pj, rfl, hb3, hp0, List.mem_of_getElem? hpj, fun H4 qn s4 nq eq4 => ?_⟩
          have sm4 := sm3.trans s4
          have eD4 := s4 _ _ eD3
          have eU4 := s4 _ _ eU3
          have kb4 := kb3.on (TK.same s4)
          have hv4 := hv3.1.on (TK.same s4)
          refine ⟨_, rfl, _, rfl, d, qn, bs, ks, g.st pj q0.1, rfl, rfl, eD4, kb4, eq4, _, rfl, ?_⟩
          by_cases hm : g.st pj q0.1 ∈ bs.map Prod.fst
          · have hm2 := hm
            rw [hf3] at hm2
            have ep := prt_old hq0 hpj hm2
            refine ifF (by rw [decide_eq_true hm]; rfl) ⟨⟨bs, ks, us, sm4, eD4, kb4, ?_, ?_, s4 _ _ eL3, hE3.on (TK.same s4), eU4, ?_⟩, _, _, rfl⟩
            · rw [show i * g.ts.length + (j + 1) = i * g.ts.length + j + 1 from rfl, ep]
              exact hf3
            · rw [show i * g.ts.length + (j + 1) = i * g.ts.length + j + 1 from rfl, ep]
              exact ⟨hv4, hv3.2⟩
            · rw [show i * g.ts.length + (j + 1) = i * g.ts.length + j + 1 from rfl, ep]
              exact hF3.on (TK.same s4)
          · have hm2 := hm
            rw [hf3] at hm2
            have ep := prt_new hq0 hpj hm2
            refine ifT (by rw [decide_eq_false hm]; rfl) ?_
            refine ⟨_, rfl, _, rfl, by show 2 ≤ sizeLine; decide, fun T hT => ?_⟩
            have sT := same_new (o := .tup [.ref b, .int pj]) hT
            have eT : Rd (upd H4 T (.tup [.ref b, .int pj])) T (.tup [.ref b, .int pj]) := .inl upd_same
            have smT := sm4.trans sT
            have eDT := sT _ _ eD4
            have eUT := sT _ _ eU4
            have eLT := sT _ _ (s4 _ _ eL3)
            have eqT := TK.same sT _ _ eq4
            have kbT := kb4.on (TK.same sT)
            have tk4T := TK.same (s4.trans sT)
            have hbT := tk4T _ _ hb3
            have hvT := hv4.on (TK.same sT)
            generalize (upd H4 T (.tup [.ref b, .int pj])) = HT at *
            refine ⟨_, rfl, _, rfl, d, qn, bs, ks, g.st pj q0.1, rfl, rfl, eDT, kbT, eqT, hm, small1000 (by omega), ?_⟩
            have hv5 : CW L HT (fd g.st g.ts L k ++ prt g.st g.ts L k (i * g.ts.length + j + 1)) (bs ++ [(g.st pj q0.1, V.ref T)]) := by
              rw [ep, ← List.append_assoc]
              exact hvT.snoc eT hbT hin0
            have tk5 : TK HT (upd HT d (DE P w (bs ++ [(g.st pj q0.1, V.ref T)]) (ks ++ [qn]) d)) := TK.upd eDT not_tup_d
            have eU5 : (upd HT d (DE P w (bs ++ [(g.st pj q0.1, V.ref T)]) (ks ++ [qn]) d)) u = some (.lst us) := by
              rw [upd_ne (ne_of eUT eDT (fun z => nomatch z))]
              exact eUT
            have eL5 : (upd HT d (DE P w (bs ++ [(g.st pj q0.1, V.ref T)]) (ks ++ [qn]) d)) l = some (.lst xs) := by
              rw [upd_ne (ne_of eLT eDT (fun z => nomatch z))]
              exact eLT
            have sm5 : Same H (upd HT d (DE P w (bs ++ [(g.st pj q0.1, V.ref T)]) (ks ++ [qn]) d)) := Same.upd smT hd
            have eD5 : (upd HT d (DE P w (bs ++ [(g.st pj q0.1, V.ref T)]) (ks ++ [qn]) d)) d = some (DE P w (bs ++ [(g.st pj q0.1, V.ref T)]) (ks ++ [qn]) d) := upd_same
            have hv6 := hv5.on tk5
            have eq5 := tk5 _ _ eqT
            have tk45 := tk4T.trans tk5
            have kb5 : KB (upd HT d (DE P w (bs ++ [(g.st pj q0.1, V.ref T)]) (ks ++ [qn]) d)) (bs ++ [(g.st pj q0.1, V.ref T)]) (ks ++ [qn]) := (kbT.on tk5).snoc (q := (g.st pj q0.1, V.ref T)) (b := qn) eq5
            have hnew : (g.st pj q0.1, q0.2 ++ [pj]) ∈ fd g.st g.ts L k ++ prt g.st g.ts L k (i * g.ts.length + j + 1) := by
              rw [ep]
              exact List.mem_append_right _ (List.mem_append_right _ (List.mem_singleton.mpr rfl))
            have hp2 := sy.fd_C hL (k + 1) _ (prt_fd hnew)
            have hw120 : (q0.2 ++ [pj]).length ≤ 120 := by
              have := fd_len (k + 1) _ (prt_fd hnew)
              have : (q0.2 ++ [pj]).length ≤ k + 1 := this
              omega
            have hwl : (q0.2 ++ [pj]).length ≤ 1000 := by omega
            refine ⟨rfl, hlive2 _ sm5, _, rfl, hlive2 _ sm5, qn, _, rfl, eq5, hp2, _, rfl, ite2 (fun e2 => ?_) (fun e2 => ?_)⟩
            · have hf2 : (g.st pj q0.1, q0.2 ++ [pj]) ∈ fd g.st g.ts L (k + 1) := prt_fd hnew
              exact ⟨_, rfl, _, rfl, d, qn, _, _, g.st pj q0.1, L, q0.2 ++ [pj], _, rfl, eD5, kb5, eq5, prt_nd k (i * g.ts.length + j + 1), hv6, hnew, hwl, fun H' r s' er => qy H' r _ (sm5.trans s') (lst1_of hf2 e2 hg) er hw120⟩
            · have e2 : g.gp (g.st pj q0.1) = false := by simpa using e2
              refine ⟨_, rfl, .inl ⟨rfl, _, lstAt eU5⟩, _, rfl, u, us, .ref qn, rfl, rfl, eU5, small1000 (by omega), ?_⟩
              have tk6 : TK (upd HT d (DE P w (bs ++ [(g.st pj q0.1, V.ref T)]) (ks ++ [qn]) d)) (upd (upd HT d (DE P w (bs ++ [(g.st pj q0.1, V.ref T)]) (ks ++ [qn]) d)) u (.lst (us ++ [.ref qn]))) := TK.upd eU5 not_tup_l
              have tk46 := tk45.trans tk6
              refine ⟨⟨bs ++ [(g.st pj q0.1, V.ref T)], ks ++ [qn], us ++ [.ref qn], Same.upd sm5 huH, ?_, kb5.on tk6, ?_, ⟨hv6.on tk6, ?_⟩, ?_, hE3.on tk46, upd_same, ?_⟩, _, _, rfl⟩
              · rw [upd_ne (ne_of eD5 eU5 (fun z => nomatch z))]
                exact eD5
              · exact hv6.1
              · rw [show i * g.ts.length + (j + 1) = i * g.ts.length + j + 1 from rfl, ep, ← List.append_assoc]
                intro x hx
                rcases List.mem_append.mp hx with z | z
                · exact hv3.2 x z
                · rw [List.mem_singleton.mp z]
                  exact e2
              · rw [upd_ne hlu]
                exact eL5
              · rw [show i * g.ts.length + (j + 1) = i * g.ts.length + j + 1 from rfl, ep, List.map_append]
                exact EX.snoc (tk6 _ _ eq5) (hF3.on tk46)
        · obtain ⟨hM3, w8, w9, rfl⟩ := h'
          rw [List.length_map] at hM3
          exact ⟨hM3.row, _, _, _, rfl⟩
      · obtain ⟨⟨bs, ks, us, sm3, eD3, kb3, hf3, hv3, eL3, hE3, eU3, hF3⟩, w7, w8, w9, rfl⟩ := h'
        rw [lx, Nat.add_zero, prt_all] at hv3 hF3
        exact ⟨_, rfl, mea g.st g.ts L (k + 1), sy.mea_less hL hne, k + 1, bs, ks, us, u, rfl, ⟨_, _, _, _, rfl⟩, sm3, eD3, kb3, hv3.1, hv3.2, eU3, hF3⟩
    · have hnil : lv g.st g.ts L k = [] := by
        cases xs with
        | nil => exact List.eq_nil_of_length_eq_zero lx.symm
        | cons x r => exact absurd rfl ex
      refine qn0 H1 sm fun v hv2 => ?_
      obtain ⟨x, hx, e⟩ := rn_all hnil hv2
      rw [← e]
      exact hg x hx
end
end RH
set_option Elab.async false
set_option linter.all false
set_option maxRecDepth 100000
set_option maxHeartbeats 2000000
namespace RH
open PySem PySem.Spec PyProof.Rows L2
open NdefX (NScope CellsAt Caps slotAt slotAt_of cells_of startF ncx)
open LamX (Tabs TabS TabB ExtN CodeO codeO_ne)
/-! ### the defs that make a step -/
theorem frs_free {X : Cx} {pins : List (Addr × Obj)} {σ : L2.St} {H : Hp} {s : Shared} (I : Inv X pins σ H s) (hf : ∀ x, X.fn x = true) {y : Str} {c : Addr} (h : X.env.cells.lookup y = some c) : c ∉ frs X.stack := by
  have out : c ∉ frs X.outer := fun z => by
    obtain ⟨_, o, e, _⟩ := I.ok.funs.mem z
    have h1 := Heap.lt_size e
    exact absurd (Nat.lt_of_lt_of_le h1 (I.ok.cab y c (hf y) h)) (Nat.lt_irrefl _)
  rcases I.ok.stk with e | ⟨e, ef⟩
  · rw [e]
    exact out
  · rw [e]
    intro z
    have z2 : c = X.env.locals ∨ c ∈ frs X.outer := by
      unfold frs at z ⊢
      rw [List.filterMap_cons, ef] at z
      exact List.mem_cons.mp z
    rcases z2 with z2 | z2
    · obtain ⟨m, hn, _⟩ := I.loc
      obtain ⟨o, es, ep, e1, e2, _⟩ := hn
      obtain ⟨v, o2, e3, e4⟩ := I.cell y c h
      rw [z2, e1] at e3
      cases e3
      rw [e2] at e4
      cases e4
    · exact out z2
/-- a def of the text with its code object -/
structure DfC (K : PySem.W.Frag) (mg : Str → Option Value) (x : Str) (st : Stmt) (ps : List Str) (c : Addr) : Prop where
  ex : ∃ (f : Addr) (oc : Value) (od : Option Addr) (kV doc pm : Value) (an : Option Addr) (ct : Value) (osl : Array (Option Value)), K.lookup f = some ⟨oc, od, .func (PySem.W.fnOf x x (defArgs st) (defBody st) (defScope st) .none kV doc pm an (.ref c) ct), osl⟩ ∧
    PySem.W.codeIn K (.ref c) x = true ∧ PySem.W.keepIn K (.ref f) = true ∧ mg x = some (.ref f) ∧ Binds K (PySem.W.fnOf x x (defArgs st) (defBody st) (defScope st) .none kV doc pm an (.ref c) ct) ps []
section
variable {P : Program} {w : World} {K : PySem.W.Frag} {mg : Str → Option Value} {base : Heap}
theorem mkCalC {x : Str} {st : Stmt} {N ps : List Str} {k : Nat} {sp : Sp} {c : Addr} (F : DfC K mg x st ps c) (S : FnScope N ps (defScope st)) (len : ∀ vs H Q E, sp vs H Q E → vs.length = ps.length)
    (hbody : ∀ (f : Addr) (A : Around) (outer : List Env) (s : Shared) (H : Hp) (vs : List V) (Q : VK) (E : XK), Room k (A.deeper (envOfC x (defScope st) s.heap.objs.size f (.ref c))) → sp vs H Q E →
      ∃ t, PSs (cxOf CX0 P w K mg base N x (defScope st) f (.ref c) A outer s H E).nox (defBody st) t ∧ t { nx := fun _ H' => Q .non H', rt := Q } (start N vs) H) : Cal P w K mg base (k + 1) x sp := by
  obtain ⟨f, oc, od, kV, doc, pm, an, ct, osl, lk, hcd, kp, g, b⟩ := F.ex
  refine ⟨f, _, ps, fn_of lk hcd S len fun A outer s H vs Q E hr hsp => ?_, g, kp, b⟩
  obtain ⟨t, h, q⟩ := hbody f A outer s H vs Q E hr hsp
  exact ⟨t, h.nox, q⟩
end
section
theorem extN_tups {K : PySem.W.Frag} {H H' : Hp} (e : ExtN H H') : Tups K H H' := fun a xs hs => by
  rcases hs with (hs | ⟨o, hs⟩) | hs
  · exact .inl (.inl (e _ _ hs (fun ps z => nomatch z)))
  · exact .inl (.inr ⟨o, e _ _ hs (fun ps z => nomatch z)⟩)
  · exact .inr hs
theorem extN_tk {H H' : Hp} (e : ExtN H H') : TK H H' := fun b xs h => by
  rcases h with h | ⟨ob, h⟩
  · exact .inl (e _ _ h (fun ps z => nomatch z))
  · exact .inr ⟨ob, e _ _ h (fun ps z => nomatch z)⟩
theorem extN_same {H H' : Hp} (e : Same H H') : ExtN H H' := ExtN.of fun b o h => e b o h
theorem tabs_same {T : List (Addr × Str)} {H H' : Hp} (t : Tabs T H) (e : Same H H') : Tabs T H' := t.ext fun b o h => e b o h
end
/-! ### pairs of marks -/
def stP (h o : List (List Int)) (p : Int) : List Int → List Int
  | [a, b] => [mv h p a, mv o p b]
  | s => s
def CP (n : Nat) (s : List Int) : Prop := ∃ a b, s = [a, b] ∧ InR n a ∧ InR n b
def UP (n : Nat) : List (List Int) := (rg n).flatMap fun a => (rg n).map fun b => [a, b]
theorem UP_few : ∀ n, n < 6 → (UP n).length ≤ 120 := by decide +kernel
theorem Hb.mvR {n : Nat} {h : List (List Int)} (q : Hb n h) {p s : Int} (hp : InR n p) (hs : InR n s) : InR n (mv h p s) := (q.at hp.1 hp.2 hs.1 hs.2).choose_spec.2.2
theorem sysP {n : Nat} {h o : List (List Int)} (hb : Hb n h) (ho : Hb n o) {lot : List Int} (hin : ∀ i ∈ lot, InR n i) (hl : lot.length ≤ 1000) : Sys (stP h o) lot (CP n) (UP n) where
  go := fun s ⟨a, b, e, h1, h2⟩ p hp => by
    subst e
    exact ⟨_, _, rfl, hb.mvR (hin p hp) h1, ho.mvR (hin p hp) h2⟩
  few := fun s ⟨a, b, e, h1, h2⟩ => by
    subst e
    exact List.mem_flatMap.mpr ⟨a, rg_mem.mpr h1, List.mem_map.mpr ⟨b, rg_mem.mpr h2, rfl⟩⟩
  num := UP_few n (by have := hb.hi; omega)
  len := fun s ⟨a, b, e, _⟩ => by
    subst e
    show 2 ≤ 1000
    decide
  tl := hl
def fpr (h o : List (List Int)) (pl : Int) : List Int := [mv h pl pl, mv o pl pl]
theorem rn_pair (h o : List (List Int)) (pl : Int) : ∀ w : List Int, rn (stP h o) (fpr h o pl) w = [mark h pl w, mark o pl w] := by
  refine snoc_ind rfl fun w p ih => ?_
  rw [rn_snoc, ih, mark_snoc, mark_snoc]
  rfl
/-- the first place at which just one of two marks stands -/
def trd (lot : List Int) : List Int → Option Int
  | [a, b] => lot.find? fun r => decide (r = a) != decide (r = b)
  | _ => none
def gpT (lot s : List Int) : Bool := (trd lot s).isSome
theorem find_at {α : Type} {f : α → Bool} {l : List α} {i : Nat} {r : α} (h : l[i]? = some r) (h1 : (l.take i).find? f = none) (h2 : f r = true) : l.find? f = some r := by
  obtain ⟨hi, e⟩ := List.getElem?_eq_some_iff.mp h
  have e2 : l.drop i = r :: l.drop (i + 1) := by rw [List.drop_eq_getElem_cons hi, e]
  have e3 : l.find? f = (l.take i ++ l.drop i).find? f := by rw [List.take_append_drop]
  rw [e3, List.find?_append, h1, e2, List.find?_cons_of_pos h2]
  rfl
def optV : Option Int → V
  | none => .non
  | some r => .int r
section
variable {P : Program} {w : World} {K : PySem.W.Frag} {mg : Str → Option Value} {base : Heap}
def spTelling (K : PySem.W.Frag) : Sp := fun vs H Q _ => ∃ (a : Addr) (x y : Int) (lv : V) (lot : List Int), vs = [.ref a, lv] ∧ KX H a [x, y] ∧ TI K H lv lot ∧ Q (optV (trd lot [x, y])) H
theorem ok_telling (F : Df K mg "telling_read" st_telling_read ["pair", "lot"]) : Cal P w K mg base 1 "telling_read" (spTelling K) := by
  refine mkCal F sc_telling_read (fun vs H Q E h => ?_) (fun f cdv A outer s H vs Q E hr h => ?_)
  · obtain ⟨a, x, y, lv, lot, rfl, _⟩ := h
    rfl
  · obtain ⟨a, x, y, lv, lot, rfl, hk, ⟨al, rfl, hL⟩, q⟩ := h
    refine ⟨_, pss_cons (ps_asg (pv 0) (pg_tup rfl (pgs_cons (pg_name (i := 2) sc_telling_read.nd rfl (.inl rfl)) (pgs_cons (pg_name (i := 3) sc_telling_read.nd rfl (.inl rfl)) pgs_nil))))
      (pss_cons (ps_for PassesOwn.never rfl (pi_tup (pv 1)) (pg_name (i := 4) sc_telling_read.nd rfl (.inl rfl))
        (pss_one (ps_if (pt_cmpR op_ne (pe_cmpR op_eq (pv 4) (pv 2) (nomark _)) (pe_cmpR op_eq (pv 4) (pv 3) (nomark _)) (nomark _)) (pss_one (ps_ret (pv 4))) pss_nil)))
      (pss_one (ps_ret pe_non))), ?_⟩
    refine ⟨_, rfl, a, _, rfl, .inl hk, rfl, _, _, rfl, _, _, rfl, rfl, ?_⟩
    refine ⟨_, rfl, al, rfl, ⟨_, hL⟩, ?_⟩
    refine for_tup (xs := lot.map V.int) (fun i σ H' => H' = H ∧ ((lot.take i).find? fun r => decide (r = x) != decide (r = y)) = none ∧ ∃ z, σ = [some (.ref a), some (.ref al), some (.int x), some (.int y), z]) ⟨rfl, rfl, none, rfl⟩ (fun i σ H' _ h' => by rw [h'.1]; exact hL) (fun i v σ H' hx h' => ?_) (fun σ H' h' => ?_)
    · obtain ⟨r, hr', rfl⟩ := map_at hx
      obtain ⟨rfl, hn, z, rfl⟩ := h'
      refine ⟨_, rfl, _, rfl, rfl, _, rfl, _, rfl, rfl, rfl, _, rfl, ?_⟩
      rw [V_int, V_int, V_bl]
      refine ite2 (fun e => ?_) (fun e => ?_)
      · refine ⟨_, rfl, ?_⟩
        have e2 : trd lot [x, y] = some r := find_at hr' hn e
        rw [e2] at q
        exact q
      · refine ⟨rfl, ?_, _, rfl⟩
        rw [take_more hr', List.find?_append, hn, Option.none_or, List.find?_cons_of_neg (by exact e)]
        rfl
    · obtain ⟨rfl, hn, z, rfl⟩ := h'
      rw [List.length_map, List.take_length] at hn
      have e : trd lot [x, y] = none := hn
      rw [e] at q
      exact q
def spFirst (K : PySem.W.Frag) : Sp := fun vs H Q _ => ∃ (v u : V) (h o : List (List Int)) (n : Nat) (lv : V) (lot : List Int), vs = [v, u, lv] ∧ TII K H v h ∧ TII K H u o ∧ Hb n h ∧ Hb n o ∧ TI K H lv lot ∧ (∀ i ∈ lot, InR n i) ∧ lot.length ≤ 1000 ∧
  ∀ (H' : Hp) (l : Addr) (xs : List V), Same H H' → H' l = some (.lst xs) → EX H' xs (lot.map (fpr h o)) → Q (.ref l) H'
theorem ok_first (F : Df K mg "first_pairs" st_first_pairs ["habit", "other", "lot"]) : Cal P w K mg base 1 "first_pairs" (spFirst K) := by
  refine mkCal F sc_first_pairs (fun vs H Q E h => ?_) (fun f cdv A outer s H vs Q E hr h => ?_)
  · obtain ⟨v, u, h, o, n, lv, lot, rfl, _⟩ := h
    rfl
  · obtain ⟨v, u, h, o, n, lv, lot, rfl, hT, hU, hb, ho, ⟨al, rfl, hL⟩, hin, hlen, q⟩ := h
    obtain ⟨ah, hxs, rfl, hS, hE⟩ := id hT
    obtain ⟨ao, oxs, rfl, oS, oE⟩ := id hU
    refine ⟨_, pss_one (ps_ret (pe_lc (own := [("place", 3)]) (g := gName 3) (tt := tYes) rfl sc_first_pairs.nd (pi_tup (pv 2)) (blkOk_by (N := ["habit", "other", "lot", "place"]) (sc := defScope st_first_pairs) (by decide +kernel))
      (fun _ _ _ _ _ => pg_name (i := 3) sc_first_pairs.nd rfl (Or.inl rfl)) (fun _ _ _ _ _ => pts_nil)
      (fun _ _ _ _ _ => pe_tup (pa_cons (pe_ix (ixT K) (pe_ix (ixT K) (pv 0) (pv 3) (fun _ _ => rfl)) (pv 3) (fun _ _ => rfl)) (pa_cons (pe_ix (ixT K) (pe_ix (ixT K) (pv 1) (pv 3) (fun _ _ => rfl)) (pv 3) (fun _ _ => rfl)) pa_nil))))), ?_⟩
    refine ⟨_, rfl, al, rfl, ⟨_, hL⟩, fun D hD => ?_⟩
    refine lc_tup (xs := lot.map V.int) (fun i H' => Same H H' ∧ ∃ ys, H' D = some (.lst ys) ∧ EX H' ys ((lot.take i).map (fpr h o))) ⟨same_new hD, [], upd_same, .nil⟩ (fun i H' _ h' => onT h'.1 hL) (fun i x H' hx h' => ?_) (fun H' h' => ?_)
    · obtain ⟨pl, hpl, rfl⟩ := map_at hx
      obtain ⟨sm, ys, eD, hY⟩ := h'
      have hp := hin pl (List.mem_of_getElem? hpl)
      obtain ⟨a1, ns1, e1, s1, e2⟩ := ix2 hE hb hp hp
      obtain ⟨a2, ns2, e3, s2, e4⟩ := ix2 oE ho hp hp
      refine ⟨rfl, _, rfl, _, rfl, ah, hxs, pl, _, rfl, rfl, onT sm hS, e1, _, rfl, a1, _, pl, _, rfl, rfl, onT sm s1, e2, _, rfl, _, rfl, ao, oxs, pl, _, rfl, rfl, onT sm oS, e3, _, rfl, a2, _, pl, _, rfl, rfl, onT sm s2, e4, by show 2 ≤ sizeLine; decide, fun T hT2 => ?_⟩
      have sT := same_new (o := .tup [.int (mv h pl pl), .int (mv o pl pl)]) hT2
      have eDT := sT _ _ eD
      refine ⟨_, eDT, ?_, Same.upd (sm.trans sT) hD, _, upd_same, ?_⟩
      · have := hY.len
        rw [List.length_map, List.length_take] at this
        exact small1000 (by omega)
      · rw [take_more hpl, List.map_append]
        have tk : TK _ (upd (upd H' T (.tup [.int (mv h pl pl), .int (mv o pl pl)])) D (.lst (ys ++ [.ref T]))) := TK.upd eDT not_tup_l
        exact EX.snoc (tk _ _ (.inl upd_same)) (hY.on ((TK.same sT).trans tk))
    · obtain ⟨sm, ys, eD, hY⟩ := h'
      rw [List.length_map, List.take_length] at hY
      exact q H' D ys sm eD hY
/-! ### the step of a pair, handed back -/
def retLam (st : Stmt) : Expr := match defBody st with
  | [.Return (some e) _] => e
  | _ => .Constant .none 0 ⟨0, 0, 0, 0⟩
abbrev lamA : Expr := retLam st_pair_step
theorem nsA : NScope ["pair", "touch", "habit", "other"] ["pair", "touch"] ["habit", "other"] (lamS lamA) := NdefX.nscope_by (by decide +kernel)
def spLamA (K : PySem.W.Frag) (h o : List (List Int)) (n : Nat) (lot : List Int) : List (Option V) → Sp := fun ws vs H Q E => ∃ v u, ws = [some v, some u] ∧ TII K H v h ∧ TII K H u o ∧ Hb n h ∧ Hb n o ∧ (∀ i ∈ lot, InR n i) ∧ spStepG (stP h o) lot (CP n) vs H Q E
theorem lokA (h o : List (List Int)) (n : Nat) (lot : List Int) (q : Str) (cl : List (Str × Addr)) (c f : Addr) : LOk P w K mg base CX0 2 f ⟨q, lamP lamA, lamB lamA, lamS lamA, cl, c⟩ ["pair", "touch"] ["habit", "other"] (spLamA K h o n lot) := by
  refine lok_of nsA (fun pm ctv us hl => ?_) (fun ws vs H Q E hq => ?_) (fun A outer s H vs ws Q E hr _ hsp => ?_)
  · match us, hl with
    | [_, _], _ => rfl
  · obtain ⟨v, u, _, _, _, _, _, _, a, L, p, rfl, _⟩ := hq
    rfl
  · obtain ⟨v, u, rfl, hT, hU, hb, ho, hin, a, L, p, rfl, ha, ⟨x, y, rfl, hx, hy⟩, hp, q⟩ := hsp
    obtain ⟨ah, hxs, rfl, hS, hE⟩ := id hT
    obtain ⟨ao, oxs, rfl, oS, oE⟩ := id hU
    refine ⟨_, pe_tup (pa_cons (pe_ix ix_tup (pe_ix ix_tup (pv 2) (pv 1) (fun _ _ => rfl)) (pe_ix ix_tup (pv 0) pe_int (fun _ _ => rfl)) (fun _ _ => rfl)) (pa_cons (pe_ix ix_tup (pe_ix ix_tup (pv 3) (pv 1) (fun _ _ => rfl)) (pe_ix ix_tup (pv 0) pe_int (fun _ _ => rfl)) (fun _ _ => rfl)) pa_nil)), ?_⟩
    have hp' := hin p hp
    obtain ⟨a1, ns1, e1, s1, e2⟩ := ix2 hE hb hp' hx
    obtain ⟨a2, ns2, e3, s2, e4⟩ := ix2 oE ho hp' hy
    refine ⟨_, rfl, _, rfl, ah, hxs, p, _, rfl, rfl, hS, e1, _, rfl, a, _, 0, .int x, rfl, rfl, .inl ha, rfl, a1, _, x, _, rfl, rfl, s1, e2, _, rfl, _, rfl, ao, oxs, p, _, rfl, rfl, oS, e3, _, rfl, a, _, 1, .int y, rfl, rfl, .inl ha, rfl, a2, _, y, _, rfl, rfl, s2, e4, by show 2 ≤ sizeLine; decide, fun T hT2 => ?_⟩
    exact q _ T (same_new hT2) hT2 (.inl upd_same)
/-- the name that a lambda of the def x bears -/
def lamQ (x : Str) : Str := (envOfC x (defScope st_pair_step) 0 0 .none).qual ++ "<lambda>"
def tabsT (P1 P2 : Addr) : List (Addr × Str) := [(P1, lamQ "pair_step"), (P2, lamQ "shortest_test")]
/-- the lambda that pair_step made -/
structure StepL (f : Addr) (F : LF) (v u : V) (l : CL) (H : Hp) : Prop where
  fe : ∃ q cl c, F = ⟨q, lamP lamA, lamB lamA, lamS lamA, cl, c⟩
  live : LiveK f F l H
  cap : Cap F ["habit", "other"] [v, u] l
def spPairStep (T : List (Addr × Str)) : Sp := fun vs H Q _ => ∃ (v u : V), vs = [v, u] ∧ Tabs T H ∧ ∀ (f : Addr) (F : LF) (l : CL) (H' : Hp), ExtN H H' → Tabs T H' → StepL f F v u l H' → Q (.ref f) H'
theorem cells_kind {y : Str} {c : Addr} : ∀ (names : List (Str × NameKind)) (n : Nat) (acc : List (Str × Addr)), (PySem.cellsFrom n names acc).lookup y = some c → (y, NameKind.cell) ∈ names ∨ acc.lookup y = some c
  | [], _, _, h => .inr h
  | (x, k) :: r, n, acc, h => by
    unfold PySem.cellsFrom at h
    split at h
    · rename_i hk
      have hk : k = .cell := by simpa using hk
      rcases cells_kind r _ _ h with z | z
      · exact .inl (List.mem_cons_of_mem _ z)
      · rw [List.lookup_cons] at z
        split at z
        · rename_i e
          have e : y = x := by simpa using e
          rw [e, hk]
          exact .inl (List.mem_cons_self ..)
        · exact .inr z
    · rcases cells_kind r _ _ h with z | z
      · exact .inl (List.mem_cons_of_mem _ z)
      · exact .inr z
theorem two_of {a1 a2 : Addr} {v u : V} {b : Addr} {y : V} (h : ([(a1, v), (a2, u)] : CL).lookup b = some y) : (b = a1 ∧ y = v) ∨ (b = a2 ∧ y = u) := by
  rw [List.lookup_cons] at h
  split at h
  · rename_i e
    exact .inl ⟨by simpa using e, (Option.some.inj h).symm⟩
  · rw [List.lookup_cons] at h
    split at h
    · rename_i e
      exact .inr ⟨by simpa using e, (Option.some.inj h).symm⟩
    · cases h
theorem ok_pair_step {c P1 P2 : Addr} (F : DfC K mg "pair_step" st_pair_step ["habit", "other"] c) (TB : TabB base mg c P1) (hPP : P1 ≠ P2) : Cal P w K mg base 1 "pair_step" (spPairStep (tabsT P1 P2)) := by
  obtain ⟨f, oc, od, kV, doc, pm, an, ct, osl, lk, hcd, kp, g, b⟩ := F.ex
  refine ⟨f, _, _, fnR_of lk hcd sc_pair_step (fun vs H Q E h => ?_) (fun A outer s H vs Q E hr h => ?_), g, kp, b⟩
  · obtain ⟨v, u, rfl, _⟩ := h
    rfl
  · obtain ⟨v, u, rfl, hT, q⟩ := h
    have hfree : ∀ y ∈ (lamS lamA).names, y.2 = .free → (defScope st_pair_step).names.lookup y.1 = some .cell ∨ (defScope st_pair_step).names.lookup y.1 = some .free := by decide +kernel
    let X : Cx := cxOf CX0 P w K mg base ["habit", "other"] "pair_step" (defScope st_pair_step) f (.ref c) A outer s H E
    have hfX : ∀ y ∈ (lamS lamA).names, y.2 = .free → X.env.scope.names.lookup y.1 = some .cell ∨ X.env.scope.names.lookup y.1 = some .free := hfree
    let mk : Addr → LF := fun c' => ⟨X.env.qual ++ "<lambda>", lamP lamA, lamB lamA, lamS lamA, cloFrom X.env.cells (lamS lamA).names [], c'⟩
    refine ⟨fun r σ' H' => ∃ f1 c1, r = .ref f1 ∧ σ' = [some v, some u] ∧ ExtN H H' ∧ Tabs (tabsT P1 P2) H' ∧ H' f1 = some (FnL f1 (mk c1)) ∧ H' c1 = some (CodeO c1 (mk c1).qual), _,
      psr_ret (X := X) (pe_lam (T := tabsT P1 P2) (params := lamP lamA) (body := lamB lamA) (scope := lamS lamA) (pos := lamO lamA) TB rfl (by exact List.Mem.head _) (fun p hp e => ?_) rfl hfX), ⟨hT, fun f1 c1 H1 ex nn T1 nf e1 e2 => ⟨f1, c1, rfl, rfl, ex, T1, e1, e2⟩⟩, fun s' σ' H' r ur J rv hR => ?_⟩
    · rcases List.mem_cons.mp hp with rfl | hp
      · rfl
      · rw [List.mem_singleton.mp hp] at e
        exact absurd e.symm hPP
    · obtain ⟨f1, c1, rfl, rfl, ex, T1, e1, e2⟩ := hR
      have kA : (defScope st_pair_step).names.lookup ("habit" : Str) = some NameKind.cell := by decide +kernel
      have kB : (defScope st_pair_step).names.lookup ("other" : Str) = some NameKind.cell := by decide +kernel
      have only : ∀ y ∈ (defScope st_pair_step).names, y.2 = NameKind.cell → y.1 = ("habit" : Str) ∨ y.1 = ("other" : Str) := by decide +kernel
      have fA : (("habit" : Str), NameKind.free) ∈ (lamS lamA).names := by decide +kernel
      have fB : (("other" : Str), NameKind.free) ∈ (lamS lamA).names := by decide +kernel
      obtain ⟨a1, ha1⟩ := J.ok.has "habit" (.inl kA)
      obtain ⟨a2, ha2⟩ := J.ok.has "other" (.inl kB)
      have hne : a1 ≠ a2 := fun z => by
        have := J.ok.inj "habit" "other" a1 ha1 (by rw [z]; exact ha2)
        exact absurd this (by decide)
      have l1 : ([(a1, v), (a2, u)] : CL).lookup a1 = some v := by rw [List.lookup_cons]; simp
      have l2 : ([(a1, v), (a2, u)] : CL).lookup a2 = some u := by
        rw [List.lookup_cons]
        have : (a2 == a1) = false := by simpa using Ne.symm hne
        rw [this, List.lookup_cons]
        simp
      have up : ∀ b o, H' b = some o → lay [(a1, v), (a2, u)] H' b = some o := fun b o e => by
        cases z : ([(a1, v), (a2, u)] : CL).lookup b with
        | none => exact (lay_no z).trans e
        | some y =>
          exfalso
          rcases two_of z with ⟨rfl, _⟩ | ⟨rfl, _⟩
          · rw [J.freeC "habit" _ ha1] at e
            cases e
          · rw [J.freeC "other" _ ha2] at e
            cases e
      have hfm : ∀ y ∈ (lamS lamA).names, y.2 = .free → ∃ c, X.env.cells.lookup y.1 = some c := fun y hy e => (hfX y hy e).elim (fun z => J.ok.has _ (.inl z)) fun z => J.ok.has _ (.inr z)
      refine ce_lay (X := X) (l := [(a1, v), (a2, u)]) (fun _ => rfl) J rfl rfl (fun b y e => ?_) rv (q f1 (mk c1) [(a1, v), (a2, u)] _ (fun b o e n => up _ _ (ex b o e n)) (T1.ext up) ⟨⟨_, _, _, rfl⟩, ⟨up _ _ e1, up _ _ e2, Stand.lay _ _⟩, rfl, fun y c e => ?_, fun x y c ex1 ey1 => J.ok.inj x y c (NdefX.clo_cm hfm ex1) (NdefX.clo_cm hfm ey1), fun i y e => ?_⟩)
      · rcases two_of e with ⟨rfl, rfl⟩ | ⟨rfl, rfl⟩
        · exact ⟨"habit", 0, ha1, rfl, rfl, kA⟩
        · exact ⟨"other", 1, ha2, rfl, rfl, kB⟩
      · have h1 := NdefX.clo_cm hfm e
        have h2 : (PySem.cellsFrom (s.heap.objs.size + 1) (defScope st_pair_step).names []).lookup y = some c := h1
        rcases cells_kind _ _ _ h2 with z | z
        · rcases only _ z rfl with w1 | w1
          · have w1 : y = ("habit" : Str) := w1
            subst w1
            have := ha1.symm.trans h1
            rw [← Option.some.inj this]
            exact ⟨_, l1⟩
          · have w1 : y = ("other" : Str) := w1
            subst w1
            have := ha2.symm.trans h1
            rw [← Option.some.inj this]
            exact ⟨_, l2⟩
        · cases z
      · match i, e with
        | 0, e =>
          cases Option.some.inj e
          exact ⟨a1, NdefX.clo_has hfm fA ha1, fun v' ev => by rw [← Option.some.inj ev]; exact l1⟩
        | 1, e =>
          cases Option.some.inj e
          exact ⟨a2, NdefX.clo_has hfm fB ha2, fun v' ev => by rw [← Option.some.inj ev]; exact l2⟩
        | i + 2, e => simp at e
end
end RH
set_option Elab.async false
set_option linter.all false
set_option maxRecDepth 100000
set_option maxHeartbeats 2000000
namespace RH
open PySem PySem.Spec PyProof.Rows L2
open NdefX (NScope CellsAt Caps slotAt slotAt_of cells_of startF ncx)
open LamX (Tabs TabS TabB ExtN CodeO codeO_ne)
/-! ### the shortest test -/
theorem era_tups {K : PySem.W.Frag} {l : CL} {H : Hp} (s : Stand l H) : Tups K H (era l H) := fun a xs hs => by
  rcases hs with hs | hs
  · exact .inl (s.rd hs)
  · exact .inr hs
/-- the lambda that asks whether a pair tells -/
def lamOf : List Stmt → Expr
  | .Assign _ (.Call _ as _ _) _ :: _ => as.getD 3 (.Constant .none 0 ⟨0, 0, 0, 0⟩)
  | _ => .Constant .none 0 ⟨0, 0, 0, 0⟩
def forBody : List Stmt → List Stmt
  | _ :: _ :: .For _ _ b _ _ :: _ => b
  | _ => []
abbrev lamT : Expr := lamOf (forBody (defBody st_shortest_test))
theorem nsT : NScope ["pair", "lot"] ["pair"] ["lot"] (lamS lamT) := NdefX.nscope_by (by decide +kernel)
section
variable {P : Program} {w : World} {K : PySem.W.Frag} {mg : Str → Option Value} {base : Heap}
def spLamT (K : PySem.W.Frag) (n : Nat) (lot : List Int) : List (Option V) → Sp := fun ws vs H Q E => ∃ lb, ws = [some lb] ∧ TI K H lb lot ∧ spGoalG (CP n) (gpT lot) vs H Q E
theorem lokT (CTR : Cal P w K mg base 1 "telling_read" (spTelling K)) (n : Nat) (lot : List Int) (q : Str) (cl : List (Str × Addr)) (c f : Addr) : LOk P w K mg base CX0 2 f ⟨q, lamP lamT, lamB lamT, lamS lamT, cl, c⟩ ["pair"] ["lot"] (spLamT K n lot) := by
  refine lok_of nsT (fun pm ctv us hl => ?_) (fun ws vs H Q E hq => ?_) (fun A outer s H vs ws Q E hr _ hsp => ?_)
  · match us, hl with
    | [_], _ => rfl
  · obtain ⟨lb, _, _, a, L, rfl, _⟩ := hq
    rfl
  · obtain ⟨lb, rfl, hL, a, L, rfl, ha, ⟨x, y, rfl, hx, hy⟩, q⟩ := hsp
    refine ⟨_, pe_cmp (pc_notN (pc CTR hr (pa_cons (pv 0) (pa_cons (pv 1) pa_nil)))), ?_⟩
    refine ⟨_, rfl, _, rfl, a, x, y, lb, lot, rfl, ha, hL, ?_⟩
    have e : (!decide (optV (trd lot [x, y]) = V.non)) = gpT lot [x, y] := by
      unfold gpT
      cases trd lot [x, y] with
      | none => rfl
      | some r =>
        show (!decide (V.int r = V.non)) = true
        rw [decide_eq_false (fun z => nomatch z)]
        rfl
    show Q (.bl (!decide (optV (trd lot [x, y]) = V.non))) H
    rw [e]
    exact q
/-- a step that was handed back, as it may be called -/
structure GS where
  f : Addr
  F : LF
  l : CL
  v : V
  u : V
  fe : ∃ q cl c, F = ⟨q, lamP lamA, lamB lamA, lamS lamA, cl, c⟩
  cap : Cap F ["habit", "other"] [v, u] l
theorem StepL.ext {f : Addr} {F : LF} {v u : V} {l : CL} {H H' : Hp} (s : StepL f F v u l H) (e : ExtN H H') : StepL f F v u l H' := ⟨s.fe, s.live.ext e, s.cap⟩
theorem EX.get {H : Hp} {xs : List V} {ls : List (List Int)} {i : Nat} {x : V} {s : List Int} (h : EX H xs ls) (hx : xs[i]? = some x) (hs : ls[i]? = some s) : ∃ b, x = .ref b ∧ KX H b s := by
  obtain ⟨b, h1, h2⟩ := h.at hs
  rw [hx] at h1
  exact ⟨b, Option.some.inj h1, h2⟩
/-- which test is the shortest, of those that begin at some places -/
def ShR (h o : List (List Int)) (lot pre : List Int) : Option (Int × List Int × Int) → Prop
  | none => ∀ pl ∈ pre, ∀ w : List Int, (∀ p ∈ w, p ∈ lot) → trd lot [mark h pl w, mark o pl w] = none
  | some (pl, w, r) => pl ∈ pre ∧ (∀ p ∈ w, p ∈ lot) ∧ trd lot [mark h pl w, mark o pl w] = some r ∧ ∀ pl' ∈ pre, ∀ w' : List Int, (∀ p ∈ w', p ∈ lot) → (trd lot [mark h pl' w', mark o pl' w']).isSome = true → w.length ≤ w'.length
def ResV (K : PySem.W.Frag) (H : Hp) (val : V) : Option (Int × List Int × Int) → Prop
  | none => val = .non
  | some (pl, w, r) => ∃ t aw, val = .ref t ∧ Rd H t (.tup [.int pl, .ref aw, .int r]) ∧ Rd H aw (.tup (w.map V.int)) ∧ w.length ≤ 120
theorem ResV.on {K : PySem.W.Frag} {H H' : Hp} (e : TK H H') {val : V} : ∀ {res : Option (Int × List Int × Int)}, ResV K H val res → ResV K H' val res
  | none, h => h
  | some _, ⟨t, aw, h1, h2, h3, h4⟩ => ⟨t, aw, h1, e _ _ h2, e _ _ h3, h4⟩
def spShort (K : PySem.W.Frag) (T : List (Addr × Str)) : Sp := fun vs H Q _ => ∃ (v u : V) (h o : List (List Int)) (n : Nat) (lv : V) (lot : List Int), vs = [v, u, lv] ∧ TII K H v h ∧ TII K H u o ∧ Hb n h ∧ Hb n o ∧ TI K H lv lot ∧ (∀ i ∈ lot, InR n i) ∧ lot.length ≤ 1000 ∧ Tabs T H ∧
  ∀ (H' : Hp) (val : V) (res : Option (Int × List Int × Int)), ExtN H H' → Tabs T H' → ShR h o lot lot res → ResV K H' val res → Q val H'
theorem ok_short {c P1 P2 : Addr} (F : DfC K mg "shortest_test" st_shortest_test ["habit", "other", "lot"] c) (FD : Df K mg "least_word" st_least_word ["start", "touches", "step", "is_goal"]) (B : Bu mg) (TB : TabB base mg c P2) (hPP : P1 ≠ P2)
    (CT : Cal P w K mg base 1 "traced" (spTraced P w)) (CTR : Cal P w K mg base 1 "telling_read" (spTelling K)) (CFP : Cal P w K mg base 1 "first_pairs" (spFirst K)) (CPS : Cal P w K mg base 1 "pair_step" (spPairStep (tabsT P1 P2))) : Cal P w K mg base 4 "shortest_test" (spShort K (tabsT P1 P2)) := by
  obtain ⟨fD, fdD, FunD, gD, bD⟩ := FD.ex
  refine mkCalC F sc_shortest_test (fun vs H Q E h => ?_) (fun f A outer s H vs Q E hr h => ?_)
  · obtain ⟨v, u, h, o, n, lv, lot, rfl, _⟩ := h
    rfl
  · obtain ⟨v, u, h, o, n, lv, lot, rfl, hT, hU, hb, ho, hL, hin, hlen, hTb, q⟩ := h
    have hfr : ∀ y ∈ (lamS lamT).names, y.2 = .free → (defScope st_shortest_test).names.lookup y.1 = some .cell ∨ (defScope st_shortest_test).names.lookup y.1 = some .free := by decide +kernel
    have hcT : ∀ y ∈ (["lot"] : List Str), (y, NameKind.free) ∈ (lamS lamT).names := by decide +kernel
    let X : Cx := (cxOf CX0 P w K mg base ["habit", "other", "lot", "best", "step", "place", "first", "word", "marks", "touch"] "shortest_test" (defScope st_shortest_test) f (.ref c) A outer s H E).nox
    have hf2 : ∀ y ∈ (lamS lamT).names, y.2 = .free → X.env.scope.names.lookup y.1 = some .cell ∨ X.env.scope.names.lookup y.1 = some .free := hfr
    let mk2 : Addr → LF := fun c' => ⟨X.env.qual ++ "<lambda>", lamP lamT, lamB lamT, lamS lamT, cloFrom X.env.cells (lamS lamT).names [], c'⟩
    let preS : GL → L2.St → Hp → Prop := fun g σ H => ∃ (F1 : LF) (l : CL) (v1 u1 : V) (c2 : Addr) (lb : V), StepL g.f F1 v1 u1 l H ∧ σ[2]? = some (some lb) ∧ H g.f2 = some (FnL g.f2 (mk2 c2)) ∧ H c2 = some (CodeO c2 (mk2 c2).qual) ∧
      g.live = (fun H' => LiveK g.f F1 l H' ∧ TII K H' v1 h ∧ TII K H' u1 o) ∧ g.live2 = (fun H' => liveL g.f2 (mk2 c2) H' ∧ TI K H' lb lot) ∧ g.st = stP h o ∧ g.ts = lot ∧ g.C = CP n ∧ g.gp = gpT lot
    have stepC : ∀ (f1 : Addr) (F1 : LF) (l : CL) (v1 u1 : V) (outer : List Env) (s : Shared) (H0 : Hp), (∃ q cl c, F1 = ⟨q, lamP lamA, lamB lamA, lamS lamA, cl, c⟩) → Cap F1 ["habit", "other"] [v1, u1] l →
        Callable P w K mg base CX0 2 f1 (fun H' => LiveK f1 F1 l H' ∧ TII K H' v1 h ∧ TII K H' u1 o) (spStepG (stP h o) lot (CP n)) outer s H0 := by
      rintro f1 F1 l v1 u1 outer s H0 ⟨qn, cl, cc, rfl⟩ cap
      refine (callable_kept (lokA (P := P) (w := w) (K := K) (mg := mg) (base := base) h o n lot qn cl cc f1) cap).imp (fun H' lv => lv.1) (fun vs H' Q E lv hs => ?_)
      obtain ⟨lk, t1, t2⟩ := lv
      obtain ⟨a, L, p, rfl, ha, hC, hp, q⟩ := hs
      refine ⟨v1, u1, rfl, t1.on (era_tups lk.st), t2.on (era_tups lk.st), hb, ho, hin, a, L, p, rfl, lk.st.rd ha, hC, hp, fun H2 q2 sm nq kx gone => ?_⟩
      have nl : l.lookup q2 = none := by
        cases e : l.lookup q2 with
        | none => rfl
        | some y =>
          have := gone q2 y e
          rcases kx with z | ⟨ob, z⟩
          · rw [this] at z
            cases z
          · rw [this] at z
            cases z
      refine q (lay l H2) q2 (lk.st.on sm) ((era_no nl).symm.trans nq) ?_
      rcases kx with z | ⟨ob, z⟩
      · exact .inl ((lay_no nl).trans z)
      · exact .inr ⟨ob, (lay_no nl).trans z⟩
    have hP : ∀ (g : GL) (pins : List (Addr × Obj)) (σ : L2.St) (H : Hp) (s : Shared), Inv X pins σ H s → preS g σ H → preL P w K mg base g X.stack s H := by
      rintro g pins σ H s I ⟨F1, l, v1, u1, c2, lb, hS, h2, h3, h4, h5, h6, h7, h8, h9, h10⟩
      have C2 : CellsAt (mk2 c2).cl ["lot"] [some lb] s.heap H := by
        have := cells_of I (Caps.made (X := X) (fr := ["lot"]) (js := [2]) I.ok hf2 hcT rfl)
        rw [show ([2].map (slotAt σ)) = [some lb] from by rw [List.map_cons, slotAt_of h2]; rfl] at this
        exact this
      have Fn2 := lokT (P := P) (w := w) (mg := mg) (base := base) CTR n lot (mk2 c2).qual (mk2 c2).cl c2 g.f2
      constructor
      · rw [h5, h7, h8, h9]
        exact stepC g.f F1 l v1 u1 _ _ _ hS.fe hS.cap
      · rw [h6, h9, h10]
        refine (callable_lam Fn2 C2 fun y c0 e => frs_free I (fun _ => rfl) (NdefX.clo_cm (fun y hy e => (hf2 y hy e).elim (fun z => I.ok.has _ (.inl z)) fun z => I.ok.has _ (.inr z)) e)).imp (fun H' l => l.1) (fun vs H' Q E l hs => ⟨lb, rfl, l.2, hs⟩)
    have huT : ∀ p ∈ tabsT P1 P2, p.1 = P2 → p.2 = X.env.qual ++ "<lambda>" := fun p hp e => by
      rcases List.mem_cons.mp hp with rfl | hp
      · exact absurd e hPP
      · rw [List.mem_singleton.mp hp]
        rfl
    obtain ⟨al, rfl, hLs⟩ := id hL
    refine ⟨_, pss_cons (ps_set (i := 3) sc_shortest_test.nd rfl (.inl rfl) pe_non)
      (pss_cons (ps_set (i := 4) sc_shortest_test.nd rfl (.inl rfl) (pc CPS hr (pa_cons (pv 0) (pa_cons (pv 1) pa_nil))))
      (pss_cons (ps_for PassesOwn.never rfl (pi_zipM (by rfl) B.zip (pa_cons (pv 2) (pa_cons (pc CFP hr (pa_cons (pv 0) (pa_cons (pv 1) (pa_cons (pv 2) pa_nil)))) pa_nil))) (pg_tup rfl (pgs_cons (pg_name (i := 5) sc_shortest_test.nd rfl (.inl rfl)) (pgs_cons (pg_name (i := 6) sc_shortest_test.nd rfl (.inl rfl)) pgs_nil)))
        (pss_cons (ps_set (i := 7) sc_shortest_test.nd rfl (.inl rfl) (pe_callC (X := X) (preS := preS) (fun g => ok_least FunD B CT g) hP hr (by decide) rfl gD FunD.kp bD pass0 (pa_cons (pv 6) (pa_cons (pv 2) (pa_cons (pv 4)
          (pa_cons (pe_lam (T := tabsT P1 P2) (params := lamP lamT) (body := lamB lamT) (scope := lamS lamT) (pos := lamO lamT) TB rfl (by exact List.Mem.tail _ (List.Mem.head _)) huT rfl hf2) pa_nil))))))
        (pss_one (ps_if (PW.pt (pw_and (pt_cmp (pc_notN (pv 7))) (pw_and1 (PW.pt (pw_or (pt_cmp (pc_isN (pv 3))) (pw_or1 (pt_cmpR op_lt (pe_callB (cl_len K) (by rfl) B.len PySem.boot_len (pa_cons (pv 7) pa_nil)) (pe_callB (cl_len K) (by rfl) B.len PySem.boot_len (pa_cons (pe_ix (ixT K) (pv 3) pe_int (fun _ _ => rfl)) pa_nil)) (nomark _))))))))
          (pss_cons (ps_set (i := 8) sc_shortest_test.nd rfl (.inl rfl) (pv 6))
          (pss_cons (ps_for PassesOwn.never rfl (pi_tup (pv 7)) (pg_name (i := 9) sc_shortest_test.nd rfl (.inl rfl))
            (pss_one (ps_set (i := 8) sc_shortest_test.nd rfl (.inl rfl) (pe_canK (X := X) (fa := GS.f) (live := fun g H' => LiveK g.f g.F g.l H' ∧ TII K H' g.v h ∧ TII K H' g.u o) (i := 4) (sp := fun _ => spStepG (stP h o) lot (CP n)) (fun g => stepC g.f g.F g.l g.v g.u X.outer X.s_0 X.H_0 g.fe g.cap) rfl hr (by decide) pass0 rfl (Or.inl rfl) (pa_cons (pv 8) (pa_cons (pv 9) pa_nil))))))
          (pss_one (ps_set (i := 3) sc_shortest_test.nd rfl (.inl rfl) (pe_tup (pa_cons (pv 5) (pa_cons (pv 7) (pa_cons (pc CTR hr (pa_cons (pv 8) (pa_cons (pv 2) pa_nil))) pa_nil)))))))) pss_nil))))
      (pss_one (ps_ret (pv 3))))), ?_⟩
    refine ⟨_, rfl, _, rfl, v, u, rfl, hTb, fun f1 F1 l H1 ex1 tb1 st1 => ?_⟩
    have hT1 := hT.on (extN_tups (K := K) ex1)
    have hU1 := hU.on (extN_tups (K := K) ex1)
    have hL1 := hL.on (extN_tups (K := K) ex1)
    obtain ⟨_, e', hLs1⟩ := id hL1
    cases e'
    refine ⟨_, rfl, _, rfl, _, rfl, _, rfl, v, u, h, o, n, .ref al, lot, rfl, hT1, hU1, hb, ho, hL1, hin, hlen, fun H2 ls xs s2 eL hX => ?_⟩
    have lx : xs.length = lot.length := hX.len.trans (List.length_map ..)
    refine ⟨al, ls, _, _, rfl, onT s2 hLs1, lstAt eL, ?_⟩
    refine for_zipM (xs := lot.map V.int) (ys := xs) (by rw [List.length_map, lx]) (fun i σ H' => ExtN H2 H' ∧ Tabs (tabsT P1 P2) H' ∧ ∃ val res y5 y6 y7 y8 y9, σ = [some v, some u, some (.ref al), some val, some (.ref f1), y5, y6, y7, y8, y9] ∧ ShR h o lot (lot.take i) res ∧ ResV K H' val res)
      ⟨ExtN.of fun _ _ e => e, tabs_same tb1 s2, .non, none, none, none, none, none, none, rfl, fun _ z => (nomatch z), rfl⟩ (fun i σ H' h' => ⟨extN_tups (K := K) h'.1 _ _ (onT s2 hLs1), lstAt (h'.1 _ _ eL (fun ps z => nomatch z))⟩) (fun i x y T σ H3 hx hy h' hTn => ?_) (fun σ H3 h' => ?_)
    · obtain ⟨ex3, tb3, val, res, y5, y6, y7, y8, y9, rfl, hR, hV⟩ := h'
      obtain ⟨pl, hpl, rfl⟩ := map_at hx
      obtain ⟨b, rfl, hb3⟩ := (hX.on (extN_tk ex3)).get hy (by rw [List.getElem?_map, hpl]; rfl)
      have hplm := List.mem_of_getElem? hpl
      have hpin := hin pl hplm
      have sT := same_new (o := .tup [.int pl, .ref b]) hTn
      have exT : ExtN H1 (upd H3 T (.tup [.int pl, .ref b])) := ((extN_same s2).trans ex3).trans (extN_same sT)
      refine ⟨T, _, rfl, tupAt upd_same, rfl, _, _, rfl, _, _, rfl, rfl, ?_⟩
      refine ⟨_, rfl, _, rfl, _, rfl, tabs_same tb3 sT, fun f2 c2 H4 ex4 nn T4 nf e1 e2 => ?_⟩
      have exA : ExtN H1 H4 := exT.trans ex4
      have stA := st1.ext exA
      have hTA := hT1.on (extN_tups (K := K) exA)
      have hUA := hU1.on (extN_tups (K := K) exA)
      have hLA := hL1.on (extN_tups (K := K) exA)
      have tk34 : TK H3 H4 := (TK.same sT).trans (extN_tk ex4)
      have hbA := tk34 _ _ hb3
      have hVA := hV.on tk34
      have exB : ExtN H2 H4 := ex3.trans ((extN_same sT).trans ex4)
      obtain ⟨_, e', hLsA⟩ := id hLA
      cases e'
      refine ⟨⟨f1, fun H' => LiveK f1 F1 l H' ∧ TII K H' v h ∧ TII K H' u o, stP h o, lot, CP n, UP n, f2, fun H' => liveL f2 (mk2 c2) H' ∧ TI K H' (.ref al) lot, gpT lot⟩, ⟨F1, l, v, u, c2, .ref al, stA, rfl, e1, e2, rfl, rfl, rfl, rfl, rfl, rfl⟩,
        b, al, fpr h o pl, rfl, hbA, hLsA, fun H' sm => ⟨stA.live.same sm, hTA.on (Same.tups sm), hUA.on (Same.tups sm)⟩, fun H' sm => ⟨⟨sm _ _ e1, sm _ _ e2⟩, hLA.on (Same.tups sm)⟩, sysP hb ho hin hlen, ⟨_, _, rfl, hb.mvR hpin hpin, ho.mvR hpin hpin⟩, fun H5 qw wd s5 ls1 ew hwl => ?_, fun H5 s5 hno => ?_⟩
      · -- a word
        have tk5 := TK.same s5
        have ex5 := extN_same s5
        have hlw := ls1.at_
        rw [rn_pair] at hlw
        obtain ⟨rr, hrr⟩ : ∃ rr, trd lot [mark h pl wd, mark o pl wd] = some rr := Option.isSome_iff_exists.mp hlw
        have hmin : ∀ w' : List Int, (∀ p ∈ w', p ∈ lot) → (trd lot [mark h pl w', mark o pl w']).isSome = true → wd.length ≤ w'.length := fun w' hw' hs => ls1.min w' hw' (by rw [rn_pair]; exact hs)
        have hnew : ∀ (hold : ∀ pl' ∈ lot.take i, ∀ w' : List Int, (∀ p ∈ w', p ∈ lot) → (trd lot [mark h pl' w', mark o pl' w']).isSome = true → wd.length ≤ w'.length), ShR h o lot (lot.take (i + 1)) (some (pl, wd, rr)) := fun hold => by
          rw [take_more hpl]
          refine ⟨List.mem_append_right _ (List.mem_singleton.mpr rfl), ls1.wd, hrr, fun pl' hm w' hw' hs => ?_⟩
          rcases List.mem_append.mp hm with z | z
          · exact hold pl' z w' hw' hs
          · rw [List.mem_singleton.mp z] at hs
            exact hmin w' hw' hs
        refine ⟨_, rfl, _, rfl, ifT (by rw [ref_non]; rfl) ?_⟩
        -- whether it is better
        refine ⟨_, rfl, _, rfl, ?_⟩
        have hV5 := hVA.on tk5
        cases res with
        | none =>
          have ev : val = .non := hV5
          subst ev
          have hold : ∀ pl' ∈ lot.take i, ∀ w' : List Int, (∀ p ∈ w', p ∈ lot) → (trd lot [mark h pl' w', mark o pl' w']).isSome = true → wd.length ≤ w'.length := fun pl' hm w' hw' hs => by
            rw [hR pl' hm w' hw'] at hs
            cases hs
          refine ifT (decide_eq_true rfl) (ifT rfl ?_)
          refine ⟨_, rfl, _, rfl, qw, rfl, ⟨_, tupAt ew⟩, ?_⟩
          refine for_tup (xs := wd.map V.int) (fun j σ H' => Same H5 H' ∧ ∃ m y, σ = [some v, some u, some (.ref al), some V.non, some (.ref f1), some (.int pl), some (.ref b), some (.ref qw), some (.ref m), y] ∧ KX H' m [mark h pl (wd.take j), mark o pl (wd.take j)])
            ⟨Same.refl _, b, y9, rfl, tk5 _ _ hbA⟩ (fun j σ H' _ h' => onT h'.1 (tupAt ew)) (fun j x σ H6 hx2 h' => ?_) (fun σ H6 h' => ?_)
          · obtain ⟨t, ht, rfl⟩ := map_at hx2
            obtain ⟨sm, m, y, rfl, hm⟩ := h'
            have sm5 := s5.trans sm
            have wdR : ∀ t ∈ wd.take j, InR n t := fun t ht => hin t (ls1.wd t (List.mem_of_mem_take ht))
            have lv6 : LiveK f1 F1 l H6 ∧ TII K H6 v h ∧ TII K H6 u o := ⟨stA.live.same sm5, hTA.on (Same.tups sm5), hUA.on (Same.tups sm5)⟩
            refine ⟨⟨f1, F1, l, v, u, stA.fe, stA.cap⟩, rfl, lv6, _, rfl, _, rfl, lv6, m, _, t, rfl, hm, ⟨_, _, rfl, hb.mark hpin _ wdR, ho.mark hpin _ wdR⟩, ls1.wd t (List.mem_of_getElem? ht), fun H7 q7 s7 nq kx => ⟨sm.trans s7, q7, _, rfl, ?_⟩⟩
            rw [take_more ht, mark_snoc, mark_snoc]
            exact kx
          · obtain ⟨sm, m, y, rfl, hm⟩ := h'
            rw [List.length_map, List.take_length] at hm
            have sm5 := s5.trans sm
            refine ⟨_, rfl, _, rfl, _, rfl, _, rfl, m, _, _, .ref al, lot, rfl, hm, hLA.on (Same.tups sm5), ?_⟩
            rw [hrr]
            refine ⟨by show 3 ≤ sizeLine; decide, fun T5 hT5 => ?_⟩
            have s7 := same_new (o := .tup [.int pl, .ref qw, .int rr]) hT5
            exact ⟨exB.trans (extN_same (sm5.trans s7)), tabs_same T4 (sm5.trans s7), .ref T5, some (pl, wd, rr), _, _, _, _, _, rfl, hnew hold, T5, qw, rfl, .inl upd_same, .inl (s7 _ _ (sm _ _ ew)), hwl⟩
        | some r3 =>
          obtain ⟨r1, r2, r3⟩ := r3
          obtain ⟨g1, g2, g3, g4⟩ := id hR
          obtain ⟨t0, aw, rfl, ht0, haw, hw0⟩ := id hV5
          refine ifF (ref_non _) ⟨_, rfl, qw, wd.map V.int, rfl, .inr (tupAt ew), _, rfl, t0, _, 1, .ref aw, rfl, rfl, .inl ht0, rfl, aw, r2.map V.int, rfl, .inr (.inl haw), _, _, rfl, rfl, _, rfl, ite2 (fun e => ?_) (fun e => ?_)⟩
          · have hlt : wd.length < r2.length := by
              have := of_decide_eq_true e
              rw [List.length_map, List.length_map] at this
              omega
            have hold : ∀ pl' ∈ lot.take i, ∀ w' : List Int, (∀ p ∈ w', p ∈ lot) → (trd lot [mark h pl' w', mark o pl' w']).isSome = true → wd.length ≤ w'.length := fun pl' hm w' hw' hs => by
              have := g4 pl' hm w' hw' hs
              omega
            refine ⟨_, rfl, _, rfl, qw, rfl, ⟨_, tupAt ew⟩, ?_⟩
            refine for_tup (xs := wd.map V.int) (fun j σ H' => Same H5 H' ∧ ∃ m y, σ = [some v, some u, some (.ref al), some (V.ref t0), some (.ref f1), some (.int pl), some (.ref b), some (.ref qw), some (.ref m), y] ∧ KX H' m [mark h pl (wd.take j), mark o pl (wd.take j)])
              ⟨Same.refl _, b, y9, rfl, tk5 _ _ hbA⟩ (fun j σ H' _ h' => onT h'.1 (tupAt ew)) (fun j x σ H6 hx2 h' => ?_) (fun σ H6 h' => ?_)
            · obtain ⟨t, ht, rfl⟩ := map_at hx2
              obtain ⟨sm, m, y, rfl, hm⟩ := h'
              have sm5 := s5.trans sm
              have wdR : ∀ t ∈ wd.take j, InR n t := fun t ht => hin t (ls1.wd t (List.mem_of_mem_take ht))
              have lv6 : LiveK f1 F1 l H6 ∧ TII K H6 v h ∧ TII K H6 u o := ⟨stA.live.same sm5, hTA.on (Same.tups sm5), hUA.on (Same.tups sm5)⟩
              refine ⟨⟨f1, F1, l, v, u, stA.fe, stA.cap⟩, rfl, lv6, _, rfl, _, rfl, lv6, m, _, t, rfl, hm, ⟨_, _, rfl, hb.mark hpin _ wdR, ho.mark hpin _ wdR⟩, ls1.wd t (List.mem_of_getElem? ht), fun H7 q7 s7 nq kx => ⟨sm.trans s7, q7, _, rfl, ?_⟩⟩
              rw [take_more ht, mark_snoc, mark_snoc]
              exact kx
            · obtain ⟨sm, m, y, rfl, hm⟩ := h'
              rw [List.length_map, List.take_length] at hm
              have sm5 := s5.trans sm
              refine ⟨_, rfl, _, rfl, _, rfl, _, rfl, m, _, _, .ref al, lot, rfl, hm, hLA.on (Same.tups sm5), ?_⟩
              rw [hrr]
              refine ⟨by show 3 ≤ sizeLine; decide, fun T5 hT5 => ?_⟩
              have s7 := same_new (o := .tup [.int pl, .ref qw, .int rr]) hT5
              exact ⟨exB.trans (extN_same (sm5.trans s7)), tabs_same T4 (sm5.trans s7), .ref T5, some (pl, wd, rr), _, _, _, _, _, rfl, hnew hold, T5, qw, rfl, .inl upd_same, .inl (s7 _ _ (sm _ _ ew)), hwl⟩
          · have hge : r2.length ≤ wd.length := by
              have : ¬ ((wd.map V.int).length : Int) < ((r2.map V.int).length : Int) := fun z => e (decide_eq_true z)
              rw [List.length_map, List.length_map] at this
              omega
            refine ⟨exB.trans (extN_same s5), tabs_same T4 s5, .ref t0, some (r1, r2, r3), _, _, _, _, _, rfl, ?_, hV5⟩
            rw [take_more hpl]
            refine ⟨List.mem_append_left _ g1, g2, g3, fun pl' hm w' hw' hs => ?_⟩
            rcases List.mem_append.mp hm with z | z
            · exact g4 pl' z w' hw' hs
            · rw [List.mem_singleton.mp z] at hs
              have := hmin w' hw' hs
              omega
      · -- none
        refine ⟨_, rfl, _, rfl, ifF rfl ?_⟩
        refine ⟨exB.trans (extN_same s5), tabs_same T4 s5, val, res, _, _, _, _, _, rfl, ?_, hVA.on (TK.same s5)⟩
        have hno' : ∀ w' : List Int, (∀ p ∈ w', p ∈ lot) → trd lot [mark h pl w', mark o pl w'] = none := fun w' hw' => by
          have : gpT lot (rn (stP h o) (fpr h o pl) w') = false := hno w' hw'
          rw [rn_pair] at this
          cases e : trd lot [mark h pl w', mark o pl w'] with
          | none => rfl
          | some z =>
            unfold gpT at this
            rw [e] at this
            cases this
        rw [take_more hpl]
        cases res with
        | none =>
          intro pl' hm w' hw'
          rcases List.mem_append.mp hm with z | z
          · exact hR pl' z w' hw'
          · rw [List.mem_singleton.mp z]
            exact hno' w' hw'
        | some r3 =>
          obtain ⟨r1, r2, r3⟩ := r3
          obtain ⟨g1, g2, g3, g4⟩ := hR
          refine ⟨List.mem_append_left _ g1, g2, g3, fun pl' hm w' hw' hs => ?_⟩
          rcases List.mem_append.mp hm with z | z
          · exact g4 pl' z w' hw' hs
          · rw [List.mem_singleton.mp z, hno' w' hw'] at hs
            cases hs
    · obtain ⟨ex3, tb3, val, res, y5, y6, y7, y8, y9, rfl, hR, hV⟩ := h'
      rw [List.length_map, List.take_length] at hR
      exact ⟨_, rfl, q H3 val res (ex1.trans ((extN_same s2).trans ex3)) tb3 hR hV⟩
end
end RH
set_option Elab.async false
set_option linter.all false
set_option maxRecDepth 100000
set_option maxHeartbeats 2000000
namespace RH
open PySem PySem.Spec PyProof.Rows L2
open LamX (Tabs TabS TabB ExtN CodeO codeO_ne)
/-! ### the checks, for values of some kinds -/
inductive Sc : V → Prop
  | int (i : Int) : Sc (.int i)
  | bl : Sc (.bl true)
  | non : Sc .non
def isI : V → Bool
  | .int _ => true
  | _ => false
def inV2 (lo hi : Int) : V → Bool
  | .int i => decide (lo ≤ i) && decide (i ≤ hi)
  | _ => false
/-- a word, or what is none -/
inductive Wk (K : PySem.W.Frag) (H : Hp) : V → Option (List Int) → Prop
  | tup {v : V} {ws : List Int} : TI K H v ws → ws.length ≤ 900 → Wk K H v (some ws)
  | int (i : Int) : Wk K H (.int i) none
  | lst {a : Addr} {xs : List V} : SqL K H a xs → Wk K H (.ref a) none
section
variable {P : Program} {w : World} {K : PySem.W.Frag} {mg : Str → Option Value} {base : Heap}
def spIsIntegerV : Sp := fun vs H Q _ => ∃ v, vs = [v] ∧ Sc v ∧ Q (.bl (isI v)) H
theorem ok_is_integerV (F : Df K mg "is_integer" st_is_integer ["value"]) (B : Bu mg) : Cal P w K mg base 1 "is_integer" spIsIntegerV := by
  refine mkCal F sc_is_integer (fun vs H Q E h => ?_) (fun f cdv A outer s H vs Q E hr h => ?_)
  · obtain ⟨v, rfl, _⟩ := h
    rfl
  · obtain ⟨v, rfl, hv, q⟩ := h
    refine ⟨_, pss_one (ps_ret (pe_and (pe_callB call_isi (by rfl) B.isi (by decide +kernel) (pa_cons (pv 0) (pa_cons (pe_bltn (v := .ty "int") (by rfl) B.int (by decide +kernel) rfl) pa_nil)))
      (pe_one (pe_not (pe_callB call_isi (by rfl) B.isi (by decide +kernel) (pa_cons (pv 0) (pa_cons (pe_bltn (v := .ty "bool") (by rfl) B.bool (by decide +kernel) rfl) pa_nil))))))), ?_⟩
    cases hv with
    | int i => exact ⟨_, rfl, .int i, .ty "int", _, _, true, rfl, .ty "int", .base (.int i), kit_ty (by decide +kernel), true, rfl, _, rfl, .int i, .ty "bool", _, _, false, rfl, .ty "bool", .base (.int i), kit_ty (by decide +kernel), false, rfl, q⟩
    | bl => exact ⟨_, rfl, .bl true, .ty "int", _, _, true, rfl, .ty "int", .base (.bl true), kit_ty (by decide +kernel), true, rfl, _, rfl, .bl true, .ty "bool", _, _, true, rfl, .ty "bool", .base (.bl true), kit_ty (by decide +kernel), true, rfl, q⟩
    | non => exact ⟨_, rfl, .non, .ty "int", _, _, false, rfl, .ty "int", .base .non, kit_ty (by decide +kernel), false, rfl, q⟩
def spIsNumberV : Sp := fun vs H Q _ => ∃ (v : V) (lo hi : Int), vs = [v, .int lo, .int hi] ∧ Sc v ∧ Q (.bl (inV2 lo hi v)) H
theorem ok_is_numberV (F : Df K mg "is_number" st_is_number ["value", "low", "high"]) (C1 : Cal P w K mg base 1 "is_integer" spIsIntegerV) : Cal P w K mg base 2 "is_number" spIsNumberV := by
  refine mkCal F sc_is_number (fun vs H Q E h => ?_) (fun f cdv A outer s H vs Q E hr h => ?_)
  · obtain ⟨v, lo, hi, rfl, _⟩ := h
    rfl
  · obtain ⟨v, lo, hi, rfl, hv, q⟩ := h
    refine ⟨_, pss_one (ps_ret (pe_and (pc C1 hr (pa_cons (pv 0) pa_nil)) (pe_one (pe_chain op_le op_le (pv 1) (pv 0) (pv 2))))), ?_⟩
    refine ⟨_, rfl, v, rfl, hv, ?_⟩
    cases hv with
    | int i =>
      refine ⟨true, rfl, _, rfl, _, rfl, lo, i, rfl, rfl, _, rfl, ite2 (fun e => ?_) (fun e => ?_)⟩
      · refine ⟨_, rfl, i, hi, rfl, rfl, ?_⟩
        have q : Q (.bl (decide (lo ≤ i) && decide (i ≤ hi))) H := q
        rw [e, Bool.true_and] at q
        exact q
      · have e' : decide (lo ≤ i) = false := by simpa using e
        have q : Q (.bl (decide (lo ≤ i) && decide (i ≤ hi))) H := q
        rw [e', Bool.false_and] at q
        exact q
    | bl => exact ⟨false, rfl, q⟩
    | non => exact ⟨false, rfl, q⟩
def spIsPlaceV : Sp := fun vs H Q _ => ∃ (v : V) (p : Int), vs = [v, .int p] ∧ Sc v ∧ Q (.bl (inV2 0 (p - 1) v)) H
theorem ok_is_placeV (F : Df K mg "is_place" st_is_place ["value", "places"]) (C2 : Cal P w K mg base 2 "is_number" spIsNumberV) : Cal P w K mg base 3 "is_place" spIsPlaceV := by
  refine mkCal F sc_is_place (fun vs H Q E h => ?_) (fun f cdv A outer s H vs Q E hr h => ?_)
  · obtain ⟨v, p, rfl, _⟩ := h
    rfl
  · obtain ⟨v, p, rfl, hv, q⟩ := h
    refine ⟨_, pss_one (ps_ret (pc C2 hr (pa_cons (pv 0) (pa_cons pe_int (pa_cons (pe_op op_sub (pv 1) pe_int) pa_nil))))), ?_⟩
    exact ⟨_, rfl, _, rfl, p, 1, rfl, rfl, v, 0, p - 1, rfl, hv, q⟩
theorem Wk.on {H H' : Hp} {v : V} {wo : Option (List Int)} (e : Same H H') (h : Wk K H v wo) : Wk K H' v wo := by
  cases h with
  | tup h1 h2 => exact .tup (h1.on (Same.tups e)) h2
  | int i => exact .int i
  | lst h => exact .lst (e.seq h)
/-! ### is_row, of whatever -/
inductive Rk (K : PySem.W.Frag) (H : Hp) : V → Option (List V) → Prop
  | tup {a : Addr} {xs : List V} : SqT K H a xs → Rk K H (.ref a) (some xs)
  | lst {a : Addr} {xs : List V} : SqL K H a xs → Rk K H (.ref a) none
  | dct {a : Addr} {kvs : List (L2.Key × V)} : H a = some (.dK kvs) → Rk K H (.ref a) none
def rowB (lo hi : Int) : Option (List V) → Bool
  | some xs => decide (lo ≤ (xs.length : Int)) && decide ((xs.length : Int) ≤ hi)
  | none => false
end
end RH
set_option Elab.async false
set_option linter.all false
set_option maxRecDepth 100000
set_option maxHeartbeats 2000000
namespace RH
open PySem PySem.Spec PyProof.Rows L2
open LamX (Tabs TabS TabB ExtN CodeO codeO_ne)
/-! ### test, shows_test -/
/-- two habits and a lot -/
structure Two (K : PySem.W.Frag) (H : Hp) (v u : V) (h o : List (List Int)) (n : Nat) (lv : V) (lot : List Int) : Prop where
  hT : TII K H v h
  hU : TII K H u o
  hb : Hb n h
  ho : Hb n o
  hL : TI K H lv lot
  l1 : 1 ≤ lot.length
  l2 : lot.length ≤ n
  hin : ∀ i ∈ lot, InR n i
  hri : lot.Pairwise (· < ·)
theorem Two.tups {K : PySem.W.Frag} {H H' : Hp} {v u : V} {h o : List (List Int)} {n : Nat} {lv : V} {lot : List Int} (g : Two K H v u h o n lv lot) (e : Tups K H H') : Two K H' v u h o n lv lot :=
  ⟨g.hT.on e, g.hU.on e, g.hb, g.ho, g.hL.on e, g.l1, g.l2, g.hin, g.hri⟩
inductive VR
  | nonv : VR
  | bad : VR
  | tri (a : V) (wo : Option (List Int)) (r : V) : VR
inductive Vk (K : PySem.W.Frag) (H : Hp) : V → VR → Prop
  | non : Vk K H .non .nonv
  | bad {a : Addr} {ro : Option (List V)} : Rk K H (.ref a) ro → rowB 3 3 ro = false → Vk K H (.ref a) .bad
  | tri {t : Addr} {a wv r : V} {wo : Option (List Int)} : SqT K H t [a, wv, r] → Sc a → Sc r → Wk K H wv wo → Vk K H (.ref t) (.tri a wo r)
section
variable {P : Program} {w : World} {K : PySem.W.Frag} {mg : Str → Option Value} {base : Heap}
theorem Vk.on {H H' : Hp} {v : V} {vr : VR} (e : Tups K H H') (e2 : ∀ a xs, SqL K H a xs → SqL K H' a xs) (e3 : ∀ a kvs, H a = some (.dK kvs) → H' a = some (.dK kvs)) (h : Vk K H v vr) : Vk K H' v vr := by
  cases h with
  | non => exact .non
  | bad h1 h2 =>
    refine .bad ?_ h2
    cases h1 with
    | tup h => exact .tup (e _ _ h)
    | lst h => exact .lst (e2 _ _ h)
    | dct h => exact .dct (e3 _ _ h)
  | tri h1 h2 h3 h4 =>
    refine .tri (e _ _ h1) h2 h3 ?_
    cases h4 with
    | tup g1 g2 => exact .tup (g1.on e) g2
    | int i => exact .int i
    | lst g => exact .lst (e2 _ _ g)
theorem Vk.ext {H H' : Hp} {v : V} {vr : VR} (x : ExtN H H') (h : Vk K H v vr) : Vk K H' v vr := by
  refine h.on (extN_tups x) (fun a xs g => ?_) (fun a kvs g => x _ _ g (fun ps z => nomatch z))
  rcases g with (g | ⟨ob, g⟩) | g
  · exact .inl (.inl (x _ _ g (fun ps z => nomatch z)))
  · exact .inl (.inr ⟨ob, x _ _ g (fun ps z => nomatch z)⟩)
  · exact .inr g
def spCheckTwo (K : PySem.W.Frag) : Sp := fun vs H Q _ => ∃ (v u : V) (h o : List (List Int)) (n : Nat) (lv : V) (lot : List Int), vs = [v, u, lv] ∧ Two K H v u h o n lv lot ∧ ∀ H', Same H H' → Q .non H'
theorem ok_check_two (F : Df K mg "check_two" st_check_two ["habit", "other", "lot"]) (B : Bu mg) (C7 : CalD P w K mg base 7 "check_habits" [.int 3] (spCheckHabits K)) (CL : Cal P w K mg base 6 "check_lot" (spCheckLot K)) : Cal P w K mg base 8 "check_two" (spCheckTwo K) := by
  refine mkCal F sc_check_two (fun vs H Q E h => ?_) (fun f cdv A outer s H vs Q E hr h => ?_)
  · obtain ⟨v, u, h, o, n, lv, lot, rfl, _⟩ := h
    rfl
  · obtain ⟨v, u, h, o, n, lv, lot, rfl, g, q⟩ := h
    refine ⟨_, pss_cons (ps_expr (pcD C7 hr (pa_cons (pe_tup (pa_cons (pv 0) (pa_cons (pv 1) pa_nil))) pa_nil)))
      (pss_one (ps_expr (pc CL hr (pa_cons (pv 2) (pa_cons (pe_callB (cl_len K) (by rfl) B.len PySem.boot_len (pa_cons (pv 0) pa_nil)) pa_nil))))), ?_⟩
    refine ⟨_, rfl, _, rfl, by show 2 ≤ sizeLine; decide, fun T hT => ?_⟩
    have sT := same_new (o := .tup [v, u]) hT
    have gT := g.tups (Same.tups sT)
    refine ⟨.ref T, [h, o], n, 3, rfl, ⟨T, [v, u], rfl, tupAt upd_same, .cons gT.hT (.cons gT.hU .nil)⟩, by show 1 ≤ 2; decide, by show ((2 : Nat) : Int) ≤ 3; decide, fun x hx => ?_, fun H1 s1 => ?_⟩
    · rcases List.mem_cons.mp hx with rfl | hx
      · exact g.hb
      · rw [List.mem_singleton.mp hx]
        exact g.ho
    · have g1 := gT.tups (Same.tups s1)
      obtain ⟨ah, hxs, rfl, hS, hE⟩ := id g1.hT
      have hxl : hxs.length = n := hE.len.trans g.hb.len
      have n5 := g.hb.hi
      refine ⟨_, rfl, _, rfl, ah, hxs, rfl, .inr hS, lv, lot, n, by rw [hxl]; rfl, g1.hL, g.l1, g.l2, n5, g.hin, g.hri, fun H2 s2 => q H2 (sT.trans (s1.trans s2))⟩
def spTest (K : PySem.W.Frag) (T : List (Addr × Str)) : Sp := fun vs H Q _ => ∃ (v u : V) (h o : List (List Int)) (n : Nat) (lv : V) (lot : List Int), vs = [v, u, lv] ∧ Two K H v u h o n lv lot ∧ Tabs T H ∧
  ∀ (H' : Hp) (val : V) (res : Option (Int × List Int × Int)), ExtN H H' → Tabs T H' → ShR h o lot lot res → ResV K H' val res → Q val H'
theorem ok_test {T : List (Addr × Str)} (F : Df K mg "test" st_test ["habit", "other", "lot"]) (C2 : Cal P w K mg base 8 "check_two" (spCheckTwo K)) (CS : Cal P w K mg base 4 "shortest_test" (spShort K T)) : Cal P w K mg base 9 "test" (spTest K T) := by
  refine mkCal F sc_test (fun vs H Q E h => ?_) (fun f cdv A outer s H vs Q E hr h => ?_)
  · obtain ⟨v, u, h, o, n, lv, lot, rfl, _⟩ := h
    rfl
  · obtain ⟨v, u, h, o, n, lv, lot, rfl, g, hTb, q⟩ := h
    have n5 := g.hb.hi
    have l2 := g.l2
    refine ⟨_, pss_cons (ps_expr (pc C2 hr (pa_cons (pv 0) (pa_cons (pv 1) (pa_cons (pv 2) pa_nil))))) (pss_one (ps_ret (pc CS hr (pa_cons (pv 0) (pa_cons (pv 1) (pa_cons (pv 2) pa_nil)))))), ?_⟩
    refine ⟨_, rfl, _, rfl, _, rfl, v, u, h, o, n, lv, lot, rfl, g, fun H1 s1 => ?_⟩
    have g1 := g.tups (Same.tups s1)
    exact ⟨_, rfl, _, rfl, _, rfl, v, u, h, o, n, lv, lot, rfl, g1.hT, g1.hU, g1.hb, g1.ho, g1.hL, g1.hin, by omega, tabs_same hTb s1, fun H2 val res ex tb hR hV => q H2 val res ((extN_same s1).trans ex) tb hR hV⟩
end
end RH
set_option Elab.async false
set_option linter.all false
set_option maxRecDepth 100000
set_option maxHeartbeats 2000000
namespace RH
open PySem PySem.Spec PyProof.Rows L2
/-! ### the law's marks -/
theorem shaped_rows (ls : List (List Int)) : SeqAt.shaped (.list (ls.map fun s => .tuple (s.map PyData.int))) = true := by
  have h1 : ∀ ls : List (List Int), PyData.canLayAll0 (ls.map fun s => .tuple (s.map PyData.int)) = true := by
    intro ls
    induction ls with
    | nil => rfl
    | cons a ls ih => simp [PyData.canLayAll0, PyData.canLay0, PySem.W.ke_canLayAll0, ih]
  have h2 : ∀ ls : List (List Int), PyData.depthAll (ls.map fun s => .tuple (s.map PyData.int)) ≤ 2 := by
    intro ls
    induction ls with
    | nil => decide
    | cons a ls ih =>
      simp [PyData.depthAll, PyData.depth, PySem.W.ke_depthAll]
      omega
  simp [SeqAt.shaped, PyData.canLay0, PyData.depth, h1]
  have := h2 ls
  omega
theorem eqv_rows0 (ls : List (List Int)) : PyData.eqv (.list (ls.map fun s => .tuple (s.map PyData.int))) (.list []) = decide (ls = []) := by
  rw [PyData.eqv]
  cases ls with
  | nil => rfl
  | cons a ls =>
    rw [List.map_cons, PyData.eqvAll]
    rfl
theorem dp_rows {K : PySem.W.Frag} {H : Hp} : ∀ {ys : List V} {ls : List (List Int)}, EX H ys ls → DpAll K H ys (ls.map fun s => .tuple (s.map PyData.int))
  | _, _, .nil => .nil
  | _, _, .cons k t => .cons (dp_tup (.inl k)) (dp_rows t)
theorem EX.app {H : Hp} : ∀ {xs ys : List V} {ls ms : List (List Int)}, EX H xs ls → EX H ys ms → EX H (xs ++ ys) (ls ++ ms)
  | _, _, _, _, .nil, h => h
  | _, _, _, _, .cons k t, h => .cons k (t.app h)
/-- a pair of marks that a word of a length leads to -/
def Rs (h o : List (List Int)) (lot : List Int) (j : Nat) (s : List Int) : Prop := ∃ pl ∈ lot, ∃ w : List Int, (∀ p ∈ w, p ∈ lot) ∧ w.length = j ∧ [mark h pl w, mark o pl w] = s
section
variable {h o : List (List Int)} {lot : List Int} {n : Nat}
theorem Rs.zero {pl : Int} (hp : pl ∈ lot) : Rs h o lot 0 (fpr h o pl) := ⟨pl, hp, [], fun _ z => (nomatch z), rfl, rfl⟩
theorem Rs.of_zero {s : List Int} (r : Rs h o lot 0 s) : ∃ pl ∈ lot, s = fpr h o pl := by
  obtain ⟨pl, hp, w, _, e, rfl⟩ := r
  rw [List.eq_nil_of_length_eq_zero e]
  exact ⟨pl, hp, rfl⟩
theorem Rs.succ {j : Nat} {s : List Int} {p : Int} (r : Rs h o lot j s) (hp : p ∈ lot) : Rs h o lot (j + 1) (stP h o p s) := by
  obtain ⟨pl, hpl, w, hw, e, rfl⟩ := r
  refine ⟨pl, hpl, w ++ [p], fun q hq => ?_, by rw [List.length_append, e]; rfl, by rw [mark_snoc, mark_snoc]; rfl⟩
  rcases List.mem_append.mp hq with z | z
  · exact hw q z
  · rw [List.mem_singleton.mp z]
    exact hp
theorem Rs.pred {j : Nat} {s : List Int} (r : Rs h o lot (j + 1) s) : ∃ s' p, Rs h o lot j s' ∧ p ∈ lot ∧ s = stP h o p s' := by
  obtain ⟨pl, hpl, w, hw, e, rfl⟩ := r
  rcases List.eq_nil_or_concat w with rfl | ⟨w0, p, rfl⟩
  · cases e
  · rw [List.concat_eq_append] at hw e ⊢
    rw [List.length_append] at e
    exact ⟨[mark h pl w0, mark o pl w0], p, ⟨pl, hpl, w0, fun q hq => hw q (List.mem_append_left _ hq), by simpa using e, rfl⟩, hw p (List.mem_append_right _ (List.mem_singleton.mpr rfl)), by rw [mark_snoc, mark_snoc]; rfl⟩
theorem Rs.cp {j : Nat} {s : List Int} (hb : Hb n h) (ho : Hb n o) (hin : ∀ i ∈ lot, InR n i) (r : Rs h o lot j s) : CP n s := by
  obtain ⟨pl, hpl, w, hw, e, rfl⟩ := r
  exact ⟨_, _, rfl, hb.mark (hin pl hpl) w fun t ht => hin t (hw t ht), ho.mark (hin pl hpl) w fun t ht => hin t (hw t ht)⟩
end
/-- what is found ahead of level k -/
structure FdI (h o : List (List Int)) (lot : List Int) (k : Nat) (as : List (List Int × V)) : Prop where
  nd : (as.map Prod.fst).Nodup
  val : ∀ q ∈ as, ∃ j : Nat, j < k ∧ q.2 = .int (j : Int) ∧ Rs h o lot j q.1 ∧ ∀ i < j, ¬ Rs h o lot i q.1
  all : ∀ j < k, ∀ s, Rs h o lot j s → s ∈ as.map Prod.fst
/-- the level k -/
structure LvI (h o : List (List Int)) (lot : List Int) (k : Nat) (as : List (List Int × V)) (ls : List (List Int)) : Prop where
  at_ : ∀ s ∈ ls, Rs h o lot k s
  all : ∀ s, Rs h o lot k s → s ∈ as.map Prod.fst ∨ s ∈ ls
/-- within the level k, behind m of its pairs -/
structure MdI (h o : List (List Int)) (lot : List Int) (k : Nat) (as : List (List Int × V)) (ls : List (List Int)) (m : Nat) (bs : List (List Int × V)) (fur : List (List Int)) : Prop where
  nd : (bs.map Prod.fst).Nodup
  old : ∀ q ∈ as, q ∈ bs
  val : ∀ q ∈ bs, q ∈ as ∨ (q.2 = .int (k : Int) ∧ Rs h o lot k q.1 ∧ q.1 ∉ as.map Prod.fst)
  done : ∀ s ∈ ls.take m, s ∈ bs.map Prod.fst
  at_ : ∀ s ∈ fur, Rs h o lot (k + 1) s
  all : ∀ s ∈ bs.map Prod.fst, s ∉ as.map Prod.fst → ∀ p ∈ lot, stP h o p s ∈ fur
  len : fur.length + as.length * lot.length = bs.length * lot.length
/-- what is found at the end -/
structure MkI (h o : List (List Int)) (lot : List Int) (as : List (List Int × V)) : Prop where
  val : ∀ q ∈ as, ∃ j : Nat, q.2 = .int (j : Int) ∧ Rs h o lot j q.1 ∧ ∀ i < j, ¬ Rs h o lot i q.1
  all : ∀ j s, Rs h o lot j s → s ∈ as.map Prod.fst
def meas (as : List (List Int × V)) (ls : List (List Int)) : Nat := 2 * (120 - as.length) + (if ls = [] then 0 else 1)
section
variable {h o : List (List Int)} {lot : List Int} {n k m : Nat} {as bs : List (List Int × V)} {ls fur : List (List Int)}
theorem MdI.start (F : FdI h o lot k as) : MdI h o lot k as ls 0 as [] :=
  ⟨F.nd, fun _ z => z, fun _ z => .inl z, fun _ z => (nomatch z), fun _ z => (nomatch z), fun s h1 h2 => absurd h1 h2, by rw [List.length_nil]; omega⟩
theorem MdI.known (M : MdI h o lot k as ls m bs fur) {s : List Int} (hs : ls[m]? = some s) (hm : s ∈ bs.map Prod.fst) : MdI h o lot k as ls (m + 1) bs fur :=
  ⟨M.nd, M.old, M.val, fun t ht => by
    rw [take_more hs] at ht
    rcases List.mem_append.mp ht with z | z
    · exact M.done t z
    · rw [List.mem_singleton.mp z]
      exact hm, M.at_, M.all, M.len⟩
theorem MdI.more (M : MdI h o lot k as ls m bs fur) (L : LvI h o lot k as ls) {s : List Int} (hs : ls[m]? = some s) (hm : s ∉ bs.map Prod.fst) : MdI h o lot k as ls (m + 1) (bs ++ [(s, .int (k : Int))]) (fur ++ lot.map fun p => stP h o p s) where
  nd := by
    rw [List.map_append, List.nodup_append]
    refine ⟨M.nd, nd_one _, fun a ha b hb e => ?_⟩
    rw [List.map_singleton, List.mem_singleton] at hb
    rw [e, hb] at ha
    exact hm ha
  old := fun q hq => List.mem_append_left _ (M.old q hq)
  val := fun q hq => by
    rcases List.mem_append.mp hq with z | z
    · exact M.val q z
    · rw [List.mem_singleton.mp z]
      refine .inr ⟨rfl, L.at_ s (List.mem_of_getElem? hs), fun z2 => ?_⟩
      obtain ⟨x, hx, e⟩ := List.mem_map.mp z2
      exact hm (List.mem_map.mpr ⟨x, M.old x hx, e⟩)
  done := fun t ht => by
    rw [take_more hs] at ht
    rw [List.map_append, List.mem_append]
    rcases List.mem_append.mp ht with z | z
    · exact .inl (M.done t z)
    · rw [List.mem_singleton.mp z]
      exact .inr (List.mem_singleton.mpr rfl)
  at_ := fun t ht => by
    rcases List.mem_append.mp ht with z | z
    · exact M.at_ t z
    · obtain ⟨p, hp, rfl⟩ := List.mem_map.mp z
      exact (L.at_ s (List.mem_of_getElem? hs)).succ hp
  all := fun t ht hn p hp => by
    rw [List.map_append, List.mem_append] at ht
    rcases ht with z | z
    · exact List.mem_append_left _ (M.all t z hn p hp)
    · rw [List.map_singleton, List.mem_singleton] at z
      rw [z]
      exact List.mem_append_right _ (List.mem_map.mpr ⟨p, hp, rfl⟩)
  len := by
    have := M.len
    rw [List.length_append, List.length_map, List.length_append, List.length_singleton, Nat.succ_mul]
    omega
theorem MdI.fd (M : MdI h o lot k as ls ls.length bs fur) (F : FdI h o lot k as) (L : LvI h o lot k as ls) : FdI h o lot (k + 1) bs := by
  have old : ∀ s ∈ as.map Prod.fst, s ∈ bs.map Prod.fst := fun s hs => by
    obtain ⟨x, hx, e⟩ := List.mem_map.mp hs
    exact List.mem_map.mpr ⟨x, M.old x hx, e⟩
  refine ⟨M.nd, fun q hq => ?_, fun j hj s hs => ?_⟩
  · rcases M.val q hq with z | ⟨z1, z2, z3⟩
    · obtain ⟨j, h1, h2⟩ := F.val q z
      exact ⟨j, by omega, h2⟩
    · exact ⟨k, by omega, z1, z2, fun i hi hr => z3 (F.all i hi _ hr)⟩
  · rcases Nat.lt_or_ge j k with z | z
    · exact old s (F.all j z s hs)
    · obtain rfl : j = k := by omega
      rcases L.all s hs with y | y
      · exact old s y
      · refine M.done s ?_
        rw [List.take_length]
        exact y
theorem MdI.lv (M : MdI h o lot k as ls ls.length bs fur) (F : FdI h o lot k as) (L : LvI h o lot k as ls) : LvI h o lot (k + 1) bs fur := by
  have F2 := M.fd F L
  refine ⟨M.at_, fun s hs => ?_⟩
  obtain ⟨s', p, hr, hp, rfl⟩ := hs.pred
  have h1 := F2.all k (by omega) s' hr
  by_cases h2 : s' ∈ as.map Prod.fst
  · obtain ⟨x, hx, rfl⟩ := List.mem_map.mp h2
    obtain ⟨j, hj, _, hr2, _⟩ := F.val x hx
    exact .inl (F2.all (j + 1) (by omega) _ (hr2.succ hp))
  · exact .inr (M.all s' h1 h2 p hp)
theorem FdI.few (hb : Hb n h) (ho : Hb n o) (hin : ∀ i ∈ lot, InR n i) (hl : lot.length ≤ 1000) (nd : (as.map Prod.fst).Nodup) (hv : ∀ q ∈ as, ∃ j, Rs h o lot j q.1) : as.length ≤ 120 := by
  have := nd_len nd (m := UP n) fun s hs => by
    obtain ⟨x, hx, rfl⟩ := List.mem_map.mp hs
    obtain ⟨j, hr⟩ := hv x hx
    exact (sysP hb ho hin hl).few _ (hr.cp hb ho hin)
  rw [List.length_map] at this
  exact Nat.le_trans this (UP_few n (by have := hb.hi; omega))
theorem FdI.mki (F : FdI h o lot k as) (L : LvI h o lot k as []) : MkI h o lot as := by
  have up : ∀ s, Rs h o lot k s → s ∈ as.map Prod.fst := fun s hs => (L.all s hs).elim id fun z => nomatch z
  have all : ∀ j s, Rs h o lot j s → s ∈ as.map Prod.fst := fun j => by
    induction j with
    | zero =>
      intro s hs
      rcases Nat.eq_zero_or_pos k with z | z
      · rw [← z] at hs
        exact up s hs
      · exact F.all 0 z s hs
    | succ j ih =>
      intro s hs
      obtain ⟨s', p, hr, hp, rfl⟩ := hs.pred
      obtain ⟨x, hx, rfl⟩ := List.mem_map.mp (ih s' hr)
      obtain ⟨i, hi, _, hr2, _⟩ := F.val x hx
      rcases Nat.lt_or_ge (i + 1) k with z | z
      · exact F.all (i + 1) z _ (hr2.succ hp)
      · have e : i + 1 = k := by omega
        exact up _ (by rw [← e]; exact hr2.succ hp)
  exact ⟨fun q hq => by
    obtain ⟨j, _, h2⟩ := F.val q hq
    exact ⟨j, h2⟩, all⟩
theorem MdI.less (M : MdI h o lot k as ls ls.length bs fur) (F : FdI h o lot k as) (hne : ls ≠ []) (hb : bs.length ≤ 120) : meas bs fur < meas as ls := by
  unfold meas
  rw [if_neg hne]
  have h1 : as.length ≤ bs.length := by
    have hsub : ∀ s ∈ as.map Prod.fst, s ∈ bs.map Prod.fst := fun s hs => by
      obtain ⟨x, hx, e⟩ := List.mem_map.mp hs
      exact List.mem_map.mpr ⟨x, M.old x hx, e⟩
    have := nd_len F.nd hsub
    rwa [List.length_map, List.length_map] at this
  rcases Nat.eq_or_lt_of_le h1 with z | z
  · have h2 := M.len
    rw [z] at h2
    have h3 : fur = [] := List.eq_nil_of_length_eq_zero (by omega)
    rw [if_pos h3]
    omega
  · split <;> omega
end
section
variable {P : Program} {w : World} {K : PySem.W.Frag} {mg : Str → Option Value} {base : Heap}
def spMarks (P : Program) (w : World) (K : PySem.W.Frag) : Sp := fun vs H Q _ => ∃ (v u : V) (h o : List (List Int)) (n : Nat) (lv : V) (lot : List Int), vs = [v, u, lv] ∧ Two K H v u h o n lv lot ∧
  ∀ (H' : Hp) (d : Addr) (as : List (List Int × V)) (ks : List Addr), Same H H' → H' d = some (DE P w as ks d) → KB H' as ks → (as.map Prod.fst).Nodup → as.length ≤ 120 → MkI h o lot as → Q (.ref d) H'
abbrev NM : List Str := ["habit", "other", "lot", "found", "last", "far", "longer", "pair", "place"]
theorem ok_marks (F : Df K mg "_law_marks" st__law_marks ["habit", "other", "lot"]) (B : Bu mg) : Cal P w K mg base 1 "_law_marks" (spMarks P w K) := by
  refine mkCal F sc__law_marks (fun vs H Q E h => ?_) (fun f cdv A outer s H vs Q E hr h => ?_)
  · obtain ⟨v, u, h, o, n, lv, lot, rfl, _⟩ := h
    rfl
  · obtain ⟨v, u, h, o, n, lv, lot, rfl, g, q⟩ := h
    obtain ⟨ah, hxs, rfl, hS, hE⟩ := id g.hT
    obtain ⟨ao, oxs, rfl, oS, oE⟩ := id g.hU
    obtain ⟨al, rfl, hL⟩ := id g.hL
    have n5 := g.hb.hi
    have l2 := g.l2
    have hl1000 : lot.length ≤ 1000 := by omega
    refine ⟨_, pss_cons (ps_par3 (i := 3) (j := 4) (l := 5) rfl sc__law_marks.nd rfl rfl rfl (by decide) (by decide) (by decide) rfl rfl rfl (pa_cons pe_dnewE (pa_cons (pe_lc (own := [("place", 8)]) (g := gName 8) (tt := tYes) rfl sc__law_marks.nd (pi_tup (pv 2)) (blkOk_by (N := NM) (sc := defScope st__law_marks) (by decide +kernel))
        (fun _ _ _ _ _ => pg_name (i := 8) sc__law_marks.nd rfl (Or.inl rfl)) (fun _ _ _ _ _ => pts_nil)
        (fun _ _ _ _ _ => pe_tup (pa_cons (pe_ix (ixT K) (pe_ix (ixT K) (pv 0) (pv 8) (fun _ _ => rfl)) (pv 8) (fun _ _ => rfl)) (pa_cons (pe_ix (ixT K) (pe_ix (ixT K) (pv 1) (pv 8) (fun _ _ => rfl)) (pv 8) (fun _ _ => rfl)) pa_nil)))) (pa_cons pe_int pa_nil))) rfl)
      (pss_cons (ps_while PassesOwn.never (pt_cmpR (op_neD hr.units) (pv 4) (pe_lst pa_nil) (nomark _))
        (pss_cons (ps_set (i := 6) sc__law_marks.nd rfl (.inl rfl) (pe_lst pa_nil))
        (pss_cons (ps_for PassesOwn.never rfl (pi_list (pv 4)) (pg_name (i := 7) sc__law_marks.nd rfl (.inr rfl))
          (pss_one (ps_if (pt_cmp (pc_dnotinE (hu_of hr) (pv 7) (pv 3)))
            (pss_cons (ps_dputE (hu_of hr) (pv 3) (pv 7) (pv 5) rfl)
            (pss_one (ps_set (i := 6) sc__law_marks.nd rfl (.inl rfl) (pe_op op_cat (pv 6) (pe_lc (own := [("place", 8)]) (g := gName 8) (tt := tYes) rfl sc__law_marks.nd (pi_tup (pv 2)) (blkOk_by (N := NM) (sc := defScope st__law_marks) (by decide +kernel))
              (fun _ _ _ _ _ => pg_name (i := 8) sc__law_marks.nd rfl (Or.inl rfl)) (fun _ _ _ _ _ => pts_nil)
              (fun _ _ _ _ _ => pe_tup (pa_cons (pe_ix (ixT K) (pe_ix (ixT K) (pv 0) (pv 8) (fun _ _ => rfl)) (pe_ix (ixT K) (pv 7) pe_int (fun _ _ => rfl)) (fun _ _ => rfl)) (pa_cons (pe_ix (ixT K) (pe_ix (ixT K) (pv 1) (pv 8) (fun _ _ => rfl)) (pe_ix (ixT K) (pv 7) pe_int (fun _ _ => rfl)) (fun _ _ => rfl)) pa_nil)))))))) pss_nil)))
        (pss_one (ps_par (i := 4) (j := 5) rfl sc__law_marks.nd rfl rfl (by decide) rfl rfl (pa_cons (pv 6) (pa_cons (pe_op op_add (pv 5) pe_int) pa_nil)) rfl)))))
      (pss_one (ps_ret (pv 3)))), ?_⟩
    intro d hd
    have sd := same_new (o := DE P w [] [] d) hd
    refine ⟨_, rfl, al, rfl, ⟨_, onT sd hL⟩, fun D hD => ?_⟩
    refine lc_tup (xs := lot.map V.int) (fun i H' => Same (upd H d (DE P w [] [] d)) H' ∧ ∃ ys, H' D = some (.lst ys) ∧ EX H' ys ((lot.take i).map (fpr h o))) ⟨same_new hD, [], upd_same, .nil⟩ (fun i H' _ h' => onT h'.1 (onT sd hL)) (fun i x H' hx h' => ?_) (fun H1 h' => ?_)
    · obtain ⟨pl, hpl, rfl⟩ := map_at hx
      obtain ⟨sm, ys, eD, hY⟩ := h'
      have sm0 := sd.trans sm
      have hp := g.hin pl (List.mem_of_getElem? hpl)
      obtain ⟨a1, ns1, e1, s1, e2⟩ := ix2 hE g.hb hp hp
      obtain ⟨a2, ns2, e3, s2, e4⟩ := ix2 oE g.ho hp hp
      refine ⟨rfl, _, rfl, _, rfl, ah, hxs, pl, _, rfl, rfl, onT sm0 hS, e1, _, rfl, a1, _, pl, _, rfl, rfl, onT sm0 s1, e2, _, rfl, _, rfl, ao, oxs, pl, _, rfl, rfl, onT sm0 oS, e3, _, rfl, a2, _, pl, _, rfl, rfl, onT sm0 s2, e4, by show 2 ≤ sizeLine; decide, fun T hT2 => ?_⟩
      have sT := same_new (o := .tup [.int (mv h pl pl), .int (mv o pl pl)]) hT2
      have eDT := sT _ _ eD
      refine ⟨_, eDT, ?_, Same.upd (sm.trans sT) hD, _, upd_same, ?_⟩
      · have := hY.len
        rw [List.length_map, List.length_take] at this
        exact small1000 (by omega)
      · rw [take_more hpl, List.map_append]
        have tk : TK _ (upd (upd H' T (.tup [.int (mv h pl pl), .int (mv o pl pl)])) D (.lst (ys ++ [.ref T]))) := TK.upd eDT not_tup_l
        exact EX.snoc (tk _ _ (.inl upd_same)) (hY.on ((TK.same sT).trans tk))
    obtain ⟨sm1, xs0, eD0, hX0⟩ := h'
    rw [List.length_map, List.take_length] at hX0
    refine ⟨_, _, _, rfl, ?_⟩
    refine ⟨fun m σ H' => ∃ (k : Nat) (as : List (List Int × V)) (ks : List Addr) (ls : List (List Int)) (xs : List V) (l : Addr), m = meas as ls ∧ (∃ y6 y7 y8, σ = [some (.ref ah), some (.ref ao), some (.ref al), some (.ref d), some (.ref l), some (.int (k : Int)), y6, y7, y8]) ∧
      Same H H' ∧ H' d = some (DE P w as ks d) ∧ KB H' as ks ∧ H' l = some (.lst xs) ∧ EX H' xs ls ∧ FdI h o lot k as ∧ LvI h o lot k as ls ∧ ls.length ≤ 1000,
      ⟨meas [] (lot.map (fpr h o)), 0, [], [], lot.map (fpr h o), xs0, D, rfl, ⟨none, none, none, rfl⟩, sd.trans sm1, sm1 _ _ upd_same, .nil, eD0, hX0, ⟨List.nodup_nil, fun _ z => (nomatch z), fun j hj => absurd hj (by omega)⟩, ⟨fun s hs => ?_, fun s hs => ?_⟩, ?_⟩, ?_⟩
    · obtain ⟨pl, hpl, rfl⟩ := List.mem_map.mp hs
      exact Rs.zero hpl
    · obtain ⟨pl, hpl, rfl⟩ := hs.of_zero
      exact .inr (List.mem_map.mpr ⟨pl, hpl, rfl⟩)
    · rw [List.length_map]
      exact hl1000
    rintro m σ H2 ⟨k, as, ks, ls, xs, l, rfl, ⟨y6, y7, y8, rfl⟩, sm, eD, kb, eL, hX, F, L, hl⟩
    have lx := hX.len
    refine ⟨_, rfl, Nat.zero_le _, fun z hz => ?_⟩
    have sz := same_new (o := .lst []) hz
    refine ⟨_, _, .lst (lstAt (sz _ _ eL)) (dp_rows (hX.on (TK.same sz))), .lst (lstAt upd_same) .nil, shaped_rows _, PySem.W.ke_shaped_ints [], _, rfl, ?_⟩
    rw [eqv_rows0]
    have smz := sm.trans sz
    have eDz := sz _ _ eD
    have kbz := kb.on (TK.same sz)
    have eLz := sz _ _ eL
    have hXz := hX.on (TK.same sz)
    have hfew : as.length ≤ 120 := FdI.few g.hb g.ho g.hin hl1000 F.nd fun q hq => by
      obtain ⟨j, _, _, hr, _⟩ := F.val q hq
      exact ⟨j, hr⟩
    refine ite2 (fun ex => ?_) (fun ex => ?_)
    · have hne : ls ≠ [] := fun e => by
        rw [e] at ex
        exact absurd ex (by decide)
      refine ⟨fun σ' H' => ∃ m', m' < meas as ls ∧ ∃ (k : Nat) (as : List (List Int × V)) (ks : List Addr) (ls : List (List Int)) (xs : List V) (l : Addr), m' = meas as ls ∧ (∃ y6 y7 y8, σ' = [some (.ref ah), some (.ref ao), some (.ref al), some (.ref d), some (.ref l), some (.int (k : Int)), y6, y7, y8]) ∧
        Same H H' ∧ H' d = some (DE P w as ks d) ∧ KB H' as ks ∧ H' l = some (.lst xs) ∧ EX H' xs ls ∧ FdI h o lot k as ∧ LvI h o lot k as ls ∧ ls.length ≤ 1000, fun _ _ h => h, ?_⟩
      refine ⟨Nat.zero_le _, fun u0 hu0 => ?_⟩
      have su := same_new (o := .lst []) hu0
      refine ⟨_, rfl, l, rfl, ⟨_, lstAt (su _ _ eLz)⟩, ?_⟩
      refine for_list (xs := xs) (fun i σ H' => ∃ (bs : List (List Int × V)) (ks : List Addr) (fur : List (List Int)) (us : List V) (lu : Addr), Same H H' ∧ H' d = some (DE P w bs ks d) ∧ KB H' bs ks ∧ H' l = some (.lst xs) ∧ EX H' xs ls ∧ H' lu = some (.lst us) ∧ EX H' us fur ∧ MdI h o lot k as ls i bs fur ∧
          ∃ y7 y8, σ = [some (.ref ah), some (.ref ao), some (.ref al), some (.ref d), some (.ref l), some (.int (k : Int)), some (.ref lu), y7, y8])
        ⟨as, ks, [], [], u0, smz.trans su, su _ _ eDz, kbz.on (TK.same su), su _ _ eLz, hXz.on (TK.same su), upd_same, .nil, MdI.start F, _, _, rfl⟩ (fun i σ H' _ h' => ?_) (fun i x σ H3 hx h' => ?_) (fun σ H3 h' => ?_)
      · obtain ⟨_, _, _, _, _, _, _, _, e, _⟩ := h'
        exact lstAt e
      · obtain ⟨bs, kk, fur, us, lu, sm3, eD3, kb3, eL3, hX3, eU3, hF3, M, z7, z8, rfl⟩ := h'
        have hi : i < ls.length := by
          have := (List.getElem?_eq_some_iff.mp hx).1
          omega
        obtain ⟨s, hs⟩ : ∃ s, ls[i]? = some s := ⟨_, List.getElem?_eq_getElem hi⟩
        obtain ⟨b, rfl, hk3⟩ := hX3.get hx hs
        have hr0 := L.at_ s (List.mem_of_getElem? hs)
        obtain ⟨x0, y0, es, hx0, hy0⟩ := hr0.cp g.hb g.ho g.hin
        have bfew : bs.length ≤ 120 := FdI.few g.hb g.ho g.hin hl1000 M.nd fun q hq => by
          rcases M.val q hq with z | ⟨_, z, _⟩
          · obtain ⟨j, _, _, hr, _⟩ := F.val q z
            exact ⟨j, hr⟩
          · exact ⟨k, z⟩
        refine ⟨_, rfl, _, rfl, d, b, bs, kk, s, rfl, rfl, eD3, kb3, hk3, _, rfl, ?_⟩
        by_cases hm : s ∈ bs.map Prod.fst
        · exact ifF (by rw [decide_eq_true hm]; rfl) ⟨bs, kk, fur, us, lu, sm3, eD3, kb3, eL3, hX3, eU3, hF3, M.known hs hm, _, _, rfl⟩
        · refine ifT (by rw [decide_eq_false hm]; rfl) ?_
          refine ⟨_, rfl, _, rfl, _, rfl, d, b, bs, kk, s, rfl, rfl, eD3, kb3, hk3, hm, small1000 (by omega), ?_⟩
          have tk4 : TK H3 (upd H3 d (DE P w (bs ++ [(s, .int (k : Int))]) (kk ++ [b]) d)) := TK.upd eD3 not_tup_d
          have sm4 : Same H (upd H3 d (DE P w (bs ++ [(s, .int (k : Int))]) (kk ++ [b]) d)) := Same.upd sm3 hd
          have eD4 : (upd H3 d (DE P w (bs ++ [(s, .int (k : Int))]) (kk ++ [b]) d)) d = some (DE P w (bs ++ [(s, .int (k : Int))]) (kk ++ [b]) d) := upd_same
          have kb4 := (kb3.on tk4).snoc (q := (s, .int (k : Int))) (b := b) (tk4 _ _ hk3)
          have eL4 : (upd H3 d (DE P w (bs ++ [(s, .int (k : Int))]) (kk ++ [b]) d)) l = some (.lst xs) := by
            rw [upd_ne (ne_of eL3 eD3 (fun z => nomatch z))]
            exact eL3
          have eU4 : (upd H3 d (DE P w (bs ++ [(s, .int (k : Int))]) (kk ++ [b]) d)) lu = some (.lst us) := by
            rw [upd_ne (ne_of eU3 eD3 (fun z => nomatch z))]
            exact eU3
          have hX4 := hX3.on tk4
          have hF4 := hF3.on tk4
          have hk4 := tk4 _ _ hk3
          refine ⟨_, rfl, _, rfl, al, rfl, ⟨_, onT sm4 hL⟩, fun D2 hD2 => ?_⟩
          refine lc_tup (xs := lot.map V.int) (fun j H' => Same (upd H3 d (DE P w (bs ++ [(s, .int (k : Int))]) (kk ++ [b]) d)) H' ∧ ∃ zs, H' D2 = some (.lst zs) ∧ EX H' zs ((lot.take j).map fun p => stP h o p s)) ⟨same_new hD2, [], upd_same, .nil⟩ (fun j H' _ h' => onT h'.1 (onT sm4 hL)) (fun j x H' hx h' => ?_) (fun H5 h' => ?_)
          · obtain ⟨p, hp0, rfl⟩ := map_at hx
            obtain ⟨sm5, zs, eZ, hZ⟩ := h'
            have sm0 := sm4.trans sm5
            have hp := g.hin p (List.mem_of_getElem? hp0)
            obtain ⟨a1, ns1, e1, s1, e2⟩ := ix2 hE g.hb hp hx0
            obtain ⟨a2, ns2, e3, s2, e4⟩ := ix2 oE g.ho hp hy0
            have hks : SqT K H' b [.int x0, .int y0] := by
              have := TK.same sm5 _ _ hk4
              rw [es] at this
              exact .inl this
            refine ⟨rfl, _, rfl, _, rfl, ah, hxs, p, _, rfl, rfl, onT sm0 hS, e1, _, rfl, b, _, 0, .int x0, rfl, rfl, hks, rfl, a1, _, x0, _, rfl, rfl, onT sm0 s1, e2, _, rfl, _, rfl, ao, oxs, p, _, rfl, rfl, onT sm0 oS, e3, _, rfl, b, _, 1, .int y0, rfl, rfl, hks, rfl, a2, _, y0, _, rfl, rfl, onT sm0 s2, e4, by show 2 ≤ sizeLine; decide, fun T hT2 => ?_⟩
            have sT := same_new (o := .tup [.int (mv h p x0), .int (mv o p y0)]) hT2
            have eZT := sT _ _ eZ
            refine ⟨_, eZT, ?_, Same.upd (sm5.trans sT) hD2, _, upd_same, ?_⟩
            · have := hZ.len
              rw [List.length_map, List.length_take] at this
              exact small1000 (by omega)
            · rw [take_more hp0, List.map_append]
              have tk : TK _ (upd (upd H' T (.tup [.int (mv h p x0), .int (mv o p y0)])) D2 (.lst (zs ++ [.ref T]))) := TK.upd eZT not_tup_l
              refine EX.snoc (tk _ _ ?_) (hZ.on ((TK.same sT).trans tk))
              rw [es]
              exact .inl upd_same
          · obtain ⟨sm5, zs, eZ, hZ⟩ := h'
            rw [List.length_map, List.take_length] at hZ
            have hML := M.more L hs hm
            have hlen5 : us.length + zs.length ≤ 1000 := by
              have h1 := hML.len
              have h2 := hF3.len
              have h3 := hZ.len
              rw [List.length_map] at h3
              rw [List.length_append, List.length_map] at h1
              have h4 : (bs ++ [(s, V.int (k : Int))]).length * lot.length ≤ 121 * 5 := Nat.mul_le_mul (by rw [List.length_append]; show bs.length + 1 ≤ 121; omega) (by omega)
              omega
            refine ⟨lu, D2, us, zs, rfl, rfl, sm5 _ _ eU4, eZ, by rw [sizeLine_eq]; omega, fun p hp => ?_⟩
            have sp := same_new (o := .lst (us ++ zs)) hp
            have s56 := sm5.trans sp
            exact ⟨_, _, _, us ++ zs, p, sm4.trans s56, s56 _ _ eD4, kb4.on (TK.same s56), s56 _ _ eL4, hX4.on (TK.same s56), upd_same, (hF4.on (TK.same s56)).app (hZ.on (TK.same sp)), hML, _, _, rfl⟩
      · obtain ⟨bs, kk, fur, us, lu, sm3, eD3, kb3, eL3, hX3, eU3, hF3, M, z7, z8, rfl⟩ := h'
        rw [lx] at M
        have F2 := M.fd F L
        have bfew : bs.length ≤ 120 := FdI.few g.hb g.ho g.hin hl1000 F2.nd fun q hq => by
          obtain ⟨j, _, _, hr, _⟩ := F2.val q hq
          exact ⟨j, hr⟩
        have hlf : fur.length ≤ 1000 := by
          have h1 := M.len
          have h4 : bs.length * lot.length ≤ 120 * 5 := Nat.mul_le_mul bfew (by omega)
          omega
        exact ⟨_, rfl, _, rfl, (k : Int), 1, rfl, rfl, _, _, rfl, meas bs fur, M.less F hne bfew, k + 1, bs, kk, fur, us, lu, rfl, ⟨_, _, _, rfl⟩, sm3, eD3, kb3, eU3, hF3, F2, M.lv F L, hlf⟩
    · have hnil : ls = [] := by
        have : ¬ (!decide (ls = [])) = true := ex
        simpa using this
      subst hnil
      exact ⟨_, rfl, q _ d as ks smz eDz kbz F.nd hfew (F.mki L)⟩
end
end RH
set_option Elab.async false
set_option linter.all false
set_option maxRecDepth 100000
set_option maxHeartbeats 2000000
namespace RH
open PySem PySem.Spec PyProof.Rows L2
open LamX (Tabs TabS TabB ExtN CodeO codeO_ne)
/-! ### shelves that are alike; what the law finds -/
/-- all that is no list and no table of code objects is as it was -/
def Ev (H H' : Hp) : Prop := ∀ b o, H b = some o → (∀ xs, o ≠ .lst xs) → (∀ ps, o ≠ .tbl ps) → H' b = some o
theorem Ev.refl (H : Hp) : Ev H H := fun _ _ e _ _ => e
theorem Ev.trans {H H1 H2 : Hp} (a : Ev H H1) (b : Ev H1 H2) : Ev H H2 := fun c o e n m => b c o (a c o e n m) n m
theorem Ev.same {H H1 : Hp} (a : Same H H1) : Ev H H1 := fun c o e _ _ => a c o e
theorem Ev.fix {H H1 : Hp} (a : Fix H H1) : Ev H H1 := fun c o e n _ => a c o e n
theorem Ev.ext {H H1 : Hp} (a : ExtN H H1) : Ev H H1 := fun c o e _ m => a c o e m
theorem Ev.tk {H H' : Hp} (e : Ev H H') : TK H H' := fun b xs h => by
  rcases h with h | ⟨ob, h⟩
  · exact .inl (e _ _ h (fun _ z => nomatch z) (fun _ z => nomatch z))
  · exact .inr ⟨ob, e _ _ h (fun _ z => nomatch z) (fun _ z => nomatch z)⟩
theorem Ev.tups {K : PySem.W.Frag} {H H' : Hp} (e : Ev H H') : Tups K H H' := fun a xs hs => by
  rcases hs with hs | hs
  · exact .inl (e.tk _ _ hs)
  · exact .inr hs
theorem Fix.tabs {T : List (Addr × Str)} {H H' : Hp} (f : Fix H H') (t : Tabs T H) : Tabs T H' := fun p hp => by
  obtain ⟨ps, h1, h2, h3⟩ := t p hp
  refine ⟨ps, f _ _ h1 (fun xs z => nomatch z), h2, fun pos cv hc => ?_⟩
  obtain ⟨c, e1, e2⟩ := h3 pos cv hc
  exact ⟨c, e1, f _ _ e2 (fun xs z => by unfold CodeO at z; cases z)⟩
theorem Row.ext {K : PySem.W.Frag} {H H' : Hp} {p : Addr} (e : ExtN H H') (h : Row K H p) : Row K H' p := by
  obtain ⟨a, ns, i, r, c, h⟩ := h
  refine ⟨a, ns, i, r, c, e _ _ h.at_ (fun ps z => nomatch z), ?_, h.pos⟩
  rcases h.fz with ⟨o, z⟩ | z
  · exact .inl ⟨o, e _ _ z (fun ps z => nomatch z)⟩
  · exact .inr z
/-! ### words, what they touch, and what a loss does -/
/-- the row of a place -/
theorem Hb.row {n : Nat} {h : List (List Int)} (q : Hb n h) {p : Int} (hp : InR n p) : h.getD p.toNat [] ∈ h := by
  have h1 : p.toNat < h.length := by rw [q.len]; have := hp.1; have := hp.2; omega
  rw [List.getD_eq_getElem?_getD, List.getElem?_eq_getElem h1]
  exact List.getElem_mem h1
section
variable {h o : List (List Int)} {lot : List Int} {n : Nat}
/-- the list far of the law -/
structure FarI (h o : List (List Int)) (lot far : List Int) : Prop where
  at_ : ∀ k ∈ far, ∃ pl ∈ lot, ∃ w : List Int, (∀ p ∈ w, p ∈ lot) ∧ (trd lot [mark h pl w, mark o pl w]).isSome = true ∧ (w.length : Int) = k
  all : ∀ pl ∈ lot, ∀ w : List Int, (∀ p ∈ w, p ∈ lot) → (trd lot [mark h pl w, mark o pl w]).isSome = true → ∃ k ∈ far, k ≤ (w.length : Int)
theorem FarI.min {far : List Int} (F : FarI h o lot far) {pl r : Int} {w : List Int} (R : ShR h o lot lot (some (pl, w, r))) {m : Int} (hm : m ∈ far) (hle : ∀ k ∈ far, m ≤ k) : m = (w.length : Int) := by
  obtain ⟨h1, h2, h3, h4⟩ := R
  obtain ⟨k, hk, hkw⟩ := F.all pl h1 w h2 (by rw [h3]; rfl)
  obtain ⟨pl', hp', w', hw', hs', e⟩ := F.at_ m hm
  have := h4 pl' hp' w' hw' hs'
  have := hle k hk
  omega
end
end RH
set_option Elab.async false
set_option linter.all false
set_option maxRecDepth 100000
set_option maxHeartbeats 2000000
namespace RH
open PySem PySem.Spec PyProof.Rows L2
open LamX (Tabs TabS TabB ExtN CodeO codeO_ne)
/-! ### the law -/
/-- a statement's way on, told -/
theorem ps_cut {X : Cx} {st : Stmt} {t : TS} (G : L2.St → Hp → Prop) (h : PS X st t) : PS X st (fun D σ H => (∀ σ' H', G σ' H' → D.nx σ' H') ∧ t { D with nx := G } σ H) := by
  refine ⟨fun pins s σ H D I hw => thn (h.run pins s σ H { D with nx := G } I hw.2) fun fl s1 q => ?_⟩
  cases fl with
  | next =>
    obtain ⟨σ', H', I', q⟩ := q
    exact ⟨σ', H', I', hw.1 _ _ q⟩
  | ret v => exact q
  | brk => exact q
  | cont => exact q
section
variable {P : Program} {w : World} {K : PySem.W.Frag} {mg : Str → Option Value} {base : Heap}
def spLaw (K : PySem.W.Frag) (T : List (Addr × Str)) : Sp := fun vs H Q _ => ∃ (a : Addr) (ns : List Int), vs = [.ref a] ∧ Fz K H a (ns.map V.int) ∧ Tabs T H ∧ ∀ H', Q (.bl true) H'
end
end RH
set_option Elab.async false
set_option linter.all false
set_option maxRecDepth 100000
set_option maxHeartbeats 2000000
namespace RH
open PySem PySem.Spec PyProof.Rows L2
open LamX (Tabs TabS TabB ExtN CodeO codeO_ne)
/-! ### what is due -/
/-! ### lists of scalars -/
theorem Each.app {α : Type} {R : V → α → Prop} : ∀ {xs ys : List V} {ds es : List α}, Each R xs ds → Each R ys es → Each R (xs ++ ys) (ds ++ es)
  | _, _, _, _, .nil, h => h
  | _, _, _, _, .cons k t, h => .cons k (t.app h)
theorem Each.take {α : Type} {R : V → α → Prop} : ∀ {xs : List V} {ds : List α} (k : Nat), Each R xs ds → Each R (xs.take k) (ds.take k)
  | _, _, 0, _ => .nil
  | _, _, _ + 1, .nil => .nil
  | _, _, k + 1, .cons h t => .cons h (t.take k)
theorem Each.drop {α : Type} {R : V → α → Prop} : ∀ {xs : List V} {ds : List α} (k : Nat), Each R xs ds → Each R (xs.drop k) (ds.drop k)
  | _, _, 0, h => h
  | _, _, _ + 1, .nil => .nil
  | _, _, k + 1, .cons _ t => t.drop k
theorem filter_head0 {α : Type} (f : α → Bool) : ∀ l : List α, (l.filter f).head?.isSome = (l.find? f).isSome
  | [] => rfl
  | a :: l => by
    by_cases h : f a = true
    · rw [List.filter_cons_of_pos h, List.find?_cons_of_pos h]
      rfl
    · rw [List.filter_cons_of_neg h, List.find?_cons_of_neg h]
      exact filter_head0 f l
/-- a pair tells -/
theorem gp_filter (lot : List Int) (x y : Int) : gpT lot [x, y] = !decide (lot.filter (fun r => !decide (decide (x = r) = decide (y = r))) = []) := by
  have e : ∀ r : Int, (decide (r = x) != decide (r = y)) = !decide (decide (x = r) = decide (y = r)) := fun r => by
    by_cases hx : x = r
    · by_cases hy : y = r
      · simp [hx, hy]
      · have hx' : r = x := hx.symm
        have hy' : ¬ r = y := fun z => hy z.symm
        simp [hx, hy, hy']
    · by_cases hy : y = r
      · have hx' : ¬ r = x := fun z => hx z.symm
        simp [hx, hy, hx']
      · have hx' : ¬ r = x := fun z => hx z.symm
        have hy' : ¬ r = y := fun z => hy z.symm
        simp [hx, hy, hx', hy']
  have e2 : gpT lot [x, y] = (lot.find? fun r => !decide (decide (x = r) = decide (y = r))).isSome := by
    show (lot.find? fun r => decide (r = x) != decide (r = y)).isSome = _
    congr 2
    funext r
    exact e r
  rw [e2, ← filter_head0]
  cases lot.filter (fun r => !decide (decide (x = r) = decide (y = r))) with
  | nil => rfl
  | cons a l => rfl
/-- what the law has gathered of the first pairs -/
structure FarP (lot : List Int) (pre : List (List Int × V)) (fs : List Int) : Prop where
  at_ : ∀ k ∈ fs, ∃ q ∈ pre, gpT lot q.1 = true ∧ q.2 = .int k
  all : ∀ q ∈ pre, gpT lot q.1 = true → ∃ k ∈ fs, q.2 = .int k
  len : fs.length ≤ pre.length
theorem FarP.no {lot : List Int} {pre : List (List Int × V)} {fs : List Int} {q : List Int × V} (F : FarP lot pre fs) (e : gpT lot q.1 = false) : FarP lot (pre ++ [q]) fs where
  at_ := fun k hk => let ⟨x, h1, h2⟩ := F.at_ k hk; ⟨x, List.mem_append_left _ h1, h2⟩
  all := fun x hx hg => by
    rcases List.mem_append.mp hx with z | z
    · exact F.all x z hg
    · rw [List.mem_singleton.mp z, e] at hg
      cases hg
  len := by
    have := F.len
    rw [List.length_append]
    omega
theorem FarP.yes {lot : List Int} {pre : List (List Int × V)} {fs : List Int} {q : List Int × V} {k : Int} (F : FarP lot pre fs) (e : gpT lot q.1 = true) (ek : q.2 = .int k) : FarP lot (pre ++ [q]) (fs ++ [k]) where
  at_ := fun j hj => by
    rcases List.mem_append.mp hj with z | z
    · obtain ⟨x, h1, h2⟩ := F.at_ j z
      exact ⟨x, List.mem_append_left _ h1, h2⟩
    · rw [List.mem_singleton.mp z]
      exact ⟨q, List.mem_append_right _ (List.mem_singleton.mpr rfl), e, ek⟩
  all := fun x hx hg => by
    rcases List.mem_append.mp hx with z | z
    · obtain ⟨j, h1, h2⟩ := F.all x z hg
      exact ⟨j, List.mem_append_left _ h1, h2⟩
    · rw [List.mem_singleton.mp z]
      exact ⟨k, List.mem_append_right _ (List.mem_singleton.mpr rfl), ek⟩
  len := by
    have := F.len
    rw [List.length_append, List.length_append]
    show _ + 1 ≤ _ + 1
    omega
/-! ### habits, compared -/
theorem shaped_hab (ls : List (List Int)) : SeqAt.shaped (.tuple (ls.map fun s => .tuple (s.map PyData.int))) = true := by
  have h1 : ∀ ls : List (List Int), PyData.canLayAll0 (ls.map fun s => .tuple (s.map PyData.int)) = true := by
    intro ls
    induction ls with
    | nil => rfl
    | cons a ls ih => simp [PyData.canLayAll0, PyData.canLay0, PySem.W.ke_canLayAll0, ih]
  have h2 : ∀ ls : List (List Int), PyData.depthAll (ls.map fun s => .tuple (s.map PyData.int)) ≤ 2 := by
    intro ls
    induction ls with
    | nil => decide
    | cons a ls ih =>
      simp [PyData.depthAll, PyData.depth, PySem.W.ke_depthAll]
      omega
  simp [SeqAt.shaped, PyData.canLay0, PyData.depth, h1]
  have := h2 ls
  omega
theorem eqv_hab (h o : List (List Int)) : PyData.eqv (.tuple (h.map fun s => .tuple (s.map PyData.int))) (.tuple (o.map fun s => .tuple (s.map PyData.int))) = decide (h = o) := by
  rw [PyData.eqv]
  induction h generalizing o with
  | nil =>
    cases o with
    | nil => rfl
    | cons b o => rfl
  | cons a h ih =>
    cases o with
    | nil => rfl
    | cons b o =>
      rw [List.map_cons, List.map_cons, PyData.eqvAll, eqv_tup, ih]
      rw [Bool.eq_iff_iff, Bool.and_eq_true, decide_eq_true_iff, decide_eq_true_iff, decide_eq_true_iff, List.cons.injEq]
theorem res_non {K : PySem.W.Frag} {H : Hp} {val : V} {res : Option (Int × List Int × Int)} (h : ResV K H val res) : decide (val = .non) = decide (res = none) := by
  cases res with
  | none =>
    have e : val = .non := h
    rw [e]
    rfl
  | some r3 =>
    obtain ⟨pl, w, r⟩ := r3
    obtain ⟨t, aw, rfl, _⟩ := h
    rfl
/-- the odd values of a turn -/
structure Som (K : PySem.W.Frag) (H : Hp) (p aw t1 q2 lw t3 t4 d5 t6 t7 : Addr) (ws : List Int) : Prop where
  nq : q2 ≠ p
  nl : lw ≠ p
  e1 : H t1 = some (.tup [.int 0, .ref aw])
  e2 : H q2 = some (.lst [.int 0, .ref aw, .int 0])
  el : H lw = some (.lst (ws.map V.int))
  e3 : H t3 = some (.tup [.int 0, .ref lw, .int 0])
  e4 : H t4 = some (.tup [.int 0, .int 0, .int 0])
  e5 : H d5 = some (.dK [])
  e6 : H t6 = some (.tup [.bl true, .ref aw, .int 0])
  e7 : H t7 = some (.tup [.int 0, .ref aw, .non])
  hW : SqT K H aw (ws.map V.int)
section
variable {K : PySem.W.Frag} {H H' : Hp} {p aw t1 q2 lw t3 t4 d5 t6 t7 : Addr} {ws : List Int}
theorem Som.step (s : Som K H p aw t1 q2 lw t3 t4 d5 t6 t7 ws) (f : Fix H H') (b : But p H H') : Som K H' p aw t1 q2 lw t3 t4 d5 t6 t7 ws :=
  ⟨s.nq, s.nl, f _ _ s.e1 (fun _ z => nomatch z), b _ _ s.e2 s.nq, b _ _ s.el s.nl, f _ _ s.e3 (fun _ z => nomatch z), f _ _ s.e4 (fun _ z => nomatch z), f _ _ s.e5 (fun _ z => nomatch z), f _ _ s.e6 (fun _ z => nomatch z), f _ _ s.e7 (fun _ z => nomatch z), f.tups _ _ s.hW⟩
theorem Som.same (s : Som K H p aw t1 q2 lw t3 t4 d5 t6 t7 ws) (e : Same H H') : Som K H' p aw t1 q2 lw t3 t4 d5 t6 t7 ws := s.step (Fix.same e) (But.same e)
theorem Som.kind (s : Som K H p aw t1 q2 lw t3 t4 d5 t6 t7 ws) (hl : ws.length ≤ 900) {i : Nat} {x : V} (hx : ([.non, .ref t1, .ref q2, .ref t3, .ref t4, .ref d5, .ref t6, .ref t7] : List V)[i]? = some x) : ∃ vr, Vk K H x vr := by
  have hT : TI K H (.ref aw) ws := ⟨aw, rfl, s.hW⟩
  match i, hx with
  | 0, e =>
    cases Option.some.inj e
    exact ⟨_, .non⟩
  | 1, e =>
    cases Option.some.inj e
    exact ⟨_, .bad (.tup (tupAt s.e1)) rfl⟩
  | 2, e =>
    cases Option.some.inj e
    exact ⟨_, .bad (.lst (lstAt s.e2)) rfl⟩
  | 3, e =>
    cases Option.some.inj e
    exact ⟨_, .tri (tupAt s.e3) (.int 0) (.int 0) (.lst (lstAt s.el))⟩
  | 4, e =>
    cases Option.some.inj e
    exact ⟨_, .tri (tupAt s.e4) (.int 0) (.int 0) (.int 0)⟩
  | 5, e =>
    cases Option.some.inj e
    exact ⟨_, .bad (.dct s.e5) rfl⟩
  | 6, e =>
    cases Option.some.inj e
    exact ⟨_, .tri (tupAt s.e6) .bl (.int 0) (.tup hT hl)⟩
  | 7, e =>
    cases Option.some.inj e
    exact ⟨_, .tri (tupAt s.e7) (.int 0) .non (.tup hT hl)⟩
  | i + 8, e => simp at e
end
end RH
set_option Elab.async false
set_option linter.all false
set_option maxRecDepth 100000
set_option maxHeartbeats 2000000
namespace RH
open PySem PySem.Spec PyProof.Rows L2
open NdefX (NScope CellsAt Caps slotAt cells_of startF ncx)
/-! ### the search for depths, over nested keys -/
theorem KX.on {H H' : Hp} {b : Addr} {s : List Int} (h : KX H b s) (e : TK H H') : KX H' b s := e _ _ h
section
variable {P : Program} {w : World} {K : PySem.W.Frag} {mg : Str → Option Value} {base : Heap}
/-- the value of a state is the length of its word -/
def valD (q : SW) : List Int × V := (q.1, .int (q.2.length : Nat))
theorem valD_fst (l : List SW) : (l.map valD).map Prod.fst = l.map Prod.fst := by
  rw [List.map_map]
  rfl
def preD (P : Program) (w : World) (K : PySem.W.Frag) (mg : Str → Option Value) (base : Heap) (g : GL) : List Env → Shared → Hp → Prop := fun outer s H => Callable P w K mg base CX0 2 g.f g.live (spStepG g.st g.ts g.C) outer s H
def spDepths (P : Program) (w : World) (K : PySem.W.Frag) (g : GL) : Sp := fun vs H Q _ => ∃ (a t : Addr) (L : List Int) (most : Nat), vs = [.ref a, .ref t, .ref g.f, .int (most : Nat)] ∧ KX H a L ∧ SqT K H t (g.ts.map V.int) ∧
  (∀ H', Same H H' → g.live H') ∧ Sys g.st g.ts g.C g.U ∧ g.C L ∧ g.U.length ≤ most ∧
  ∀ (H' : Hp) (d : Addr) (k : Nat) (bs : List Addr), Same H H' → H d = none → H' d = some (DE P w ((fd g.st g.ts L k).map valD) bs d) → KB H' ((fd g.st g.ts L k).map valD) bs → lv g.st g.ts L k = [] → Q (.ref d) H'
theorem ok_depths {f : Addr} {fdat : FuncData} (F : Fun K "depths" "depths" st_depths f fdat) (B : Bu mg) (g : GL) : FnC P w K mg base CX0 3 f fdat ["start", "touches", "step", "most"] (preD P w K mg base g) (spDepths P w K g) := by
  refine fnC_of F sc_depths (fun vs H Q E h => ?_) (fun cdv A outer s H vs Q E hr hP h => ?_)
  · obtain ⟨a, t, L, most, rfl, _⟩ := h
    rfl
  · obtain ⟨a, t, L, most, rfl, ha, ht, hlive, sy, hL, hmost, q⟩ := h
    refine ⟨_, pss_cons (ps_set (i := 4) sc_depths.nd rfl (.inl rfl) (pe_disp1E hr.units0 (pv 0) pe_int))
      (pss_cons (ps_set (i := 5) sc_depths.nd rfl (.inl rfl) (pe_lst (pa_cons (pv 0) pa_nil)))
      (pss_cons (ps_while PassesOwn.never (PW.pt (pw_and (pt_truth (pv 5) (by intro _; rfl)) (pw_and1 (pt_cmpR op_le (pe_callB call_lenE (by rfl) B.len PySem.boot_len (pa_cons (pv 4) pa_nil)) (pv 3) (nomark _)))))
        (pss_cons (ps_set (i := 6) sc_depths.nd rfl (.inl rfl) (pe_lst pa_nil))
        (pss_cons (ps_for PassesOwn.never rfl (pi_list (pv 5)) (pg_name (i := 7) sc_depths.nd rfl (Or.inl rfl))
          (pss_one (ps_for PassesOwn.never rfl (pi_tup (pv 1)) (pg_name (i := 8) sc_depths.nd rfl (Or.inl rfl))
            (pss_cons (ps_set (i := 9) sc_depths.nd rfl (.inl rfl) (pe_can hP rfl hr (by decide) pass0 (i := 2) rfl (Or.inl rfl) (pa_cons (pv 7) (pa_cons (pv 8) pa_nil))))
            (pss_one (ps_if (pt_cmp (pc_dnotinE (hu_of hr) (pv 9) (pv 4)))
              (pss_cons (ps_dputE (hu_of hr) (pv 4) (pv 9) (pe_op op_add (pe_dgetE (hu_of hr) (pv 4) (pv 7) (fun _ _ => rfl)) pe_int) rfl)
              (pss_one (ps_expr (pe_bm PySem.F.plainAttrs_list PySem.F.slot_list_append PySem.F.type_list_append mt_append (pv 6) (pa_cons (pv 9) pa_nil))))) pss_nil))))))
        (pss_one (ps_set (i := 5) sc_depths.nd rfl (.inl rfl) (pv 6))))))
      (pss_one (ps_ret (pv 4))))), ?_⟩
    intro d hd
    refine ⟨_, rfl, upd_same, a, L, rfl, ha.on (TK.same (same_new hd)), ?_⟩
    have hd1 : Same H (upd (upd H d (DE P w [] [] d)) d (DE P w [(L, .int 0)] [a] d)) := Same.upd (same_new hd) hd
    refine ⟨_, rfl, by show 1 ≤ sizeLine; decide, fun l hl => ?_⟩
    refine ⟨fun m σ H' => ∃ (k : Nat) (ks : List Addr) (xs : List V) (l : Addr), m = mea g.st g.ts L k ∧ (∃ y6 y7 y8 y9, σ = [some (.ref a), some (.ref t), some (.ref g.f), some (.int (most : Nat)), some (.ref d), some (.ref l), y6, y7, y8, y9]) ∧
      Same H H' ∧ H' d = some (DE P w ((fd g.st g.ts L k).map valD) ks d) ∧ KB H' ((fd g.st g.ts L k).map valD) ks ∧ H' l = some (.lst xs) ∧ EX H' xs ((lv g.st g.ts L k).map Prod.fst), ⟨mea g.st g.ts L 0, 0, [a], [.ref a], l, rfl, ⟨none, none, none, none, rfl⟩, hd1.trans (same_new hl), same_new hl _ _ upd_same, ?_, upd_same, ?_⟩, ?_⟩
    · exact .cons (ha.on (TK.same (hd1.trans (same_new hl)))) .nil
    · exact .cons (ha.on (TK.same (hd1.trans (same_new hl)))) .nil
    rintro m σ H1 ⟨k, ks, xs, l, rfl, ⟨y6, y7, y8, y9, rfl⟩, sm, eD, kb, eL, hE⟩
    have lx : xs.length = (lv g.st g.ts L k).length := hE.len.trans (List.length_map ..)
    refine ⟨_, rfl, !xs.isEmpty, .inl ⟨xs, lstAt eL, rfl⟩, ite2 (fun ex => ?_) (fun ex => ?_)⟩
    · have hne : lv g.st g.ts L k ≠ [] := by
        intro z
        rw [z] at lx
        rw [List.eq_nil_of_length_eq_zero lx] at ex
        cases ex
      have hlen : (fd g.st g.ts L k).length ≤ g.U.length := by
        have z := nd_len (m := g.U) (fd_nd (st := g.st) (ts := g.ts) (L := L) k) fun x hx => by
          obtain ⟨y, hy, rfl⟩ := List.mem_map.mp hx
          exact sy.few _ (sy.fd_C hL k y hy)
        rwa [List.length_map] at z
      refine ⟨_, rfl, d, _, ks, rfl, eD, kb, _, rfl, _, (most : Int), rfl, rfl, _, rfl, ifT (decide_eq_true (by rw [List.length_map]; omega)) ?_⟩
      refine ⟨fun σ' H' => ∃ m', m' < mea g.st g.ts L k ∧ ∃ (k : Nat) (ks : List Addr) (xs : List V) (l : Addr), m' = mea g.st g.ts L k ∧ (∃ y6 y7 y8 y9, σ' = [some (.ref a), some (.ref t), some (.ref g.f), some (.int (most : Nat)), some (.ref d), some (.ref l), y6, y7, y8, y9]) ∧
        Same H H' ∧ H' d = some (DE P w ((fd g.st g.ts L k).map valD) ks d) ∧ KB H' ((fd g.st g.ts L k).map valD) ks ∧ H' l = some (.lst xs) ∧ EX H' xs ((lv g.st g.ts L k).map Prod.fst), fun _ _ h => h, ?_⟩
      refine ⟨Nat.zero_le _, fun u hu => ?_⟩
      have su := same_new (o := .lst []) hu
      have hlu : l ≠ u := ne_of_none eL hu
      have huH := none_of sm hu
      refine ⟨_, rfl, l, rfl, ⟨_, lstAt (su _ _ eL)⟩, ?_⟩
      refine for_list (xs := xs) (fun i σ H' => MidB P w H g.st g.ts L (fun _ l as => as = l.map valD) k d l u xs i 0 H' ∧ ∃ y7 y8 y9, σ = [some (.ref a), some (.ref t), some (.ref g.f), some (.int (most : Nat)), some (.ref d), some (.ref l), some (.ref u), y7, y8, y9])
        ⟨⟨_, ks, [], sm.trans su, su _ _ eD, kb.on (TK.same su), ?_, ?_, su _ _ eL, hE.on (TK.same su), upd_same, ?_⟩, _, _, _, rfl⟩ (fun i σ H' _ h' => ?_) (fun i x σ H2 hx h' => ?_) (fun σ H2 h' => ?_)
      · rw [Nat.zero_mul, prt_zero, List.append_nil, valD_fst]
      · rw [Nat.zero_mul, prt_zero, List.append_nil]
      · rw [Nat.zero_mul, prt_zero]
        exact .nil
      · obtain ⟨⟨_, _, _, _, _, _, _, _, e, _⟩, _⟩ := h'
        exact lstAt e
      · obtain ⟨hM, z7, z8, z9, rfl⟩ := h'
        obtain ⟨q0, b, hq0, rfl, _⟩ := lv_row hE hx
        have hp0 := sy.lv_C hL k q0 (List.mem_of_getElem? hq0)
        refine ⟨_, rfl, t, rfl, ⟨_, onT (hM.choose_spec.choose_spec.choose_spec.1) ht⟩, ?_⟩
        refine for_tup (xs := g.ts.map V.int) (fun j σ H' => MidB P w H g.st g.ts L (fun _ l as => as = l.map valD) k d l u xs i j H' ∧ ∃ y8 y9, σ = [some (.ref a), some (.ref t), some (.ref g.f), some (.int (most : Nat)), some (.ref d), some (.ref l), some (.ref u), some (.ref b), y8, y9])
          ⟨hM, _, _, rfl⟩ (fun j σ H' _ h' => onT (h'.1.choose_spec.choose_spec.choose_spec.1) ht) (fun j x2 σ H3 hx2 h' => ?_) (fun σ H3 h' => ?_)
        · obtain ⟨⟨bs, ks, us, sm3, eD3, kb3, hf3, hv3, eL3, hE3, eU3, hF3⟩, w8, w9, rfl⟩ := h'
          obtain ⟨pj, hpj, rfl⟩ := map_at hx2
          obtain ⟨q0', b', hq0', eb', hb3⟩ := lv_row hE3 hx
          cases eb'
          rw [hq0] at hq0'
          cases hq0'
          have hfew := sy.prt_few hL k (i * g.ts.length + j)
          have blen : bs.length ≤ 120 := by
            have := congrArg List.length hf3
            rw [List.length_map, List.length_map] at this
            omega
          have ulen : us.length ≤ 120 := by
            have h1 := hF3.len
            rw [List.length_map] at h1
            rw [List.length_append] at hfew
            omega
          refine ⟨rfl, hlive _ sm3, _, rfl, _, rfl, hlive _ sm3, b, q0.1, pj, rfl, hb3, hp0, List.mem_of_getElem? hpj, fun H4 qn s4 nq eq4 => ?_⟩
          have sm4 := sm3.trans s4
          have eD4 := s4 _ _ eD3
          have eU4 := s4 _ _ eU3
          have kb4 := kb3.on (TK.same s4)
          refine ⟨_, rfl, _, rfl, d, qn, bs, ks, g.st pj q0.1, rfl, rfl, eD4, kb4, eq4, _, rfl, ?_⟩
          by_cases hm : g.st pj q0.1 ∈ bs.map Prod.fst
          · have hm2 := hm
            rw [hf3] at hm2
            have ep := prt_old hq0 hpj hm2
            refine ifF (by rw [decide_eq_true hm]; rfl) ⟨⟨bs, ks, us, sm4, eD4, kb4, ?_, ?_, s4 _ _ eL3, hE3.on (TK.same s4), eU4, ?_⟩, _, _, rfl⟩
            · rw [show i * g.ts.length + (j + 1) = i * g.ts.length + j + 1 from rfl, ep]
              exact hf3
            · rw [show i * g.ts.length + (j + 1) = i * g.ts.length + j + 1 from rfl, ep]
              exact hv3
            · rw [show i * g.ts.length + (j + 1) = i * g.ts.length + j + 1 from rfl, ep]
              exact hF3.on (TK.same s4)
          · have hm2 := hm
            rw [hf3] at hm2
            have ep := prt_new hq0 hpj hm2
            refine ifT (by rw [decide_eq_false hm]; rfl) ?_
            have hold : q0.1 ∈ bs.map Prod.fst := by
              rw [hf3, List.map_append]
              exact List.mem_append_left _ (List.mem_map.mpr ⟨q0, lv_fd (List.mem_of_getElem? hq0), rfl⟩)
            refine ⟨_, rfl, _, rfl, d, b, bs, ks, q0.1, rfl, rfl, eD4, kb4, hb3.on (TK.same s4), hold, fun v hvm => ?_⟩
            have evk : v = .int (k : Nat) := by
              rw [hv3] at hvm
              obtain ⟨y, hy, ey⟩ := List.mem_map.mp hvm
              have ey2 : (y.1, V.int (y.2.length : Nat)) = (q0.1, v) := ey
              have e1 : y.1 = q0.1 := (Prod.mk.inj ey2).1
              have e2 : V.int (y.2.length : Nat) = v := (Prod.mk.inj ey2).2
              have h1 := prt_fd hy
              have h2 : q0 ∈ fd g.st g.ts L (k + 1) := fd_mono (Nat.le_succ k) (lv_fd (List.mem_of_getElem? hq0))
              have e3 := fd_val (s := q0.1) (w := y.2) (w' := q0.2) (by rw [← e1]; exact h1) h2
              rw [← e2, e3, lv_len k q0 (List.mem_of_getElem? hq0)]
            subst evk
            refine ⟨(k : Nat), 1, rfl, rfl, _, rfl, _, rfl, d, qn, bs, ks, g.st pj q0.1, rfl, rfl, eD4, kb4, eq4, hm, (by rw [sizeLine_eq]; omega), ?_⟩
            have tk5 : TK H4 (upd H4 d (DE P w (bs ++ [(g.st pj q0.1, V.int ((k : Nat) + 1 : Int))]) (ks ++ [qn]) d)) := TK.upd eD4 not_tup_d
            have eU5 : (upd H4 d (DE P w (bs ++ [(g.st pj q0.1, V.int ((k : Nat) + 1 : Int))]) (ks ++ [qn]) d)) u = some (.lst us) := by
              rw [upd_ne (ne_of eU4 eD4 (fun z => nomatch z))]
              exact eU4
            have eL5 : (upd H4 d (DE P w (bs ++ [(g.st pj q0.1, V.int ((k : Nat) + 1 : Int))]) (ks ++ [qn]) d)) l = some (.lst xs) := by
              rw [upd_ne (ne_of (s4 _ _ eL3) eD4 (fun z => nomatch z))]
              exact s4 _ _ eL3
            have sm5 : Same H (upd H4 d (DE P w (bs ++ [(g.st pj q0.1, V.int ((k : Nat) + 1 : Int))]) (ks ++ [qn]) d)) := Same.upd sm4 hd
            have eD5 : (upd H4 d (DE P w (bs ++ [(g.st pj q0.1, V.int ((k : Nat) + 1 : Int))]) (ks ++ [qn]) d)) d = some (DE P w (bs ++ [(g.st pj q0.1, V.int ((k : Nat) + 1 : Int))]) (ks ++ [qn]) d) := upd_same
            have kb5 : KB (upd H4 d (DE P w (bs ++ [(g.st pj q0.1, V.int ((k : Nat) + 1 : Int))]) (ks ++ [qn]) d)) (bs ++ [(g.st pj q0.1, V.int ((k : Nat) + 1 : Int))]) (ks ++ [qn]) := (kb4.on tk5).snoc (q := (g.st pj q0.1, V.int ((k : Nat) + 1 : Int))) (b := qn) (eq4.on tk5)
            have hq5 := eq4.on tk5
            refine ⟨_, rfl, .inl ⟨rfl, _, lstAt eU5⟩, _, rfl, u, us, .ref qn, rfl, rfl, eU5, (by rw [sizeLine_eq]; omega), ?_⟩
            have tk6 : TK (upd H4 d (DE P w (bs ++ [(g.st pj q0.1, V.int ((k : Nat) + 1 : Int))]) (ks ++ [qn]) d)) (upd (upd H4 d (DE P w (bs ++ [(g.st pj q0.1, V.int ((k : Nat) + 1 : Int))]) (ks ++ [qn]) d)) u (.lst (us ++ [.ref qn]))) := TK.upd eU5 not_tup_l
            have tk46 := (TK.same s4).trans (tk5.trans tk6)
            refine ⟨⟨bs ++ [(g.st pj q0.1, V.int ((k : Nat) + 1 : Int))], ks ++ [qn], us ++ [.ref qn], Same.upd sm5 huH, ?_, kb5.on tk6, ?_, ?_, ?_, hE3.on tk46, upd_same, ?_⟩, _, _, rfl⟩
            · rw [upd_ne (ne_of eD5 eU5 (fun z => nomatch z))]
              exact eD5
            · rw [show i * g.ts.length + (j + 1) = i * g.ts.length + j + 1 from rfl, ep, ← List.append_assoc]
              exact fst_snoc hf3 rfl
            · rw [show i * g.ts.length + (j + 1) = i * g.ts.length + j + 1 from rfl, ep, ← List.append_assoc]
              show bs ++ _ = List.map valD _
              rw [List.map_append, ← hv3]
              congr 1
              show [(g.st pj q0.1, V.int ((k : Nat) + 1 : Int))] = [valD (g.st pj q0.1, q0.2 ++ [pj])]
              unfold valD
              rw [List.length_append, lv_len k q0 (List.mem_of_getElem? hq0)]
              rfl
            · rw [upd_ne hlu]
              exact eL5
            · rw [show i * g.ts.length + (j + 1) = i * g.ts.length + j + 1 from rfl, ep, List.map_append]
              exact EX.snoc (hq5.on tk6) (hF3.on tk46)
        · obtain ⟨hM3, w8, w9, rfl⟩ := h'
          rw [List.length_map] at hM3
          exact ⟨hM3.row, _, _, _, rfl⟩
      · obtain ⟨⟨bs, ks, us, sm3, eD3, kb3, hf3, hv3, eL3, hE3, eU3, hF3⟩, w7, w8, w9, rfl⟩ := h'
        rw [lx, Nat.add_zero, prt_all] at hv3 hF3
        subst hv3
        exact ⟨_, rfl, mea g.st g.ts L (k + 1), sy.mea_less hL hne, k + 1, ks, us, u, rfl, ⟨_, _, _, _, rfl⟩, sm3, eD3, kb3, eU3, hF3⟩
    · have hnil : lv g.st g.ts L k = [] := by
        cases xs with
        | nil => exact List.eq_nil_of_length_eq_zero lx.symm
        | cons x r => exact absurd rfl ex
      refine ifF rfl ⟨_, rfl, q H1 d k ks sm hd eD kb hnil⟩
end
end RH
set_option Elab.async false
set_option linter.all false
set_option maxRecDepth 100000
set_option maxHeartbeats 2000000
namespace RH
open PySem PySem.Spec PyProof.Rows L2
open LamX (Tabs TabS TabB ExtN CodeO codeO_ne)
/-! ### papers of pairs: what they hold -/
abbrev cd : List Int → Int := TS.code 10
/-- strictly ascending -/
def Asc (ls : List (List Int)) : Prop := ls.Pairwise fun s t => cd s < cd t
/-- two that ascend by f and hold the same are the same -/
theorem by_eq {α : Type} {f : α → Int} : ∀ {a b : List α}, a.Pairwise (fun s t => f s < f t) → b.Pairwise (fun s t => f s < f t) → (∀ s, s ∈ a ↔ s ∈ b) → a = b
  | [], [], _, _, _ => rfl
  | [], y :: b, _, _, h => absurd ((h y).mpr List.mem_cons_self) List.not_mem_nil
  | x :: a, [], _, _, h => absurd ((h x).mp List.mem_cons_self) List.not_mem_nil
  | x :: a, y :: b, hx, hy, h => by
    obtain ⟨x1, x2⟩ := List.pairwise_cons.mp hx
    obtain ⟨y1, y2⟩ := List.pairwise_cons.mp hy
    have e : x = y := by
      rcases List.mem_cons.mp ((h x).mp List.mem_cons_self) with e | m1
      · exact e
      · rcases List.mem_cons.mp ((h y).mpr List.mem_cons_self) with e | m2
        · exact e.symm
        · have := x1 _ m2
          have := y1 _ m1
          omega
    subst e
    rw [by_eq x2 y2 fun k => ⟨fun m => ?_, fun m => ?_⟩]
    · rcases List.mem_cons.mp ((h k).mp (List.mem_cons_of_mem _ m)) with e | m'
      · subst e
        have := x1 _ m
        omega
      · exact m'
    · rcases List.mem_cons.mp ((h k).mpr (List.mem_cons_of_mem _ m)) with e | m'
      · subst e
        have := y1 _ m
        omega
      · exact m'
theorem cd_pair (x y : Int) : cd [x, y] = x * 10 + y := by
  show x * 10 ^ 1 + (y * 10 ^ 0 + 0) = x * 10 + y
  have e1 : (10 : Int) ^ 1 = 10 := by decide
  have e0 : (10 : Int) ^ 0 = 1 := by decide
  rw [e1, e0]
  omega
theorem CP.bd {n : Nat} {s : List Int} (h : CP n s) (h5 : n ≤ 5) : s.length = 2 ∧ TS.Bd 10 s := by
  obtain ⟨a, b, rfl, ⟨a0, a1⟩, b0, b1⟩ := h
  refine ⟨rfl, fun m hm => ?_⟩
  rcases List.mem_cons.mp hm with rfl | hm
  · omega
  · rw [List.mem_singleton.mp hm]
    omega
theorem cd_inj {n : Nat} {s t : List Int} (h5 : n ≤ 5) (hs : CP n s) (ht : CP n t) (e : cd s = cd t) : s = t := by
  obtain ⟨a, b, rfl, ⟨a0, a1⟩, b0, b1⟩ := hs
  obtain ⟨c, d, rfl, ⟨c0, c1⟩, d0, d1⟩ := ht
  rw [cd_pair, cd_pair] at e
  have h1 : a = c := by omega
  have h2 : b = d := by omega
  rw [h1, h2]
theorem asc_of {n : Nat} {ls : List (List Int)} (h5 : n ≤ 5) (hc : ∀ s ∈ ls, CP n s) (nd : ls.Nodup) (p : ls.Pairwise fun s t => cd s ≤ cd t) : Asc ls := by
  refine List.Pairwise.imp_of_mem (fun {s t} hs ht h => ?_) (p.and nd)
  have := h.1
  have : cd s ≠ cd t := fun e => h.2 (cd_inj h5 (hc s hs) (hc t ht) e)
  omega
theorem EX.ks {H : Hp} : ∀ {xs : List V} {ls : List (List Int)}, EX H xs ls → ∃ ks : List (Addr × List Int), xs = ks.map (fun p => V.ref p.1) ∧ ls = ks.map (·.2) ∧ ∀ p ∈ ks, KX H p.1 p.2
  | _, _, .nil => ⟨[], rfl, rfl, fun _ h => nomatch h⟩
  | _, _, .cons (b := b) (s := s) k t => by
    obtain ⟨ks, e1, e2, h⟩ := t.ks
    refine ⟨(b, s) :: ks, by rw [e1]; rfl, by rw [e2]; rfl, fun p hp => ?_⟩
    rcases List.mem_cons.mp hp with rfl | hp
    · exact k
    · exact h p hp
theorem ex_ks {H : Hp} : ∀ {ks : List (Addr × List Int)}, (∀ p ∈ ks, KX H p.1 p.2) → EX H (ks.map fun p => V.ref p.1) (ks.map (·.2))
  | [], _ => .nil
  | p :: ks, h => .cons (h p List.mem_cons_self) (ex_ks fun q hq => h q (List.mem_cons_of_mem _ hq))
/-! how many pairs no test tells -/
def selB (b0 b1 b2 b3 b4 : Bool) (x : Int) : Bool := if x = 0 then b0 else if x = 1 then b1 else if x = 2 then b2 else if x = 3 then b3 else b4
set_option maxRecDepth 100000 in
theorem nt_few : ∀ n, n < 6 → ∀ b0 b1 b2 b3 b4 : Bool, ((rg n).filter (selB b0 b1 b2 b3 b4)).length * ((UP n).filter fun s => !gpT ((rg n).filter (selB b0 b1 b2 b3 b4)) s).length < 64 := by decide +kernel
theorem UP_25 : ∀ n, n < 6 → (UP n).length ≤ 25 := by decide +kernel
theorem lot_sel {n : Nat} {lot : List Int} (h5 : n ≤ 5) (hin : ∀ i ∈ lot, InR n i) (hri : lot.Pairwise (· < ·)) : lot = (rg n).filter (selB (decide (0 ∈ lot)) (decide (1 ∈ lot)) (decide (2 ∈ lot)) (decide (3 ∈ lot)) (decide (4 ∈ lot))) := by
  have sel : ∀ x, 0 ≤ x → x < 5 → selB (decide (0 ∈ lot)) (decide (1 ∈ lot)) (decide (2 ∈ lot)) (decide (3 ∈ lot)) (decide (4 ∈ lot)) x = decide (x ∈ lot) := fun x h0 h1 => by
    have : x = 0 ∨ x = 1 ∨ x = 2 ∨ x = 3 ∨ x = 4 := by omega
    rcases this with rfl | rfl | rfl | rfl | rfl <;> rfl
  refine by_eq (f := fun x : Int => x) hri ((rg_lt n).filter _) fun s => ?_
  rw [List.mem_filter]
  constructor
  · intro hs
    have := hin s hs
    refine ⟨rg_mem.mpr this, ?_⟩
    rw [sel s this.1 (by have := this.2; omega)]
    exact decide_eq_true hs
  · rintro ⟨h1, h2⟩
    have := rg_mem.mp h1
    rw [sel s this.1 (by have := this.2; omega)] at h2
    exact of_decide_eq_true h2
theorem lot_few {n : Nat} {lot : List Int} (h5 : n ≤ 5) (hin : ∀ i ∈ lot, InR n i) (hri : lot.Pairwise (· < ·)) : lot.length * ((UP n).filter fun s => !gpT lot s).length < 64 := by
  have := nt_few n (by omega) (decide (0 ∈ lot)) (decide (1 ∈ lot)) (decide (2 ∈ lot)) (decide (3 ∈ lot)) (decide (4 ∈ lot))
  rw [← lot_sel h5 hin hri] at this
  exact this
/-- the pairs that are gathered from the first i of the lot -/
structure PaI (h o : List (List Int)) (lot : List Int) (i : Nat) (ls : List (List Int)) : Prop where
  at_ : ∀ s ∈ ls, ∃ j, Rs h o lot j s
  all : ∀ pl ∈ lot.take i, ∀ w : List Int, (∀ p ∈ w, p ∈ lot) → [mark h pl w, mark o pl w] ∈ ls
  bd : ∀ N : List (List Int), (∀ s ∈ ls, s ∈ N) → ls.length ≤ i * N.length
theorem PaI.zero {h o : List (List Int)} {lot : List Int} : PaI h o lot 0 [] := ⟨fun _ z => (nomatch z), fun _ z => (nomatch z), fun _ _ => Nat.zero_le _⟩
theorem PaI.more {h o : List (List Int)} {lot : List Int} {i k : Nat} {ls : List (List Int)} {pl : Int} (P : PaI h o lot i ls) (hpl : lot[i]? = some pl) (hk : lv (stP h o) lot (fpr h o pl) k = []) :
    PaI h o lot (i + 1) (ls ++ (fd (stP h o) lot (fpr h o pl) k).map Prod.fst) where
  at_ := fun s hs => by
    rcases List.mem_append.mp hs with z | z
    · exact P.at_ s z
    · obtain ⟨q, hq, rfl⟩ := List.mem_map.mp z
      obtain ⟨e1, e2⟩ := fd_rn k q hq
      refine ⟨q.2.length, pl, List.mem_of_getElem? hpl, q.2, e2, rfl, ?_⟩
      rw [← rn_pair]
      exact e1
  all := fun p hp w hw => by
    rw [take_more hpl] at hp
    rcases List.mem_append.mp hp with z | z
    · exact List.mem_append_left _ (P.all p z w hw)
    · rw [List.mem_singleton.mp z]
      obtain ⟨x, hx, e⟩ := rn_all (st := stP h o) hk hw
      rw [rn_pair] at e
      exact List.mem_append_right _ (List.mem_map.mpr ⟨x, hx, e⟩)
  bd := fun N hN => by
    have h1 := P.bd N fun s hs => hN s (List.mem_append_left _ hs)
    have h2 := nd_len (m := N) (fd_nd (st := stP h o) (ts := lot) (L := fpr h o pl) k) fun s hs => hN s (List.mem_append_right _ hs)
    rw [List.length_append, Nat.succ_mul]
    omega
/-- a walk of any kind in a comprehension -/
theorem wkJ {J : It} {n : Nat} {step : (Hp → Prop) → V → Hp → Prop} {Fin : Hp → Prop} {H0 : Hp} (at_ : Nat → Hp → Prop) (start : at_ 0 H0) (go : ∀ i H, i < n → at_ i H → J.go i H ∧ ∀ x H', J.yld i H x H' → step (at_ (i + 1)) x H') (last : ∀ H, at_ n H → J.stop n H ∧ Fin H) :
    ∃ W : Nat → Nat → Hp → Prop, (∃ m, W 0 m H0) ∧ ∀ i m H, W i m H → (J.stop i H ∧ Fin H) ∨ (J.go i H ∧ ∃ Nx : Hp → Prop, (∀ H', Nx H' → ∃ m', m' < m ∧ W (i + 1) m' H') ∧ ∀ x H', J.yld i H x H' → step Nx x H') := by
  refine ⟨fun i m H => m + i = n ∧ at_ i H, ⟨n, rfl, start⟩, fun i m H ⟨e, p⟩ => ?_⟩
  cases m with
  | zero =>
    obtain rfl : i = n := by omega
    exact .inl (last H p)
  | succ m =>
    obtain ⟨g, y⟩ := go i H (by omega) p
    exact .inr ⟨g, at_ (i + 1), fun H' p' => ⟨m, Nat.lt_succ_self m, by omega, p'⟩, y⟩
section
variable {P : Program} {w : World} {K : PySem.W.Frag} {mg : Str → Option Value} {base : Heap}
/-- a step that was handed back may be called -/
theorem step_can {h o : List (List Int)} {n : Nat} {lot : List Int} (hb : Hb n h) (ho : Hb n o) (hin : ∀ i ∈ lot, InR n i) (f1 : Addr) (F1 : LF) (l : CL) (v1 u1 : V) (fe : ∃ q cl c, F1 = ⟨q, lamP lamA, lamB lamA, lamS lamA, cl, c⟩)
    (cap : Cap F1 ["habit", "other"] [v1, u1] l) : CallableA P w K mg base CX0 2 f1 (fun H' => LiveK f1 F1 l H' ∧ TII K H' v1 h ∧ TII K H' u1 o) (spStepG (stP h o) lot (CP n)) := by
  obtain ⟨qn, cl, cc, rfl⟩ := fe
  refine (callableA_kept (lokA (P := P) (w := w) (K := K) (mg := mg) (base := base) h o n lot qn cl cc f1) cap).imp (fun H' lv => lv.1) (fun vs H' Q E lv hs => ?_)
  obtain ⟨lk, t1, t2⟩ := lv
  obtain ⟨a, L, p, rfl, ha, hC, hp, q⟩ := hs
  refine ⟨v1, u1, rfl, t1.on (era_tups lk.st), t2.on (era_tups lk.st), hb, ho, hin, a, L, p, rfl, lk.st.rd ha, hC, hp, fun H2 q2 sm nq kx gone => ?_⟩
  have nl : l.lookup q2 = none := by
    cases e : l.lookup q2 with
    | none => rfl
    | some y =>
      have := gone q2 y e
      rcases kx with z | ⟨ob, z⟩
      · rw [this] at z
        cases z
      · rw [this] at z
        cases z
  refine q (lay l H2) q2 (lk.st.on sm) ((era_no nl).symm.trans nq) ?_
  rcases kx with z | ⟨ob, z⟩
  · exact .inl ((lay_no nl).trans z)
  · exact .inr ⟨ob, (lay_no nl).trans z⟩
theorem optV_not {lot s : List Int} : (!decide (optV (trd lot s) = V.non)) = gpT lot s := by
  unfold gpT
  cases trd lot s with
  | none => rfl
  | some r =>
    show (!decide (V.int r = V.non)) = true
    rw [decide_eq_false (fun z => nomatch z)]
    rfl
/-- what alike_paper hands back -/
def PapR (K : PySem.W.Frag) (H : Hp) (h o : List (List Int)) (lot : List Int) (val : V) : Prop := (val = .non ∧ ∃ j s, Rs h o lot j s ∧ gpT lot s = true) ∨
  ∃ a ys ls, val = .ref a ∧ SqT K H a ys ∧ EX H ys ls ∧ Asc ls ∧ (∀ s, s ∈ ls ↔ ∃ j, Rs h o lot j s) ∧ ∀ s ∈ ls, gpT lot s = false
def spPaper (K : PySem.W.Frag) (T : List (Addr × Str)) : Sp := fun vs H Q _ => ∃ (v u : V) (h o : List (List Int)) (n : Nat) (lv : V) (lot : List Int), vs = [v, u, lv] ∧ Two K H v u h o n lv lot ∧ Tabs T H ∧
  ∀ (H' : Hp) (val : V), ExtN H H' → Tabs T H' → PapR K H' h o lot val → Q val H'
abbrev NPa : List Str := ["habit", "other", "lot", "step", "pairs", "first", "pair"]
theorem ok_paper {T : List (Addr × Str)} (F : Df K mg "alike_paper" st_alike_paper ["habit", "other", "lot"]) (FD : Df K mg "depths" st_depths ["start", "touches", "step", "most"]) (B : Bu mg) (bany : mg "any" = none) (bset : mg "set" = none)
    (c25 : ∃ t, mg "MOST_PAIRS" = some (.int 25 t)) (C2 : Cal P w K mg base 8 "check_two" (spCheckTwo K)) (CPS : Cal P w K mg base 1 "pair_step" (spPairStep T)) (CFP : Cal P w K mg base 1 "first_pairs" (spFirst K)) (CTR : Cal P w K mg base 1 "telling_read" (spTelling K)) :
    Cal P w K mg base 9 "alike_paper" (spPaper K T) := by
  obtain ⟨fD, fdD, FunD, gD, bD⟩ := FD.ex
  refine mkCal F sc_alike_paper (fun vs H Q E h => ?_) (fun f cdv A outer s H vs Q E hr h => ?_)
  · obtain ⟨v, u, h, o, n, lv, lot, rfl, _⟩ := h
    rfl
  · obtain ⟨v, u, h, o, n, lv, lot, rfl, tw, hTb, q⟩ := h
    have hb := tw.hb
    have ho := tw.ho
    have hin := tw.hin
    have n5 := hb.hi
    have l2 := tw.l2
    obtain ⟨al, rfl, _⟩ := id tw.hL
    let preS : GL → L2.St → Hp → Prop := fun g σ H => ∃ (F1 : LF) (l : CL) (v1 u1 : V), StepL g.f F1 v1 u1 l H ∧ g.live = (fun H' => LiveK g.f F1 l H' ∧ TII K H' v1 h ∧ TII K H' u1 o) ∧ g.st = stP h o ∧ g.ts = lot ∧ g.C = CP n
    refine ⟨_, pss_cons (ps_expr (pc C2 hr (pa_cons (pv 0) (pa_cons (pv 1) (pa_cons (pv 2) pa_nil)))))
      (pss_cons (ps_set (i := 3) sc_alike_paper.nd rfl (.inr rfl) (pc CPS hr (pa_cons (pv 0) (pa_cons (pv 1) pa_nil))))
      (pss_cons (ps_setLc2 (i := 4) (own := [("first", 5), ("pair", 6)]) (vs1 := [6]) (wi1 := iKeysE P w (tCallC preS (fun g => spDepths P w K g) E0 (tCons (tVar 5) (tCons (tVar 2) (tCons (tVar 3) (tCons (tC (.int 25)) tNil))))))
          (g := gName 5) (tt := tYes) (g1 := gName 6) (tt1 := tYes) (te := tVar 6) rfl sc_alike_paper.nd rfl rfl (sw_true rfl rfl rfl (by decide +kernel)) (pi_list (pc CFP hr (pa_cons (pv 0) (pa_cons (pv 1) (pa_cons (pv 2) pa_nil)))))
          (blkOk_by (N := NPa) (sc := defScope st_alike_paper) (by decide +kernel)) (by decide) (fun _ _ _ _ _ => pg_name (i := 5) sc_alike_paper.nd rfl (Or.inl rfl)) (fun _ _ _ _ _ => pts_nil)
          (fun _ _ _ _ _ => pi_keysE (pe_callC (preS := preS) (fun g => ok_depths FunD B g) (by
            rintro g pins σ H s I ⟨F1, l, v1, u1, hS, h5, h7, h8, h9⟩
            show Callable P w K mg base CX0 2 g.f g.live (spStepG g.st g.ts g.C) _ s H
            rw [h5, h7, h8, h9]
            exact (step_can hb ho hin g.f F1 l v1 u1 hS.fe hS.cap).one) hr (by decide) rfl gD FunD.kp bD pass0 (pa_cons (pv 5) (pa_cons (pv 2) (pa_cons (pv 3) (pa_cons (pk c25) pa_nil))))))
          (fun _ _ _ _ _ => pg_name (i := 6) sc_alike_paper.nd rfl (Or.inl rfl)) (fun _ _ _ _ _ => pts_nil) (fun _ _ _ _ _ => pv 6))
      (pss_cons (ps_if (pt_val (pe_callB (cr_any rfl) (by rfl) bany (by decide +kernel) (pa_cons (pe_lc (own := [("pair", 6)]) (g := gName 6) (tt := tYes) rfl sc_alike_paper.nd (pi_list (pv 4)) (blkOk_by (N := NPa) (sc := defScope st_alike_paper) (by decide +kernel))
          (fun _ _ _ _ _ => pg_name (i := 6) sc_alike_paper.nd rfl (Or.inl rfl)) (fun _ _ _ _ _ => pts_nil) (fun _ _ _ _ _ => pe_cmp (pc_notN (pc CTR hr (pa_cons (pv 6) (pa_cons (pv 2) pa_nil)))))) pa_nil))) (pss_one (ps_ret pe_non)) pss_nil)
      (pss_one (ps_ret (pe_tupleOf (by rfl) B.tuple (pe_callB (cr_sortedT rfl) (by rfl) B.sorted (by decide +kernel) (pa_cons (pe_callTy (cr_setOfT rfl hr.units) (by rfl) bset (by decide +kernel) (pa_cons (pv 4) pa_nil)) pa_nil)))))))), ?_⟩
    refine ⟨_, rfl, _, rfl, _, rfl, v, u, h, o, n, .ref al, lot, rfl, tw, fun H1 s1 => ?_⟩
    have g1 := tw.tups (Same.tups s1)
    refine ⟨_, rfl, _, rfl, v, u, rfl, tabs_same hTb s1, fun f1 F1 l H2 ex2 tb2 st2 => ?_⟩
    have g2 := g1.tups (extN_tups (K := K) ex2)
    refine ⟨_, rfl, _, rfl, _, rfl, v, u, h, o, n, .ref al, lot, rfl, g2.hT, g2.hU, hb, ho, g2.hL, hin, (by omega), fun H3 ls xs s3 eL hX => ⟨ls, rfl, ⟨_, lstAt eL⟩, fun D hD => ?_⟩⟩
    have lx : xs.length = lot.length := hX.len.trans (List.length_map ..)
    refine wkJ (n := xs.length) (fun i H' => Same H3 H' ∧ ∃ ys ps, H' D = some (.lst ys) ∧ EX H' ys ps ∧ PaI h o lot i ps ∧ ps.length ≤ i * 25) ⟨same_new hD, [], [], upd_same, .nil, PaI.zero, Nat.zero_le _⟩ (fun i H' hi h' => ?_) (fun H' h' => ?_)
    · obtain ⟨sm, ys, ps, eD, hY, PI, few⟩ := h'
      refine ⟨⟨xs, xs[i], lstAt (sm _ _ eL), List.getElem?_eq_getElem hi⟩, fun x H2' y => ?_⟩
      obtain ⟨rfl, y⟩ := y
      have hx := y xs (lstAt (sm _ _ eL))
      obtain ⟨pl, hpl⟩ : ∃ pl, lot[i]? = some pl := ⟨_, List.getElem?_eq_getElem (by omega)⟩
      obtain ⟨b, rfl, hb3⟩ := (hX.on (TK.same sm)).get hx (by rw [List.getElem?_map, hpl]; rfl)
      have hpin := hin pl (List.mem_of_getElem? hpl)
      have s23 := s3.trans sm
      have st3 := (st2.ext (extN_same s3)).ext (extN_same sm)
      have g3 := g2.tups (Same.tups s23)
      obtain ⟨_, e', hLs⟩ := id g3.hL
      cases e'
      refine ⟨rfl, ?_⟩
      refine ⟨_, rfl, _, rfl, _, rfl, ⟨f1, fun H' => LiveK f1 F1 l H' ∧ TII K H' v h ∧ TII K H' u o, stP h o, lot, CP n, UP n, f1, fun _ => True, fun _ => true⟩, ⟨F1, l, v, u, st3, rfl, rfl, rfl, rfl⟩,
        b, al, fpr h o pl, 25, rfl, hb3, hLs, fun H' sm => ⟨st3.live.same sm, g3.hT.on (Same.tups sm), g3.hU.on (Same.tups sm)⟩, sysP hb ho hin (by show lot.length ≤ 1000; omega), ⟨_, _, rfl, hb.mvR hpin hpin, ho.mvR hpin hpin⟩, UP_25 n (by omega), fun H4 d k bs s4 nd4 eD4 kb4 hk4 => ⟨d, _, bs, rfl, eD4, fun ob => ?_⟩⟩
      have hdD : D ≠ d := ne_of_none eD nd4
      have hd3 : H3 d = none := none_of sm nd4
      have k4 := kb4.ex
      rw [valD_fst] at k4
      have lk : (bs.map V.ref).length = ((fd (stP h o) lot (fpr h o pl) k).map Prod.fst).length := k4.len
      rw [List.length_map] at lk
      have fewk : ((fd (stP h o) lot (fpr h o pl) k).map Prod.fst).length ≤ 25 := by
        have sy := sysP hb ho hin (by show lot.length ≤ 1000; omega)
        refine Nat.le_trans (nd_len (m := UP n) (fd_nd k) fun s hs => ?_) (UP_25 n (by omega))
        obtain ⟨z, hz, rfl⟩ := List.mem_map.mp hs
        exact sy.few _ (sy.fd_C ⟨_, _, rfl, hb.mvR hpin hpin, ho.mvR hpin hpin⟩ k z hz)
      have s5 : Same H3 (upd H4 d (.frz ob (DE P w ((fd (stP h o) lot (fpr h o pl) k).map valD) bs d))) := Same.upd (sm.trans s4) hd3
      have tk5 : TK H4 (upd H4 d (.frz ob (DE P w ((fd (stP h o) lot (fpr h o pl) k).map valD) bs d))) := TK.upd eD4 not_tup_d
      have eD5 : (upd H4 d (.frz ob (DE P w ((fd (stP h o) lot (fpr h o pl) k).map valD) bs d))) D = some (.lst ys) := by
        rw [upd_ne hdD]
        exact s4 _ _ eD
      have k5 := k4.on tk5
      have hY5 := hY.on ((TK.same s4).trans tk5)
      refine wkJ (n := bs.length) (fun j H' => Same H3 H' ∧ TK (upd H4 d (.frz ob (DE P w ((fd (stP h o) lot (fpr h o pl) k).map valD) bs d))) H' ∧ H' d = some (.frz ob (DE P w ((fd (stP h o) lot (fpr h o pl) k).map valD) bs d)) ∧
        ∃ ys2, H' D = some (.lst ys2) ∧ EX H' ys2 (ps ++ ((fd (stP h o) lot (fpr h o pl) k).map Prod.fst).take j)) ⟨s5, fun _ _ e => e, upd_same, ys, eD5, by rw [List.take_zero, List.append_nil]; exact hY5⟩ (fun j H' hj h' => ?_) (fun H' h' => ?_)
      · obtain ⟨sm2, tk2, ed2, ys2, eD2, hY2⟩ := h'
        refine ⟨⟨ed2, hj⟩, fun x H2' y => ?_⟩
        obtain ⟨rfl, b2, hb2, rfl⟩ := y
        obtain ⟨s, hs⟩ : ∃ s, ((fd (stP h o) lot (fpr h o pl) k).map Prod.fst)[j]? = some s := ⟨_, List.getElem?_eq_getElem (by omega)⟩
        obtain ⟨b3, eb3, hk3⟩ := k5.get (x := .ref b2) (by rw [List.getElem?_map, hb2]; rfl) hs
        cases eb3
        have l2' := hY2.len
        rw [List.length_append, List.length_take] at l2'
        have il : i * 25 ≤ 125 := by have : i < lot.length := by omega
                                     omega
        refine ⟨rfl, _, rfl, ys2, eD2, small1000 (by omega), Same.upd sm2 hD, ?_, ?_, ys2 ++ [.ref b2], upd_same, ?_⟩
        · exact tk2.trans (TK.upd eD2 not_tup_l)
        · rw [upd_ne (Ne.symm hdD)]
          exact ed2
        · have tk3 : TK _ (upd _ D (.lst (ys2 ++ [.ref b2]))) := TK.upd eD2 not_tup_l
          rw [take_more hs, ← List.append_assoc]
          exact EX.snoc ((hk3.on tk2).on tk3) (hY2.on tk3)
      · obtain ⟨sm2, tk2, ed2, ys2, eD2, hY2⟩ := h'
        refine ⟨⟨ed2, Nat.le_refl _⟩, sm2, ys2, _, eD2, hY2, ?_, ?_⟩
        · rw [List.take_of_length_le (by omega)]
          exact PI.more hpl hk4
        · rw [List.length_append, List.length_take, Nat.succ_mul]
          omega
    · obtain ⟨sm, ys, ps, eD, hY, PI, few⟩ := h'
      rw [lx] at PI few
      refine ⟨⟨xs, lstAt (sm _ _ eL), Nat.le_refl _⟩, ?_⟩
      have s23 := s3.trans sm
      have ex3 : ExtN H H' := (extN_same s1).trans (ex2.trans (extN_same s23))
      have tb3 := tabs_same (tabs_same tb2 s3) sm
      have g3 := g2.tups (Same.tups s23)
      have ly := hY.len
      have cpS : ∀ s ∈ ps, CP n s := fun s hs => (PI.at_ s hs).choose_spec.cp hb ho hin
      refine ⟨_, rfl, D, rfl, ⟨_, lstAt eD⟩, fun D2 hD2 => ?_⟩
      refine lc_list (xs := ys) (fun i H2' => Same H' H2' ∧ H2' D2 = some (.lst (((ps.take i).map (gpT lot)).map V.bl))) ⟨same_new hD2, upd_same⟩ (fun i H2' _ h2 => lstAt (h2.1 _ _ eD)) (fun i x H2' hx h2 => ?_) (fun H2' h2 => ?_)
      · obtain ⟨sm2, e2⟩ := h2
        obtain ⟨s, hs⟩ : ∃ s, ps[i]? = some s := ⟨_, List.getElem?_eq_getElem (by have := (List.getElem?_eq_some_iff.mp hx).1; omega)⟩
        obtain ⟨b, rfl, hbk⟩ := hY.get hx hs
        obtain ⟨x0, y0, es, _, _⟩ := cpS s (List.mem_of_getElem? hs)
        rw [es] at hbk
        have goal2 : ∃ acc, H2' D2 = some (.lst acc) ∧ acc.length < sizeLine ∧ (Same H' (upd H2' D2 (.lst (acc ++ [.bl (gpT lot s)]))) ∧ (upd H2' D2 (.lst (acc ++ [.bl (gpT lot s)]))) D2 = some (.lst (((ps.take (i + 1)).map (gpT lot)).map V.bl))) := by
          refine ⟨_, e2, ?_, Same.upd sm2 hD2, ?_⟩
          · rw [List.length_map, List.length_map, List.length_take]
            exact small1000 (by omega)
          · rw [upd_same, all_snoc _ hs, List.map_append]
            rfl
        refine ⟨rfl, _, rfl, _, rfl, b, x0, y0, .ref al, lot, rfl, TK.same sm2 _ _ hbk, g3.hL.on (Same.tups sm2), ?_⟩
        have e5 : (!decide (optV (trd lot [x0, y0]) = V.non)) = gpT lot s := by rw [optV_not, es]
        show ∃ acc, H2' D2 = some (.lst acc) ∧ acc.length < sizeLine ∧ (Same H' (upd H2' D2 (.lst (acc ++ [.bl (!decide (optV (trd lot [x0, y0]) = V.non))]))) ∧ (upd H2' D2 (.lst (acc ++ [.bl (!decide (optV (trd lot [x0, y0]) = V.non))]))) D2 = some (.lst (((ps.take (i + 1)).map (gpT lot)).map V.bl)))
        rw [e5]
        exact goal2
      · obtain ⟨sm2, e2⟩ := h2
        rw [ly, List.take_length] at e2
        refine ⟨D2, _, rfl, lstAt e2, _, rfl, ?_⟩
        have ex4 := ex3.trans (extN_same sm2)
        have tb4 := tabs_same tb3 sm2
        refine ite2 (fun e => ?_) (fun e => ?_)
        · obtain ⟨z, hz, ez⟩ := List.any_eq_true.mp e
          obtain ⟨s, hs, rfl⟩ := List.mem_map.mp hz
          obtain ⟨j, hj⟩ := PI.at_ s hs
          exact q _ .non ex4 tb4 (.inl ⟨rfl, j, s, hj, ez⟩)
        · have no : ∀ s ∈ ps, gpT lot s = false := fun s hs => by
            cases eg : gpT lot s with
            | false => rfl
            | true => exact absurd (List.any_eq_true.mpr ⟨true, List.mem_map.mpr ⟨s, hs, eg⟩, rfl⟩) e
          have few2 : ps.length < 64 := by
            refine Nat.lt_of_le_of_lt (PI.bd ((UP n).filter fun s => !gpT lot s) fun s hs => List.mem_filter.mpr ⟨?_, by rw [no s hs]; rfl⟩) (lot_few n5 hin tw.hri)
            exact (sysP hb ho hin (by show lot.length ≤ 1000; omega)).few _ (cpS s hs)
          have hY2 := hY.on (TK.same sm2)
          obtain ⟨ks, rfl, rfl, hks⟩ := hY2.ks
          refine ⟨_, rfl, D, ks, rfl, lstAt (sm2 _ _ eD), fun p hp => .inl (hks p hp), by rw [List.length_map] at few2; exact few2, fun a L ha hsub hall => ?_⟩
          have sA := same_new (o := SetTO P w a L) ha
          have hL : ∀ p ∈ L, KX (upd H2' a (SetTO P w a L)) p.1 p.2 := fun p hp => TK.same sA _ _ (hks p (hsub p hp))
          refine ⟨a, L, 2, 10, rfl, upd_same, fun p hp => .inl (hL p hp), by decide, fun p hp => (cpS p.2 (List.mem_map.mpr ⟨p, hsub p hp, rfl⟩)).bd n5, fun L' p pm nd' _ pw hp => ?_⟩
          have sB := same_new (o := .lst (L'.map fun q => V.ref q.1)) hp
          refine .inl ⟨p, _, rfl, lstAt upd_same, fun t ht => ?_⟩
          have sC := same_new (o := .tup (L'.map fun q => V.ref q.1)) ht
          have sABC := sA.trans (sB.trans sC)
          have mem : ∀ s, s ∈ L'.map (·.2) ↔ s ∈ ks.map (·.2) := fun s => by
            rw [(pm.map (·.2)).mem_iff]
            constructor
            · intro z
              obtain ⟨r, hr, rfl⟩ := List.mem_map.mp z
              exact List.mem_map.mpr ⟨r, hsub r hr, rfl⟩
            · intro z
              obtain ⟨r, hr, rfl⟩ := List.mem_map.mp z
              exact hall r hr
          refine q _ (.ref t) (ex4.trans (extN_same sABC)) (tabs_same tb4 sABC) (.inr ⟨t, _, L'.map (·.2), rfl, tupAt upd_same, ex_ks fun r hr => ?_, ?_, fun s => ?_, fun s hs => no s ((mem s).mp hs)⟩)
          · exact TK.same (sB.trans sC) _ _ (hL r (pm.mem_iff.mp hr))
          · exact asc_of n5 (fun s hs => cpS s ((mem s).mp hs)) nd' (List.pairwise_map.mpr pw)
          · rw [mem]
            constructor
            · exact PI.at_ s
            · rintro ⟨j, pl, hpl, wd, hwd, _, rfl⟩
              exact PI.all pl (by rw [List.take_length]; exact hpl) wd hwd
end
end RH
set_option Elab.async false
set_option linter.all false
set_option maxRecDepth 100000
set_option maxHeartbeats 2000000
namespace RH
open PySem PySem.Spec PyProof.Rows L2
open LamX (Tabs TabS TabB ExtN CodeO codeO_ne)
/-! ### shows_alike -/
def riB (ls : List (List Int)) : Bool := (ls.zip (ls.drop 1)).all fun p => HT.lexLt p.1 p.2
theorem lexLt_cd {n : Nat} {s t : List Int} (h5 : n ≤ 5) (hs : CP n s) (ht : CP n t) : HT.lexLt s t = decide (cd s < cd t) := by
  obtain ⟨a, b, rfl, ⟨a0, a1⟩, b0, b1⟩ := hs
  obtain ⟨c, d, rfl, ⟨c0, c1⟩, d0, d1⟩ := ht
  rw [cd_pair, cd_pair, HT.lexLt_cons, HT.lexLt_cons, HT.lexLt_nil_nil]
  rw [Bool.eq_iff_iff, decide_eq_true_iff]
  by_cases e1 : a = c
  · rw [if_pos e1]
    by_cases e2 : b = d
    · rw [if_pos e2]
      constructor
      · intro z
        cases z
      · intro z
        omega
    · rw [if_neg e2, decide_eq_true_iff]
      omega
  · rw [if_neg e1, decide_eq_true_iff]
    omega
theorem riB_iff {n : Nat} (h5 : n ≤ 5) : ∀ {ls : List (List Int)}, (∀ s ∈ ls, CP n s) → (riB ls = true ↔ Asc ls)
  | [], _ => ⟨fun _ => List.Pairwise.nil, fun _ => rfl⟩
  | [x], _ => ⟨fun _ => List.pairwise_singleton _ _, fun _ => rfl⟩
  | x :: y :: r, hc => by
    have ih := riB_iff h5 (ls := y :: r) fun s hs => hc s (List.mem_cons_of_mem _ hs)
    have e : riB (x :: y :: r) = (HT.lexLt x y && riB (y :: r)) := rfl
    rw [e, Bool.and_eq_true, ih, lexLt_cd h5 (hc x List.mem_cons_self) (hc y (List.mem_cons_of_mem _ List.mem_cons_self)), decide_eq_true_iff]
    constructor
    · rintro ⟨h1, h2⟩
      refine List.pairwise_cons.mpr ⟨fun z hz => ?_, h2⟩
      rcases List.mem_cons.mp hz with rfl | hz
      · exact h1
      · have := (List.pairwise_cons.mp h2).1 z hz
        omega
    · intro h
      obtain ⟨h1, h2⟩ := List.pairwise_cons.mp h
      exact ⟨h1 y List.mem_cons_self, h2⟩
/-- the pairs that a paper must hold -/
def ndd (h o : List (List Int)) (lot : List Int) (ls : List (List Int)) : List (List Int) := lot.map (fpr h o) ++ ls.flatMap fun s => lot.map fun p => stP h o p s
inductive PV
  | non : PV
  | lst : PV
  | odd : PV
  | tup (ls : List (List Int)) : PV
inductive Pk (K : PySem.W.Frag) (H : Hp) (n : Nat) : V → PV → Prop
  | non : Pk K H n .non .non
  | lst {a : Addr} {xs : List V} : SqL K H a xs → Pk K H n (.ref a) .lst
  | odd {a t : Addr} : SqT K H a [.ref t] → SqT K H t [.bl true, .int 0] → Pk K H n (.ref a) .odd
  | tup {a : Addr} {ys : List V} {ls : List (List Int)} : SqT K H a ys → EX H ys ls → (∀ s ∈ ls, CP n s) → ls.length ≤ 25 → Pk K H n (.ref a) (.tup ls)
def pvB (h o : List (List Int)) (lot : List Int) : PV → Bool
  | .tup ls => riB ls && ((ndd h o lot ls).all (fun s => decide (s ∈ ls)) && ls.all fun s => !gpT lot s)
  | _ => false
theorem extN_lst {K : PySem.W.Frag} {H H' : Hp} (e : ExtN H H') {a : Addr} {xs : List V} (h : SqL K H a xs) : SqL K H' a xs := by
  rcases h with (h | ⟨o, h⟩) | h
  · exact .inl (.inl (e _ _ h (fun ps z => nomatch z)))
  · exact .inl (.inr ⟨o, e _ _ h (fun ps z => nomatch z)⟩)
  · exact .inr h
theorem Pk.ext {K : PySem.W.Frag} {H H' : Hp} {n : Nat} {v : V} {x : PV} (e : ExtN H H') (h : Pk K H n v x) : Pk K H' n v x := by
  cases h with
  | non => exact .non
  | lst h => exact .lst (extN_lst e h)
  | odd h1 h2 => exact .odd (extN_tups e _ _ h1) (extN_tups e _ _ h2)
  | tup h1 h2 h3 h4 => exact .tup (extN_tups e _ _ h1) (h2.on (extN_tk e)) h3 h4
theorem any_in (ls : List (List Int)) (s : List Int) : (ls.map fun s => PyData.tuple (s.map PyData.int)).any (fun y => PyData.eqv y (.tuple (s.map PyData.int))) = decide (s ∈ ls) := by
  rw [Bool.eq_iff_iff, List.any_eq_true, decide_eq_true_iff]
  constructor
  · rintro ⟨y, hy, e⟩
    obtain ⟨t, ht, rfl⟩ := List.mem_map.mp hy
    rw [eqv_tup] at e
    rw [← of_decide_eq_true e]
    exact ht
  · intro hs
    exact ⟨_, List.mem_map.mpr ⟨s, hs, rfl⟩, by rw [eqv_tup]; exact decide_eq_true rfl⟩
theorem shaped_one (s : List Int) : SeqAt.shaped (.tuple (s.map PyData.int)) = true := by
  simp [SeqAt.shaped, PyData.canLay0, PyData.depth, PySem.W.ke_canLayAll0, PySem.W.ke_depthAll]
theorem room65 {k : Nat} {A : Around} (r : Room k A) : A.units + 65 < cLine := by have := r.un; omega
theorem opInD {X : Cx} (K : PySem.W.Frag) (hu : X.A.units + 65 < cLine) (h : X.K = K := by rfl) : OpR X (compareOp .In) (rInD K false) := by
  subst h
  exact op_inD hu
theorem opNotInD {X : Cx} (K : PySem.W.Frag) (hu : X.A.units + 65 < cLine) (h : X.K = K := by rfl) : OpR X (compareOp .NotIn) (rInD K true) := by
  subst h
  exact op_notInD hu
theorem opLtT {X : Cx} (K : PySem.W.Frag) (hu : X.A.units < cLine) (h : X.K = K := by rfl) : OpR X (compareOp .Lt) (rLtT K) := by
  subst h
  exact op_ltT hu
section
variable {P : Program} {w : World} {K : PySem.W.Frag} {mg : Str → Option Value} {base : Heap}
/-- x in value, pairs -/
theorem in_pairs {H : Hp} {Q : VK} {x y : V} {b a : Addr} {s : List Int} {ys : List V} {ls : List (List Int)} (ex : x = .ref b) (ey : y = .ref a) (hx : KX H b s) (hS : SqT K H a ys) (hE : EX H ys ls) (q : Q (.bl (decide (s ∈ ls))) H) : rInD K false x y H Q := by
  subst ex ey
  refine ⟨_, _, _, .tup hS (dp_rows hE), .inr rfl, dp_tup (.inl hx), shaped_hab ls, shaped_one s, ?_⟩
  show Q (.bl _) H
  rw [if_neg Bool.false_ne_true, any_in]
  exact q
theorem notin_pairs {H : Hp} {Q : VK} {x y : V} {b a : Addr} {s : List Int} {ys : List V} {ls : List (List Int)} (ex : x = .ref b) (ey : y = .ref a) (hx : KX H b s) (hS : SqT K H a ys) (hE : EX H ys ls) (q : Q (.bl (!decide (s ∈ ls))) H) : rInD K true x y H Q := by
  subst ex ey
  refine ⟨_, _, _, .tup hS (dp_rows hE), .inr rfl, dp_tup (.inl hx), shaped_hab ls, shaped_one s, ?_⟩
  show Q (.bl _) H
  rw [if_pos rfl, any_in]
  exact q
def spIsRisingP (K : PySem.W.Frag) : Sp := fun vs H Q _ => ∃ (a : Addr) (ys : List V) (ls : List (List Int)), vs = [.ref a] ∧ SqT K H a ys ∧ EX H ys ls ∧ ls.length ≤ 900 ∧ ∀ H', Same H H' → Q (.bl (riB ls)) H'
theorem ok_is_risingP (F : Df K mg "is_rising" st_is_rising ["row"]) (B : Bu mg) : Cal P w K mg base 1 "is_rising" (spIsRisingP K) := by
  refine mkCal F sc_is_rising (fun vs H Q E h => ?_) (fun f cdv A outer s H vs Q E hr h => ?_)
  · obtain ⟨a, ys, ls, rfl, _⟩ := h
    rfl
  · obtain ⟨a, ys, ls, rfl, hS, hE, hlen, q⟩ := h
    refine ⟨_, pss_one (ps_ret (pe_callB (cr_all rfl) (by rfl) B.all (by decide +kernel) (pa_cons (pe_lc (own := [("one", 1), ("other", 2)]) (g := gTup K 2 (gCons (gName 1) (gCons (gName 2) gNil))) (tt := tYes) rfl sc_is_rising.nd
        (RZ.pi_zipA (by rfl) B.zip (pa_cons (pv 0) (pa_cons (pe_slice sl_tupA (pv 0) (po_some pe_int) po_none) pa_nil))) (blkOk_by (N := ["row", "one", "other"]) (sc := defScope st_is_rising) (by decide +kernel))
        (fun _ _ _ _ _ => pg_tup rfl (pgs_cons (pg_name (i := 1) sc_is_rising.nd rfl (Or.inl rfl)) (pgs_cons (pg_name (i := 2) sc_is_rising.nd rfl (Or.inl rfl)) pgs_nil))) (fun _ _ _ _ _ => pts_nil)
        (fun _ _ _ _ _ => pe_cmpR (opLtT K hr.units0) (pv 1) (pv 2) (nomark _))) pa_nil))), ?_⟩
    refine ⟨_, rfl, _, rfl, 1, rfl, ?_⟩
    unfold tNoPart
    dsimp only
    refine slT_from 1 1 rfl hS fun b H2 sm2 hb => ?_
    have ly := hE.len
    refine ⟨a, b, _, _, rfl, .inr ⟨onT sm2 hS, hb, fun D hD => ?_⟩⟩
    refine lc_zipT (xs := ys) (ys := ys.drop 1) (ls.zip (ls.drop 1)).length (by rw [List.length_zip, List.length_drop, List.length_drop, ly])
      (fun i H' => Same H2 H' ∧ H' D = some (.lst ((((ls.zip (ls.drop 1)).take i).map fun p => HT.lexLt p.1 p.2).map V.bl))) ⟨same_new hD, upd_same⟩ (fun i H' h' => ⟨onT h'.1 (onT sm2 hS), onT h'.1 hb⟩) (fun i x z T H' hx hz h' hT => ?_) (fun H' h' => ?_)
    · obtain ⟨sm, eD⟩ := h'
      have i1 : i < ls.length := by have := (List.getElem?_eq_some_iff.mp hx).1; omega
      have i2 : i + 1 < ls.length := by have := (List.getElem?_eq_some_iff.mp hz).1; rw [List.length_drop] at this; omega
      have hs : ls[i]? = some ls[i] := List.getElem?_eq_getElem i1
      have ht : ls[i + 1]? = some ls[i + 1] := List.getElem?_eq_getElem i2
      have hz1 : ys[i + 1]? = some z := by
        rw [List.getElem?_drop] at hz
        rw [Nat.add_comm]
        exact hz
      have sT : Same H (upd H' T (.tup [x, z])) := (sm2.trans sm).trans (same_new hT)
      obtain ⟨b1, rfl, k1⟩ := (hE.on (TK.same sT)).get hx hs
      obtain ⟨b2, rfl, k2⟩ := (hE.on (TK.same sT)).get hz1 ht
      have eDT : (upd H' T (.tup [.ref b1, .ref b2])) D = H' D := upd_ne (ne_of_none eD hT)
      refine ⟨T, _, rfl, tupAt upd_same, rfl, _, _, rfl, _, _, rfl, rfl, rfl, _, rfl, _, rfl, b1, b2, ls[i], ls[i + 1], rfl, rfl, .inl k1, .inl k2, _, eDT.trans eD, ?_, ?_, ?_⟩
      · rw [List.length_map, List.length_map, List.length_take, List.length_zip]
        exact small1000 (by omega)
      · intro b' o e
        rw [upd_ne (ne_of_none e hD)]
        exact same_new hT b' o (sm b' o e)
      · have hz : (ls.zip (ls.drop 1))[i]? = some (ls[i], ls[i + 1]) := by
          rw [List.getElem?_zip_eq_some]
          refine ⟨hs, ?_⟩
          rw [List.getElem?_drop, Nat.add_comm]
          exact ht
        rw [upd_same, all_snoc _ hz, List.map_append]
        rfl
    · obtain ⟨sm, eD⟩ := h'
      rw [List.take_length] at eD
      refine ⟨D, _, rfl, lstAt eD, ?_⟩
      have e : (((ls.zip (ls.drop 1)).map fun p => HT.lexLt p.1 p.2).all id) = riB ls := by
        unfold riB
        rw [List.all_map]
        rfl
      rw [e]
      exact q H' (sm2.trans sm)
/-- is_row of whatever -/
inductive RkN (K : PySem.W.Frag) (H : Hp) : V → Option (List V) → Prop
  | tup {a : Addr} {xs : List V} : SqT K H a xs → RkN K H (.ref a) (some xs)
  | lst {a : Addr} {xs : List V} : SqL K H a xs → RkN K H (.ref a) none
  | non : RkN K H .non none
def spIsRowN (K : PySem.W.Frag) : Sp := fun vs H Q _ => ∃ (v : V) (ro : Option (List V)) (lo hi : Int), vs = [v, .int lo, .int hi] ∧ RkN K H v ro ∧ Q (.bl (rowB lo hi ro)) H
theorem ok_is_rowN (F : Df K mg "is_row" st_is_row ["value", "low", "high"]) (B : Bu mg) : Cal P w K mg base 1 "is_row" (spIsRowN K) := by
  refine mkCal F sc_is_row (fun vs H Q E h => ?_) (fun f cdv A outer s H vs Q E hr h => ?_)
  · obtain ⟨v, ro, lo, hi, rfl, _⟩ := h
    rfl
  · obtain ⟨v, ro, lo, hi, rfl, hk, q⟩ := h
    refine ⟨_, pss_one (ps_ret (pe_and (pe_callB call_isi (by rfl) B.isi (by decide +kernel) (pa_cons (pv 0) (pa_cons (pe_bltn (v := .ty "tuple") (by rfl) B.tuple (by decide +kernel) rfl) pa_nil)))
      (pe_one (pe_chain op_le op_le (pv 1) (pe_callB call_len_seq (by rfl) B.len PySem.boot_len (pa_cons (pv 0) pa_nil)) (pv 2))))), ?_⟩
    cases hk with
    | @lst a xs hS => exact ⟨_, rfl, .ref a, .ty "tuple", _, _, false, rfl, .ty "tuple", ty_lst hS, kit_ty (by decide +kernel), false, rfl, q⟩
    | non => exact ⟨_, rfl, .non, .ty "tuple", _, _, false, rfl, .ty "tuple", .base .non, kit_ty (by decide +kernel), false, rfl, q⟩
    | @tup a xs hS =>
      refine ⟨_, rfl, .ref a, .ty "tuple", _, _, true, rfl, .ty "tuple", ty_tup hS, kit_ty (by decide +kernel), true, rfl, _, rfl, _, rfl, a, xs, rfl, .inr hS, lo, (xs.length : Int), rfl, rfl, _, rfl, ?_⟩
      have q : Q (.bl (decide (lo ≤ (xs.length : Int)) && decide ((xs.length : Int) ≤ hi))) H := q
      refine ite2 (fun e => ?_) (fun e => ?_)
      · refine ⟨_, rfl, _, hi, rfl, rfl, ?_⟩
        rw [e, Bool.true_and] at q
        exact q
      · have e' : decide (lo ≤ (xs.length : Int)) = false := by simpa using e
        rw [e', Bool.false_and] at q
        exact q
/-- are_places of a tuple of numbers, True, None -/
def spArePlacesS (K : PySem.W.Frag) : Sp := fun vs H Q _ => ∃ (a : Addr) (xs : List V) (p : Int), vs = [.ref a, .int p] ∧ SqT K H a xs ∧ (∀ x ∈ xs, Sc x) ∧ xs.length ≤ 1000 ∧ ∀ H', Same H H' → Q (.bl (xs.all (inV2 0 (p - 1)))) H'
theorem ok_are_placesS (F : Df K mg "are_places" st_are_places ["value", "places"]) (B : Bu mg) (C3 : Cal P w K mg base 3 "is_place" spIsPlaceV) : Cal P w K mg base 4 "are_places" (spArePlacesS K) := by
  refine mkCal F sc_are_places (fun vs H Q E h => ?_) (fun f cdv A outer s H vs Q E hr h => ?_)
  · obtain ⟨a, xs, p, rfl, _⟩ := h
    rfl
  · obtain ⟨a, xs, p, rfl, hS, hsc, hlen, q⟩ := h
    refine ⟨_, pss_one (ps_ret (pe_and (pe_callB call_isi (by rfl) B.isi (by decide +kernel) (pa_cons (pv 0) (pa_cons (pe_bltn (v := .ty "tuple") (by rfl) B.tuple (by decide +kernel) rfl) pa_nil)))
      (pe_one (pe_callB (cr_all rfl) (by rfl) B.all (by decide +kernel) (pa_cons (pe_lc (own := [("place", 2)]) (g := gName 2) (tt := tYes) rfl sc_are_places.nd (pi_tup (pv 0)) (blkOk_by (N := ["value", "places", "place"]) (sc := defScope st_are_places) (by decide +kernel))
        (fun _ _ _ _ _ => pg_name (i := 2) sc_are_places.nd rfl (Or.inl rfl)) (fun _ _ _ _ _ => pts_nil) (fun _ _ _ _ _ => pc C3 hr (pa_cons (pv 2) (pa_cons (pv 1) pa_nil)))) pa_nil))))), ?_⟩
    refine ⟨_, rfl, .ref a, .ty "tuple", _, _, true, rfl, .ty "tuple", ty_tup hS, kit_ty (by decide +kernel), true, rfl, ?_⟩
    refine ⟨_, rfl, a, rfl, ⟨_, hS⟩, fun D hD => ?_⟩
    refine lc_tup (xs := xs) (fun i H' => Same H H' ∧ H' D = some (.lst (((xs.take i).map (inV2 0 (p - 1))).map V.bl))) ⟨same_new hD, upd_same⟩ (fun i H' _ h' => onT h'.1 hS) (fun i x H' hx h' => ?_) (fun H' h' => ?_)
    · obtain ⟨sm, eD⟩ := h'
      refine ⟨rfl, _, rfl, _, rfl, x, p, rfl, hsc x (List.mem_of_getElem? hx), _, eD, ?_, Same.upd sm hD, ?_⟩
      · rw [List.length_map, List.length_map, List.length_take]
        exact small1000 (by omega)
      · rw [upd_same, all_snoc _ hx, List.map_append]
        rfl
    · obtain ⟨sm, eD⟩ := h'
      rw [List.take_length] at eD
      refine ⟨D, _, rfl, lstAt eD, ?_⟩
      have e : ((xs.map (inV2 0 (p - 1))).all id) = xs.all (inV2 0 (p - 1)) := by
        rw [List.all_map]
        rfl
      rw [e]
      exact q H' sm
end
end RH
set_option Elab.async false
set_option linter.all false
set_option maxRecDepth 100000
set_option maxHeartbeats 2000000
namespace RH
open PySem PySem.Spec PyProof.Rows L2
open LamX (Tabs TabS TabB ExtN CodeO codeO_ne)
/-! ### shows_alike, the def -/
theorem ndd_len (h o : List (List Int)) (lot : List Int) : ∀ ls : List (List Int), (ls.flatMap fun s => lot.map fun p => stP h o p s).length = ls.length * lot.length
  | [] => by rw [List.length_nil, Nat.zero_mul]; rfl
  | s :: ls => by
    rw [List.flatMap_cons, List.length_append, List.length_map, ndd_len h o lot ls, List.length_cons, Nat.succ_mul, Nat.add_comm]
theorem flat_more {α β : Type} (f : α → List β) {l : List α} {i : Nat} {x : α} (hx : l[i]? = some x) : (l.take (i + 1)).flatMap f = (l.take i).flatMap f ++ f x := by
  rw [take_more hx, List.flatMap_append]
  congr 1
  show List.flatMap f [x] = _
  rw [List.flatMap_cons, List.flatMap_nil, List.append_nil]
abbrev NPs : List Str := ["habit", "other", "lot", "value", "places", "step", "needed", "has_all", "pair", "place"]
section
variable {P : Program} {w : World} {K : PySem.W.Frag} {mg : Str → Option Value} {base : Heap}
def spShowsA (K : PySem.W.Frag) (T : List (Addr × Str)) : Sp := fun vs H Q _ => ∃ (v u : V) (h o : List (List Int)) (n : Nat) (lv : V) (lot : List Int) (x : V) (pv : PV), vs = [v, u, lv, x] ∧ Two K H v u h o n lv lot ∧ Tabs T H ∧ Pk K H n x pv ∧
  ∀ H', ExtN H H' → Tabs T H' → Q (.bl (pvB h o lot pv)) H'
theorem ok_shows_alike {T : List (Addr × Str)} (F : Df K mg "shows_alike" st_shows_alike ["habit", "other", "lot", "value"]) (B : Bu mg) (c25 : ∃ t, mg "MOST_PAIRS" = some (.int 25 t)) (C2 : Cal P w K mg base 8 "check_two" (spCheckTwo K))
    (CR : Cal P w K mg base 1 "is_row" (spIsRowN K)) (CA : Cal P w K mg base 4 "are_places" (spArePlacesS K)) (CI : Cal P w K mg base 1 "is_rising" (spIsRisingP K)) (CPS : Cal P w K mg base 1 "pair_step" (spPairStep T)) (CFP : Cal P w K mg base 1 "first_pairs" (spFirst K)) (CTR : Cal P w K mg base 1 "telling_read" (spTelling K)) :
    Cal P w K mg base 9 "shows_alike" (spShowsA K T) := by
  refine mkCal F sc_shows_alike (fun vs H Q E h => ?_) (fun f cdv A outer s H vs Q E hr h => ?_)
  · obtain ⟨v, u, h, o, n, lv, lot, x, pv, rfl, _⟩ := h
    rfl
  · obtain ⟨v, u, h, o, n, lv, lot, x, pval, rfl, tw, hTb, hx, q⟩ := h
    have hb := tw.hb
    have ho := tw.ho
    have hin := tw.hin
    have n5 := hb.hi
    have l2 := tw.l2
    obtain ⟨al, rfl, _⟩ := id tw.hL
    refine ⟨_, pss_cons (ps_expr (pc C2 hr (pa_cons (pv 0) (pa_cons (pv 1) (pa_cons (pv 2) pa_nil)))))
      (pss_cons (ps_set (i := 4) sc_shows_alike.nd rfl (.inr rfl) (pe_callB (cl_len K) (by rfl) B.len PySem.boot_len (pa_cons (pv 0) pa_nil)))
      (pss_cons (ps_if (PW.pt (pw_or (pt_not (pt_val (pc CR hr (pa_cons (pv 3) (pa_cons pe_int (pa_cons (pk c25) pa_nil)))))) (pw_or1 (pt_not (pt_val (pe_callB (cr_all rfl) (by rfl) B.all (by decide +kernel) (pa_cons (pe_lc (own := [("pair", 8)]) (g := gName 8) (tt := tYes) rfl sc_shows_alike.nd (pi_tup (pv 3))
          (blkOk_by (N := NPs) (sc := defScope st_shows_alike) (by decide +kernel)) (fun _ _ _ _ _ => pg_name (i := 8) sc_shows_alike.nd rfl (Or.inl rfl)) (fun _ _ _ _ _ => pts_nil)
          (fun _ _ _ _ _ => pe_and (pc CR hr (pa_cons (pv 8) (pa_cons pe_int (pa_cons pe_int pa_nil)))) (pe_one (pc CA hr (pa_cons (pv 8) (pa_cons (pv 4) pa_nil)))))) pa_nil))))))) (pss_one (ps_ret pe_bl)) pss_nil)
      (pss_cons (ps_set (i := 5) sc_shows_alike.nd rfl (.inr rfl) (pc CPS hr (pa_cons (pv 0) (pa_cons (pv 1) pa_nil))))
      (pss_cons (ps_set (i := 6) sc_shows_alike.nd rfl (.inl rfl) (pe_op op_cat (pc CFP hr (pa_cons (pv 0) (pa_cons (pv 1) (pa_cons (pv 2) pa_nil))))
          (pe_lc2 (own := [("pair", 8), ("place", 9)]) (vs1 := [9]) (wi1 := iTup K (tVar 2)) (g := gName 8) (tt := tYes) (g1 := gName 9) (tt1 := tYes)
            (te := tCanK GS.f (fun g H' => LiveK g.f g.F g.l H' ∧ TII K H' g.v h ∧ TII K H' g.u o) 5 (fun _ => spStepG (stP h o) lot (CP n)) E0 (tCons (tVar 8) (tCons (tVar 9) tNil))) rfl sc_shows_alike.nd (pi_tup (pv 3))
            (blkOk_by (N := NPs) (sc := defScope st_shows_alike) (by decide +kernel)) (by decide) (fun _ _ _ _ _ => pg_name (i := 8) sc_shows_alike.nd rfl (Or.inl rfl)) (fun _ _ _ _ _ => pts_nil)
            (fun _ _ _ _ _ => pi_tup (pv 2)) (fun _ _ _ _ _ => pg_name (i := 9) sc_shows_alike.nd rfl (Or.inl rfl)) (fun _ _ _ _ _ => pts_nil)
            (fun _ _ _ _ _ => pe_canA (fa := GS.f) (live := fun g H' => LiveK g.f g.F g.l H' ∧ TII K H' g.v h ∧ TII K H' g.u o) (i := 5) (sp := fun _ => spStepG (stP h o) lot (CP n)) (fun g => step_can hb ho hin g.f g.F g.l g.v g.u g.fe g.cap) hr (by decide) pass0 rfl (by first | exact Or.inl rfl | exact Or.inr (Or.inl rfl) | exact Or.inr (Or.inr rfl)) (pa_cons (pv 8) (pa_cons (pv 9) pa_nil))))))
      (pss_cons (ps_set (i := 7) sc_shows_alike.nd rfl (.inl rfl) (pe_callB (cr_all rfl) (by rfl) B.all (by decide +kernel) (pa_cons (pe_lc (own := [("pair", 8)]) (g := gName 8) (tt := tYes) rfl sc_shows_alike.nd (pi_list (pv 6))
          (blkOk_by (N := NPs) (sc := defScope st_shows_alike) (by decide +kernel)) (fun _ _ _ _ _ => pg_name (i := 8) sc_shows_alike.nd rfl (Or.inl rfl)) (fun _ _ _ _ _ => pts_nil) (fun _ _ _ _ _ => pe_cmpR (opInD K (room65 hr)) (pv 8) (pv 3) rfl)) pa_nil)))
      (pss_one (ps_ret (pe_and (pc CI hr (pa_cons (pv 3) pa_nil)) (pe_and (pv 7) (pe_one (pe_callB (cr_all rfl) (by rfl) B.all (by decide +kernel) (pa_cons (pe_lc (own := [("pair", 8)]) (g := gName 8) (tt := tYes) rfl sc_shows_alike.nd (pi_tup (pv 3))
          (blkOk_by (N := NPs) (sc := defScope st_shows_alike) (by decide +kernel)) (fun _ _ _ _ _ => pg_name (i := 8) sc_shows_alike.nd rfl (Or.inl rfl)) (fun _ _ _ _ _ => pts_nil) (fun _ _ _ _ _ => pe_cmp (pc_isN (pc CTR hr (pa_cons (pv 8) (pa_cons (pv 2) pa_nil)))))) pa_nil)))))))))))), ?_⟩
    refine ⟨_, rfl, _, rfl, _, rfl, v, u, h, o, n, .ref al, lot, rfl, tw, fun H1 s1 => ?_⟩
    have g1 := tw.tups (Same.tups s1)
    have x1 := hx.ext (extN_same s1)
    have tb1 := tabs_same hTb s1
    obtain ⟨ah, hxs, rfl, hS, hE⟩ := id g1.hT
    have hxl : hxs.length = n := hE.len.trans hb.len
    refine ⟨_, rfl, ah, hxs, rfl, .inr hS, ?_⟩
    have qF : ∀ H', ExtN H H' → Tabs T H' → pvB h o lot pval = false → Q (.bl false) H' := fun H' ex tb e => by
      have := q H' ex tb
      rw [e] at this
      exact this
    cases x1 with
    | non => exact ⟨_, rfl, .non, none, 0, 25, rfl, .non, _, rfl, ifT rfl (ifT rfl (qF H1 (extN_same s1) tb1 rfl))⟩
    | @lst a xs hL => exact ⟨_, rfl, .ref a, none, 0, 25, rfl, .lst hL, _, rfl, ifT rfl (ifT rfl (qF H1 (extN_same s1) tb1 rfl))⟩
    | @odd a t hA hB =>
      refine ⟨_, rfl, .ref a, some [.ref t], 0, 25, rfl, .tup hA, _, rfl, ifF rfl ⟨_, rfl, a, rfl, ⟨_, hA⟩, fun D hD => ?_⟩⟩
      refine lc_tup (xs := [.ref t]) (fun i H' => Same H1 H' ∧ H' D = some (.lst ((List.replicate i false).map V.bl))) ⟨same_new hD, upd_same⟩ (fun i H' _ h' => onT h'.1 hA) (fun i x H' hx h' => ?_) (fun H' h' => ?_)
      · obtain ⟨sm, eD⟩ := h'
        cases i with
        | succ i => simp at hx
        | zero =>
          obtain rfl : x = .ref t := (Option.some.inj hx).symm
          refine ⟨rfl, _, rfl, .ref t, some [.bl true, .int 0], 2, 2, rfl, .tup (onT sm hB), _, rfl, ifT rfl ?_⟩
          refine ⟨_, rfl, _, rfl, t, [.bl true, .int 0], _, rfl, onT sm hB, fun x hx => ?_, by decide, fun H2 s2 => ⟨_, s2 _ _ eD, (by show 0 < sizeLine; decide), Same.upd (sm.trans s2) hD, upd_same⟩⟩
          rcases List.mem_cons.mp hx with rfl | hx
          · exact .bl
          · rw [List.mem_singleton.mp hx]
            exact .int 0
      · obtain ⟨sm, eD⟩ := h'
        exact ⟨D, [false], rfl, lstAt eD, _, rfl, ifT rfl (qF H' (extN_same (s1.trans sm)) (tabs_same tb1 sm) rfl)⟩
    | @tup a ys ls hA hY hc few =>
      have ly := hY.len
      have hrow : rowB 0 25 (some ys) = true := by
        show (decide ((0 : Int) ≤ (ys.length : Int)) && decide ((ys.length : Int) ≤ 25)) = true
        rw [Bool.and_eq_true, decide_eq_true_iff, decide_eq_true_iff]
        omega
      refine ⟨_, rfl, .ref a, some ys, 0, 25, rfl, .tup hA, _, rfl, ifF (by rw [hrow]; rfl) ⟨_, rfl, a, rfl, ⟨_, hA⟩, fun D hD => ?_⟩⟩
      refine lc_tup (xs := ys) (fun i H' => Same H1 H' ∧ H' D = some (.lst (((ls.take i).map fun _ => true).map V.bl))) ⟨same_new hD, upd_same⟩ (fun i H' _ h' => onT h'.1 hA) (fun i x H' hx h' => ?_) (fun H2 h2 => ?_)
      · obtain ⟨sm, eD⟩ := h'
        obtain ⟨s, hs⟩ : ∃ s, ls[i]? = some s := ⟨_, List.getElem?_eq_getElem (by have := (List.getElem?_eq_some_iff.mp hx).1; omega)⟩
        obtain ⟨b, rfl, kb⟩ := (hY.on (TK.same sm)).get hx hs
        obtain ⟨c1, c2, rfl, r1, r2⟩ := hc s (List.mem_of_getElem? hs)
        refine ⟨rfl, _, rfl, .ref b, some [.int c1, .int c2], 2, 2, rfl, .tup (.inl kb), _, rfl, ifT rfl ?_⟩
        have eall : [V.int c1, V.int c2].all (inV2 0 ((hxs.length : Int) - 1)) = true := by
          show ((decide ((0 : Int) ≤ c1) && decide (c1 ≤ (hxs.length : Int) - 1)) && ((decide ((0 : Int) ≤ c2) && decide (c2 ≤ (hxs.length : Int) - 1)) && true)) = true
          rw [hxl]
          have h1 := r1.2
          have h2 := r2.2
          simp only [Bool.and_true, Bool.and_eq_true, decide_eq_true_eq]
          exact ⟨⟨r1.1, by omega⟩, r2.1, by omega⟩
        refine ⟨_, rfl, _, rfl, b, [.int c1, .int c2], _, rfl, .inl kb, fun x hx => ?_, (by show 2 ≤ 1000; decide), fun H2 s2 => ?_⟩
        · rcases List.mem_cons.mp hx with rfl | hx
          · exact .int _
          · rw [List.mem_singleton.mp hx]
            exact .int _
        · rw [eall]
          refine ⟨_, s2 _ _ eD, ?_, Same.upd (sm.trans s2) hD, ?_⟩
          · rw [List.length_map, List.length_map, List.length_take]
            exact small1000 (by omega)
          · rw [upd_same, all_snoc (fun _ => true) hs, List.map_append]
            rfl
      · obtain ⟨sm, eD⟩ := h2
        rw [ly, List.take_length] at eD
        refine ⟨D, _, rfl, lstAt eD, _, rfl, ifF (by rw [List.all_map]; simp) ?_⟩
        clear eD hD
        have g2 := g1.tups (Same.tups sm)
        refine ⟨_, rfl, _, rfl, .ref ah, u, rfl, tabs_same tb1 sm, fun f1 F1 l H3 ex3 tb3 st3 => ?_⟩
        have g3 := g2.tups (extN_tups (K := K) ex3)
        refine ⟨_, rfl, _, rfl, _, rfl, .ref ah, u, h, o, n, .ref al, lot, rfl, g3.hT, g3.hU, hb, ho, g3.hL, hin, (by omega), fun H4 lf xf s4 eF hXf => ?_⟩
        have ex4 : ExtN H1 H4 := (extN_same sm).trans (ex3.trans (extN_same s4))
        have hA4 := extN_tups (K := K) ex4 _ _ hA
        have hY4 := hY.on (extN_tk ex4)
        have g4 := g3.tups (Same.tups s4)
        have st4 := st3.ext (extN_same s4)
        obtain ⟨_, e', hL4⟩ := id g4.hL
        cases e'
        have tb4 := tabs_same tb3 s4
        have exH : ExtN H H4 := (extN_same s1).trans ex4
        refine ⟨_, rfl, a, rfl, ⟨_, hA4⟩, fun D hD => ?_⟩
        refine wkJ (n := ys.length) (fun i H' => Same H4 H' ∧ ∃ zs, H' D = some (.lst zs) ∧ EX H' zs ((ls.take i).flatMap fun s => lot.map fun p => stP h o p s)) ⟨same_new hD, [], upd_same, .nil⟩ (fun i H' hi h' => ?_) (fun H' h' => ?_)
        · obtain ⟨sm, zs, eD, hZ⟩ := h'
          refine ⟨⟨ys, ys[i], onT sm hA4, List.getElem?_eq_getElem hi⟩, fun x H2' y => ?_⟩
          obtain ⟨rfl, y⟩ := y
          have hx := y ys (onT sm hA4)
          obtain ⟨s, hs⟩ : ∃ s, ls[i]? = some s := ⟨_, List.getElem?_eq_getElem (by omega)⟩
          obtain ⟨b, rfl, kb⟩ := (hY4.on (TK.same sm)).get hx hs
          have lz := hZ.len
          rw [ndd_len, List.length_take] at lz
          have lz2 : min i ls.length * lot.length ≤ 25 * 5 := Nat.mul_le_mul (by omega) (by omega)
          refine ⟨rfl, ?_⟩
          refine ⟨_, rfl, al, rfl, ⟨_, onT sm hL4⟩, ?_⟩
          refine wkJ (n := lot.length) (fun j H' => Same H4 H' ∧ KX H' b s ∧ ∃ zs, H' D = some (.lst zs) ∧ EX H' zs (((ls.take i).flatMap fun s => lot.map fun p => stP h o p s) ++ (lot.take j).map fun p => stP h o p s)) ⟨sm, kb, zs, eD, by rw [List.take_zero, List.map_nil, List.append_nil]; exact hZ⟩ (fun j H' hj h' => ?_) (fun H' h' => ?_)
          · obtain ⟨sm2, kb2, zs2, eD2, hZ2⟩ := h'
            refine ⟨⟨lot.map V.int, .int lot[j], onT sm2 hL4, at_map (List.getElem?_eq_getElem hj)⟩, fun x H2' y => ?_⟩
            obtain ⟨rfl, y⟩ := y
            obtain ⟨p, hp, rfl⟩ := map_at (y _ (onT sm2 hL4))
            have st5 := st4.ext (extN_same sm2)
            have g5 := g4.tups (Same.tups sm2)
            have lv : LiveK f1 F1 l _ ∧ TII K _ (.ref ah) h ∧ TII K _ u o := ⟨st5.live, g5.hT, g5.hU⟩
            have lz3 := hZ2.len
            rw [List.length_append, ndd_len, List.length_take, List.length_map, List.length_take] at lz3
            refine ⟨rfl, ⟨f1, F1, l, .ref ah, u, st4.fe, st4.cap⟩, rfl, lv, _, rfl, _, rfl, lv, b, s, p, rfl, kb2, hc s (List.mem_of_getElem? hs), List.mem_of_getElem? hp, fun H7 q7 s7 nq kx7 => ⟨zs2, s7 _ _ eD2, small1000 (by omega), Same.upd (sm2.trans s7) hD, ?_, zs2 ++ [.ref q7], upd_same, ?_⟩⟩
            · exact (TK.upd (s7 _ _ eD2) not_tup_l) _ _ (TK.same s7 _ _ kb2)
            · have tk3 : TK H7 (upd H7 D (.lst (zs2 ++ [.ref q7]))) := TK.upd (s7 _ _ eD2) not_tup_l
              rw [take_more hp, List.map_append, ← List.append_assoc]
              exact EX.snoc (kx7.on tk3) (hZ2.on ((TK.same s7).trans tk3))
          · obtain ⟨sm2, _, zs2, eD2, hZ2⟩ := h'
            rw [List.take_length] at hZ2
            refine ⟨⟨lot.map V.int, onT sm2 hL4, Nat.le_of_eq (List.length_map ..)⟩, sm2, zs2, eD2, ?_⟩
            rw [flat_more _ hs]
            exact hZ2
        · obtain ⟨sm, zs, eD, hZ⟩ := h'
          rw [ly, List.take_length] at hZ
          have lf' := hXf.len
          rw [List.length_map] at lf'
          have lz := hZ.len
          rw [ndd_len] at lz
          have lz2 : ls.length * lot.length ≤ 25 * 5 := Nat.mul_le_mul few (by omega)
          refine ⟨⟨ys, onT sm hA4, Nat.le_refl _⟩, lf, D, xf, zs, rfl, rfl, sm _ _ eF, eD, by rw [sizeLine_eq]; omega, fun c hc2 => ?_⟩
          have sc := same_new (o := .lst (xf ++ zs)) hc2
          have s5 := sm.trans sc
          have hN : EX (upd H' c (.lst (xf ++ zs))) (xf ++ zs) (ndd h o lot ls) := ((hXf.on (TK.same s5)).app (hZ.on (TK.same sc)))
          have hA5 := onT s5 hA4
          have hY5 := hY4.on (TK.same s5)
          have g5 := g4.tups (Same.tups s5)
          have tb5 := tabs_same tb4 s5
          have ex5 := exH.trans (extN_same s5)
          have eC : (upd H' c (.lst (xf ++ zs))) c = some (.lst (xf ++ zs)) := upd_same
          generalize (upd H' c (.lst (xf ++ zs))) = H5 at *
          have ln := hN.len
          refine ⟨_, rfl, c, rfl, ⟨_, lstAt eC⟩, fun D2 hD2 => ?_⟩
          refine lc_list (xs := xf ++ zs) (fun i H6 => Same H5 H6 ∧ H6 D2 = some (.lst ((((ndd h o lot ls).take i).map fun s => decide (s ∈ ls)).map V.bl))) ⟨same_new hD2, upd_same⟩ (fun i H6 _ h6 => lstAt (h6.1 _ _ eC)) (fun i x H6 hx h6 => ?_) (fun H6 h6 => ?_)
          · obtain ⟨sm6, e6⟩ := h6
            obtain ⟨s, hs⟩ : ∃ s, (ndd h o lot ls)[i]? = some s := ⟨_, List.getElem?_eq_getElem (by have := (List.getElem?_eq_some_iff.mp hx).1; omega)⟩
            obtain ⟨b, rfl, kb⟩ := (hN.on (TK.same sm6)).get hx hs
            rw [List.length_append] at ln
            refine ⟨rfl, _, rfl, _, rfl, in_pairs rfl rfl kb (onT sm6 hA5) (hY5.on (TK.same sm6)) ⟨_, e6, ?_, Same.upd sm6 hD2, ?_⟩⟩
            · rw [List.length_map, List.length_map, List.length_take]
              exact small1000 (by omega)
            · rw [upd_same, all_snoc _ hs, List.map_append]
              rfl
          · obtain ⟨sm6, e6⟩ := h6
            rw [ln, List.take_length] at e6
            refine ⟨D2, _, rfl, lstAt e6, ?_⟩
            rw [List.all_map]
            refine ⟨_, rfl, a, ys, ls, rfl, onT sm6 hA5, hY5.on (TK.same sm6), by omega, fun H7 s7 => ?_⟩
            have s67 := sm6.trans s7
            have q7 : ∀ H', Same H7 H' → Q (.bl (pvB h o lot (.tup ls))) H' := fun H' s => q H' (ex5.trans (extN_same (s67.trans s))) (tabs_same tb5 (s67.trans s))
            have eq : pvB h o lot (.tup ls) = (riB ls && ((ndd h o lot ls).all (id ∘ fun s => decide (s ∈ ls)) && ls.all fun s => !gpT lot s)) := rfl
            rw [eq] at q7
            refine ⟨_, rfl, ?_⟩
            refine ite2 (fun e => ?_) (fun e => ?_)
            · rw [e, Bool.true_and] at q7
              refine ⟨_, rfl, _, rfl, ?_⟩
              refine ite2 (fun e => ?_) (fun e => ?_)
              · rw [e, Bool.true_and] at q7
                refine ⟨_, rfl, a, rfl, ⟨_, onT s67 hA5⟩, fun D3 hD3 => ?_⟩
                refine lc_tup (xs := ys) (fun i H8 => Same H7 H8 ∧ H8 D3 = some (.lst (((ls.take i).map fun s => !gpT lot s).map V.bl))) ⟨same_new hD3, upd_same⟩ (fun i H8 _ h8 => onT (s67.trans h8.1) hA5) (fun i x H8 hx h8 => ?_) (fun H8 h8 => ?_)
                · obtain ⟨sm8, e8⟩ := h8
                  obtain ⟨s, hs⟩ : ∃ s, ls[i]? = some s := ⟨_, List.getElem?_eq_getElem (by have := (List.getElem?_eq_some_iff.mp hx).1; omega)⟩
                  obtain ⟨b, rfl, kb⟩ := (hY5.on (TK.same (s67.trans sm8))).get hx hs
                  obtain ⟨c1, c2, es, _, _⟩ := hc s (List.mem_of_getElem? hs)
                  rw [es] at kb
                  refine ⟨rfl, _, rfl, _, rfl, b, c1, c2, .ref al, lot, rfl, kb, g5.hL.on (Same.tups (s67.trans sm8)), ?_⟩
                  have e5 : decide (optV (trd lot [c1, c2]) = V.non) = !gpT lot s := by rw [es, ← optV_not, Bool.not_not]
                  show ∃ acc, H8 D3 = some (.lst acc) ∧ acc.length < sizeLine ∧ (Same H7 (upd H8 D3 (.lst (acc ++ [.bl (decide (optV (trd lot [c1, c2]) = V.non))]))) ∧ (upd H8 D3 (.lst (acc ++ [.bl (decide (optV (trd lot [c1, c2]) = V.non))]))) D3 = some (.lst (((ls.take (i + 1)).map fun s => !gpT lot s).map V.bl)))
                  rw [e5]
                  refine ⟨_, e8, ?_, Same.upd sm8 hD3, ?_⟩
                  · rw [List.length_map, List.length_map, List.length_take]
                    exact small1000 (by omega)
                  · rw [upd_same, all_snoc _ hs, List.map_append]
                    rfl
                · obtain ⟨sm8, e8⟩ := h8
                  rw [ly, List.take_length] at e8
                  refine ⟨D3, _, rfl, lstAt e8, ?_⟩
                  rw [List.all_map]
                  exact q7 H8 sm8
              · have e' : (ndd h o lot ls).all (id ∘ fun s => decide (s ∈ ls)) = false := by simpa using e
                rw [e', Bool.false_and] at q7
                exact q7 H7 (Same.refl _)
            · have e' : riB ls = false := by simpa using e
              rw [e', Bool.false_and] at q7
              exact q7 H7 (Same.refl _)
end
end RH
set_option Elab.async false
set_option linter.all false
set_option maxRecDepth 100000
set_option maxHeartbeats 2000000
namespace RH
open PySem PySem.Spec PyProof.Rows L2
open LamX (Tabs TabS TabB ExtN CodeO codeO_ne)
/-! ### the law: its rules, its states -/
theorem cl_listOf {X : Cx} (K : PySem.W.Frag) (h : X.K = K := by rfl) : CallR X (.type "list") (fun xs H Q => ∃ p ys, xs = [.ref p] ∧ (SqL K H p ys ∨ SqT K H p ys) ∧ ∀ l, H l = none → Q (.ref l) (upd H l (.lst ys))) := by
  subst h
  exact call_list_of
theorem cl_isi {X : Cx} (K : PySem.W.Frag) (h : X.K = K := by rfl) : CallR X (.builtin "isinstance") (rIsi K) := by
  subst h
  exact call_isi
theorem opNotIn {X : Cx} (K : PySem.W.Frag) (h : X.K = K := by rfl) : OpR X (compareOp .NotIn) (rIn K true) := by
  subst h
  exact op_notIn_seq
theorem opNeD {X : Cx} (K : PySem.W.Frag) (hu : X.A.units + 64 < cLine) (h : X.K = K := by rfl) : OpR X (compareOp .NotEq) (rNeD K) := by
  subst h
  exact op_neD hu
theorem pe_tupleK {X : Cx} {a : Expr} {ta : TE} {p pos : Pos} (K : PySem.W.Frag) (hg : Gl X "tuple") (hm : X.mg "tuple" = none) (ha : PE X a ta) (h : X.K = K := by rfl) (na : starEach [a] X.env = (false, eval a X.env) :: starEach [] X.env := by rfl) : PE X (.Call (.Name "tuple" p) [a] [] pos) (tThen ta (kTup K)) := by
  subst h
  exact pe_tupleOf hg hm ha na
/-- two rules for one function -/
theorem call_or {X : Cx} {v : Value} {R1 R2 : List V → Hp → VK → Prop} (h1 : CallR X v R1) (h2 : CallR X v R2) : CallR X v (fun xs H Q => R1 xs H Q ∨ R2 xs H Q) := by
  intro pins s σ H xs us Q I r h
  rcases h with h | h
  · exact h1 pins s σ H xs us Q I r h
  · exact h2 pins s σ H xs us Q I r h
def sc2 : Scope := { kind := .function, names := [(".0", .local), ("moved", .local), ("tuple", .globalImplicit), ("kept", .cell)], isGenerator := false, isCoroutine := false }
def sc3 : Scope := { kind := .function, names := [(".0", .local), ("place", .cell), ("tuple", .globalImplicit), ("range", .globalImplicit), ("kept", .cell), ("other", .cell), ("places", .cell)], isGenerator := false, isCoroutine := false }
def sc5 : Scope := { kind := .function, names := [(".0", .local), ("pair", .cell), ("lot", .cell)], isGenerator := false, isCoroutine := false }
abbrev NL14 : List Str := ["script", "row", "places", "lot", "habit", "other", "out", "kept", "marks", "told", "found", "every", "one", "turn", "some", "odd", "value", "fine", "pair", "place", "moved", "spot", "two", "more"]
/-! habits made of habits -/
theorem getD_rg {n : Nat} {L : List Int} (hl : L.length = n) : (rg n).map (fun s => L.getD s.toNat 0) = L := by
  refine List.ext_getElem? fun i => ?_
  rw [List.getElem?_map]
  by_cases hi : i < n
  · rw [rg_at hi]
    show some (L.getD ((i : Int)).toNat 0) = _
    rw [Int.toNat_natCast, List.getD_eq_getElem?_getD, List.getElem?_eq_getElem (by omega)]
    rfl
  · rw [List.getElem?_eq_none (by rw [rg_len]; omega), List.getElem?_eq_none (by omega)]
    rfl
theorem perm_thru {n : Nat} {L ns : List Int} (hL : L.Perm (rg n)) (hn : ns.Perm (rg n)) : (ns.map fun s => L.getD s.toNat 0).Perm (rg n) := by
  have h1 : (ns.map fun s => L.getD s.toNat 0).Perm ((rg n).map fun s => L.getD s.toNat 0) := hn.map _
  rw [getD_rg (by rw [hL.length_eq, rg_len])] at h1
  exact h1.trans hL
theorem getD_at {L : List Int} {s : Int} (h0 : 0 ≤ s) (h1 : s < L.length) : atI (L.map V.int) s = some (.int (L.getD s.toNat 0)) := by
  obtain ⟨t, rfl⟩ : ∃ t : Nat, s = (t : Int) := ⟨s.toNat, by omega⟩
  rw [Int.toNat_natCast, List.getD_eq_getElem?_getD, List.getElem?_eq_getElem (by omega)]
  exact atI_nat (at_map (List.getElem?_eq_getElem (by omega)))
/-- what every state knows -/
structure Kn (K : PySem.W.Frag) (T : List (Addr × Str)) (H : Hp) (p : Addr) (v u : V) (h o : List (List Int)) (n : Nat) (al : Addr) (lot : List Int) : Prop where
  row : Row K H p
  tb : Tabs T H
  tw : Two K H v u h o n (.ref al) lot
theorem Kn.same {K : PySem.W.Frag} {T : List (Addr × Str)} {H H' : Hp} {p : Addr} {v u : V} {h o : List (List Int)} {n : Nat} {al : Addr} {lot : List Int} (k : Kn K T H p v u h o n al lot) (s : Same H H') : Kn K T H' p v u h o n al lot :=
  ⟨k.row.same s, tabs_same k.tb s, k.tw.tups (Same.tups s)⟩
theorem Kn.but {K : PySem.W.Frag} {T : List (Addr × Str)} {H H' : Hp} {p : Addr} {v u : V} {h o : List (List Int)} {n : Nat} {al : Addr} {lot : List Int} (k : Kn K T H p v u h o n al lot) (b : But p H H') (r : Row K H' p) : Kn K T H' p v u h o n al lot :=
  ⟨r, (k.row.fix b).tabs k.tb, k.tw.tups (k.row.fix b).tups⟩
theorem swap_perm {n i j : Nat} (hi : i < n) (hj : j < n) : (((rg n).set i (j : Int)).set j (i : Int)).Perm (rg n) := by
  have li : i < (rg n).length := by rw [rg_len]; exact hi
  have lj : j < (rg n).length := by rw [rg_len]; exact hj
  have ei : (rg n)[i] = (i : Int) := by
    have := rg_at hi
    rw [List.getElem?_eq_getElem li] at this
    exact Option.some.inj this
  have ej : (rg n)[j] = (j : Int) := by
    have := rg_at hj
    rw [List.getElem?_eq_getElem lj] at this
    exact Option.some.inj this
  have := List.set_set_perm (as := rg n) (i := i) (j := j) li lj
  rw [ei, ej] at this
  exact this
/-- the list of marks -/
structure Mk (H : Hp) (p : Addr) (h o : List (List Int)) (lot : List Int) (lm : Addr) (ys : List V) (ms : List (List Int)) : Prop where
  ne : lm ≠ p
  el : H lm = some (.lst ys)
  ex : EX H ys ms
  asc : Asc ms
  all : ∀ s, s ∈ ms ↔ ∃ j, Rs h o lot j s
theorem Mk.same {H H' : Hp} {p : Addr} {h o : List (List Int)} {lot : List Int} {lm : Addr} {ys : List V} {ms : List (List Int)} (m : Mk H p h o lot lm ys ms) (s : Same H H') : Mk H' p h o lot lm ys ms := ⟨m.ne, s _ _ m.el, m.ex.on (TK.same s), m.asc, m.all⟩
theorem eqv_rows1 (ls : List (List Int)) : PyData.eqv (.list (ls.map fun s => .tuple (s.map PyData.int))) (.list (([] : List Int).map PyData.int)) = decide (ls = []) := eqv_rows0 ls
theorem okD_rows {n : Nat} {ms : List (List Int)} (_h5 : n ≤ 5) (hc : ∀ s ∈ ms, CP n s) (hl : ms.length ≤ 1000) : okD 2 (.tuple (ms.map fun s => .tuple (s.map PyData.int))) := by
  refine ⟨by rw [List.length_map]; exact hl, fun d hd => ?_⟩
  obtain ⟨s, hs, rfl⟩ := List.mem_map.mp hd
  obtain ⟨a, b, rfl, _⟩ := hc s hs
  refine ⟨by show 2 ≤ 1000; decide, fun d hd => ?_⟩
  obtain ⟨i, _, rfl⟩ := List.mem_map.mp hd
  exact True.intro
theorem Mk.but {H H' : Hp} {p : Addr} {h o : List (List Int)} {lot : List Int} {lm : Addr} {ys : List V} {ms : List (List Int)} (m : Mk H p h o lot lm ys ms) (s : But p H H') (f : Fix H H') : Mk H' p h o lot lm ys ms := ⟨m.ne, s _ _ m.el m.ne, m.ex.on (Ev.fix f).tk, m.asc, m.all⟩
/-- the list of all pairs -/
structure Al (H : Hp) (p : Addr) (n : Nat) (le : Addr) (es : List V) : Prop where
  ne : le ≠ p
  el : H le = some (.lst es)
  ex : EX H es (UP n)
theorem Al.but {H H' : Hp} {p : Addr} {n : Nat} {le : Addr} {es : List V} (m : Al H p n le es) (s : But p H H') (f : Fix H H') : Al H' p n le es := ⟨m.ne, s _ _ m.el m.ne, m.ex.on (Ev.fix f).tk⟩
theorem EX.rev {H : Hp} : ∀ {xs : List V} {ls : List (List Int)}, EX H xs ls → EX H xs.reverse ls.reverse
  | _, _, .nil => .nil
  | _, _, .cons k t => by
    rw [List.reverse_cons, List.reverse_cons]
    exact EX.snoc k t.rev
/-- the values of a turn -/
structure Odd (K : PySem.W.Frag) (H : Hp) (p td t1 l2 t4 t6 t5 : Addr) (us ys : List V) (ls : List (List Int)) : Prop where
  nl : l2 ≠ p
  ed : SqT K H td us
  ux : EX H us ls
  e1 : SqT K H t1 ys
  e2 : H l2 = some (.lst ys)
  e4 : SqT K H t4 ys.reverse
  e6 : SqT K H t6 [.ref t5]
  e5 : SqT K H t5 [.bl true, .int 0]
theorem Odd.but {K : PySem.W.Frag} {H H' : Hp} {p td t1 l2 t4 t6 t5 : Addr} {us ys : List V} {ls : List (List Int)} (m : Odd K H p td t1 l2 t4 t6 t5 us ys ls) (s : But p H H') (f : Fix H H') : Odd K H' p td t1 l2 t4 t6 t5 us ys ls :=
  ⟨m.nl, f.tups _ _ m.ed, m.ux.on (Ev.fix f).tk, f.tups _ _ m.e1, s _ _ m.e2 m.nl, f.tups _ _ m.e4, f.tups _ _ m.e6, f.tups _ _ m.e5⟩
theorem Odd.kind {K : PySem.W.Frag} {H : Hp} {n : Nat} {p td t1 l2 t4 t6 t5 : Addr} {us ys : List V} {ls ms : List (List Int)} (m : Odd K H p td t1 l2 t4 t6 t5 us ys ls) (hx : EX H ys ms) (c1 : ∀ s ∈ ls, CP n s) (c2 : ∀ s ∈ ms, CP n s) (l1 : ls.length ≤ 25) (l2' : ms.length ≤ 25) {i : Nat} {x : V}
    (h : ((List.replicate (4 : Int).toNat [V.ref td]).flatten ++ [.ref t1, .ref l2, .non, .ref t4, .ref t6])[i]? = some x) : ∃ pval, Pk K H n x pval := by
  rcases List.mem_append.mp (List.mem_of_getElem? h) with z | z
  · obtain ⟨l, hl, hx2⟩ := List.mem_flatten.mp z
    rw [(List.mem_replicate.mp hl).2] at hx2
    rw [List.mem_singleton.mp hx2]
    exact ⟨_, .tup m.ed m.ux c1 l1⟩
  · simp only [List.mem_cons, List.not_mem_nil, or_false] at z
    rcases z with rfl | rfl | rfl | rfl | rfl
    · exact ⟨_, .tup m.e1 hx c2 l2'⟩
    · exact ⟨_, .lst (lstAt m.e2)⟩
    · exact ⟨_, .non⟩
    · exact ⟨_, .tup m.e4 hx.rev (fun s hs => c2 s (List.mem_reverse.mp hs)) (by rw [List.length_reverse]; exact l2')⟩
    · exact ⟨_, .odd m.e6 m.e5⟩
def GA (K : PySem.W.Frag) (T : List (Addr × Str)) (a : Addr) (σ : L2.St) (H : Hp) : Prop := ∃ (p : Addr) (n : Nat) (al : Addr) (v u : V) (y6 y7 y19 : Option V) (h o : List (List Int)) (lot : List Int),
  σ = [some (.ref a), some (.ref p), some (.int (n : Int)), some (.ref al), some v, some u, y6, y7, none, none, none, none, none, none, none, none, none, none, none, y19, none, none, none, none] ∧ Kn K T H p v u h o n al lot
def GK (K : PySem.W.Frag) (T : List (Addr × Str)) (a : Addr) (σ : L2.St) (H : Hp) : Prop := ∃ (p : Addr) (n : Nat) (al m : Addr) (v u : V) (y6 : Option V) (h o : List (List Int)) (lot kl : List Int),
  σ = [some (.ref a), some (.ref p), some (.int (n : Int)), some (.ref al), some v, some u, y6, some (.ref m), none, none, none, none, none, none, none, none, none, none, none, none, none, none, none, none] ∧ Kn K T H p v u h o n al lot ∧ H m = some (.lst (kl.map V.int)) ∧ kl.Perm (rg n)
def GB (K : PySem.W.Frag) (T : List (Addr × Str)) (a : Addr) (σ : L2.St) (H : Hp) : Prop := ∃ (p : Addr) (n : Nat) (al : Addr) (v u : V) (y6 y7 y9 y10 y19 : Option V) (h o : List (List Int)) (lot : List Int) (lm : Addr) (ys : List V) (ms : List (List Int)),
  σ = [some (.ref a), some (.ref p), some (.int (n : Int)), some (.ref al), some v, some u, y6, y7, some (.ref lm), y9, y10, none, none, none, none, none, none, none, none, y19, none, none, none, none] ∧ Kn K T H p v u h o n al lot ∧ Mk H p h o lot lm ys ms
def GT (K : PySem.W.Frag) (T : List (Addr × Str)) (a : Addr) (σ : L2.St) (H : Hp) : Prop := ∃ (p : Addr) (n : Nat) (al : Addr) (v u : V) (y6 y7 y10 y19 : Option V) (h o : List (List Int)) (lot : List Int) (lm lt : Addr) (ys zs : List V) (ms : List (List Int)),
  σ = [some (.ref a), some (.ref p), some (.int (n : Int)), some (.ref al), some v, some u, y6, y7, some (.ref lm), some (.ref lt), y10, none, none, none, none, none, none, none, none, y19, none, none, none, none] ∧ Kn K T H p v u h o n al lot ∧ Mk H p h o lot lm ys ms ∧ H lt = some (.lst zs) ∧ EX H zs (ms.filter (gpT lot))
def GC (K : PySem.W.Frag) (T : List (Addr × Str)) (a : Addr) (σ : L2.St) (H : Hp) : Prop := ∃ (p : Addr) (n : Nat) (al : Addr) (v u : V) (y6 y7 y9 y10 y12 y13 y14 y15 y16 y17 y18 y19 : Option V) (h o : List (List Int)) (lot : List Int) (lm le : Addr) (ys es : List V) (ms : List (List Int)),
  σ = [some (.ref a), some (.ref p), some (.int (n : Int)), some (.ref al), some v, some u, y6, y7, some (.ref lm), y9, y10, some (.ref le), y12, y13, y14, y15, y16, y17, y18, y19, none, none, none, none] ∧ Kn K T H p v u h o n al lot ∧ Mk H p h o lot lm ys ms ∧ Al H p n le es
/-- a value is drawn -/
def GD (K : PySem.W.Frag) (T : List (Addr × Str)) (a : Addr) (σ : L2.St) (H : Hp) : Prop := ∃ (p : Addr) (n : Nat) (al : Addr) (v u : V) (y6 y7 y9 y10 y12 y13 y14 y15 y17 y18 y19 : Option V) (x : V) (h o : List (List Int)) (lot : List Int) (lm le : Addr) (ys es : List V) (ms : List (List Int)) (pval : PV),
  σ = [some (.ref a), some (.ref p), some (.int (n : Int)), some (.ref al), some v, some u, y6, y7, some (.ref lm), y9, y10, some (.ref le), y12, y13, y14, y15, some x, y17, y18, y19, none, none, none, none] ∧ Kn K T H p v u h o n al lot ∧ Mk H p h o lot lm ys ms ∧ Al H p n le es ∧ Pk K H n x pval
/-- the pairs are looked through: b says what was found -/
def fB (h o : List (List Int)) (lot : List Int) : PV → Bool
  | .tup ls => riB ls && ((ls.flatMap fun s => lot.map fun p => stP h o p s).all (fun s => decide (s ∈ ls)) && ls.all fun s => !gpT lot s)
  | _ => false
/-- what fine is at first -/
def b5 : PV → Bool → Prop
  | .tup ls, b => b = riB ls
  | .odd, _ => True
  | _, b => b = false
theorem eqv_rowsL (a b : List (List Int)) : PyData.eqv (.list (a.map fun s => .tuple (s.map PyData.int))) (.list (b.map fun s => .tuple (s.map PyData.int))) = decide (a = b) := by
  have z := eqv_hab a b
  rw [PyData.eqv] at z
  rw [PyData.eqv]
  exact z
theorem asc_ri {n : Nat} {ls ms : List (List Int)} (h5 : n ≤ 5) (hc : ∀ s ∈ ls, CP n s) (hm : Asc ms) (e : ∀ s, s ∈ ms ↔ s ∈ ls) : decide (ls = ms) = riB ls := by
  rw [Bool.eq_iff_iff, decide_eq_true_iff, riB_iff h5 hc]
  constructor
  · rintro rfl
    exact hm
  · intro z
    exact by_eq z hm fun s => (e s).symm
def G5 (K : PySem.W.Frag) (T : List (Addr × Str)) (a : Addr) (σ : L2.St) (H : Hp) : Prop := ∃ (p : Addr) (n : Nat) (al : Addr) (v u : V) (y6 y7 y9 y10 y12 y13 y14 y15 y18 y19 : Option V) (x : V) (b : Bool) (h o : List (List Int)) (lot : List Int) (lm le : Addr) (ys es : List V) (ms : List (List Int)) (pval : PV),
  σ = [some (.ref a), some (.ref p), some (.int (n : Int)), some (.ref al), some v, some u, y6, y7, some (.ref lm), y9, y10, some (.ref le), y12, y13, y14, y15, some x, some (.bl b), y18, y19, none, none, none, none] ∧ Kn K T H p v u h o n al lot ∧ Mk H p h o lot lm ys ms ∧ Al H p n le es ∧ Pk K H n x pval ∧ b5 pval b
/-- x in y, whatever comes -/
theorem in_any {K : PySem.W.Frag} {H : Hp} {Q : VK} {x y : V} {c d : PyData} {ds : List PyData} (h1 : Dp K H y c) (h2 : c = .list ds ∨ c = .tuple ds) (h3 : Dp K H x d) (h4 : SeqAt.shaped c = true) (h5 : SeqAt.shaped d = true) (q : ∀ b, Q (.bl b) H) : rInD K false x y H Q :=
  ⟨c, d, ds, h1, h2, h3, h4, h5, q _⟩
theorem in_pairsL {K : PySem.W.Frag} {H : Hp} {Q : VK} {x y : V} {b a : Addr} {s : List Int} {ys : List V} {ls : List (List Int)} (ex : x = .ref b) (ey : y = .ref a) (hx : KX H b s) (hS : SqL K H a ys) (hE : EX H ys ls) (hs : s ∈ ls) (q : Q (.bl true) H) : rInD K false x y H Q := by
  subst ex ey
  refine ⟨_, _, _, .lst hS (dp_rows hE), .inl rfl, dp_tup (.inl hx), shaped_rows ls, shaped_one s, ?_⟩
  show Q (.bl _) H
  rw [if_neg Bool.false_ne_true, any_in, decide_eq_true hs]
  exact q
def okP (h o : List (List Int)) (lot : List Int) (ls : List (List Int)) (s : List Int) : Bool := (lot.all fun p => decide (stP h o p s ∈ ls)) && !gpT lot s
theorem fB_tup {h o : List (List Int)} {lot : List Int} {ls : List (List Int)} (hr : true = riB ls) : fB h o lot (.tup ls) = ls.all (okP h o lot ls) := by
  show (riB ls && _) = _
  rw [← hr, Bool.true_and, Bool.eq_iff_iff]
  simp only [Bool.and_eq_true, List.all_eq_true, okP, decide_eq_true_eq, List.mem_flatMap, List.mem_map]
  constructor
  · rintro ⟨h1, h2⟩ s hs
    exact ⟨fun p hp => h1 _ ⟨s, hs, p, hp, rfl⟩, h2 s hs⟩
  · intro z
    refine ⟨?_, fun s hs => (z s hs).2⟩
    rintro x ⟨s, hs, p, hp, rfl⟩
    exact (z s hs).1 p hp
theorem pvB_tup {h o : List (List Int)} {lot : List Int} {ls : List (List Int)} (hf : fB h o lot (.tup ls) = true) : pvB h o lot (.tup ls) = decide (lot.filter (fun pl => !decide (fpr h o pl ∈ ls)) = []) := by
  have hf : (riB ls && ((ls.flatMap fun s => lot.map fun p => stP h o p s).all (fun s => decide (s ∈ ls)) && ls.all fun s => !gpT lot s)) = true := hf
  rw [Bool.and_eq_true, Bool.and_eq_true] at hf
  obtain ⟨h1, h2, h3⟩ := hf
  show (riB ls && ((ndd h o lot ls).all (fun s => decide (s ∈ ls)) && ls.all fun s => !gpT lot s)) = _
  rw [h1, h3, Bool.true_and, Bool.and_true]
  show ((lot.map (fpr h o) ++ ls.flatMap fun s => lot.map fun p => stP h o p s).all (fun s => decide (s ∈ ls))) = _
  rw [List.all_append, h2, Bool.and_true, Bool.eq_iff_iff, List.all_eq_true, decide_eq_true_iff, List.filter_eq_nil_iff]
  constructor
  · intro z pl hp
    have := z _ (List.mem_map.mpr ⟨pl, hp, rfl⟩)
    rw [this]
    exact Bool.false_ne_true
  · intro z x hx
    obtain ⟨pl, hp, rfl⟩ := List.mem_map.mp hx
    have := z pl hp
    cases e : decide (fpr h o pl ∈ ls) with
    | true => rfl
    | false =>
      rw [e] at this
      exact absurd rfl this
def GF (K : PySem.W.Frag) (T : List (Addr × Str)) (a : Addr) (σ : L2.St) (H : Hp) : Prop := ∃ (p : Addr) (n : Nat) (al : Addr) (v u : V) (y6 y7 y9 y10 y12 y13 y14 y15 y18 y19 : Option V) (x : V) (h o : List (List Int)) (lot : List Int) (lm le : Addr) (ys es : List V) (ms : List (List Int)) (pval : PV),
  σ = [some (.ref a), some (.ref p), some (.int (n : Int)), some (.ref al), some v, some u, y6, y7, some (.ref lm), y9, y10, some (.ref le), y12, y13, y14, y15, some x, some (.bl (fB h o lot pval)), y18, y19, none, none, none, none] ∧ Kn K T H p v u h o n al lot ∧ Mk H p h o lot lm ys ms ∧ Al H p n le es ∧ Pk K H n x pval
/-- whether it is fine, is found -/
def GE (K : PySem.W.Frag) (T : List (Addr × Str)) (a : Addr) (σ : L2.St) (H : Hp) : Prop := ∃ (p : Addr) (n : Nat) (al : Addr) (v u : V) (y6 y7 y9 y10 y12 y13 y14 y15 y18 y19 : Option V) (x : V) (h o : List (List Int)) (lot : List Int) (lm le : Addr) (ys es : List V) (ms : List (List Int)) (pval : PV),
  σ = [some (.ref a), some (.ref p), some (.int (n : Int)), some (.ref al), some v, some u, y6, y7, some (.ref lm), y9, y10, some (.ref le), y12, y13, y14, y15, some x, some (.bl (pvB h o lot pval)), y18, y19, none, none, none, none] ∧ Kn K T H p v u h o n al lot ∧ Mk H p h o lot lm ys ms ∧ Al H p n le es ∧ Pk K H n x pval
section
variable {P : Program} {w : World} {K : PySem.W.Frag} {mg : Str → Option Value} {base : Heap}
theorem ok_law {T : List (Addr × Str)} {f : Addr} {fdat : FuncData} (F : Fun K "law" "law" st_law f fdat) (B : Bu mg) (bset : mg "set" = none) (CT : Cal P w K mg base 1 "_law_taken" (spTaken K)) (CPi : Cal P w K mg base 2 "_law_pick" (spPick K)) (CLo : Cal P w K mg base 2 "_law_lot" (spLot K)) (CH : Cal P w K mg base 3 "_law_habit" (spHabit K))
    (CO : Cal P w K mg base 2 "_law_order" (spOrder K)) (CA : Cal P w K mg base 3 "_law_alike" (spAlike K 2)) (CM : Cal P w K mg base 1 "_law_marks" (spMarks P w K)) (CTe : Cal P w K mg base 9 "test" (spTest K T)) (CPa : Cal P w K mg base 9 "alike_paper" (spPaper K T)) (CSh : Cal P w K mg base 9 "shows_alike" (spShowsA K T)) :
    FnOk P w K mg base CX0 10 f fdat ["script"] (spLaw K T) := by
  refine F.ok sc_law (fun vs H Q E h => ?_) (fun cdv A outer s H vs Q E hr h => ?_)
  · obtain ⟨a, ns, rfl, _⟩ := h
    rfl
  · obtain ⟨a, scr, rfl, hZ, hTb, q⟩ := h
    refine ⟨_, pss_cons (ps_set (i := 1) sc_law.nd rfl (.inr rfl) (pe_lst (pa_cons (pv 0) (pa_cons pe_int (pa_cons pe_int (pa_cons pe_int pa_nil))))))
      (pss_cons (ps_set (i := 2) sc_law.nd rfl (.inr rfl) (pe_op op_add pe_int (pc CT hr (pa_cons (pv 1) (pa_cons pe_int pa_nil)))))
      (pss_cons (ps_set (i := 3) sc_law.nd rfl (.inr rfl) (pc CLo hr (pa_cons (pv 1) (pa_cons (pv 2) pa_nil))))
      (pss_cons (ps_asg (pe_tup (pa_cons (pc CH hr (pa_cons (pv 1) (pa_cons (pv 2) pa_nil))) (pa_cons (pc CH hr (pa_cons (pv 1) (pa_cons (pv 2) pa_nil))) pa_nil))) (pg_tup rfl (pgs_cons (pg_name (i := 4) sc_law.nd rfl (.inr rfl)) (pgs_cons (pg_name (i := 5) sc_law.nd rfl (.inr rfl)) pgs_nil))))
      (pss_cons (ps_cut (GA K T a) (ps_if (pt_cmpR op_gt (pc CT hr (pa_cons (pv 1) (pa_cons pe_int pa_nil))) pe_int (nomark _)) (pss_cons (ps_setLc (i := 6) (own := [("place", 19)]) (g := gName 19) rfl sc_law.nd rfl rfl (sw_true rfl rfl rfl (by decide +kernel)) (pi_range1 (by rfl) B.range (pa_cons (pv 2) pa_nil)) (blkOk_by (N := NL14) (sc := defScope st_law) (by decide +kernel)) (fun _ _ _ _ _ => pg_name (i := 19) sc_law.nd rfl (Or.inl rfl)) (fun _ _ _ _ _ => pts_one (pt_cmpR (opNotIn K) (pv 19) (pv 3) rfl)) (fun _ _ _ _ _ => pv 19))
      (pss_cons (ps_set (i := 7) sc_law.nd rfl (.inr rfl) (pe_listRg rfl (by rfl) B.list (prg_1 (by rfl) B.range (pv 2))))
      (pss_cons (ps_cut (GK K T a) (ps_if (pt_cmpR op_eq (pe_callB (cl_len K) (by rfl) B.len PySem.boot_len (pa_cons (pv 6) pa_nil)) pe_int (nomark _)) (pss_one (ps_asg (pe_tup (pa_cons (pe_ix (ixL K) (pv 7) (pe_ix (ixL K) (pv 6) pe_int (fun _ _ => rfl)) (fun _ _ => rfl)) (pa_cons (pe_ix (ixL K) (pv 7) (pe_ix (ixL K) (pv 6) pe_int (fun _ _ => rfl)) (fun _ _ => rfl)) pa_nil))) (pg_tup rfl (pgs_cons (pg_sub (pv 7) (pe_ix (ixL K) (pv 6) pe_int (fun _ _ => rfl)) set_list) (pgs_cons (pg_sub (pv 7) (pe_ix (ixL K) (pv 6) pe_int (fun _ _ => rfl)) set_list) pgs_nil))))) pss_nil))
      (pss_cons (ps_cut (GK K T a) (ps_set (i := 5) sc_law.nd rfl (.inr rfl) (pe_tupleOf (by rfl) B.tuple (pe_lc (own := [("moved", 20)]) (g := gName 20) (tt := tYes) (te := tThen (tLc (iTup K (tVar 20)) (gName 21) tYes (tOp (rIxL K) (tVar 7) (tVar 21)) [21]) (kTup K)) rfl sc_law.nd (pi_tup (pv 4)) (blkOk_by (N := NL14) (sc := defScope st_law) (by decide +kernel)) (fun _ _ _ _ _ => pg_name (i := 20) sc_law.nd rfl (Or.inl rfl)) (fun _ _ _ _ _ => pts_nil) (fun _ _ _ _ _ => pe_tupleK K (by rfl) B.tuple (pe_lc (own := [("spot", 21)]) (g := gName 21) (tt := tYes) rfl sc_law.nd (pi_tup (pv 20)) (blkOk_by (N := NL14) (sc := sc2) (by decide +kernel)) (fun _ _ _ _ _ => pg_name (i := 21) sc_law.nd rfl (Or.inl rfl)) (fun _ _ _ _ _ => pts_nil) (fun _ _ _ _ _ => (pe_ix (ixL K) (pv 7) (pv 21) (fun _ _ => rfl)))))))))
      (pss_cons (ps_cut (GA K T a) (ps_set (i := 5) sc_law.nd rfl (.inr rfl) (pe_tupleOf (by rfl) B.tuple (pe_lc (own := [("place", 19)]) (g := gName 19) (tt := tYes) (te := tThen (tLc (iRng1 (tCons (tVar 2) tNil)) (gName 21) tYes (tOp (rIxT K) (tOp (rIxT K) (tVar 5) (tVar 19)) (tOp (rIxL K) (tVar 7) (tVar 21))) [21]) (kTup K)) rfl sc_law.nd (pi_range1 (by rfl) B.range (pa_cons (pv 2) pa_nil)) (blkOk_by (N := NL14) (sc := defScope st_law) (by decide +kernel)) (fun _ _ _ _ _ => pg_name (i := 19) sc_law.nd rfl (Or.inr rfl)) (fun _ _ _ _ _ => pts_nil) (fun _ _ _ _ _ => pe_tupleK K (by rfl) B.tuple (pe_lc (own := [("spot", 21)]) (g := gName 21) (tt := tYes) rfl sc_law.nd (pi_range1 (by rfl) B.range (pa_cons (pv 2) pa_nil)) (blkOk_by (N := NL14) (sc := sc3) (by decide +kernel)) (fun _ _ _ _ _ => pg_name (i := 21) sc_law.nd rfl (Or.inl rfl)) (fun _ _ _ _ _ => pts_nil) (fun _ _ _ _ _ => (pe_ix (ixT K) (pe_ix (ixT K) (pv 5) (pv 19) (fun _ _ => rfl)) (pe_ix (ixL K) (pv 7) (pv 21) (fun _ _ => rfl)) (fun _ _ => rfl)))))))))
      (pss_one (ps_if (pt_cmpR op_eq (pc CT hr (pa_cons (pv 1) (pa_cons pe_int pa_nil))) pe_int (nomark _)) (pss_one (ps_set (i := 5) sc_law.nd rfl (.inr rfl) (pe_tupleOf (by rfl) B.tuple (pe_lc (own := [("place", 19)]) (g := gName 19) (tt := tYes) rfl sc_law.nd (pi_range1 (by rfl) B.range (pa_cons (pv 2) pa_nil)) (blkOk_by (N := NL14) (sc := defScope st_law) (by decide +kernel)) (fun _ _ _ _ _ => pg_name (i := 19) sc_law.nd rfl (Or.inl rfl)) (fun _ _ _ _ _ => pts_nil) (fun _ _ _ _ _ => pe_ifExp (pt_cmpR (opIn K) (pv 19) (pv 3) rfl) (pe_ix (ixT K) (pv 5) (pv 19) (fun _ _ => rfl)) (pc CO hr (pa_cons (pv 1) (pa_cons (pv 2) pa_nil)))))))) pss_nil))))))) pss_nil))
      (pss_cons (ps_cut (GB K T a) (ps_set (i := 8) sc_law.nd rfl (.inl rfl) (pe_callB call_sortT (by rfl) B.sorted (by decide +kernel) (pa_cons (pe_callTy (call_listE rfl) (by rfl) B.list (by decide +kernel) (pa_cons (pc CM hr (pa_cons (pv 4) (pa_cons (pv 5) (pa_cons (pv 3) pa_nil)))) pa_nil)) pa_nil))))
      (pss_cons (ps_setLc (i := 9) (own := [("pair", 18)]) (g := gName 18) (te := tVar 18) (tt := tTest (tOp (rNeD K) (tLc (iTup K (tVar 3)) (gName 19) (tTest (tOp rNe (tOp rEq (tOp (rIxT K) (tVar 18) (tC (.int 0))) (tVar 19)) (tOp rEq (tOp (rIxT K) (tVar 18) (tC (.int 1))) (tVar 19)))) (tVar 19) [19]) (tLst tNil))) rfl sc_law.nd rfl rfl (sw_true rfl rfl rfl (by decide +kernel)) (pi_list (pv 8)) (blkOk_by (N := NL14) (sc := defScope st_law) (by decide +kernel)) (fun _ _ _ _ _ => pg_name (i := 18) sc_law.nd rfl (Or.inr rfl)) (fun _ _ _ _ _ => pts_one (pt_cmpR (opNeD K hr.units) (pe_lc (own := [("place", 19)]) (g := gName 19) rfl sc_law.nd (pi_tup (pv 3)) (blkOk_by (N := NL14) (sc := sc5) (by decide +kernel)) (fun _ _ _ _ _ => pg_name (i := 19) sc_law.nd rfl (Or.inl rfl)) (fun _ _ _ _ _ => pts_one (pt_cmpR op_ne (pe_cmpR op_eq (pe_ix (ixT K) (pv 18) pe_int (fun _ _ => rfl)) (pv 19) (nomark _)) (pe_cmpR op_eq (pe_ix (ixT K) (pv 18) pe_int (fun _ _ => rfl)) (pv 19) (nomark _)) (nomark _))) (fun _ _ _ _ _ => pv 19)) (pe_lst pa_nil) (nomark _))) (fun _ _ _ _ _ => pv 18))
      (pss_cons (ps_set (i := 10) sc_law.nd rfl (.inl rfl) (pc CPa hr (pa_cons (pv 4) (pa_cons (pv 5) (pa_cons (pv 3) pa_nil))) (hk := Nat.le_refl _)))
      (pss_cons (ps_cut (GT K T a) (ps_if (pt_not (pt_val (pc CA hr (pa_cons (pv 10) (pa_cons (pe_ifExp (pt_cmpR (op_eqD hr.units) (pv 9) (pe_lst pa_nil) (nomark _)) (pe_tupleOf (by rfl) B.tuple (pv 8)) pe_non) pa_nil))))) (pss_one (ps_ret pe_bl)) pss_nil))
      (pss_cons (ps_cut (GB K T a) (ps_if (pt_cmpR op_ne (pe_cmp (pc_isN (pc CTe hr (pa_cons (pv 4) (pa_cons (pv 5) (pa_cons (pv 3) pa_nil))) (hk := Nat.le_refl _)))) (pe_cmpR (op_eqD hr.units) (pv 9) (pe_lst pa_nil) (nomark _)) (nomark _)) (pss_one (ps_ret pe_bl)) pss_nil))
      (pss_cons (ps_set (i := 11) sc_law.nd rfl (.inr rfl) (pe_lst pa_nil))
      (pss_cons (ps_cut (GC K T a) (ps_for PassesOwn.never rfl (pi_range1 (by rfl) B.range (pa_cons (pv 2) pa_nil)) (pg_name (i := 12) sc_law.nd rfl (.inr rfl)) (pss_one (ps_set (i := 11) sc_law.nd rfl (.inr rfl) (pe_op op_cat (pv 11) (pe_lc (own := [("two", 22)]) (g := gName 22) (tt := tYes) rfl sc_law.nd (pi_range1 (by rfl) B.range (pa_cons (pv 2) pa_nil)) (blkOk_by (N := NL14) (sc := defScope st_law) (by decide +kernel)) (fun _ _ _ _ _ => pg_name (i := 22) sc_law.nd rfl (Or.inl rfl)) (fun _ _ _ _ _ => pts_nil) (fun _ _ _ _ _ => pe_tup (pa_cons (pv 12) (pa_cons (pv 22) pa_nil)))))))))
      (pss_cons (ps_for PassesOwn.never rfl (pi_range1 (by rfl) B.range (pa_cons pe_int pa_nil)) (pg_name (i := 13) sc_law.nd rfl (.inl rfl)) (pss_cons (ps_setLc (i := 14) (own := [("pair", 18)]) (g := gName 18) rfl sc_law.nd rfl rfl (sw_true rfl rfl rfl (by decide +kernel)) (pi_list (pv 8)) (blkOk_by (N := NL14) (sc := defScope st_law) (by decide +kernel)) (fun _ _ _ _ _ => pg_name (i := 18) sc_law.nd rfl (Or.inl rfl)) (fun _ _ _ _ _ => pts_one (pt_cmpR op_gt (pc CT hr (pa_cons (pv 1) (pa_cons pe_int pa_nil))) pe_int (nomark _))) (fun _ _ _ _ _ => pv 18))
      (pss_cons (ps_set (i := 14) sc_law.nd rfl (.inl rfl) (pe_op op_cat (pv 14) (pe_lc (own := [("more", 23)]) (g := gName 23) (tt := tYes) rfl sc_law.nd (pi_range1 (by rfl) B.range (pa_cons (pc CT hr (pa_cons (pv 1) (pa_cons pe_int pa_nil))) pa_nil)) (blkOk_by (N := NL14) (sc := defScope st_law) (by decide +kernel)) (fun _ _ _ _ _ => pg_name (i := 23) sc_law.nd rfl (Or.inl rfl)) (fun _ _ _ _ _ => pts_nil) (fun _ _ _ _ _ => pc CPi hr (pa_cons (pv 1) (pa_cons (pv 11) pa_nil))))))
      (pss_cons (ps_set (i := 15) sc_law.nd rfl (.inl rfl) (pe_lst (pa_cons (pe_tupleOf (by rfl) B.tuple (pv 8)) (pa_cons (pe_callTy (cl_listOf K) (by rfl) B.list (by decide +kernel) (pa_cons (pv 8) pa_nil)) (pa_cons pe_non (pa_cons (pe_back K (pe_tupleOf (by rfl) B.tuple (pv 8))) (pa_cons (pe_tup (pa_cons (pe_tup (pa_cons pe_bl (pa_cons pe_int pa_nil))) pa_nil)) pa_nil)))))))
      (pss_cons (ps_cut (GD K T a) (ps_set (i := 16) sc_law.nd rfl (.inr rfl) (pc CPi hr (pa_cons (pv 1) (pa_cons (pe_op op_cat (pe_op op_rep (pe_lst (pa_cons (pe_tupleOf (by rfl) B.tuple (pe_callB (cr_sortedT rfl) (by rfl) B.sorted (by decide +kernel) (pa_cons (pe_callTy (cr_setOfT rfl hr.units) (by rfl) bset (by decide +kernel) (pa_cons (pv 14) pa_nil)) pa_nil))) pa_nil)) pe_int) (pv 15)) pa_nil)))))
      (pss_cons (ps_cut (G5 K T a) (ps_set (i := 17) sc_law.nd rfl (.inl rfl) (pe_and (pe_callB call_isi (by rfl) B.isi (by decide +kernel) (pa_cons (pv 16) (pa_cons (pe_bltn (v := .ty "tuple") (by rfl) B.tuple (by decide +kernel) rfl) pa_nil))) (pe_one (pe_cmpR (op_eqD hr.units) (pe_callTy (cl_listOf K) (by rfl) B.list (by decide +kernel) (pa_cons (pv 16) pa_nil)) (pe_callB (call_or (cr_sortedT rfl) (call_sortOdd rfl)) (by rfl) B.sorted (by decide +kernel) (pa_cons (pe_callTy (call_or (call_setTT rfl hr.units) (call_setOdd rfl hr.units)) (by rfl) bset (by decide +kernel) (pa_cons (pv 16) pa_nil)) pa_nil)) (nomark _))))))
      (pss_cons (ps_cut (GF K T a) (ps_for PassesOwn.never rfl (pi_tup (pe_ifExp (pt_val (pv 17)) (pv 16) (pe_tup pa_nil))) (pg_name (i := 18) sc_law.nd rfl (.inr rfl)) (pss_cons (ps_set (i := 17) sc_law.nd rfl (.inl rfl) (pe_and (pv 17) (pe_and (pe_cmpR (opInD K (room65 hr)) (pv 18) (pv 11) rfl) (pe_one (pe_not (pe_callB (cl_isi K) (by rfl) B.isi (by decide +kernel) (pa_cons (pe_ix (ixT K) (pv 18) pe_int (fun _ _ => rfl)) (pa_cons (pe_bltn (v := .ty "bool") (by rfl) B.bool (by decide +kernel) rfl) pa_nil))))))))
      (pss_cons (ps_set (i := 17) sc_law.nd rfl (.inl rfl) (pe_and (pv 17) (pe_one (pe_cmpR (op_eqD hr.units) (pe_lc (own := [("place", 19)]) (g := gName 19) rfl sc_law.nd (pi_tup (pv 3)) (blkOk_by (N := NL14) (sc := defScope st_law) (by decide +kernel)) (fun _ _ _ _ _ => pg_name (i := 19) sc_law.nd rfl (Or.inl rfl)) (fun _ _ _ _ _ => pts_one (pt_cmpR op_ne (pe_cmpR op_eq (pe_ix (ixT K) (pv 18) pe_int (fun _ _ => rfl)) (pv 19) (nomark _)) (pe_cmpR op_eq (pe_ix (ixT K) (pv 18) pe_int (fun _ _ => rfl)) (pv 19) (nomark _)) (nomark _))) (fun _ _ _ _ _ => pv 19)) (pe_lst pa_nil) (nomark _)))))
      (pss_one (ps_for PassesOwn.never rfl (pi_tup (pe_ifExp (pt_val (pv 17)) (pv 3) (pe_tup pa_nil))) (pg_name (i := 19) sc_law.nd rfl (.inl rfl)) (pss_one (ps_set (i := 17) sc_law.nd rfl (.inl rfl) (pe_and (pv 17) (pe_one (pe_cmpR (opInD K (room65 hr)) (pe_tup (pa_cons (pe_ix (ixT K) (pe_ix (ixT K) (pv 4) (pv 19) (fun _ _ => rfl)) (pe_ix (ixT K) (pv 18) pe_int (fun _ _ => rfl)) (fun _ _ => rfl)) (pa_cons (pe_ix (ixT K) (pe_ix (ixT K) (pv 5) (pv 19) (fun _ _ => rfl)) (pe_ix (ixT K) (pv 18) pe_int (fun _ _ => rfl)) (fun _ _ => rfl)) pa_nil))) (pv 16) rfl)))))))))))
      (pss_cons (ps_cut (GE K T a) (ps_set (i := 17) sc_law.nd rfl (.inl rfl) (pe_and (pv 17) (pe_one (pe_cmpR (op_eqD hr.units) (pe_lc (own := [("place", 19)]) (g := gName 19) rfl sc_law.nd (pi_tup (pv 3)) (blkOk_by (N := NL14) (sc := defScope st_law) (by decide +kernel)) (fun _ _ _ _ _ => pg_name (i := 19) sc_law.nd rfl (Or.inl rfl)) (fun _ _ _ _ _ => pts_one (pt_cmpR (opNotInD K (room65 hr)) (pe_tup (pa_cons (pe_ix (ixT K) (pe_ix (ixT K) (pv 4) (pv 19) (fun _ _ => rfl)) (pv 19) (fun _ _ => rfl)) (pa_cons (pe_ix (ixT K) (pe_ix (ixT K) (pv 5) (pv 19) (fun _ _ => rfl)) (pv 19) (fun _ _ => rfl)) pa_nil))) (pv 16) rfl)) (fun _ _ _ _ _ => pv 19)) (pe_lst pa_nil) (nomark _))))))
      (pss_one (ps_if (pt_not (pt_val (pc CA hr (pa_cons (pc CSh hr (pa_cons (pv 4) (pa_cons (pv 5) (pa_cons (pv 3) (pa_cons (pv 16) pa_nil)))) (hk := Nat.le_refl _)) (pa_cons (pv 17) pa_nil))))) (pss_one (ps_ret pe_bl)) pss_nil))))))))))
      (pss_one (ps_ret pe_bl)))))))))))))), ?_⟩
    -- row, places
    refine ⟨_, rfl, by show 4 ≤ sizeLine; decide, fun p hp => ?_⟩
    have sp := same_new (o := .lst [.ref a, .int 0, .int 5014, .int 0]) hp
    have hR1 : Row K (upd H p (.lst [.ref a, .int 0, .int 5014, .int 0])) p := ⟨a, scr, 0, 5014, 0, upd_same, hZ.on (Fix.same sp), Int.le_refl _⟩
    have tb1 := tabs_same hTb sp
    generalize (upd H p (.lst [.ref a, .int 0, .int 5014, .int 0])) = H1 at *
    refine ⟨_, rfl, p, 3, rfl, hR1, by decide, by decide, fun k H2 k0 k1 hB2 hR2 => ⟨2, k, rfl, rfl, ?_⟩⟩
    have tb2 : Tabs T H2 := (hR1.fix hB2).tabs tb1
    obtain ⟨n, hn⟩ : ∃ n : Nat, 2 + k = (n : Int) := ⟨(2 + k).toNat, by omega⟩
    show gName 2 (V.int (2 + k)) _ _ _
    rw [hn]
    have n2 : 2 ≤ n := by omega
    have n5 : n ≤ 5 := by omega
    -- lot, habits
    refine ⟨_, rfl, _, rfl, p, n, rfl, hR2, by omega, by omega, fun H3 al lot hri l1 l2 hin hB3 hR3 eL => ?_⟩
    have tb3 := (hR2.fix hB3).tabs tb2
    refine ⟨_, rfl, _, rfl, p, n, rfl, hR3, n2, n5, fun H4 v h hb hB4 hR4 hT4 => ?_⟩
    have f4 := hR3.fix hB4
    refine ⟨_, rfl, _, rfl, p, n, rfl, hR4, n2, n5, fun H5 u o ho hB5 hR5 hU5 => ⟨by show 2 ≤ sizeLine; decide, fun T0 hT0 => ?_⟩⟩
    have f5 := hR4.fix hB5
    have s0 := same_new (o := .tup [v, u]) hT0
    refine ⟨T0, _, rfl, tupAt upd_same, rfl, _, _, rfl, _, _, rfl, rfl, ?_⟩
    have kn : Kn K T (upd H5 T0 (.tup [v, u])) p v u h o n al lot := ⟨hR5.same s0, tabs_same ((f4.trans f5).tabs tb3) s0, (hT4.on f5.tups).on (Same.tups s0), hU5.on (Same.tups s0), hb, ho, ⟨al, rfl, Same.tups s0 _ _ ((f4.trans f5).tups _ _ (tupAt eL))⟩, l1, l2, hin, hri⟩
    generalize (upd H5 T0 (.tup [v, u])) = H6 at *
    clear hR5 hU5 hT4 hR4 hB5 hB4 hR3 hB3 hR2 hB2 tb3 tb2 tb1 hR1 f5 f4 s0 eL hn k0 k1 sp hp hZ hTb
    refine ⟨fun σ1 HG hG => ?_, ?_⟩
    rotate_left
    · have hR := kn.row
      have hT := kn.tw.hT
      have hL := kn.tw.hL
      refine ⟨_, rfl, p, 3, rfl, hR, by decide, by decide, fun k5 H7 _ _ hB7 hR7 => ⟨_, _, rfl, rfl, _, rfl, ite2 (fun e => ?_) (fun e => ?_)⟩⟩
      · have f7 := hR.fix hB7
        have hT7 := hT.on f7.tups
        have hL7 := hL.on f7.tups
        obtain ⟨_, e', hLs⟩ := id hL7
        cases e'
        -- out
        refine ⟨_, rfl, n, rfl, by omega, by omega, fun D hD => ?_⟩
        rw [Int.toNat_natCast]
        refine lc_range (lo := 0) (n := n) (fun i H' => Same H7 H' ∧ ∃ os : List Int, H' D = some (.lst (os.map V.int)) ∧ (∀ x ∈ os, InR n x) ∧ os.length ≤ i) ⟨same_new hD, [], upd_same, fun _ z => (nomatch z), Nat.le_refl _⟩ (fun i H' hi h' => ?_) (fun H8 h8 => ?_)
        · obtain ⟨sm, os, eD, hin2, hl⟩ := h'
          rw [Int.zero_add]
          refine ⟨rfl, _, rfl, _, rfl, al, _, rfl, .inr (onT sm hLs), rfl, flat_ints lot, _, rfl, ite2 (fun e => ?_) (fun e => ?_)⟩
          · refine ⟨_, rfl, _, eD, by rw [List.length_map]; exact small1000 (by omega), Same.upd sm hD, os ++ [(i : Int)], by rw [upd_same, List.map_append]; rfl, fun x hx => ?_, by rw [List.length_append]; show os.length + 1 ≤ i + 1; omega⟩
            rcases List.mem_append.mp hx with z | z
            · exact hin2 x z
            · rw [List.mem_singleton.mp z]
              exact ⟨by omega, by omega⟩
          · exact ⟨sm, os, eD, hin2, by omega⟩
        obtain ⟨s8, os, eD, hos, hol⟩ := h8
        -- kept
        refine ⟨_, rfl, n, rfl, ⟨by omega, by omega, by omega, by omega, by omega⟩, fun m hm => ?_⟩
        rw [rgV_rg] at *
        have s9 := s8.trans (same_new (o := .lst ((rg n).map V.int)) hm)
        have eD9 := same_new (o := .lst ((rg n).map V.int)) hm _ _ eD
        have hm7 : H7 m = none := none_of s8 hm
        have em : (upd H8 m (.lst ((rg n).map V.int))) m = some (.lst ((rg n).map V.int)) := upd_same
        generalize (upd H8 m (.lst ((rg n).map V.int))) = H9 at *
        have kn7 := kn.but hB7 hR7
        have kn9 := kn7.same s9
        -- the swap
        refine ⟨fun σ2 HK hK => ?_, ?_⟩
        rotate_left
        · refine ⟨_, rfl, D, _, rfl, .inl (lstAt eD9), rfl, _, rfl, ite2 (fun e => ?_) (fun e => ?_)⟩
          · have lo : os.length = 2 := by
              rw [List.length_map] at e
              have : ((os.length : Int)) = 2 := V.int.inj (of_decide_eq_true e)
              omega
            match os, lo with
            | [x0, x1], _ =>
              have r0 := hos x0 List.mem_cons_self
              have r1 := hos x1 (List.mem_cons_of_mem _ List.mem_cons_self)
              obtain ⟨i0, rfl⟩ : ∃ t : Nat, x0 = (t : Int) := ⟨x0.toNat, by have := r0.1; omega⟩
              obtain ⟨i1, rfl⟩ : ∃ t : Nat, x1 = (t : Int) := ⟨x1.toNat, by have := r1.1; omega⟩
              have l0 : i0 < n := by have := r0.2; omega
              have l1' : i1 < n := by have := r1.2; omega
              have lr : ((rg n).map V.int).length = n := by rw [List.length_map, rg_len]
              have a0 : atI ((rg n).map V.int) (i0 : Int) = some (.int (i0 : Int)) := atI_nat (at_map (rg_at l0))
              have a1 : atI ((rg n).map V.int) (i1 : Int) = some (.int (i1 : Int)) := atI_nat (at_map (rg_at l1'))
              refine ⟨_, rfl, _, rfl, D, _, 1, .int (i1 : Int), rfl, rfl, lstAt eD9, rfl, m, _, (i1 : Int), _, rfl, rfl, lstAt em, a1, _, rfl, _, rfl, D, _, 0, .int (i0 : Int), rfl, rfl, lstAt eD9, rfl, m, _, (i0 : Int), _, rfl, rfl, lstAt em, a0, by show 2 ≤ sizeLine; decide, fun t ht => ?_⟩
              have st := same_new (o := .tup [.int (i1 : Int), .int (i0 : Int)]) ht
              have em2 := st _ _ em
              have eD2 := st _ _ eD9
              have hmD : D ≠ m := fun z => by
                rw [z] at eD
                rw [hm] at eD
                cases eD
              refine ⟨t, _, rfl, tupAt upd_same, rfl, _, _, rfl, _, rfl, _, rfl, D, _, 0, .int (i0 : Int), rfl, rfl, lstAt eD2, rfl, m, _, (i0 : Int), i0, rfl, rfl, em2, ?_, ?_⟩
              · exact ixN_int (by omega) (by rw [lr]; omega)
              refine ⟨_, _, rfl, _, rfl, _, rfl, D, _, 1, .int (i1 : Int), rfl, rfl, lstAt (by rw [upd_ne hmD]; exact eD2), rfl, m, _, (i1 : Int), i1, rfl, rfl, upd_same, ?_, rfl, ?_⟩
              · exact ixN_int (by omega) (by rw [List.length_set, lr]; omega)
              refine ⟨p, n, al, m, v, u, _, h, o, lot, _, rfl, kn7.same (Same.upd (Same.upd (s9.trans st) hm7) hm7), upd_same.trans ?_, swap_perm l0 l1'⟩
              rw [List.map_set, List.map_set]
            | [], z => cases z
            | [_], z => cases z
            | _ :: _ :: _ :: _, z => cases z
          · exact ⟨p, n, al, m, v, u, _, h, o, lot, rg n, rfl, kn9, em, List.Perm.refl _⟩
        clear kn9 kn7 em eD9 s9 hm7 hm hol hos eD s8 hD hLs hL7 hT7 f7 hR7 hB7 hL hT hR kn hri hin l1 l2 n5 n2 hb ho
        obtain ⟨p, n, al, m, v, u, y6, h, o, lot, kl, rfl, kn, em, hk⟩ := hK
        have hb := kn.tw.hb
        have n5 := hb.hi
        have n2 := hb.lo
        have lk : kl.length = n := by rw [hk.length_eq, rg_len]
        -- other, called otherwise
        refine ⟨fun σ3 HK hK => ?_, ?_⟩
        rotate_left
        · obtain ⟨ah, hxs, rfl, hS, hE⟩ := id kn.tw.hT
          have lx : hxs.length = n := hE.len.trans hb.len
          refine ⟨_, rfl, ah, rfl, ⟨_, hS⟩, fun D hD => ?_⟩
          refine lc_tup (xs := hxs) (fun i H' => Same HK H' ∧ ∃ us, H' D = some (.lst us) ∧ Each (TI K H') us ((h.take i).map fun ns => ns.map fun s => kl.getD s.toNat 0)) ⟨same_new hD, [], upd_same, .nil⟩ (fun i H' _ h' => onT h'.1 hS) (fun i x H' hx h' => ?_) (fun H' h' => ?_)
          · obtain ⟨sm, us, eD, eu⟩ := h'
            obtain ⟨ns, hns, b, rfl, hB⟩ := hE.at hx
            have pm := hb.perm ns (List.mem_of_getElem? hns)
            have ln : ns.length = n := by rw [pm.length_eq, rg_len]
            have hB1 := onT sm hB
            have lu := eu.len
            rw [List.length_map, List.length_take, hb.len] at lu
            refine ⟨rfl, _, rfl, b, rfl, ⟨_, hB1⟩, fun D2 hD2 => ?_⟩
            refine lc_tup (xs := ns.map V.int) (fun j H2 => Same H' H2 ∧ H2 D2 = some (.lst (((ns.take j).map fun s => kl.getD s.toNat 0).map V.int))) ⟨same_new hD2, upd_same⟩ (fun j H2 _ h2 => onT h2.1 hB1) (fun j y H2 hy h2 => ?_) (fun H2 h2 => ?_)
            · obtain ⟨g, hg, rfl⟩ := map_at hy
              obtain ⟨s2, e2⟩ := h2
              have gr := rg_mem.mp (pm.mem_iff.mp (List.mem_of_getElem? hg))
              refine ⟨rfl, _, rfl, _, rfl, m, _, g, _, rfl, rfl, lstAt (s2 _ _ (sm _ _ em)), getD_at gr.1 (by rw [lk]; exact gr.2), _, e2, by rw [List.length_map, List.length_map, List.length_take]; exact small1000 (by omega), Same.upd s2 hD2, ?_⟩
              rw [upd_same, take_more hg, List.map_append, List.map_append]
              rfl
            · obtain ⟨s2, e2⟩ := h2
              rw [List.length_map, List.take_length] at e2
              refine .inl ⟨D2, _, rfl, lstAt e2, fun t ht => ?_⟩
              have s3 := s2.trans (same_new (o := .tup ((ns.map fun s => kl.getD s.toNat 0).map V.int)) ht)
              refine ⟨us, s3 _ _ eD, small1000 (by omega), Same.upd (sm.trans s3) hD, us ++ [.ref t], upd_same, ?_⟩
              have fx : Fix _ (upd _ D (.lst (us ++ [.ref t]))) := Fix.lst (s3 _ _ eD)
              rw [take_more hns, List.map_append]
              exact Each.snoc ⟨t, rfl, fx.tups _ _ (tupAt upd_same)⟩ (eu.imp fun _ _ z => (z.on (Same.tups s3)).on fx.tups)
          · obtain ⟨sm, us, eD, eu⟩ := h'
            have lh : hxs.length = h.length := hE.len
            rw [lh, List.take_length] at eu
            refine .inl ⟨D, us, rfl, lstAt eD, fun t ht => ?_⟩
            have s3 := sm.trans (same_new (o := .tup us) ht)
            have k3 := kn.same s3
            refine ⟨p, n, al, m, .ref ah, .ref t, _, h, _, lot, kl, rfl, ⟨k3.row, k3.tb, k3.tw.hT, ⟨t, us, rfl, tupAt upd_same, eu.imp fun _ _ z => z.on (Same.tups (same_new ht))⟩, hb, ⟨by rw [List.length_map]; exact hb.len, fun ns hns => ?_, hb.lo, hb.hi⟩, k3.tw.hL, k3.tw.l1, k3.tw.l2, k3.tw.hin, k3.tw.hri⟩, s3 _ _ em, hk⟩
            obtain ⟨ms, hms, rfl⟩ := List.mem_map.mp hns
            exact perm_thru hk (hb.perm ms hms)
        clear em hk lk kn hb n5 n2
        obtain ⟨p, n, al, m, v, u, y6, h, o, lot, kl, rfl, kn, em, hk⟩ := hK
        have ho := kn.tw.ho
        have n5 := ho.hi
        have n2 := ho.lo
        have lk : kl.length = n := by rw [hk.length_eq, rg_len]
        have row : ∀ p, InR n p → (kl.map (mv o p)).Perm (rg n) := fun p hp => perm_thru (ho.perm _ (ho.row hp)) hk
        refine ⟨fun σ4 HK hK => ?_, ?_⟩
        rotate_left
        · obtain ⟨ao, oxs, rfl, oS, oE⟩ := id kn.tw.hU
          have lx : oxs.length = n := oE.len.trans ho.len
          refine ⟨_, rfl, n, rfl, by omega, by omega, fun D hD => ?_⟩
          rw [Int.toNat_natCast]
          refine lc_range (lo := 0) (n := n) (fun i H' => Same HK H' ∧ ∃ us, H' D = some (.lst us) ∧ Each (TI K H') us (((rg n).take i).map fun p => kl.map (mv o p))) ⟨same_new hD, [], upd_same, .nil⟩ (fun i H' hi h' => ?_) (fun H' h' => ?_)
          · obtain ⟨sm, us, eD, eu⟩ := h'
            have ii : InR n (i : Int) := ⟨by omega, by omega⟩
            have lu := eu.len
            rw [List.length_map, List.length_take, rg_len] at lu
            rw [Int.zero_add]
            obtain ⟨ro, hro⟩ : ∃ ro, o[i]? = some ro := ⟨_, List.getElem?_eq_getElem (by rw [ho.len]; exact hi)⟩
            obtain ⟨xr, hxr, ar, rfl, hB⟩ := oE.of hro
            have pr := ho.perm ro (List.mem_of_getElem? hro)
            have lr : ro.length = n := by rw [pr.length_eq, rg_len]
            have emv : ∀ x, mv o (i : Int) x = ro.getD x.toNat 0 := fun x => by
              unfold mv
              rw [Int.toNat_natCast, show o.getD i [] = ro from by rw [List.getD_eq_getElem?_getD, hro]; rfl]
            refine ⟨rfl, _, rfl, n, rfl, by omega, by omega, fun D2 hD2 => ?_⟩
            rw [Int.toNat_natCast]
            refine lc_range (lo := 0) (n := n) (fun j H2 => Same H' H2 ∧ H2 D2 = some (.lst (((kl.take j).map (mv o (i : Int))).map V.int))) ⟨same_new hD2, upd_same⟩ (fun j H2 hj h2 => ?_) (fun H2 h2 => ?_)
            · obtain ⟨s2, e2⟩ := h2
              rw [Int.zero_add]
              have hg : kl[j]? = some kl[j] := List.getElem?_eq_getElem (by omega)
              have gr := rg_mem.mp (hk.mem_iff.mp (List.mem_of_getElem? hg))
              have s12 := sm.trans s2
              refine ⟨rfl, _, rfl, _, rfl, ao, oxs, (i : Int), .ref ar, rfl, rfl, onT s12 oS, atI_nat hxr, _, rfl, _, rfl, m, _, (j : Int), .int kl[j], rfl, rfl, lstAt (s12 _ _ em), atI_nat (at_map hg), ar, ro.map V.int, kl[j], _, rfl, rfl, onT s12 hB, getD_at gr.1 (by rw [lr]; exact gr.2), _, e2, by rw [List.length_map, List.length_map, List.length_take]; exact small1000 (by omega), Same.upd s2 hD2, ?_⟩
              rw [upd_same, take_more hg, List.map_append, List.map_append, ← emv]
              rfl
            · obtain ⟨s2, e2⟩ := h2
              rw [List.take_of_length_le (by omega)] at e2
              refine .inl ⟨D2, _, rfl, lstAt e2, fun t ht => ?_⟩
              have s3 := s2.trans (same_new (o := .tup ((kl.map (mv o (i : Int))).map V.int)) ht)
              refine ⟨us, s3 _ _ eD, small1000 (by omega), Same.upd (sm.trans s3) hD, us ++ [.ref t], upd_same, ?_⟩
              have fx : Fix _ (upd _ D (.lst (us ++ [.ref t]))) := Fix.lst (s3 _ _ eD)
              rw [take_more (rg_at hi), List.map_append]
              exact Each.snoc ⟨t, rfl, fx.tups _ _ (tupAt upd_same)⟩ (eu.imp fun _ _ z => (z.on (Same.tups s3)).on fx.tups)
          · obtain ⟨sm, us, eD, eu⟩ := h'
            rw [List.take_of_length_le (by rw [rg_len]; exact Nat.le_refl _)] at eu
            refine .inl ⟨D, us, rfl, lstAt eD, fun t ht => ?_⟩
            have s3 := sm.trans (same_new (o := .tup us) ht)
            have k3 := kn.same s3
            refine ⟨p, n, al, v, .ref t, _, _, _, h, _, lot, rfl, ⟨k3.row, k3.tb, k3.tw.hT, ⟨t, us, rfl, tupAt upd_same, eu.imp fun _ _ z => z.on (Same.tups (same_new ht))⟩, k3.tw.hb, ⟨by rw [List.length_map, rg_len], fun ns hns => ?_, n2, n5⟩, k3.tw.hL, k3.tw.l1, k3.tw.l2, k3.tw.hin, k3.tw.hri⟩⟩
            obtain ⟨q, hq, rfl⟩ := List.mem_map.mp hns
            exact row q (rg_mem.mp hq)
        clear row em hk lk kn ho n5 n2
        obtain ⟨p, n, al, v, u, y6, y7, y19, h, o, lot, rfl, kn⟩ := hK
        have ho := kn.tw.ho
        have n5 := ho.hi
        have n2 := ho.lo
        -- other, in part
        refine ⟨_, rfl, p, 2, rfl, kn.row, by decide, by decide, fun k5 H5 _ _ hB5 hR5 => ⟨rfl, _, rfl, ite2 (fun e => ?_) (fun e => ?_)⟩⟩
        · have kn5 := kn.but hB5 hR5
          obtain ⟨ao, oxs, rfl, oS, oE⟩ := id kn5.tw.hU
          obtain ⟨_, e', hLs⟩ := id kn5.tw.hL
          cases e'
          have lx : oxs.length = n := oE.len.trans ho.len
          refine ⟨_, rfl, n, rfl, by omega, by omega, fun D hD => ?_⟩
          have hpD := hR5.ne hD
          rw [Int.toNat_natCast]
          refine lc_range (lo := 0) (n := n) (fun i H' => But p H5 H' ∧ Row K H' p ∧ ∃ us ls, H' D = some (.lst us) ∧ Each (TI K H') us ls ∧ ls.length = i ∧ ∀ ns ∈ ls, ns.Perm (rg n)) ⟨But.same (same_new hD), hR5.new hD, [], [], upd_same, .nil, rfl, fun _ z => (nomatch z)⟩ (fun i H' hi h' => ?_) (fun H' h' => ?_)
          · obtain ⟨hB, hR, us, ls, eD, eu, ll, hp⟩ := h'
            have lu := eu.len
            have f1 := hR5.fix hB
            rw [Int.zero_add]
            refine ⟨rfl, _, rfl, _, rfl, al, _, rfl, .inr (f1.tups _ _ hLs), rfl, flat_ints lot, _, rfl, ite2 (fun e => ?_) (fun e => ?_)⟩
            · obtain ⟨ro, hro⟩ : ∃ ro, o[i]? = some ro := ⟨_, List.getElem?_eq_getElem (by rw [ho.len]; exact hi)⟩
              obtain ⟨xr, hxr, hB1⟩ := oE.of hro
              have fx : Fix H' (upd H' D (.lst (us ++ [xr]))) := Fix.lst eD
              refine ⟨_, rfl, _, rfl, ao, oxs, (i : Int), xr, rfl, rfl, f1.tups _ _ oS, atI_nat hxr, us, eD, small1000 (by omega), hB.fresh hD, hR.lst_upd eD hpD, us ++ [xr], ls ++ [ro], upd_same, ?_, by rw [List.length_append, ll]; rfl, fun ns hns => ?_⟩
              · exact Each.snoc ((hB1.on f1.tups).on fx.tups) (eu.imp fun _ _ z => z.on fx.tups)
              · rcases List.mem_append.mp hns with z | z
                · exact hp ns z
                · rw [List.mem_singleton.mp z]
                  exact ho.perm ro (List.mem_of_getElem? hro)
            · refine ⟨_, rfl, _, rfl, p, n, rfl, hR, by omega, fun H6 qo ns pns hB6 hR6 _ hFT => ?_⟩
              have f6 := hR.fix hB6
              have eD6 := hB6 _ _ eD (Ne.symm hpD)
              have fx : Fix H6 (upd H6 D (.lst (us ++ [.ref qo]))) := Fix.lst eD6
              refine ⟨us, eD6, small1000 (by omega), (hB.trans hB6).fresh hD, hR6.lst_upd eD6 hpD, us ++ [.ref qo], ls ++ [ns], upd_same, ?_, by rw [List.length_append, ll]; rfl, fun ms hms => ?_⟩
              · exact Each.snoc ⟨qo, rfl, fx.tups _ _ (.inl hFT.kx)⟩ (eu.imp fun _ _ z => (z.on f6.tups).on fx.tups)
              · rcases List.mem_append.mp hms with z | z
                · exact hp ms z
                · rw [List.mem_singleton.mp z]
                  exact pns
          · obtain ⟨hB, hR, us, ls, eD, eu, ll, hp⟩ := h'
            refine .inl ⟨D, us, rfl, lstAt eD, fun t ht => ?_⟩
            have k3 := (kn5.but hB hR).same (same_new (o := .tup us) ht)
            exact ⟨p, n, al, v, .ref t, _, _, _, h, ls, lot, rfl, ⟨k3.row, k3.tb, k3.tw.hT, ⟨t, us, rfl, tupAt upd_same, eu.imp fun _ _ z => z.on (Same.tups (same_new ht))⟩, k3.tw.hb, ⟨ll, hp, n2, n5⟩, k3.tw.hL, k3.tw.l1, k3.tw.l2, k3.tw.hin, k3.tw.hri⟩⟩
        · exact ⟨p, n, al, v, u, _, _, _, h, o, lot, rfl, kn.but hB5 hR5⟩
      · have f7 := hR.fix hB7
        exact ⟨p, n, al, v, u, _, _, _, h, o, lot, rfl, hR7, f7.tabs kn.tb, kn.tw.tups f7.tups⟩
    clear kn hri hin l1 l2 n5 n2 hb ho
    obtain ⟨p, n, al, v, u, y6, y7, y19, h, o, lot, rfl, kn⟩ := hG
    have hb := kn.tw.hb
    have ho := kn.tw.ho
    have n5 := hb.hi
    have n2 := hb.lo
    have l2 := kn.tw.l2
    have hin := kn.tw.hin
    -- marks
    refine ⟨fun σ1 HB hGB => ?_, ?_⟩
    rotate_left
    · refine ⟨_, rfl, _, rfl, _, rfl, v, u, h, o, n, .ref al, lot, rfl, kn.tw, fun H1 d as ks s1 eD kb nd few MK => ⟨d, as, ks, rfl, eD, fun l hl => ?_⟩⟩
      have sl := same_new (o := .lst (ks.map V.ref)) hl
      have hXk := kb.ex
      have cpS : ∀ s ∈ as.map Prod.fst, CP n s := fun s hs => by
        obtain ⟨q, hq, rfl⟩ := List.mem_map.mp hs
        obtain ⟨j, _, r, _⟩ := MK.val q hq
        exact r.cp hb ho hin
      refine ⟨l, _, as.map Prod.fst, 2, rfl, lstAt upd_same, hXk.on (TK.same sl), by decide, fun s hs => (cpS s hs).bd n5, fun ys ms lm so hlm => ?_⟩
      have s2 := (s1.trans sl).trans (same_new (o := .lst ys) hlm)
      have kn2 := kn.same s2
      have pm := so.2.1.perm
      refine ⟨p, n, al, v, u, y6, y7, _, _, y19, h, o, lot, lm, ys, ms, rfl, kn2, Ne.symm ((kn.same (s1.trans sl)).row.ne hlm), upd_same, so.2.2.1.on (TK.same (same_new hlm)), asc_of n5 (fun s hs => cpS s (pm.mem_iff.mp hs)) (pm.nodup_iff.mpr nd) ?_, fun s => ?_⟩
      · exact so.1.imp fun {s t} e => by
          have e : decide (cd t < cd s) = false := e
          have := of_decide_eq_false e
          omega
      · rw [pm.mem_iff]
        constructor
        · intro hs
          obtain ⟨q, hq, rfl⟩ := List.mem_map.mp hs
          obtain ⟨j, _, r, _⟩ := MK.val q hq
          exact ⟨j, r⟩
        · rintro ⟨j, r⟩
          exact MK.all j s r
    clear kn hb ho n5 n2 l2 hin
    obtain ⟨p, n, al, v, u, y6, y7, y9, y10, y19, h, o, lot, lm, ys, ms, rfl, kn, mk⟩ := hGB
    have hb := kn.tw.hb
    have ho := kn.tw.ho
    have n5 := hb.hi
    have n2 := hb.lo
    have l2 := kn.tw.l2
    have hin := kn.tw.hin
    have cpS : ∀ s ∈ ms, CP n s := fun s hs => ((mk.all s).mp hs).choose_spec.cp hb ho hin
    have lms : ms.length ≤ 25 := by
      refine Nat.le_trans (nd_len (m := UP n) (mk.asc.imp fun {s t} e z => ?_) fun s hs => (sysP hb ho hin (by show lot.length ≤ 1000; omega)).few _ (cpS s hs)) (UP_25 n (by omega))
      rw [z] at e
      omega
    have lys := mk.ex.len
    obtain ⟨_, e', hLs⟩ := id kn.tw.hL
    cases e'
    -- told
    refine ⟨_, rfl, lm, rfl, ⟨_, lstAt mk.el⟩, fun D hD => ?_⟩
    refine lc_list (xs := ys) (fun i H' => Same HB H' ∧ ∃ zs, H' D = some (.lst zs) ∧ EX H' zs ((ms.take i).filter (gpT lot))) ⟨same_new hD, [], upd_same, .nil⟩ (fun i H' _ h' => lstAt (h'.1 _ _ mk.el)) (fun i x H' hx h' => ?_) (fun H1 h1 => ?_)
    · obtain ⟨sm, zs, eD, hZ⟩ := h'
      obtain ⟨s, hs⟩ : ∃ s, ms[i]? = some s := ⟨_, List.getElem?_eq_getElem (by have := (List.getElem?_eq_some_iff.mp hx).1; omega)⟩
      obtain ⟨b, rfl, kb⟩ := (mk.ex.on (TK.same sm)).get hx hs
      obtain ⟨x0, y0, es, _, _⟩ := cpS s (List.mem_of_getElem? hs)
      have hks : SqT K H' b [.int x0, .int y0] := by
        rw [es] at kb
        exact .inl kb
      have lz := hZ.len
      have lz2 := List.length_filter_le (gpT lot) (ms.take i)
      rw [List.length_take] at lz2
      refine ⟨rfl, ?_⟩
      refine ⟨_, rfl, al, rfl, ⟨_, onT sm hLs⟩, fun D2 hD2 => ?_⟩
      refine lc_tup (xs := lot.map V.int) (fun m H2 => Same H' H2 ∧ H2 D2 = some (.lst (((lot.take m).filter (fun r => !decide (decide (x0 = r) = decide (y0 = r)))).map V.int))) ⟨same_new hD2, upd_same⟩ (fun m H2 _ h2 => onT h2.1 (onT sm hLs)) (fun m x H2 hx2 h2 => ?_) (fun H2 h2 => ?_)
      · obtain ⟨r, hr0, rfl⟩ := map_at hx2
        obtain ⟨sm2, eD2⟩ := h2
        have hk2 := onT sm2 hks
        refine ⟨rfl, _, rfl, b, _, 0, .int x0, rfl, rfl, hk2, rfl, _, rfl, rfl, _, rfl, b, _, 1, .int y0, rfl, rfl, hk2, rfl, _, rfl, rfl, rfl, _, rfl, ?_⟩
        rw [V_int, V_int, V_bl]
        refine ite2 (fun e => ⟨_, rfl, _, eD2, ?_, Same.upd sm2 hD2, ?_⟩) (fun e => ⟨sm2, ?_⟩)
        · rw [List.length_map]
          have := List.length_filter_le (fun r => !decide (decide (x0 = r) = decide (y0 = r))) (lot.take m)
          rw [List.length_take] at this
          exact small1000 (by omega)
        · rw [upd_same, take_more hr0, List.filter_append, List.filter_cons_of_pos (by exact e), List.map_append]
          rfl
        · rw [take_more hr0, List.filter_append, List.filter_cons_of_neg (by exact e), List.filter_nil, List.append_nil]
          exact eD2
      · obtain ⟨sm2, eD2⟩ := h2
        rw [List.length_map, List.take_length] at eD2
        refine ⟨Nat.zero_le _, fun z hz => ?_⟩
        have sz := same_new (o := .lst []) hz
        refine ⟨_, _, dp_lst (lstAt (sz _ _ eD2)), dp_lst (ns := []) (lstAt upd_same), PySem.W.ke_shaped_ints _, PySem.W.ke_shaped_ints _, _, rfl, ?_⟩
        rw [eqv_lst, ← gp_filter, ← es]
        have smA := sm2.trans sz
        refine ite2 (fun e => ⟨_, rfl, zs, smA _ _ eD, small1000 (by omega), Same.upd (sm.trans smA) hD, zs ++ [.ref b], upd_same, ?_⟩) (fun e => ⟨sm.trans smA, zs, smA _ _ eD, ?_⟩)
        · rw [take_more hs, List.filter_append, List.filter_cons_of_pos (by exact e)]
          have tk : TK _ (upd _ D (.lst (zs ++ [.ref b]))) := TK.upd (smA _ _ eD) not_tup_l
          exact EX.snoc (tk _ _ (TK.same smA _ _ kb)) (hZ.on ((TK.same smA).trans tk))
        · rw [take_more hs, List.filter_append, List.filter_cons_of_neg (by exact e), List.filter_nil, List.append_nil]
          exact hZ.on (TK.same smA)
    obtain ⟨s1, zs, eD, hZ⟩ := h1
    rw [lys, List.take_length] at hZ
    have kn1 := kn.same s1
    -- found
    refine ⟨_, rfl, _, rfl, _, rfl, v, u, h, o, n, .ref al, lot, rfl, kn1.tw, kn1.tb, fun H3 val ex3 tb3 hP => ?_⟩
    have kn3 : Kn K T H3 p v u h o n al lot := ⟨kn1.row.ext ex3, tb3, kn1.tw.tups (extN_tups ex3)⟩
    have ex13 : ExtN HB H3 := (extN_same s1).trans ex3
    have mk3 : Mk H3 p h o lot lm ys ms := ⟨mk.ne, ex13 _ _ mk.el (fun ps z => nomatch z), mk.ex.on (extN_tk ex13), mk.asc, mk.all⟩
    have eD3 := ex3 _ _ eD (fun ps z => nomatch z)
    have hZ3 := hZ.on (extN_tk ex3)
    -- as the law's own
    refine ⟨fun σ1 HT hGT => ?_, ?_⟩
    rotate_left
    · refine ⟨_, rfl, _, rfl, Nat.zero_le _, fun z hz => ?_⟩
      have sz := same_new (o := .lst []) hz
      refine ⟨_, _, .lst (lstAt (sz _ _ eD3)) (dp_rows (hZ3.on (TK.same sz))), dp_lst (ns := []) (lstAt upd_same), shaped_rows _, PySem.W.ke_shaped_ints _, _, rfl, ?_⟩
      have kn4 := kn3.same sz
      have mk4 : Mk (upd H3 z (.lst [])) p h o lot lm ys ms := ⟨mk.ne, sz _ _ mk3.el, mk3.ex.on (TK.same sz), mk.asc, mk.all⟩
      have hP4 : PapR K (upd H3 z (.lst [])) h o lot val := by
        rcases hP with hP | ⟨a2, y2, l2, e1, e2, e3, r⟩
        · exact .inl hP
        · exact .inr ⟨a2, y2, l2, e1, Same.tups sz _ _ e2, e3.on (TK.same sz), r⟩
      have eD4 := sz _ _ eD3
      have hZ4 := hZ3.on (TK.same sz)
      clear hP hZ3 eD3 mk3 kn3 kn1 ex13
      generalize (upd H3 z (.lst [])) = H4 at *
      rcases hP4 with ⟨rfl, j, s, r, g⟩ | ⟨a2, y2, l2', rfl, e2, e3, as2, all2, no2⟩
      · have ne : ¬ ms.filter (gpT lot) = [] := fun z => by
          have := List.filter_eq_nil_iff.mp z s ((mk.all s).mpr ⟨j, r⟩)
          exact this g
        rw [eqv_rows1, decide_eq_false ne]
        refine ifF rfl ⟨.non, .non, .none, rfl, .non, .non, True.intro, fun H5 s5 => ⟨_, rfl, ifF rfl ?_⟩⟩
        exact ⟨p, n, al, v, u, y6, y7, _, y19, h, o, lot, lm, D, ys, zs, ms, rfl, kn4.same s5, mk4.same s5, s5 _ _ eD4, hZ4.on (TK.same s5)⟩
      · have el2 : l2' = ms := by_eq as2 mk.asc fun s => (all2 s).trans (mk.all s).symm
        subst el2
        have ne : l2'.filter (gpT lot) = [] := List.filter_eq_nil_iff.mpr fun s hs => by rw [no2 s hs]; exact Bool.false_ne_true
        rw [eqv_rows1, decide_eq_true ne]
        refine ifT rfl ⟨_, rfl, .inl ⟨lm, _, rfl, lstAt mk4.el, fun t ht => ?_⟩⟩
        have st := same_new (o := .tup ys) ht
        refine ⟨.ref a2, .ref t, .tuple (l2'.map fun s => .tuple (s.map PyData.int)), rfl, .tup (Same.tups st _ _ e2) (dp_rows (e3.on (TK.same st))), .tup (tupAt upd_same) (dp_rows (mk4.ex.on (TK.same st))), okD_rows n5 cpS (by omega), fun H5 s5 => ⟨_, rfl, ifF rfl ?_⟩⟩
        have s45 := st.trans s5
        exact ⟨p, n, al, v, u, y6, y7, _, y19, h, o, lot, lm, D, ys, zs, l2', rfl, kn4.same s45, mk4.same s45, s45 _ _ eD4, hZ4.on (TK.same s45)⟩
    clear kn mk hb ho n5 n2 l2 hin cpS lms lys hLs s1 eD hZ hD ex3 tb3
    obtain ⟨p, n, al, v, u, y6, y7, y10, y19, h, o, lot, lm, lt, ys, zs, ms, rfl, kn, mk, et, hZ⟩ := hGT
    -- test
    refine ⟨fun σ1 HB hGB => ?_, ?_⟩
    rotate_left
    · have hb := kn.tw.hb
      have ho := kn.tw.ho
      refine ⟨_, rfl, _, rfl, _, rfl, v, u, h, o, n, .ref al, lot, rfl, kn.tw, kn.tb, fun H5 val res ex5 tb5 hSh hV => ⟨_, rfl, Nat.zero_le _, fun z hz => ?_⟩⟩
      have sz := same_new (o := .lst []) hz
      have ex6 := ex5.trans (extN_same sz)
      refine ⟨_, _, .lst (lstAt (ex6 _ _ et (fun ps z => nomatch z))) (dp_rows (hZ.on (extN_tk ex6))), dp_lst (ns := []) (lstAt upd_same), shaped_rows _, PySem.W.ke_shaped_ints _, rfl, _, rfl, ?_⟩
      rw [eqv_rows1, V_bl, res_non hV]
      have e : decide (res = none) = decide (ms.filter (gpT lot) = []) := by
        rw [Bool.eq_iff_iff, decide_eq_true_iff, decide_eq_true_iff, List.filter_eq_nil_iff]
        constructor
        · rintro rfl s hs g
          obtain ⟨j, pl, hp, wd, hw, _, rfl⟩ := (mk.all s).mp hs
          have z : (trd lot [mark h pl wd, mark o pl wd]).isSome = true := g
          rw [hSh pl hp wd hw] at z
          cases z
        · intro z
          cases res with
          | none => rfl
          | some r3 =>
            obtain ⟨pl, wd, r⟩ := r3
            obtain ⟨c1, c2, c3, _⟩ := hSh
            refine absurd ?_ (z _ ((mk.all _).mpr ⟨wd.length, pl, c1, wd, c2, rfl, rfl⟩))
            show (trd lot [mark h pl wd, mark o pl wd]).isSome = true
            rw [c3]
            rfl
      rw [e, decide_eq_true rfl]
      refine ifF rfl ?_
      exact ⟨p, n, al, v, u, y6, y7, _, y10, y19, h, o, lot, lm, ys, ms, rfl, ⟨(kn.row.ext ex5).same sz, tabs_same tb5 sz, kn.tw.tups (extN_tups ex6)⟩, ⟨mk.ne, ex6 _ _ mk.el (fun ps z => nomatch z), mk.ex.on (extN_tk ex6), mk.asc, mk.all⟩⟩
    clear kn mk et hZ
    obtain ⟨p, n, al, v, u, y6, y7, y9, y10, y19, h, o, lot, lm, ys, ms, rfl, kn, mk⟩ := hGB
    have n5 := kn.tw.hb.hi
    have n2 := kn.tw.hb.lo
    -- every
    refine ⟨Nat.zero_le _, fun l0 hl0 => ?_⟩
    have s0 := same_new (o := .lst []) hl0
    refine ⟨fun σ1 HB2 hGB => ?_, ?_⟩
    rotate_left
    · refine ⟨_, rfl, n, rfl, by omega, by omega, ?_⟩
      rw [Int.toNat_natCast]
      refine for_range (lo := 0) (n := n) (fun i σ H' => Same HB H' ∧ ∃ le es y12, σ = [some (.ref a), some (.ref p), some (.int (n : Int)), some (.ref al), some v, some u, y6, y7, some (.ref lm), y9, y10, some (.ref le), y12, none, none, none, none, none, none, y19, none, none, none, none] ∧
        HB le = none ∧ H' le = some (.lst es) ∧ EX H' es (((rg n).take i).flatMap fun x => (rg n).map fun y => [x, y])) ⟨s0, l0, [], none, rfl, hl0, upd_same, .nil⟩ (fun i σ H' hi h' => ?_) (fun σ H' h' => ?_)
      · obtain ⟨sm, le, es, y12, rfl, nle, el, hE⟩ := h'
        rw [Int.zero_add]
        have hlen := hE.len
        have hl2 : (((rg n).take i).flatMap fun x => (rg n).map fun y => [x, y]).length = i * n := by
          rw [List.length_flatMap]
          simp only [List.length_map, rg_len, List.map_const', List.sum_replicate_nat, List.length_take]
          rw [Nat.min_eq_left (by omega)]
        rw [hl2] at hlen
        have il : i * n ≤ 5 * 5 := Nat.mul_le_mul (by omega) n5
        refine ⟨_, rfl, _, rfl, n, rfl, by omega, by omega, fun D hD => ?_⟩
        rw [Int.toNat_natCast]
        refine lc_range (lo := 0) (n := n) (fun j H2 => Same H' H2 ∧ ∃ zs, H2 D = some (.lst zs) ∧ EX H2 zs (((rg n).take j).map fun y => [(i : Int), y])) ⟨same_new hD, [], upd_same, .nil⟩ (fun j H2 hj h2 => ?_) (fun H2 h2 => ?_)
        · obtain ⟨s2, zs, eD, hZ⟩ := h2
          have lz := hZ.len
          rw [List.length_map, List.length_take, rg_len] at lz
          rw [Int.zero_add]
          refine ⟨rfl, _, rfl, _, rfl, by show 2 ≤ sizeLine; decide, fun t ht => ?_⟩
          have st := same_new (o := .tup [.int (i : Int), .int (j : Int)]) ht
          refine ⟨zs, st _ _ eD, small1000 (by omega), Same.upd (s2.trans st) hD, zs ++ [.ref t], upd_same, ?_⟩
          have tk : TK _ (upd _ D (.lst (zs ++ [.ref t]))) := TK.upd (st _ _ eD) not_tup_l
          rw [take_more (rg_at hj), List.map_append]
          exact EX.snoc (tk _ _ (.inl upd_same)) (hZ.on ((TK.same st).trans tk))
        · obtain ⟨s2, zs, eD, hZ⟩ := h2
          rw [List.take_of_length_le (by rw [rg_len]; exact Nat.le_refl _)] at hZ
          have lz := hZ.len
          rw [List.length_map, rg_len] at lz
          refine ⟨le, D, es, zs, rfl, rfl, s2 _ _ el, eD, by rw [sizeLine_eq]; omega, fun c hc => ?_⟩
          have sc := same_new (o := .lst (es ++ zs)) hc
          have s3 := s2.trans sc
          refine ⟨sm.trans s3, c, es ++ zs, _, rfl, none_of (sm.trans s2) hc, upd_same, ?_⟩
          rw [flat_more _ (rg_at hi)]
          exact (hE.on (TK.same s3)).app (hZ.on (TK.same sc))
      · obtain ⟨sm, le, es, y12, rfl, nle, el, hE⟩ := h'
        rw [List.take_of_length_le (by rw [rg_len]; exact Nat.le_refl _)] at hE
        exact ⟨p, n, al, v, u, y6, y7, y9, y10, y12, none, none, none, none, none, none, y19, h, o, lot, lm, le, ys, es, ms, rfl, kn.same sm, mk.same sm, Ne.symm (kn.row.ne nle), el, hE⟩
    clear kn mk n5 n2 s0 hl0
    obtain ⟨p, n, al, v, u, y6, y7, y9, y10, y12, y13, y14, y15, y16, y17, y18, y19, h, o, lot, lm, le, ys, es, ms, rfl, kn, mk, ev⟩ := hGB
    refine ⟨6, rfl, by decide, by decide, ?_⟩
    show (∃ W, _)
    refine for_range (lo := 0) (n := 6) (fun i σ H' => GC K T a σ H') ⟨p, n, al, v, u, y6, y7, y9, y10, y12, y13, y14, y15, y16, y17, y18, y19, h, o, lot, lm, le, ys, es, ms, rfl, kn, mk, ev⟩ (fun i σ H1 hi h' => ?_) (fun σ HE h' => q HE)
    clear kn mk ev
    obtain ⟨p, n, al, v, u, y6, y7, y9, y10, y12, y13, y14, y15, y16, y17, y18, y19, h, o, lot, lm, le, ys, es, ms, rfl, kn, mk, ev⟩ := h'
    have hb := kn.tw.hb
    have ho := kn.tw.ho
    have n5 := hb.hi
    have n2 := hb.lo
    have l2 := kn.tw.l2
    have hin := kn.tw.hin
    have sy := sysP hb ho hin (by show lot.length ≤ 1000; omega)
    have cpS : ∀ s ∈ ms, CP n s := fun s hs => ((mk.all s).mp hs).choose_spec.cp hb ho hin
    have lms : ms.length ≤ 25 := by
      refine Nat.le_trans (nd_len (m := UP n) (mk.asc.imp fun {s t} e z => ?_) fun s hs => sy.few _ (cpS s hs)) (UP_25 n (by omega))
      rw [z] at e
      omega
    have lys := mk.ex.len
    have les := ev.ex.len
    have lup := UP_25 n (by omega)
    have cpU : ∀ s ∈ UP n, CP n s := fun s hs => by
      obtain ⟨x, hx, hs⟩ := List.mem_flatMap.mp hs
      obtain ⟨y, hy, rfl⟩ := List.mem_map.mp hs
      exact ⟨x, y, rfl, rg_mem.mp hx, rg_mem.mp hy⟩
    have pup : 0 < (UP n).length := List.length_pos_of_mem (sy.few [0, 0] ⟨0, 0, rfl, ⟨by omega, by omega⟩, by omega, by omega⟩)
    -- some
    refine ⟨_, rfl, lm, rfl, ⟨_, lstAt mk.el⟩, fun D hD => ?_⟩
    have hpD := kn.row.ne hD
    refine lc_list (xs := ys) (fun i H' => But p H1 H' ∧ Row K H' p ∧ ∃ zs fs, H' D = some (.lst zs) ∧ EX H' zs fs ∧ (∀ s ∈ fs, CP n s) ∧ fs.length ≤ i) ⟨But.same (same_new hD), kn.row.new hD, [], [], upd_same, .nil, fun _ z => (nomatch z), Nat.le_refl _⟩ (fun i H' _ h' => lstAt (h'.1 _ _ mk.el mk.ne)) (fun i x H' hx h' => ?_) (fun H2 h2 => ?_)
    · obtain ⟨hB, hR, zs, fs, eD, hZ, hc, hl⟩ := h'
      obtain ⟨s, hs⟩ : ∃ s, ms[i]? = some s := ⟨_, List.getElem?_eq_getElem (by have := (List.getElem?_eq_some_iff.mp hx).1; omega)⟩
      have il : i < ms.length := (List.getElem?_eq_some_iff.mp hs).1
      refine ⟨rfl, _, rfl, p, 8, rfl, hR, by decide, by decide, fun k H3 _ _ hB3 hR3 => ⟨_, _, rfl, rfl, _, rfl, ?_⟩⟩
      have eD3 := hB3 _ _ eD (Ne.symm hpD)
      have f3 := hR.fix hB3
      have f13 := (kn.row.fix hB).trans f3
      have hZ3 := hZ.on (Ev.fix f3).tk
      obtain ⟨b, rfl, kb⟩ := (mk.ex.on (Ev.fix f13).tk).get hx hs
      have lz := hZ.len
      refine ite2 (fun e => ?_) (fun e => ⟨hB.trans hB3, hR3, zs, fs, eD3, hZ3, hc, by omega⟩)
      have tk : TK H3 (upd H3 D (.lst (zs ++ [.ref b]))) := TK.upd eD3 not_tup_l
      refine ⟨_, rfl, zs, eD3, small1000 (by omega), (hB.trans hB3).fresh hD, hR3.lst_upd eD3 hpD, zs ++ [.ref b], fs ++ [s], upd_same, EX.snoc (tk _ _ kb) (hZ3.on tk), fun r hr => ?_, by rw [List.length_append]; show fs.length + 1 ≤ i + 1; omega⟩
      rcases List.mem_append.mp hr with z | z
      · exact hc r z
      · rw [List.mem_singleton.mp z]
        exact cpS s (List.mem_of_getElem? hs)
    obtain ⟨hB2, hR2, zs, fs, eD, hZ, hc, hl⟩ := h2
    rw [lys] at hl
    have kn2 := kn.but hB2 hR2
    have mk2 := mk.but hB2 (kn.row.fix hB2)
    have ev2 := ev.but hB2 (kn.row.fix hB2)
    have lz := hZ.len
    -- some more
    refine ⟨_, rfl, _, rfl, p, 2, rfl, hR2, by decide, by decide, fun k H3 k0 k1 hB3 hR3 => ?_⟩
    obtain ⟨kk, rfl⟩ : ∃ kk : Nat, k = (kk : Int) := ⟨k.toNat, by omega⟩
    have f3 := hR2.fix hB3
    have kn3 := kn2.but hB3 hR3
    have mk3 := mk2.but hB3 f3
    have ev3 := ev2.but hB3 f3
    have eD3 := hB3 _ _ eD (Ne.symm hpD)
    have hZ3 := hZ.on (Ev.fix f3).tk
    refine ⟨_, rfl, by omega, by omega, fun D2 hD2 => ?_⟩
    have hpD2 := hR3.ne hD2
    have hDD2 : D ≠ D2 := ne_of_none eD3 hD2
    rw [Int.toNat_natCast]
    refine lc_range (lo := 0) (n := kk) (fun i H' => But p H3 H' ∧ Row K H' p ∧ ∃ zs fs, H' D2 = some (.lst zs) ∧ EX H' zs fs ∧ (∀ s ∈ fs, CP n s) ∧ fs.length ≤ i) ⟨But.same (same_new hD2), hR3.new hD2, [], [], upd_same, .nil, fun _ z => (nomatch z), Nat.le_refl _⟩ (fun i H' hi h' => ?_) (fun H4 h4 => ?_)
    · obtain ⟨hB, hR, zs, fs, eD, hZ, hc, hl⟩ := h'
      have evx := ev3.but hB (hR3.fix hB)
      refine ⟨rfl, _, rfl, _, rfl, p, le, es, rfl, hR, evx.el, ev.ne, by omega, by omega, fun i2 x H5 hx hB5 hR5 => ?_⟩
      have f5 := hR.fix hB5
      obtain ⟨s, hs⟩ : ∃ s, (UP n)[i2]? = some s := ⟨_, List.getElem?_eq_getElem (by have := (List.getElem?_eq_some_iff.mp hx).1; omega)⟩
      obtain ⟨b, rfl, kb⟩ := (evx.ex.on (Ev.fix f5).tk).get hx hs
      have eD5 := hB5 _ _ eD (Ne.symm hpD2)
      have lz := hZ.len
      have tk : TK H5 (upd H5 D2 (.lst (zs ++ [.ref b]))) := TK.upd eD5 not_tup_l
      refine ⟨zs, eD5, small1000 (by omega), (hB.trans hB5).fresh hD2, hR5.lst_upd eD5 hpD2, zs ++ [.ref b], fs ++ [s], upd_same, EX.snoc (tk _ _ kb) ((hZ.on (Ev.fix f5).tk).on tk), fun r hr => ?_, by rw [List.length_append]; show fs.length + 1 ≤ i + 1; omega⟩
      rcases List.mem_append.mp hr with z | z
      · exact hc r z
      · rw [List.mem_singleton.mp z]
        exact cpU s (List.mem_of_getElem? hs)
    obtain ⟨hB4, hR4, zs2, fs2, eD2, hZ2, hc2, hl2⟩ := h4
    have f4 := hR3.fix hB4
    have lz2 := hZ2.len
    refine ⟨D, D2, zs, zs2, rfl, rfl, hB4 _ _ eD3 (Ne.symm hpD), eD2, by rw [sizeLine_eq]; omega, fun c hc3 => ?_⟩
    have sc := same_new (o := .lst (zs ++ zs2)) hc3
    have kn4 := (kn3.but hB4 hR4).same sc
    have mk4 := (mk3.but hB4 f4).same sc
    have ev4 := (ev3.but hB4 f4).but (But.same sc) (Fix.same sc)
    have hS4 : EX (upd H4 c (.lst (zs ++ zs2))) (zs ++ zs2) (fs ++ fs2) := ((hZ3.on (Ev.fix f4).tk).on (TK.same sc)).app (hZ2.on (TK.same sc))
    have eC : (upd H4 c (.lst (zs ++ zs2))) c = some (.lst (zs ++ zs2)) := upd_same
    have npc : c ≠ p := Ne.symm (hR4.ne hc3)
    have hcS : ∀ s ∈ fs ++ fs2, CP n s := fun s hs => (List.mem_append.mp hs).elim (hc s) (hc2 s)
    have lS : (fs ++ fs2).length < 64 := by rw [List.length_append]; omega
    generalize fs ++ fs2 = ss at *
    generalize zs ++ zs2 = sv at *
    generalize (upd H4 c (.lst sv)) = H5 at *
    clear hc2 hl2 hZ2 eD2 hZ3 eD3 ev3 mk3 kn3 f3 hZ eD hc hl ev2 mk2 kn2 hR2 hB2 hB3 hR3 hB4 hR4 f4 hc3 sc
    -- odd values
    refine ⟨_, rfl, .inl ⟨lm, _, rfl, lstAt mk4.el, fun t1 ht1 => ⟨_, rfl, lm, ys, rfl, .inl (lstAt (same_new ht1 _ _ mk4.el)), fun l3 hl3 => ⟨_, rfl, .inl ⟨lm, ys, rfl, lstAt (same_new hl3 _ _ (same_new ht1 _ _ mk4.el)), fun t3 ht3 => ⟨t3, ys, rfl, tupAt upd_same, fun t4 ht4 => ⟨by show 2 ≤ sizeLine; decide, fun t5 ht5 => ⟨by show 1 ≤ sizeLine; decide, fun t6 ht6 => ⟨by show 5 ≤ sizeLine; decide, fun lo hlo => ?_⟩⟩⟩⟩⟩⟩⟩⟩⟩
    have z7 := same_new (o := .lst [.ref t1, .ref l3, .non, .ref t4, .ref t6]) hlo
    have z6 := (same_new (o := .tup [.ref t5]) ht6).trans z7
    have z5 := (same_new (o := .tup [.bl true, .int 0]) ht5).trans z6
    have z4 := (same_new (o := .tup ys.reverse) ht4).trans z5
    have z3 := (same_new (o := .tup ys) ht3).trans z4
    have z2 := (same_new (o := .lst ys) hl3).trans z3
    have z1 := (same_new (o := .tup ys) ht1).trans z2
    have kn5 := kn4.same z1
    have mk5 := mk4.same z1
    have ev5 := ev4.but (But.same z1) (Fix.same z1)
    have hS5 := hS4.on (TK.same z1)
    have eC5 := z1 _ _ eC
    have nl3 : l3 ≠ p := Ne.symm ((kn4.same (same_new ht1)).row.ne hl3)
    have odd1 := z2 _ _ (upd_same (H := H5) (a := t1) (o := .tup ys))
    have odd2 := z3 _ _ (upd_same (a := l3) (o := .lst ys))
    have odd4 := z5 _ _ (upd_same (a := t4) (o := .tup ys.reverse))
    have odd5 := z6 _ _ (upd_same (a := t5) (o := .tup [.bl true, .int 0]))
    have odd6 := z7 _ _ (upd_same (a := t6) (o := .tup [.ref t5]))
    have eLo : (upd (upd (upd (upd (upd (upd (upd H5 t1 (.tup ys)) l3 (.lst ys)) t3 (.tup ys)) t4 (.tup ys.reverse)) t5 (.tup [.bl true, .int 0])) t6 (.tup [.ref t5])) lo (.lst [.ref t1, .ref l3, .non, .ref t4, .ref t6])) lo = some (.lst [.ref t1, .ref l3, .non, .ref t4, .ref t6]) := upd_same
    generalize (upd (upd (upd (upd (upd (upd (upd H5 t1 (.tup ys)) l3 (.lst ys)) t3 (.tup ys)) t4 (.tup ys.reverse)) t5 (.tup [.bl true, .int 0])) t6 (.tup [.ref t5])) lo (.lst [.ref t1, .ref l3, .non, .ref t4, .ref t6])) = H6 at *
    clear z1 z2 z3 z4 z5 z6 z7 hlo ht6 ht5 ht4 ht3 hl3 ht1 eC hS4 ev4 mk4 kn4
    -- value
    refine ⟨fun σ2 HV hGD => ?_, ?_⟩
    rotate_left
    · obtain ⟨ks, rfl, rfl, hks⟩ := hS5.ks
      refine ⟨_, rfl, _, rfl, c, ks, rfl, lstAt eC5, fun p hp => .inl (hks p hp), by rw [List.length_map] at lS; exact lS, fun sa L hsa hsub hall => ?_⟩
      have w1 := same_new (o := SetTO P w sa L) hsa
      have hL : ∀ p ∈ L, KX (upd H6 sa (SetTO P w sa L)) p.1 p.2 := fun p hp => TK.same w1 _ _ (hks p (hsub p hp))
      refine ⟨sa, L, 2, 10, rfl, upd_same, fun p hp => .inl (hL p hp), by decide, fun p hp => (hcS p.2 (List.mem_map.mpr ⟨p, hsub p hp, rfl⟩)).bd n5, fun L' p2 pm nd' _ pw hp2 => ?_⟩
      have w2 := same_new (o := .lst (L'.map fun q => V.ref q.1)) hp2
      refine .inl ⟨p2, _, rfl, lstAt upd_same, fun td htd => ⟨by show 1 ≤ sizeLine; decide, fun ll hll => ?_⟩⟩
      have w3 := same_new (o := .tup (L'.map fun q => V.ref q.1)) htd
      have w4 := same_new (o := .lst [.ref td]) hll
      refine ⟨ll, 4, [.ref td], rfl, rfl, upd_same, by decide, by decide, by show 1 * 4 ≤ sizeLine; decide, fun lr hlr => ?_⟩
      have w5 := same_new (o := .lst (List.replicate (4 : Int).toNat [V.ref td]).flatten) hlr
      have w15 := w1.trans (w2.trans (w3.trans (w4.trans w5)))
      refine ⟨_, rfl, lr, lo, _, _, rfl, rfl, upd_same, w15 _ _ eLo, by show 4 + 5 ≤ sizeLine; decide, fun lq hlq => ?_⟩
      have w6 := same_new (o := .lst ((List.replicate (4 : Int).toNat [V.ref td]).flatten ++ [.ref t1, .ref l3, .non, .ref t4, .ref t6])) hlq
      have w16 := w15.trans w6
      have kn6 := kn5.same w16
      have mk6 := mk5.same w16
      have ev6 := ev5.but (But.same w16) (Fix.same w16)
      have w26 := w2.trans (w3.trans (w4.trans (w5.trans w6)))
      have cL : ∀ s ∈ L'.map (·.2), CP n s := fun s hs => by
        obtain ⟨r, hr, rfl⟩ := List.mem_map.mp hs
        exact hcS _ (List.mem_map.mpr ⟨r, hsub r (pm.mem_iff.mp hr), rfl⟩)
      have lL : (L'.map (·.2)).length ≤ 25 := Nat.le_trans (nd_len (m := UP n) nd' fun s hs => sy.few _ (cL s hs)) lup
      have OD : Odd K (upd (upd (upd (upd (upd (upd H6 sa (SetTO P w sa L)) p2 (.lst (L'.map fun q => V.ref q.1))) td (.tup (L'.map fun q => V.ref q.1))) ll (.lst [.ref td])) lr (.lst (List.replicate (4 : Int).toNat [V.ref td]).flatten)) lq (.lst ((List.replicate (4 : Int).toNat [V.ref td]).flatten ++ [.ref t1, .ref l3, .non, .ref t4, .ref t6]))) p td t1 l3 t4 t6 t5 (L'.map fun q => V.ref q.1) ys (L'.map (·.2)) :=
        ⟨nl3, tupAt ((w4.trans (w5.trans w6)) _ _ upd_same), ex_ks fun r hr => TK.same w26 _ _ (hL r (pm.mem_iff.mp hr)), tupAt (w16 _ _ odd1), w16 _ _ odd2, tupAt (w16 _ _ odd4), tupAt (w16 _ _ odd6), tupAt (w16 _ _ odd5)⟩
      refine ⟨p, lq, _, rfl, kn6.row, upd_same, Ne.symm ((kn5.same w15).row.ne hlq), by show 0 < 9; decide, by show 9 ≤ 1000; decide, fun i2 x H7 hx hB7 hR7 => ?_⟩
      have f7 := kn6.row.fix hB7
      obtain ⟨pval, hpk⟩ := (OD.but hB7 f7).kind (mk6.ex.on (Ev.fix f7).tk) cL cpS lL lms hx
      exact ⟨p, n, al, v, u, y6, y7, y9, y10, y12, _, _, _, y17, y18, y19, x, h, o, lot, lm, le, ys, es, ms, pval, rfl, kn6.but hB7 hR7, mk6.but hB7 f7, ev6.but hB7 f7, hpk⟩
    clear kn5 mk5 ev5 hS5 eC5 odd1 odd2 odd4 odd5 odd6 eLo nl3 lS hcS npc pup cpU lup les lys lms cpS sy hin l2 n2 n5 ho hb kn mk ev
    obtain ⟨p, n, al, v, u, y6, y7, y9, y10, y12, y13, y14, y15, y17, y18, y19, x, h, o, lot, lm, le, ys, es, ms, pval, rfl, kn, mk, ev, pk⟩ := hGD
    have hb := kn.tw.hb
    have ho := kn.tw.ho
    have n5 := hb.hi
    have n2 := hb.lo
    have l2 := kn.tw.l2
    have hin := kn.tw.hin
    -- fine, at first
    refine ⟨fun σ2 H5 hG5 => ?_, ?_⟩
    rotate_left
    · cases pk with
      | non => exact ⟨_, rfl, .non, .ty "tuple", _, _, false, rfl, .ty "tuple", .base .non, kit_ty (by decide +kernel), false, rfl, p, n, al, v, u, y6, y7, y9, y10, y12, y13, y14, y15, y18, y19, _, _, h, o, lot, lm, le, ys, es, ms, .non, rfl, kn, mk, ev, .non, rfl⟩
      | @lst a2 xs hL => exact ⟨_, rfl, .ref a2, .ty "tuple", _, _, false, rfl, .ty "tuple", ty_lst hL, kit_ty (by decide +kernel), false, rfl, p, n, al, v, u, y6, y7, y9, y10, y12, y13, y14, y15, y18, y19, _, _, h, o, lot, lm, le, ys, es, ms, .lst, rfl, kn, mk, ev, .lst hL, rfl⟩
      | @odd a2 t hA hB =>
        refine ⟨_, rfl, .ref a2, .ty "tuple", _, _, true, rfl, .ty "tuple", ty_tup hA, kit_ty (by decide +kernel), true, rfl, _, rfl, a2, _, rfl, .inr hA, fun l hl => ⟨_, rfl, .inr ⟨a2, t, rfl, Same.tups (same_new hl) _ _ hA, Same.tups (same_new hl) _ _ hB, fun sa hsa => .inr ⟨sa, t, rfl, upd_same, fun p2 hp2 => ?_⟩⟩⟩⟩
        have w3 := same_new (o := .lst [V.ref t]) hp2
        have w23 := (same_new (o := OneO w sa t) hsa).trans w3
        have w := (same_new (o := .lst [V.ref t]) hl).trans w23
        have dB : Dp K _ (.ref t) (.tuple [.bool true, .int 0]) := .tup (Same.tups w _ _ hB) (.cons (.bl true) (.cons (.int 0) .nil))
        refine ⟨_, _, .lst (lstAt (w23 _ _ upd_same)) (.cons dB .nil), .lst (lstAt upd_same) (.cons dB .nil), rfl, rfl, ?_⟩
        exact ⟨p, n, al, v, u, y6, y7, y9, y10, y12, y13, y14, y15, y18, y19, _, _, h, o, lot, lm, le, ys, es, ms, .odd, rfl, kn.same w, mk.same w, ev.but (But.same w) (Fix.same w), .odd (Same.tups w _ _ hA) (Same.tups w _ _ hB), True.intro⟩
      | @tup a2 us ls hA hY hc few =>
        obtain ⟨ks, rfl, rfl, hks⟩ := hY.ks
        refine ⟨_, rfl, .ref a2, .ty "tuple", _, _, true, rfl, .ty "tuple", ty_tup hA, kit_ty (by decide +kernel), true, rfl, _, rfl, a2, _, rfl, .inr hA, fun l hl => ⟨_, rfl, .inl ⟨a2, ks, rfl, Same.tups (same_new hl) _ _ hA, fun r hr => .inl (TK.same (same_new hl) _ _ (hks r hr)), by rw [List.length_map] at few; omega, fun sa L hsa hsub hall => .inl ⟨sa, L, 2, 10, rfl, upd_same, fun r hr => .inl (TK.same (same_new hsa) _ _ (TK.same (same_new hl) _ _ (hks r (hsub r hr)))), by decide, fun r hr => (hc r.2 (List.mem_map.mpr ⟨r, hsub r hr, rfl⟩)).bd n5, fun L' p2 pm nd' _ pw hp2 => ?_⟩⟩⟩⟩
        have w3 := same_new (o := .lst (L'.map fun q => V.ref q.1)) hp2
        have w23 := (same_new (o := SetTO P w sa L) hsa).trans w3
        have w13 := (same_new (o := .lst (ks.map fun p => V.ref p.1)) hl).trans w23
        have mem : ∀ s, s ∈ L'.map (·.2) ↔ s ∈ ks.map (·.2) := fun s => by
          rw [(pm.map (·.2)).mem_iff]
          constructor
          · intro z
            obtain ⟨r, hr, rfl⟩ := List.mem_map.mp z
            exact List.mem_map.mpr ⟨r, hsub r hr, rfl⟩
          · intro z
            obtain ⟨r, hr, rfl⟩ := List.mem_map.mp z
            exact hall r hr
        have eL : EX _ (L'.map fun q => V.ref q.1) (L'.map (·.2)) := ex_ks fun r hr => TK.same w13 _ _ (hks r (hsub r (pm.mem_iff.mp hr)))
        refine ⟨_, _, .lst (lstAt (w23 _ _ upd_same)) (dp_rows (hY.on (TK.same w13))), .lst (lstAt upd_same) (dp_rows eL), shaped_rows _, shaped_rows _, ?_⟩
        have asc := asc_of n5 (fun s hs => hc s ((mem s).mp hs)) nd' (List.pairwise_map.mpr pw)
        refine ⟨p, n, al, v, u, y6, y7, y9, y10, y12, y13, y14, y15, y18, y19, _, _, h, o, lot, lm, le, ys, es, ms, .tup (ks.map (·.2)), rfl, kn.same w13, mk.same w13, ev.but (But.same w13) (Fix.same w13), .tup (Same.tups w13 _ _ hA) (hY.on (TK.same w13)) hc few, ?_⟩
        show PyData.eqv _ _ = riB _
        rw [eqv_rowsL]
        exact asc_ri n5 hc asc mem
    clear pk kn mk ev hb ho n5 n2 l2 hin
    obtain ⟨p, n, al, v, u, y6, y7, y9, y10, y12, y13, y14, y15, y18, y19, x, b, h, o, lot, lm, le, ys, es, ms, pval, rfl, kn, mk, ev, pk, hb5⟩ := hG5
    have hb := kn.tw.hb
    have ho := kn.tw.ho
    have n5 := hb.hi
    have n2 := hb.lo
    have l2 := kn.tw.l2
    have hin := kn.tw.hin
    -- the pairs are looked through
    refine ⟨fun σ2 HF hGF => ?_, ?_⟩
    rotate_left
    · cases b with
      | false =>
        have eF : fB h o lot pval = false := by
          cases pval with
          | tup ls =>
            have e : false = riB ls := hb5
            show (riB ls && _) = false
            rw [← e, Bool.false_and]
          | _ => rfl
        refine ⟨_, rfl, false, rfl, Nat.zero_le _, fun t0 ht0 => ⟨t0, rfl, ⟨_, tupAt upd_same⟩, ?_⟩⟩
        have st := same_new (o := .tup []) ht0
        refine for_tup (xs := []) (fun i σ H' => H' = upd H5 t0 (.tup []) ∧ σ = [some (.ref a), some (.ref p), some (.int (n : Int)), some (.ref al), some v, some u, y6, y7, some (.ref lm), y9, y10, some (.ref le), y12, y13, y14, y15, some x, some (.bl false), y18, y19, none, none, none, none]) ⟨rfl, rfl⟩ (fun i σ H' _ h' => by rw [h'.1]; exact tupAt upd_same) (fun i x σ H' hx h' => by simp at hx) (fun σ H' h' => ?_)
        obtain ⟨rfl, rfl⟩ := h'
        refine ⟨p, n, al, v, u, y6, y7, y9, y10, y12, y13, y14, y15, y18, y19, x, h, o, lot, lm, le, ys, es, ms, pval, ?_, kn.same st, mk.same st, ev.but (But.same st) (Fix.same st), pk.ext (extN_same st)⟩
        rw [eF]
      | true =>
        cases pk with
        | non => cases (show true = false from hb5)
        | lst _ => cases (show true = false from hb5)
        | @odd a2 t hA hB =>
          refine ⟨_, rfl, true, rfl, _, rfl, a2, rfl, ⟨_, hA⟩, ?_⟩
          refine for_tup (xs := [.ref t]) (fun i σ H' => Same H5 H' ∧ ∃ y18 y19, σ = [some (.ref a), some (.ref p), some (.int (n : Int)), some (.ref al), some v, some u, y6, y7, some (.ref lm), y9, y10, some (.ref le), y12, y13, y14, y15, some (.ref a2), some (.bl (decide (i = 0))), y18, y19, none, none, none, none]) ⟨Same.refl _, y18, y19, rfl⟩ (fun i σ H' _ h' => onT h'.1 hA) (fun i x σ H' hx h' => ?_) (fun σ H' h' => ?_)
          · obtain ⟨sm, y18, y19, rfl⟩ := h'
            cases i with
            | succ i => simp at hx
            | zero =>
              obtain rfl : x = .ref t := (Option.some.inj hx).symm
              have hB' := onT sm hB
              have ev' := ev.but (But.same sm) (Fix.same sm)
              refine ⟨_, rfl, true, rfl, _, rfl, _, rfl, in_any (.lst (lstAt ev'.el) (dp_rows ev'.ex)) (.inl rfl) (.tup hB' (.cons (.bl true) (.cons (.int 0) .nil))) (shaped_rows _) rfl fun bb => ?_⟩
              cases bb with
              | false =>
                refine ⟨false, rfl, _, rfl, false, rfl, ?_⟩
                refine ⟨_, rfl, false, rfl, Nat.zero_le _, fun t0 ht0 => ⟨t0, rfl, ⟨_, tupAt upd_same⟩, ?_⟩⟩
                have st := same_new (o := .tup []) ht0
                refine for_tup (xs := []) (fun i σ H2 => Same H' H2 ∧ H2 t0 = some (.tup []) ∧ σ = [some (.ref a), some (.ref p), some (.int (n : Int)), some (.ref al), some v, some u, y6, y7, some (.ref lm), y9, y10, some (.ref le), y12, y13, y14, y15, some (.ref a2), some (.bl false), some (.ref t), y19, none, none, none, none]) ⟨st, upd_same, rfl⟩ (fun i σ H2 _ h2 => tupAt h2.2.1) (fun i x σ H2 hx h2 => by simp at hx) (fun σ H2 h2 => ?_)
                obtain ⟨s2, _, rfl⟩ := h2
                exact ⟨sm.trans s2, _, _, rfl⟩
              | true =>
                refine ⟨true, rfl, _, rfl, t, _, 0, .bl true, rfl, rfl, hB', rfl, .bl true, .ty "bool", _, _, true, rfl, .ty "bool", .base (.bl true), kit_ty (by decide +kernel), true, rfl, _, rfl, false, rfl, ?_⟩
                refine ⟨_, rfl, false, rfl, Nat.zero_le _, fun t0 ht0 => ⟨t0, rfl, ⟨_, tupAt upd_same⟩, ?_⟩⟩
                have st := same_new (o := .tup []) ht0
                refine for_tup (xs := []) (fun i σ H2 => Same H' H2 ∧ H2 t0 = some (.tup []) ∧ σ = [some (.ref a), some (.ref p), some (.int (n : Int)), some (.ref al), some v, some u, y6, y7, some (.ref lm), y9, y10, some (.ref le), y12, y13, y14, y15, some (.ref a2), some (.bl false), some (.ref t), y19, none, none, none, none]) ⟨st, upd_same, rfl⟩ (fun i σ H2 _ h2 => tupAt h2.2.1) (fun i x σ H2 hx h2 => by simp at hx) (fun σ H2 h2 => ?_)
                obtain ⟨s2, _, rfl⟩ := h2
                exact ⟨sm.trans s2, _, _, rfl⟩
          · obtain ⟨sm, y18, y19, rfl⟩ := h'
            exact ⟨p, n, al, v, u, y6, y7, y9, y10, y12, y13, y14, y15, y18, y19, _, h, o, lot, lm, le, ys, es, ms, .odd, rfl, kn.same sm, mk.same sm, ev.but (But.same sm) (Fix.same sm), .odd (onT sm hA) (onT sm hB)⟩
        | @tup a2 us ls hA hY hc few =>
          have ly := hY.len
          refine ⟨_, rfl, true, rfl, _, rfl, a2, rfl, ⟨_, hA⟩, ?_⟩
          refine for_tup (xs := us) (fun i σ H' => Same H5 H' ∧ ∃ y18 y19, σ = [some (.ref a), some (.ref p), some (.int (n : Int)), some (.ref al), some v, some u, y6, y7, some (.ref lm), y9, y10, some (.ref le), y12, y13, y14, y15, some (.ref a2), some (.bl ((ls.take i).all (okP h o lot ls))), y18, y19, none, none, none, none]) ⟨Same.refl _, y18, y19, rfl⟩ (fun i σ H' _ h' => onT h'.1 hA) (fun i x σ H' hx h' => ?_) (fun σ H' h' => ?_)
          · obtain ⟨sm, y18, y19, rfl⟩ := h'
            obtain ⟨s, hs⟩ : ∃ s, ls[i]? = some s := ⟨_, List.getElem?_eq_getElem (by have := (List.getElem?_eq_some_iff.mp hx).1; omega)⟩
            obtain ⟨b, rfl, kb⟩ := (hY.on (TK.same sm)).get hx hs
            have cps := hc s (List.mem_of_getElem? hs)
            obtain ⟨x0, y0, es, hx0, hy0⟩ := id cps
            have hks : SqT K H' b [.int x0, .int y0] := by
              have z := kb
              rw [es] at z
              exact .inl z
            have ev' := ev.but (But.same sm) (Fix.same sm)
            have kn' := kn.same sm
            have more : (ls.take (i + 1)).all (okP h o lot ls) = ((ls.take i).all (okP h o lot ls) && okP h o lot ls s) := by
              rw [take_more hs, List.all_append]
              simp
            cases eG : (ls.take i).all (okP h o lot ls) with
            | false =>
              have eF : (ls.take (i + 1)).all (okP h o lot ls) = false := by rw [more, eG, Bool.false_and]
              refine ⟨_, rfl, false, rfl, _, rfl, false, rfl, ?_⟩
              refine ⟨_, rfl, false, rfl, Nat.zero_le _, fun t0 ht0 => ⟨t0, rfl, ⟨_, tupAt upd_same⟩, ?_⟩⟩
              have st := same_new (o := .tup []) ht0
              refine for_tup (xs := []) (fun i σ H2 => Same H' H2 ∧ H2 t0 = some (.tup []) ∧ σ = [some (.ref a), some (.ref p), some (.int (n : Int)), some (.ref al), some v, some u, y6, y7, some (.ref lm), y9, y10, some (.ref le), y12, y13, y14, y15, some (.ref a2), some (.bl false), some (.ref b), y19, none, none, none, none]) ⟨st, upd_same, rfl⟩ (fun i σ H2 _ h2 => tupAt h2.2.1) (fun i x σ H2 hx h2 => by simp at hx) (fun σ H2 h2 => ?_)
              obtain ⟨s2, _, rfl⟩ := h2
              refine ⟨sm.trans s2, some (.ref b), y19, ?_⟩
              rw [eF]
            | true =>
              have eT : (ls.take (i + 1)).all (okP h o lot ls) = okP h o lot ls s := by rw [more, eG, Bool.true_and]
              have hup : s ∈ UP n := (sysP hb ho hin (by show lot.length ≤ 1000; omega)).few _ cps
              obtain ⟨_, e', hLs⟩ := id kn'.tw.hL
              cases e'
              refine ⟨_, rfl, true, rfl, _, rfl, _, rfl, in_pairsL rfl rfl kb (lstAt ev'.el) ev'.ex hup ⟨true, rfl, _, rfl, b, _, 0, .int x0, rfl, rfl, hks, rfl, .int x0, .ty "bool", _, _, false, rfl, .ty "bool", .base (.int x0), kit_ty (by decide +kernel), false, rfl, ?_⟩⟩
              refine ⟨_, rfl, true, rfl, _, rfl, al, rfl, ⟨_, hLs⟩, fun D2 hD2 => ?_⟩
              refine lc_tup (xs := lot.map V.int) (fun m H2 => Same H' H2 ∧ H2 D2 = some (.lst (((lot.take m).filter (fun r => !decide (decide (x0 = r) = decide (y0 = r)))).map V.int))) ⟨same_new hD2, upd_same⟩ (fun m H2 _ h2 => onT h2.1 hLs) (fun m x H2 hx2 h2 => ?_) (fun H2 h2 => ?_)
              · obtain ⟨r, hr0, rfl⟩ := map_at hx2
                obtain ⟨sm2, eD2⟩ := h2
                have hk2 := onT sm2 hks
                refine ⟨rfl, _, rfl, b, _, 0, .int x0, rfl, rfl, hk2, rfl, _, rfl, rfl, _, rfl, b, _, 1, .int y0, rfl, rfl, hk2, rfl, _, rfl, rfl, rfl, _, rfl, ?_⟩
                rw [V_int, V_int, V_bl]
                refine ite2 (fun e => ⟨_, rfl, _, eD2, ?_, Same.upd sm2 hD2, ?_⟩) (fun e => ⟨sm2, ?_⟩)
                · rw [List.length_map]
                  have := List.length_filter_le (fun r => !decide (decide (x0 = r) = decide (y0 = r))) (lot.take m)
                  rw [List.length_take] at this
                  exact small1000 (by omega)
                · rw [upd_same, take_more hr0, List.filter_append, List.filter_cons_of_pos (by exact e), List.map_append]
                  rfl
                · rw [take_more hr0, List.filter_append, List.filter_cons_of_neg (by exact e), List.filter_nil, List.append_nil]
                  exact eD2
              · obtain ⟨sm2, eD2⟩ := h2
                rw [List.length_map, List.take_length] at eD2
                refine ⟨Nat.zero_le _, fun z hz => ?_⟩
                have sz := same_new (o := .lst []) hz
                refine ⟨_, _, dp_lst (lstAt (sz _ _ eD2)), dp_lst (ns := []) (lstAt upd_same), PySem.W.ke_shaped_ints _, PySem.W.ke_shaped_ints _, ?_⟩
                have e2 : PyData.eqv (.list ((lot.filter (fun r => !decide (decide (x0 = r) = decide (y0 = r)))).map PyData.int)) (.list (([] : List Int).map PyData.int)) = !gpT lot s := by rw [eqv_lst, es, gp_filter, Bool.not_not]
                rw [e2]
                have sm3 := sm.trans (sm2.trans sz)
                clear e2 eD2 sm2
                generalize (upd H2 z (.lst [])) = H3 at *
                cases eg : gpT lot s with
                | true =>
                  have eF : (ls.take (i + 1)).all (okP h o lot ls) = false := by
                    rw [eT]
                    show (_ && !gpT lot s) = false
                    rw [eg]
                    exact Bool.and_false _
                  refine ⟨_, rfl, false, rfl, Nat.zero_le _, fun t0 ht0 => ⟨t0, rfl, ⟨_, tupAt upd_same⟩, ?_⟩⟩
                  have st := same_new (o := .tup []) ht0
                  refine for_tup (xs := []) (fun i σ H2 => Same H3 H2 ∧ H2 t0 = some (.tup []) ∧ σ = [some (.ref a), some (.ref p), some (.int (n : Int)), some (.ref al), some v, some u, y6, y7, some (.ref lm), y9, y10, some (.ref le), y12, y13, y14, y15, some (.ref a2), some (.bl false), some (.ref b), y19, none, none, none, none]) ⟨st, upd_same, rfl⟩ (fun i σ H2 _ h2 => tupAt h2.2.1) (fun i x σ H2 hx h2 => by simp at hx) (fun σ H2 h2 => ?_)
                  obtain ⟨s2, _, rfl⟩ := h2
                  refine ⟨sm3.trans s2, some (.ref b), y19, ?_⟩
                  rw [eF]
                | false =>
                  have kn3 := kn.same sm3
                  obtain ⟨_, e', hL3⟩ := id kn3.tw.hL
                  cases e'
                  refine ⟨_, rfl, true, rfl, _, rfl, al, rfl, ⟨_, hL3⟩, ?_⟩
                  refine for_tup (xs := lot.map V.int) (fun j σ H4 => Same H5 H4 ∧ ∃ y19, σ = [some (.ref a), some (.ref p), some (.int (n : Int)), some (.ref al), some v, some u, y6, y7, some (.ref lm), y9, y10, some (.ref le), y12, y13, y14, y15, some (.ref a2), some (.bl ((lot.take j).all fun p => decide (stP h o p s ∈ ls))), some (.ref b), y19, none, none, none, none]) ⟨sm3, y19, rfl⟩ (fun j σ H4 _ h4 => Same.tups h4.1 _ _ (by obtain ⟨_, e', hL5⟩ := id kn.tw.hL; cases e'; exact hL5)) (fun j x σ H4 hx4 h4 => ?_) (fun σ H4 h4 => ?_)
                  · obtain ⟨sm4, y19, rfl⟩ := h4
                    obtain ⟨pj, hpj, rfl⟩ := map_at hx4
                    have more2 : (lot.take (j + 1)).all (fun p => decide (stP h o p s ∈ ls)) = ((lot.take j).all (fun p => decide (stP h o p s ∈ ls)) && decide (stP h o pj s ∈ ls)) := by
                      rw [take_more hpj, List.all_append]
                      simp
                    cases eH : (lot.take j).all (fun p => decide (stP h o p s ∈ ls)) with
                    | false =>
                      refine ⟨_, rfl, false, rfl, sm4, some (.int pj), ?_⟩
                      rw [more2, eH, Bool.false_and]
                      rfl
                    | true =>
                      have kn4 := kn.same sm4
                      obtain ⟨ah, hxs, rfl, hS, hE⟩ := id kn4.tw.hT
                      obtain ⟨ao, oxs, rfl, oS, oE⟩ := id kn4.tw.hU
                      have hpr := hin pj (List.mem_of_getElem? hpj)
                      obtain ⟨a1, ns1, e1, s1, e2⟩ := ix2 hE hb hpr hx0
                      obtain ⟨a2', ns2, e3, s2, e4⟩ := ix2 oE ho hpr hy0
                      obtain ⟨b', eb', kb4⟩ := (hY.on (TK.same sm4)).get hx hs
                      cases eb'
                      have hk4 : SqT K H4 b [.int x0, .int y0] := by
                        have z := kb4
                        rw [es] at z
                        exact .inl z
                      refine ⟨_, rfl, true, rfl, _, rfl, _, rfl, ah, hxs, pj, _, rfl, rfl, hS, e1, _, rfl, b, _, 0, .int x0, rfl, rfl, hk4, rfl, a1, _, x0, _, rfl, rfl, s1, e2, _, rfl, _, rfl, ao, oxs, pj, _, rfl, rfl, oS, e3, _, rfl, b, _, 1, .int y0, rfl, rfl, hk4, rfl, a2', _, y0, _, rfl, rfl, s2, e4, by show 2 ≤ sizeLine; decide, fun T4 hT4 => ?_⟩
                      have st4 := same_new (o := .tup [.int (mv h pj x0), .int (mv o pj y0)]) hT4
                      have sm5 := sm4.trans st4
                      have est : stP h o pj s = [mv h pj x0, mv o pj y0] := by rw [es]; rfl
                      refine ⟨_, rfl, in_pairs (s := stP h o pj s) rfl rfl (by rw [est]; exact .inl upd_same) (onT sm5 hA) (hY.on (TK.same sm5)) ⟨sm5, some (.int pj), ?_⟩⟩
                      rw [more2, eH, Bool.true_and]
                      rfl
                  · obtain ⟨sm4, y19, rfl⟩ := h4
                    rw [List.length_map, List.take_length]
                    refine ⟨sm4, some (.ref b), y19, ?_⟩
                    rw [eT]
                    show _ = [some (V.ref a), some (V.ref p), some (V.int (n : Int)), some (V.ref al), some v, some u, y6, y7, some (V.ref lm), y9, y10, some (V.ref le), y12, y13, y14, y15, some (V.ref a2), some (V.bl ((lot.all fun p => decide (stP h o p s ∈ ls)) && !gpT lot s)), some (V.ref b), y19, none, none, none, none]
                    rw [eg, Bool.not_false, Bool.and_true]
          · obtain ⟨sm, y18, y19, rfl⟩ := h'
            refine ⟨p, n, al, v, u, y6, y7, y9, y10, y12, y13, y14, y15, y18, y19, _, h, o, lot, lm, le, ys, es, ms, .tup ls, ?_, kn.same sm, mk.same sm, ev.but (But.same sm) (Fix.same sm), .tup (onT sm hA) (hY.on (TK.same sm)) hc few⟩
            rw [fB_tup hb5, ly, List.take_length]
    clear pk hb5 kn mk ev hb ho n5 n2 l2 hin
    obtain ⟨p, n, al, v, u, y6, y7, y9, y10, y12, y13, y14, y15, y18, y19, x, h, o, lot, lm, le, ys, es, ms, pval, rfl, kn, mk, ev, pk⟩ := hGF
    have hb := kn.tw.hb
    have ho := kn.tw.ho
    have n5 := hb.hi
    have n2 := hb.lo
    have l2 := kn.tw.l2
    have hin := kn.tw.hin
    -- the last of it
    refine ⟨fun σ2 HE hGE => ?_, ?_⟩
    rotate_left
    · cases eF : fB h o lot pval with
      | false =>
        have eP : pvB h o lot pval = false := by
          cases pval with
          | tup ls =>
            have eF : (riB ls && ((ls.flatMap fun s => lot.map fun p => stP h o p s).all (fun s => decide (s ∈ ls)) && ls.all fun s => !gpT lot s)) = false := eF
            show (riB ls && ((ndd h o lot ls).all (fun s => decide (s ∈ ls)) && ls.all fun s => !gpT lot s)) = false
            unfold ndd
            rw [List.all_append]
            cases h1 : riB ls with
            | false => rfl
            | true =>
              cases h2 : (ls.flatMap fun s => lot.map fun p => stP h o p s).all (fun s => decide (s ∈ ls)) with
              | false => simp
              | true =>
                rw [h1, h2, Bool.true_and, Bool.true_and] at eF
                rw [eF]
                simp
          | _ => rfl
        refine ⟨_, rfl, false, rfl, p, n, al, v, u, y6, y7, y9, y10, y12, y13, y14, y15, y18, y19, x, h, o, lot, lm, le, ys, es, ms, pval, ?_, kn, mk, ev, pk⟩
        rw [eP]
        rfl
      | true =>
        cases pk with
        | non => cases eF
        | lst _ => cases eF
        | odd _ _ => cases eF
        | @tup a2 us ls hA hY hc few =>
          obtain ⟨ah, hxs, rfl, hS, hE⟩ := id kn.tw.hT
          obtain ⟨ao, oxs, rfl, oS, oE⟩ := id kn.tw.hU
          obtain ⟨_, e', hLs⟩ := id kn.tw.hL
          cases e'
          refine ⟨_, rfl, true, rfl, _, rfl, al, rfl, ⟨_, hLs⟩, fun D2 hD2 => ?_⟩
          refine lc_tup (xs := lot.map V.int) (fun m H2 => Same HF H2 ∧ H2 D2 = some (.lst (((lot.take m).filter (fun pl => !decide (fpr h o pl ∈ ls))).map V.int))) ⟨same_new hD2, upd_same⟩ (fun m H2 _ h2 => onT h2.1 hLs) (fun m x H2 hx2 h2 => ?_) (fun H2 h2 => ?_)
          · obtain ⟨pl, hpl, rfl⟩ := map_at hx2
            obtain ⟨sm, eD⟩ := h2
            have hp := hin pl (List.mem_of_getElem? hpl)
            obtain ⟨a1, ns1, e1, s1, e2⟩ := ix2 hE hb hp hp
            obtain ⟨a2', ns2, e3, s2, e4⟩ := ix2 oE ho hp hp
            refine ⟨rfl, _, rfl, _, rfl, ah, hxs, pl, _, rfl, rfl, onT sm hS, e1, _, rfl, a1, _, pl, _, rfl, rfl, onT sm s1, e2, _, rfl, _, rfl, ao, oxs, pl, _, rfl, rfl, onT sm oS, e3, _, rfl, a2', _, pl, _, rfl, rfl, onT sm s2, e4, by show 2 ≤ sizeLine; decide, fun T4 hT4 => ?_⟩
            have st4 := same_new (o := .tup [.int (mv h pl pl), .int (mv o pl pl)]) hT4
            have sm5 := sm.trans st4
            refine ⟨_, rfl, notin_pairs (s := fpr h o pl) rfl rfl (.inl upd_same) (onT sm5 hA) (hY.on (TK.same sm5)) ⟨_, rfl, ite2 (fun e => ?_) (fun e => ?_)⟩⟩
            · refine ⟨_, rfl, _, st4 _ _ eD, ?_, Same.upd sm5 hD2, ?_⟩
              · rw [List.length_map]
                have := List.length_filter_le (fun pl => !decide (fpr h o pl ∈ ls)) (lot.take m)
                rw [List.length_take] at this
                exact small1000 (by omega)
              · rw [upd_same, take_more hpl, List.filter_append, List.filter_cons_of_pos (by exact e), List.map_append]
                rfl
            · refine ⟨sm5, ?_⟩
              rw [take_more hpl, List.filter_append, List.filter_cons_of_neg (by exact e), List.filter_nil, List.append_nil]
              exact st4 _ _ eD
          · obtain ⟨sm, eD⟩ := h2
            rw [List.length_map, List.take_length] at eD
            refine ⟨Nat.zero_le _, fun z hz => ?_⟩
            have sz := same_new (o := .lst []) hz
            refine ⟨_, _, dp_lst (lstAt (sz _ _ eD)), dp_lst (ns := []) (lstAt upd_same), PySem.W.ke_shaped_ints _, PySem.W.ke_shaped_ints _, ?_⟩
            have sm5 := sm.trans sz
            refine ⟨p, n, al, .ref ah, .ref ao, y6, y7, y9, y10, y12, y13, y14, y15, y18, y19, .ref a2, h, o, lot, lm, le, ys, es, ms, .tup ls, ?_, kn.same sm5, mk.same sm5, ev.but (But.same sm5) (Fix.same sm5), .tup (onT sm5 hA) (hY.on (TK.same sm5)) hc few⟩
            rw [eqv_lst, pvB_tup eF]
            rfl
    obtain ⟨p, n, al, v, u, y6, y7, y9, y10, y12, y13, y14, y15, y18, y19, x, h, o, lot, lm, le, ys, es, ms, pval, rfl, kn, mk, ev, pk⟩ := hGE
    refine ⟨_, rfl, _, rfl, _, rfl, _, rfl, v, u, h, o, n, .ref al, lot, x, pval, rfl, kn.tw, kn.tb, pk, fun H6 ex6 tb6 => ⟨_, rfl, .bl _, .bl _, .bool _, rfl, .bl _, .bl _, True.intro, fun H7 s7 => ⟨_, rfl, ifF rfl ?_⟩⟩⟩
    have ex7 := ex6.trans (extN_same s7)
    exact ⟨p, n, al, v, u, y6, y7, y9, y10, y12, y13, y14, y15, _, _, y18, y19, h, o, lot, lm, le, ys, es, ms, rfl, ⟨(kn.row.ext ex6).same s7, tabs_same tb6 s7, kn.tw.tups (extN_tups ex7)⟩, ⟨mk.ne, ex7 _ _ mk.el (fun ps z => nomatch z), mk.ex.on (extN_tk ex7), mk.asc, mk.all⟩, ⟨ev.ne, ex7 _ _ ev.el (fun ps z => nomatch z), ev.ex.on (extN_tk ex7)⟩⟩
end
end RH
set_option Elab.async false
set_option linter.all false
set_option maxRecDepth 100000
set_option maxHeartbeats 2000000
namespace RH
open PySem PySem.Spec PyProof.Rows L2
open LamX (Tabs TabS TabB ExtN CodeO codeO_ne)
/-! ### what the top has left -/
theorem df_mk {K : PySem.W.Frag} {h : Heap} {mg : Str → Option Value} (X : K.In h) (G : h.Ns mainGlobals mg) {x : Str} {st : Stmt} {ps : List Str} {f : Addr} {od an : Option Addr} {sl : Array (Option Value)} {oc kV dc pm cd ct : Value}
    (a : PySem.W.nsIn K mainGlobals x = some (some (.ref f))) (l : K.lookup f = some ⟨oc, od, .func (PySem.W.fnOf x x (defArgs st) (defBody st) (defScope st) .none kV dc pm an cd ct), sl⟩) (c : PySem.W.codeIn K cd x = true) (k : PySem.W.keepIn K (.ref f) = true)
    (b : ∀ (kV doc pm : Value) (an : Option Addr) (cdv ct : Value) (us : List Value), us.length = ps.length → bindArgs (PySem.W.fnOf x x (defArgs st) (defBody st) (defScope st) .none kV doc pm an cdv ct) ⟨us, []⟩ = pure (ps.zip us)) : Df K mg x st ps := by
  have F := fun_mk (st := st) l c k
  exact ⟨f, _, F, PySem.W.mg_of X G a, F.binds b⟩
theorem dfc_mk {K : PySem.W.Frag} {h : Heap} {mg : Str → Option Value} (X : K.In h) (G : h.Ns mainGlobals mg) {x : Str} {st : Stmt} {ps : List Str} {f c : Addr} {od an : Option Addr} {sl : Array (Option Value)} {oc kV dc pm ct : Value}
    (a : PySem.W.nsIn K mainGlobals x = some (some (.ref f))) (l : K.lookup f = some ⟨oc, od, .func (PySem.W.fnOf x x (defArgs st) (defBody st) (defScope st) .none kV dc pm an (.ref c) ct), sl⟩) (cc : PySem.W.codeIn K (.ref c) x = true) (k : PySem.W.keepIn K (.ref f) = true)
    (b : ∀ (kV doc pm : Value) (an : Option Addr) (cdv ct : Value) (us : List Value), us.length = ps.length → bindArgs (PySem.W.fnOf x x (defArgs st) (defBody st) (defScope st) .none kV doc pm an cdv ct) ⟨us, []⟩ = pure (ps.zip us)) : DfC K mg x st ps c := by
  have F := fun_mk (st := st) l cc k
  exact ⟨f, oc, od, kV, dc, pm, an, ct, sl, l, cc, k, PySem.W.mg_of X G a, F.binds b⟩
/-- where a code object's table stands -/
def tabOf (o : Obj) : Option Value := match o.data with
  | .fields vs => vs.toList[11]?
  | _ => none
/-- a maker: its code object, its table -/
structure Mkr (K : PySem.W.Frag) (h : Heap) (mg : Str → Option Value) (x : Str) (st : Stmt) (ps : List Str) (c p : Addr) : Prop where
  df : DfC K mg x st ps c
  hd : PySem.W.CodeHd h c p
  no : K.lookup p = none
  tab : h.get? p = some (PySem.W.tabObj #[])
theorem mkr {K : PySem.W.Frag} {h : Heap} {mg : Str → Option Value} (X : K.In h) (G : h.Ns mainGlobals mg) {x : Str} {st : Stmt} {ps : List Str} {f c p : Addr} {od an : Option Addr} {sl : Array (Option Value)} {oc kV dc pm ct : Value} {o : Obj}
    (a : PySem.W.nsIn K mainGlobals x = some (some (.ref f))) (l : K.lookup f = some ⟨oc, od, .func (PySem.W.fnOf x x (defArgs st) (defBody st) (defScope st) .none kV dc pm an (.ref c) ct), sl⟩) (cc : PySem.W.codeIn K (.ref c) x = true) (k : PySem.W.keepIn K (.ref f) = true)
    (lc : K.lookup c = some o) (t : tabOf o = some (.ref p)) (d : ∀ K' : PySem.W.Frag, K'.lookup c = some o → PySem.W.codeHdIn K' c p = true) (e : K.lookup p = none) (g : h.get? p = some (PySem.W.tabObj #[]))
    (b : ∀ (kV doc pm : Value) (an : Option Addr) (cdv ct : Value) (us : List Value), us.length = ps.length → bindArgs (PySem.W.fnOf x x (defArgs st) (defBody st) (defScope st) .none kV doc pm an cdv ct) ⟨us, []⟩ = pure (ps.zip us)) :
    Mkr K h mg x st ps c p := ⟨dfc_mk X G a l cc k b, PySem.W.codeHd_of_K X (d K lc), e, g⟩
theorem two {A B : Addr → Addr → Prop} {c p c2 p2 : Addr} (a : A c p) (b : B c2 p2) (n : (p != p2) = true) : ∃ c p c2 p2, A c p ∧ B c2 p2 ∧ p ≠ p2 := ⟨c, p, c2, p2, a, b, fun z => by
  rw [z] at n
  simp at n⟩
theorem dfD_mk {K : PySem.W.Frag} {h : Heap} {mg : Str → Option Value} (X : K.In h) (G : h.Ns mainGlobals mg) {x : Str} {st : Stmt} {ps : List Str} {f T : Addr} {od an : Option Addr} {sl : Array (Option Value)} {oc kV dc pm cd ct : Value} {o : Obj} {its : List Value} {m n0 : Nat} {dvs : List V}
    (a : PySem.W.nsIn K mainGlobals x = some (some (.ref f))) (l : K.lookup f = some ⟨oc, od, .func (PySem.W.fnOf x x (defArgs st) (defBody st) (defScope st) (.ref T) kV dc pm an cd ct), sl⟩) (c : PySem.W.codeIn K cd x = true) (k : PySem.W.keepIn K (.ref f) = true)
    (lT : K.lookup T = some o) (oT : o.data = .seq its.toArray m) (hv : Vals dvs its) (hne : dvs ≠ []) (hn : n0 + (dvs.length - 0) = ps.length)
    (b : ∀ (T : Addr) (kV doc pm : Value) (an : Option Addr) (cdv ct : Value) (us its : List Value), us.length = n0 → its.length = dvs.length →
      ∃ k, bindArgs (PySem.W.fnOf x x (defArgs st) (defBody st) (defScope st) (.ref T) kV doc pm an cdv ct) ⟨us, []⟩ = seqItems? (.ref T) >>= k ∧ k (some its.toArray) = pure (ps.zip (us ++ its.drop 0))) : DfD K mg x st ps dvs := by
  have F : FunD K x x (defArgs st) (defBody st) (defScope st) dvs [] f _ := ⟨⟨oc, od, .ref T, kV, dc, pm, an, cd, ct, sl, rfl, l, c, .inr ⟨hne, T, o, its, m, rfl, lT, oT, hv⟩, .inl rfl⟩, k⟩
  obtain ⟨ds, h1, h2⟩ := F.binds1 n0 0 hne hn b
  exact ⟨f, _, F, PySem.W.mg_of X G a, ds, h1, h2⟩
/-- the written part that is meant -/
abbrev kOf {K : PySem.W.Frag} {h : Heap} (_ : K.In h) : PySem.W.Frag := K
theorem const_mk {K : PySem.W.Frag} {h : Heap} {mg : Str → Option Value} (X : K.In h) (G : h.Ns mainGlobals mg) {x : Str} {i : Int} {t : Tok} (a : PySem.W.nsIn K mainGlobals x = some (some (.int i t))) : ∃ t, mg x = some (.int i t) := ⟨t, PySem.W.mg_of X G a⟩
/-- what the end asks of the law -/
def spEnd (K : PySem.W.Frag) (T : List (Addr × Str)) : Sp := fun vs H Q _ => ∃ (a : Addr) (ns : List Int), vs = [.ref a] ∧ SqL K H a (ns.map V.int) ∧ Tabs T H ∧ ∀ H', Q (.bl true) H'
/-- a list that no one writes may be told by its very object -/
theorem frozen {P : Program} {w : World} {K : PySem.W.Frag} {mg : Str → Option Value} {base : Heap} {k : Nat} {f : Addr} {fd : FuncData} {T : List (Addr × Str)} (F : FnOk P w K mg base CX0 k f fd ["script"] (spLaw K T)) : FnOk P w K mg base CX0 k f fd ["script"] (spEnd K T) := by
  refine ⟨fun vs H Q E h => ?_, fun A outer s H args us vs Q E hr e0 hb r h => ?_⟩
  · obtain ⟨a, ns, rfl, _⟩ := h
    rfl
  obtain ⟨a, ns, rfl, hS, hT, q⟩ := h
  rcases hS with (hS | ⟨o, hS⟩) | hS
  · obtain ⟨z, its, n, rv, ho⟩ := (show ObjOk P w H s.heap a (.lst (ns.map V.int)) from e0.hok a _ hS)
    have hne : ∀ b, H b = none ↔ upd H a (.frz { cls := .type "list", data := .seq its.toArray n } (.lst (ns.map V.int))) b = none := fun b => by
      by_cases e : b = a
      · subst e
        rw [hS, upd_same]
        exact ⟨fun z => (nomatch z), fun z => (nomatch z)⟩
      · rw [upd_ne e]
    have ext : ∀ b u, H b = some u → (∀ xs, u ≠ .lst xs) → upd H a (.frz { cls := .type "list", data := .seq its.toArray n } (.lst (ns.map V.int))) b = some u := fun b u e nu => by
      rw [upd_ne (fun z => by subst z; rw [hS] at e; exact nu _ (Option.some.inj e).symm)]
      exact e
    have hok : HOk P w (upd H a (.frz { cls := .type "list", data := .seq its.toArray n } (.lst (ns.map V.int)))) s.heap := fun b u e => by
      by_cases eb : b = a
      · subst eb
        rw [upd_same] at e
        cases e
        exact ⟨ho, z, its, n, rv, ho⟩
      · rw [upd_ne eb] at e
        exact (e0.hok b u e).stay (fun c v _ h => h) (fun c h => ext _ _ h (fun xs z => nomatch z)) (fun c xs h => ext _ _ h (fun xs z => nomatch z))
    have e1 : Env0 P w K mg base A outer s (upd H a (.frz { cls := .type "list", data := .seq its.toArray n } (.lst (ns.map V.int)))) :=
      ⟨e0.frames, e0.mod, fun b o e => ⟨(e0.bs b o e).1, (hne b).mp (e0.bs b o e).2⟩, e0.bsz, e0.funs, fun b h => (hne b).mp (e0.frf b h), hok, e0.bare⟩
    have hT1 : Tabs T (upd H a (.frz { cls := .type "list", data := .seq its.toArray n } (.lst (ns.map V.int)))) := Fix.tabs (fun b u e nu => ext b u e nu) hT
    refine codeAny_mono (F.run A outer s _ args us [.ref a] Q E hr e1 hb r ⟨a, ns, rfl, .inl ⟨_, upd_same⟩, hT1, q⟩) fun rr s' h => ?_
    cases rr with
    | error e => exact h
    | ok fl =>
      cases fl with
      | ret u =>
        obtain ⟨v, H', os, bare, un, hok', r', q'⟩ := h
        refine ⟨v, H', os, bare, ⟨fun b o e n => un.keep b o e ((hne b).mp n), fun b o e n => un.slot b o e ((hne b).mp n), fun b o e n => un.free b o e ((hne b).mp n), un.there, fun b xs e => un.tups b xs (ext b _ e (fun ys z => nomatch z)), fun b o u e => un.frzs b o u (ext b _ e (fun ys z => nomatch z)), fun b ps e => un.tbls b ps (ext b _ e (fun ys z => nomatch z))⟩, hok', r', q'⟩
      | next => exact h
      | brk => exact h
      | cont => exact h
  · exact F.run A outer s H args us [.ref a] Q E hr e0 hb r ⟨a, ns, rfl, .inl ⟨o, hS⟩, hT, q⟩
  · exact F.run A outer s H args us [.ref a] Q E hr e0 hb r ⟨a, ns, rfl, .inr fun H' => .inr hS, hT, q⟩
theorem top {P : Program} {w : World} {K : PySem.W.Frag} {mg : Str → Option Value} {fa : Addr} (hfa : mg "law" = some (.ref fa)) (B : Bu mg) (c2 : ∃ t, mg "FEWEST_PLACES" = some (.int 2 t)) (c5 : ∃ t, mg "MOST_PLACES" = some (.int 5 t)) (c25 : ∃ t, mg "MOST_PAIRS" = some (.int 25 t)) (bany : mg "any" = none) (bset : mg "set" = none)
    {k1 p1 k2 p2 : Addr} (hpp : p1 ≠ p2)
    (F_is_integer : Df K mg "is_integer" st_is_integer ["value"])
    (F_is_number : Df K mg "is_number" st_is_number ["value", "low", "high"])
    (F_is_row : Df K mg "is_row" st_is_row ["value", "low", "high"])
    (F_is_place : Df K mg "is_place" st_is_place ["value", "places"])
    (F_are_places : Df K mg "are_places" st_are_places ["value", "places"])
    (F_is_rising : Df K mg "is_rising" st_is_rising ["row"])
    (F_is_layout : Df K mg "is_layout" st_is_layout ["value", "places"])
    (F_is_habit : Df K mg "is_habit" st_is_habit ["value"])
    (F_check_habits : DfD K mg "check_habits" st_check_habits ["habits", "most"] [.int 3])
    (F_is_lot : Df K mg "is_lot" st_is_lot ["value", "places"])
    (F_check_lot : Df K mg "check_lot" st_check_lot ["lot", "places"])
    (F_depths : Df K mg "depths" st_depths ["start", "touches", "step", "most"])
    (F_traced : Df K mg "traced" st_traced ["came", "state"])
    (F_least_word : Df K mg "least_word" st_least_word ["start", "touches", "step", "is_goal"])
    (F_test : Df K mg "test" st_test ["habit", "other", "lot"])
    (F_alike_paper : Df K mg "alike_paper" st_alike_paper ["habit", "other", "lot"])
    (F_shows_alike : Df K mg "shows_alike" st_shows_alike ["habit", "other", "lot", "value"])
    (F_check_two : Df K mg "check_two" st_check_two ["habit", "other", "lot"])
    (F_first_pairs : Df K mg "first_pairs" st_first_pairs ["habit", "other", "lot"])
    (F_pair_step : DfC K mg "pair_step" st_pair_step ["habit", "other"] k1)
    (F_telling_read : Df K mg "telling_read" st_telling_read ["pair", "lot"])
    (F_shortest_test : DfC K mg "shortest_test" st_shortest_test ["habit", "other", "lot"] k2)
    (F__law_taken : Df K mg "_law_taken" st__law_taken ["row", "many"])
    (F__law_lot : Df K mg "_law_lot" st__law_lot ["row", "places"])
    (F__law_order : Df K mg "_law_order" st__law_order ["row", "many"])
    (F__law_habit : Df K mg "_law_habit" st__law_habit ["row", "places"])
    (F__law_marks : Df K mg "_law_marks" st__law_marks ["habit", "other", "lot"])
    (F__law_alike : Df K mg "_law_alike" st__law_alike ["found", "due"])
    (F__law_pick : Df K mg "_law_pick" st__law_pick ["row", "things"])
    (F_law : Df K mg "law" st_law ["script"])
    : ∃ fd : FuncData, (∀ (s : Shared) (v : Value), BindsTo s fd ⟨[v], []⟩ [("script", v)]) ∧ ∀ base : Heap, TabB base mg k1 p1 → TabB base mg k2 p2 → FnOk P w K mg base CX0 10 fa fd ["script"] (spEnd K (tabsT p1 p2)) := by
  obtain ⟨f, fd, F, g, b⟩ := F_law.ex
  have e := hfa.symm.trans g
  cases e
  refine ⟨fd, fun s v => ?_, fun base T1 T2 => ?_⟩
  · obtain ⟨oc, od, kV, doc, pm, an, cdv, ct, osl, rfl, _⟩ := F.ex
    exact .of_eq rfl
  · have C1 := ok_is_integer (P := P) (w := w) (base := base) F_is_integer B
    have C2 := ok_is_number F_is_number C1
    have CRw := ok_is_row (P := P) (w := w) (K := K) (base := base) F_is_row B
    have C3 := ok_is_place F_is_place C2
    have C4 := ok_are_places (K := K) F_are_places B C3
    have C5 := ok_is_layout F_is_layout B C4
    have C6 := ok_is_habit F_is_habit B c2 c5 CRw C5
    have CRi := ok_is_rising (P := P) (w := w) (K := K) (base := base) F_is_rising B
    have C7 := ok_check_habits F_check_habits B CRw C6
    have CL := ok_check_lot F_check_lot (ok_is_lot F_is_lot CRw C4 CRi)
    have C1v := ok_is_integerV (P := P) (w := w) (base := base) F_is_integer B
    have C2v := ok_is_numberV F_is_number C1v
    have C3v := ok_is_placeV F_is_place C2v
    have CAS := ok_are_placesS (K := K) F_are_places B C3v
    have CRN := ok_is_rowN (P := P) (w := w) (K := K) (base := base) F_is_row B
    have CRP := ok_is_risingP (P := P) (w := w) (K := K) (base := base) F_is_rising B
    have CTr := ok_traced (P := P) (w := w) (base := base) F_traced B
    have CTr0 := ok_telling (P := P) (w := w) (K := K) (base := base) F_telling_read
    have CFP := ok_first (P := P) (w := w) (K := K) (base := base) F_first_pairs
    have CPS := ok_pair_step (P := P) (w := w) F_pair_step T1 hpp
    have CS := ok_short (P := P) (w := w) F_shortest_test F_least_word B T2 hpp CTr CTr0 CFP CPS
    have C2t := ok_check_two F_check_two B C7 CL
    have CTe := ok_test F_test C2t CS
    have CPa := ok_paper F_alike_paper F_depths B bany bset c25 C2t CPS CFP CTr0
    have CSh := ok_shows_alike F_shows_alike B c25 C2t CRN CAS CRP CPS CFP CTr0
    have CT := ok_taken (P := P) (w := w) (K := K) (base := base) F__law_taken B
    have COd := ok_order F__law_order B CT
    have CA0 := ok_alike0 (P := P) (w := w) (K := K) (base := base) F__law_alike B
    exact frozen (ok_law F B bset CT (ok_pick F__law_pick B CT) (ok_lot F__law_lot B CT) (ok_habit F__law_habit B CT COd) COd (ok_alikeS 1 F__law_alike B (ok_alikeS 0 F__law_alike B CA0)) (ok_marks F__law_marks B) CTe CPa CSh)
end RH
set_option Elab.async false
set_option linter.all false
open PySem PySem.W PyProof.Rows
set_option maxRecDepth 100000 in
set_option maxHeartbeats 0 in
theorem PySem.Challenge.cw_restlesshelf_k14_whole_alike_holds : PySem.Challenge.rw_restlesshelf_k14_whole_alike.Holds := by
  w_on; o_law; k_head; (case hw => w_witness2)
  k_fill
  refine LamX.walk_ofTs (l := PySem.Challenge.rw_restlesshelf_k14_whole_alike) (n := 63) (k := 10) (x := "script") (CX := fun _ => L2.CX0) rfl (by decide) rfl ⟨rfl, by decide, by decide⟩ (fun w h Y => PySem.W.km_in_of Y) ?F (fun _ _ _ _ _ h => h)
  case F =>
    intro w mg fa h Y KX G hmg
    have TT := PySem.W.km_tabs_of Y
    have B : RH.Bu mg := by
      refine' RH.Bu.mk (PySem.W.mg_none_of KX G ?z0) (PySem.W.mg_none_of KX G ?z1) (PySem.W.mg_none_of KX G ?z2) (PySem.W.mg_none_of KX G ?z3) (PySem.W.mg_none_of KX G ?z4) (PySem.W.mg_none_of KX G ?z5) (PySem.W.mg_none_of KX G ?z6) (PySem.W.mg_none_of KX G ?z7) (PySem.W.mg_none_of KX G ?z8) (PySem.W.mg_none_of KX G ?z9) (PySem.W.mg_none_of KX G ?z10) (PySem.W.mg_none_of KX G ?z11) (PySem.W.mg_none_of KX G ?z12)
      (case z0 => k_is); (case z1 => k_is); (case z2 => k_is); (case z3 => k_is); (case z4 => k_is); (case z5 => k_is); (case z6 => k_is); (case z7 => k_is); (case z8 => k_is); (case z9 => k_is); (case z10 => k_is); (case z11 => k_is); (case z12 => k_is)
    have bany : mg "any" = none := by
      refine' PySem.W.mg_none_of KX G ?zm
      (case zm => k_is)
    have bset : mg "set" = none := by
      refine' PySem.W.mg_none_of KX G ?zm
      (case zm => k_is)
    have c_FEWEST_PLACES : ∃ t, mg "FEWEST_PLACES" = some (.int 2 t) := by
      refine' RH.const_mk KX G ?a
      (case a => k_is)
    have c_MOST_PLACES : ∃ t, mg "MOST_PLACES" = some (.int 5 t) := by
      refine' RH.const_mk KX G ?a
      (case a => k_is)
    have c_MOST_PAIRS : ∃ t, mg "MOST_PAIRS" = some (.int 25 t) := by
      refine' RH.const_mk KX G ?a
      (case a => k_is)
    have F_is_integer : RH.Df (RH.kOf KX) mg "is_integer" RH.st_is_integer ["value"] := by
      refine' RH.df_mk KX G ?a ?l ?c ?k (fun _ _ _ _ _ _ us hl => match us, hl with | [_], _ => rfl)
      (case a => k_is); (case l => k_is); (case c => k_is); (case k => k_is)
    have F_is_number : RH.Df (RH.kOf KX) mg "is_number" RH.st_is_number ["value", "low", "high"] := by
      refine' RH.df_mk KX G ?a ?l ?c ?k (fun _ _ _ _ _ _ us hl => match us, hl with | [_, _, _], _ => rfl)
      (case a => k_is); (case l => k_is); (case c => k_is); (case k => k_is)
    have F_is_row : RH.Df (RH.kOf KX) mg "is_row" RH.st_is_row ["value", "low", "high"] := by
      refine' RH.df_mk KX G ?a ?l ?c ?k (fun _ _ _ _ _ _ us hl => match us, hl with | [_, _, _], _ => rfl)
      (case a => k_is); (case l => k_is); (case c => k_is); (case k => k_is)
    have F_is_place : RH.Df (RH.kOf KX) mg "is_place" RH.st_is_place ["value", "places"] := by
      refine' RH.df_mk KX G ?a ?l ?c ?k (fun _ _ _ _ _ _ us hl => match us, hl with | [_, _], _ => rfl)
      (case a => k_is); (case l => k_is); (case c => k_is); (case k => k_is)
    have F_are_places : RH.Df (RH.kOf KX) mg "are_places" RH.st_are_places ["value", "places"] := by
      refine' RH.df_mk KX G ?a ?l ?c ?k (fun _ _ _ _ _ _ us hl => match us, hl with | [_, _], _ => rfl)
      (case a => k_is); (case l => k_is); (case c => k_is); (case k => k_is)
    have F_is_rising : RH.Df (RH.kOf KX) mg "is_rising" RH.st_is_rising ["row"] := by
      refine' RH.df_mk KX G ?a ?l ?c ?k (fun _ _ _ _ _ _ us hl => match us, hl with | [_], _ => rfl)
      (case a => k_is); (case l => k_is); (case c => k_is); (case k => k_is)
    have F_is_layout : RH.Df (RH.kOf KX) mg "is_layout" RH.st_is_layout ["value", "places"] := by
      refine' RH.df_mk KX G ?a ?l ?c ?k (fun _ _ _ _ _ _ us hl => match us, hl with | [_, _], _ => rfl)
      (case a => k_is); (case l => k_is); (case c => k_is); (case k => k_is)
    have F_is_habit : RH.Df (RH.kOf KX) mg "is_habit" RH.st_is_habit ["value"] := by
      refine' RH.df_mk KX G ?a ?l ?c ?k (fun _ _ _ _ _ _ us hl => match us, hl with | [_], _ => rfl)
      (case a => k_is); (case l => k_is); (case c => k_is); (case k => k_is)
    have F_check_habits : RH.DfD (RH.kOf KX) mg "check_habits" RH.st_check_habits ["habits", "most"] [.int 3] := by
      refine' RH.dfD_mk (n0 := 1) KX G ?a ?l ?c ?k ?lT ?oT ?hv (by simp) rfl (fun _ _ _ _ _ _ _ us its hl h2 => match us, its, hl, h2 with | [_], [_], _, _ => ⟨_, rfl, rfl⟩)
      (case a => k_is); (case l => k_is); (case c => k_is); (case k => k_is); (case lT => k_is); (case oT => exact rfl); (case hv => exact .cons ⟨_, rfl⟩ .nil)
    have F_is_lot : RH.Df (RH.kOf KX) mg "is_lot" RH.st_is_lot ["value", "places"] := by
      refine' RH.df_mk KX G ?a ?l ?c ?k (fun _ _ _ _ _ _ us hl => match us, hl with | [_, _], _ => rfl)
      (case a => k_is); (case l => k_is); (case c => k_is); (case k => k_is)
    have F_check_lot : RH.Df (RH.kOf KX) mg "check_lot" RH.st_check_lot ["lot", "places"] := by
      refine' RH.df_mk KX G ?a ?l ?c ?k (fun _ _ _ _ _ _ us hl => match us, hl with | [_, _], _ => rfl)
      (case a => k_is); (case l => k_is); (case c => k_is); (case k => k_is)
    have F_depths : RH.Df (RH.kOf KX) mg "depths" RH.st_depths ["start", "touches", "step", "most"] := by
      refine' RH.df_mk KX G ?a ?l ?c ?k (fun _ _ _ _ _ _ us hl => match us, hl with | [_, _, _, _], _ => rfl)
      (case a => k_is); (case l => k_is); (case c => k_is); (case k => k_is)
    have F_traced : RH.Df (RH.kOf KX) mg "traced" RH.st_traced ["came", "state"] := by
      refine' RH.df_mk KX G ?a ?l ?c ?k (fun _ _ _ _ _ _ us hl => match us, hl with | [_, _], _ => rfl)
      (case a => k_is); (case l => k_is); (case c => k_is); (case k => k_is)
    have F_least_word : RH.Df (RH.kOf KX) mg "least_word" RH.st_least_word ["start", "touches", "step", "is_goal"] := by
      refine' RH.df_mk KX G ?a ?l ?c ?k (fun _ _ _ _ _ _ us hl => match us, hl with | [_, _, _, _], _ => rfl)
      (case a => k_is); (case l => k_is); (case c => k_is); (case k => k_is)
    have F_test : RH.Df (RH.kOf KX) mg "test" RH.st_test ["habit", "other", "lot"] := by
      refine' RH.df_mk KX G ?a ?l ?c ?k (fun _ _ _ _ _ _ us hl => match us, hl with | [_, _, _], _ => rfl)
      (case a => k_is); (case l => k_is); (case c => k_is); (case k => k_is)
    have F_alike_paper : RH.Df (RH.kOf KX) mg "alike_paper" RH.st_alike_paper ["habit", "other", "lot"] := by
      refine' RH.df_mk KX G ?a ?l ?c ?k (fun _ _ _ _ _ _ us hl => match us, hl with | [_, _, _], _ => rfl)
      (case a => k_is); (case l => k_is); (case c => k_is); (case k => k_is)
    have F_shows_alike : RH.Df (RH.kOf KX) mg "shows_alike" RH.st_shows_alike ["habit", "other", "lot", "value"] := by
      refine' RH.df_mk KX G ?a ?l ?c ?k (fun _ _ _ _ _ _ us hl => match us, hl with | [_, _, _, _], _ => rfl)
      (case a => k_is); (case l => k_is); (case c => k_is); (case k => k_is)
    have F_check_two : RH.Df (RH.kOf KX) mg "check_two" RH.st_check_two ["habit", "other", "lot"] := by
      refine' RH.df_mk KX G ?a ?l ?c ?k (fun _ _ _ _ _ _ us hl => match us, hl with | [_, _, _], _ => rfl)
      (case a => k_is); (case l => k_is); (case c => k_is); (case k => k_is)
    have F_first_pairs : RH.Df (RH.kOf KX) mg "first_pairs" RH.st_first_pairs ["habit", "other", "lot"] := by
      refine' RH.df_mk KX G ?a ?l ?c ?k (fun _ _ _ _ _ _ us hl => match us, hl with | [_, _, _], _ => rfl)
      (case a => k_is); (case l => k_is); (case c => k_is); (case k => k_is)
    have F_telling_read : RH.Df (RH.kOf KX) mg "telling_read" RH.st_telling_read ["pair", "lot"] := by
      refine' RH.df_mk KX G ?a ?l ?c ?k (fun _ _ _ _ _ _ us hl => match us, hl with | [_, _], _ => rfl)
      (case a => k_is); (case l => k_is); (case c => k_is); (case k => k_is)
    have F__law_taken : RH.Df (RH.kOf KX) mg "_law_taken" RH.st__law_taken ["row", "many"] := by
      refine' RH.df_mk KX G ?a ?l ?c ?k (fun _ _ _ _ _ _ us hl => match us, hl with | [_, _], _ => rfl)
      (case a => k_is); (case l => k_is); (case c => k_is); (case k => k_is)
    have F__law_lot : RH.Df (RH.kOf KX) mg "_law_lot" RH.st__law_lot ["row", "places"] := by
      refine' RH.df_mk KX G ?a ?l ?c ?k (fun _ _ _ _ _ _ us hl => match us, hl with | [_, _], _ => rfl)
      (case a => k_is); (case l => k_is); (case c => k_is); (case k => k_is)
    have F__law_order : RH.Df (RH.kOf KX) mg "_law_order" RH.st__law_order ["row", "many"] := by
      refine' RH.df_mk KX G ?a ?l ?c ?k (fun _ _ _ _ _ _ us hl => match us, hl with | [_, _], _ => rfl)
      (case a => k_is); (case l => k_is); (case c => k_is); (case k => k_is)
    have F__law_habit : RH.Df (RH.kOf KX) mg "_law_habit" RH.st__law_habit ["row", "places"] := by
      refine' RH.df_mk KX G ?a ?l ?c ?k (fun _ _ _ _ _ _ us hl => match us, hl with | [_, _], _ => rfl)
      (case a => k_is); (case l => k_is); (case c => k_is); (case k => k_is)
    have F__law_marks : RH.Df (RH.kOf KX) mg "_law_marks" RH.st__law_marks ["habit", "other", "lot"] := by
      refine' RH.df_mk KX G ?a ?l ?c ?k (fun _ _ _ _ _ _ us hl => match us, hl with | [_, _, _], _ => rfl)
      (case a => k_is); (case l => k_is); (case c => k_is); (case k => k_is)
    have F__law_alike : RH.Df (RH.kOf KX) mg "_law_alike" RH.st__law_alike ["found", "due"] := by
      refine' RH.df_mk KX G ?a ?l ?c ?k (fun _ _ _ _ _ _ us hl => match us, hl with | [_, _], _ => rfl)
      (case a => k_is); (case l => k_is); (case c => k_is); (case k => k_is)
    have F__law_pick : RH.Df (RH.kOf KX) mg "_law_pick" RH.st__law_pick ["row", "things"] := by
      refine' RH.df_mk KX G ?a ?l ?c ?k (fun _ _ _ _ _ _ us hl => match us, hl with | [_, _], _ => rfl)
      (case a => k_is); (case l => k_is); (case c => k_is); (case k => k_is)
    have F_law : RH.Df (RH.kOf KX) mg "law" RH.st_law ["script"] := by
      refine' RH.df_mk KX G ?a ?l ?c ?k (fun _ _ _ _ _ _ us hl => match us, hl with | [_], _ => rfl)
      (case a => k_is); (case l => k_is); (case c => k_is); (case k => k_is)
    obtain ⟨k1, p1, k2, p2, M1, M2, hpp⟩ : ∃ k1 p1 k2 p2, RH.Mkr (RH.kOf KX) h mg "pair_step" RH.st_pair_step ["habit", "other"] k1 p1 ∧ RH.Mkr (RH.kOf KX) h mg "shortest_test" RH.st_shortest_test ["habit", "other", "lot"] k2 p2 ∧ p1 ≠ p2 := by
      refine' RH.two (RH.mkr KX G ?a ?l ?c ?k ?lc ?t ?d ?e ?g (fun _ _ _ _ _ _ us hl => match us, hl with | [_, _], _ => rfl)) (RH.mkr KX G ?a2 ?l2 ?c2 ?k2 ?lc2 ?t2 ?d2 ?e2 ?g2 (fun _ _ _ _ _ _ us hl => match us, hl with | [_, _, _], _ => rfl)) ?n
      (case a => k_is); (case l => k_is); (case c => k_is); (case k => k_is); (case lc => k_is); (case t => rfl); (case e => first | rfl | kernel_rfl | (with_unfolding_all rfl)); (case g => exact TT _ (by decide)); (case d => exact fun K' e => by unfold PySem.W.codeHdIn; rw [e]; rfl)
      (case a2 => k_is); (case l2 => k_is); (case c2 => k_is); (case k2 => k_is); (case lc2 => k_is); (case t2 => rfl); (case e2 => first | rfl | kernel_rfl | (with_unfolding_all rfl)); (case g2 => exact TT _ (by decide)); (case d2 => exact fun K' e => by unfold PySem.W.codeHdIn; rw [e]; rfl)
      (case n => decide)
    obtain ⟨F_pair_step, hk1, hl1, hm1⟩ := M1
    obtain ⟨F_shortest_test, hk2, hl2, hm2⟩ := M2
    obtain ⟨fd, hb, hF⟩ := RH.top (P := (PySem.Challenge.rw_restlesshelf_k14_whole_alike).prog) (w := w) hmg B c_FEWEST_PLACES c_MOST_PLACES c_MOST_PAIRS bany bset hpp F_is_integer F_is_number F_is_row F_is_place F_are_places F_is_rising F_is_layout F_is_habit F_check_habits F_is_lot F_check_lot F_depths F_traced F_least_word F_test F_alike_paper F_shows_alike F_check_two F_first_pairs F_pair_step F_telling_read F_shortest_test F__law_taken F__law_lot F__law_order F__law_habit F__law_marks F__law_alike F__law_pick F_law
    refine ⟨fd, [(k1, p1), (k2, p2)], RH.spEnd (RH.kOf KX) (RH.tabsT p1 p2), ?_, ?_, ?_, hb, ?_, ?_⟩
    · intro p hp
      rcases List.mem_cons.mp hp with e | hp
      · rw [e]; exact hm1
      · rw [List.mem_singleton.mp hp]; exact hm2
    · intro p hp
      rcases List.mem_cons.mp hp with e | hp
      · rw [e]; exact hl1
      · rw [List.mem_singleton.mp hp]; exact hl2
    · intro p hp
      rcases List.mem_cons.mp hp with e | hp
      · rw [e]; exact hk1
      · rw [List.mem_singleton.mp hp]; exact hk2
    · intro H a ns _ _ hH hS
      refine ⟨a, ns, rfl, hS, fun p hp => ?_, fun _ => rfl⟩
      rcases List.mem_cons.mp hp with e | hp
      · rw [e]; exact LamX.TabS.nil (hH (k1, p1) (List.mem_cons_self ..))
      · rw [List.mem_singleton.mp hp]; exact LamX.TabS.nil (hH (k2, p2) (List.mem_cons_of_mem _ (List.mem_singleton.mpr rfl)))
    · intro base _ _ TB
      exact hF base (TB (k1, p1) (List.mem_cons_self ..)) (TB (k2, p2) (List.mem_cons_of_mem _ (List.mem_singleton.mpr rfl)))
