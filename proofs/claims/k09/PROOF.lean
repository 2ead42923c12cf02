import PyProof.Rows.All
import Wide.All
import OpenK.AllK
import Wide.FinOn
import HandS.ForMost
import HandS.Exc
import HandS.TryOnly
import HandS.ExcOwn
import HandS.WordsExc
import HandS.IsInst
import HandS.Conv
import HandS.Sort
import HandS.SortInts
import HandS.Zip
import HandS.Zip0
import HandS.Wide
import HandS.Deep
import HandS.Flow
import HandS.Style
import HandS.TupAny
import KE.GoesEnum
import KE.KEqSeq
import KE.KEqDeep
import PyProof.TupleOfSeq
import HandS.Lambda
import HandS.Nested
import HandS.EndTab
import KE.KDictDisplayH
import KE.KDictCopyH
import KE.KIndexOf
import HandS.Dict
import HandS.DictTup
import HandS.TupLen
import HandS.Defaults
import HandS.SortRule
import KE.GoesZip
import HandS.ExcIs
import HandS.RaiseMore
import HandS.FStr
import HandS.Property
import KE.KExcSuper
import HandS.ExcInit
import HandS.ExcField
import HandS.TupMul
import PyProof.FString2
import HandS.Strs
import HandS.SetFor
import HandS.SetBool
import HandS.SetIn
import HandS.More
import KE.KDictSum
import KE.KDflt
import HandS.TryMany
import KE.SortKeyHeap
import HandS.SortKw
import HandS.ExcValue
import KE.DataFind
import HandS.Iter
import KE.KDictKeyed
import KE.KOwnCellsLaws
import KE.SortData
import PySem.Challenge.RW_restlesshelf_k09_whole_stands
set_option Elab.async false
set_option linter.all false
set_option maxRecDepth 100000
set_option maxHeartbeats 2000000
/-! Two rules more: a walk over enumerate of a tuple, sorted of a tuple of ints. -/
namespace RH
open PySem PySem.Spec PyProof.Rows L2
theorem made_enumB {v : Value} {o : Obj} {H : Heap → Prop} (B : Begins v o H) :
    Meets (Builtin.«enumerate.__new__» ⟨[.type "enumerate", v], []⟩) (fun _ R s => H s.heap ∧
      R (.ok (.ret (.ref (s.heap.push o).objs.size))) { s with heap := (s.heap.push o).push { cls := .type "enumerate", data := .fields #[.none, .bool false, .ref s.heap.objs.size, rawInt 0, .none, .none] } }) :=
  .of_wp fun prog w A R s h => by
    obtain ⟨hp, g, d, tz, oz⟩ := s; obtain ⟨h1, h⟩ := h
    have hsub := sub_enumerate
    have q1 : ∀ {A' : Around} {E : Value → Shared → Prop} {Q : Value → Shared → Prop}, Q (.ref hp.objs.size) ⟨hp.push o, g, d, tz, oz⟩ → wpAny (model prog w) A' (pyIter v) Q E ⟨hp, g, d, tz, oz⟩ :=
      fun q => B.iter prog w _ _ ⟨hp, g, d, tz, oz⟩ _ h1 q
    wp_walk using q1
    refine wpAny_stack_any fun st => wpAny_pure ?_
    split
    · rename_i c _ _ _ _ _
      cases (c == Value.type "enumerate")
      · wp_walk using q1
        exact ⟨_, rfl, h⟩
      · wp_walk using q1
        exact ⟨_, rfl, h⟩
    · wp_walk using q1
      exact ⟨_, rfl, h⟩
section
variable {prog : Program} {w : World} {A : Around} {E : Value → Shared → Prop} {s : Shared}
theorem enum_one {v : Value} {o : Obj} {H : Heap → Prop} {Q : Value → Shared → Prop} (B : Begins v o H) (h1 : H s.heap)
    (h : ∀ h', IsEnum h' (s.heap.objs.size + 1) s.heap.objs.size 0 .none → h'.get? s.heap.objs.size = some o → h'.objs.size = s.heap.objs.size + 2 →
      (∀ b o, s.heap.get? b = some o → h'.get? b = some o) → Q (.ref (s.heap.objs.size + 1)) { s with heap := h' }) :
    wpAny (model prog w) A (call (.type "enumerate") [v]) Q E s := by
  refine callType_new F.called_enumerate (by decide) (F.typeCall_enumerate_1 _) (F.newCall_enumerate_1 _) (fun obj => F.args_object_init_2 obj _) F.entry_enumerate_new
    (made_enumB B) ⟨h1, ?_⟩
  have hZ : (s.heap.push o).objs.size = s.heap.objs.size + 1 := Heap.size_push ..
  show _ ∧ _
  rw [hZ]
  have he : IsEnum ((s.heap.push o).push { cls := .type "enumerate", data := .fields #[.none, .bool false, .ref s.heap.objs.size, rawInt 0, .none, .none] }) (s.heap.objs.size + 1) s.heap.objs.size 0 .none := by
    have := Heap.get?_push_size (s.heap.push o) (o := { cls := .type "enumerate", data := .fields #[.none, .bool false, .ref s.heap.objs.size, rawInt 0, .none, .none] }) rfl
    rw [hZ] at this; exact this
  refine ⟨⟨_, he, rfl⟩, h _ he (Heap.get?_push_of_some _ (Heap.get?_push_size _ B.free)) (by rw [Heap.size_push, hZ]) fun b o x => Heap.get?_push_of_some _ (Heap.get?_push_of_some _ x)⟩
end
/-- the tuple at a, each item with vz number in a new pair -/
def IteT (K : PySem.W.Frag) (a : Addr) : It :=
  ⟨fun i H => ∃ (xs : List V) (x : V), SqT K H a xs ∧ xs[i]? = some x, fun i H v H' => ∃ T x, v = .ref T ∧ H T = none ∧ H' = upd H T (.tup [.int (i : Nat), x]) ∧ ∀ xs, SqT K H a xs → xs[i]? = some x, fun i H => ∃ xs : List V, SqT K H a xs ∧ xs.length ≤ i⟩
theorem ne_enum {h : Heap} {e it a : Addr} {i : Int} {old : Value} {vz : Array Value} (he : IsEnum h e it i old) (p : IsTup h a vz) : e ≠ a := fun z => by
  obtain ⟨o, hO, hC, _⟩ := p
  rw [← z, he] at hO
  cases hO
  exact absurd (Value.type.inj hC) (by decide)
theorem turn_enumT {P : Program} {w : World} {K : PySem.W.Frag} {elts : List Expr} {kk : Nat} {tpos : Pos} (a e it : Addr) :
    Turn P w K (.Tuple elts kk tpos) (IteT K a) [e, it] e (fun i h => (∃ old, IsEnum h e it ((i : Nat) : Int) old) ∧ h.IsTupleIter it a i ∧ e ≠ it ∧ a ≠ it) where
  mem := by simp
  obj := fun i h st b hb => by
    obtain ⟨⟨old, he⟩, ⟨o, hO, hC, hD⟩, _⟩ := st
    have e' : b = e ∨ b = it := by simpa using hb
    rcases e' with z | z
    · rw [z]; exact ⟨_, he, fun v q => nomatch q⟩
    · rw [z]; exact ⟨o, hO, fun v q => by rw [hD] at q; cases q⟩
  keep := fun i h h' st k => let ⟨⟨old, he⟩, hi, nEI⟩ := st; ⟨⟨old, k e (by simp) _ he⟩, hi.at fun o q => k it (by simp) o q, nEI⟩
  item := by
    intro X hP hw hK hC i pins s σ H E I hf st hg
    subst hP hw hK
    obtain ⟨⟨old, he⟩, hIt, nEI, nAI⟩ := st
    obtain ⟨xs, x, hSq, hx⟩ := hg
    obtain ⟨vz, rz, p, hZ⟩ := I.tuple hSq
    obtain ⟨u, hu, ru⟩ := rz.get hx
    have ltE : e < s.heap.objs.size := Heap.lt_size he
    have ltI : it < s.heap.objs.size := by obtain ⟨_, q, _⟩ := hIt; exact Heap.lt_size q
    have hlt : i < vz.toArray.size := by
      have := (List.getElem?_eq_some_iff.mp hu).1
      simpa using this
    refine wpAny_pyNext_enum_itemD (Draws.tuple (show X.A.in1.handled = none from I.ok.hd hC) it a nAI vz.toArray) he ⟨hIt, p⟩ hlt nEI (by
      intro hm
      have e' : e = it ∨ e = a := by simpa using hm
      rcases e' with z | z
      · exact nEI z
      · exact ne_enum he p z) fun x' h' tz hP' hO hit' hT hSz kp => ?_
    have ex : x' = u := by
      have h2 : vz.toArray[i]? = some u := by simpa using hu
      rw [h2] at hP'
      exact (Option.some.inj hP').symm
    subst ex
    refine ⟨_, rfl, wpAny_letOwnedTupleGo_enum (s := { s with heap := h', toks := tz + 1 }) hO fun h'' he' sbu => ?_⟩
    have hT2 : h''.get? s.heap.objs.size = some { cls := .type "tuple", data := .seq #[.int i tz, x'] } := (sbu.2 _ (Nat.ne_of_gt ltE)).trans hT
    have new : ObjOk X.prog X.w (upd H s.heap.objs.size (.tup [.int (i : Nat), x])) h'' s.heap.objs.size (.tup [.int (i : Nat), x]) :=
      ⟨by show 2 ≤ sizeLine; decide, [.int i tz, x'], .cons ⟨_, rfl⟩ (.cons ru .nil), ⟨_, hT2, rfl, _, rfl⟩⟩
    have I1 : Inv X pins σ (upd H s.heap.objs.size (.tup [.int (i : Nat), x])) { s with heap := h'', toks := tz + 1 } :=
      I.turnedNew (ch := [e, it]) (fun b ob hb q => (sbu.2 b (fun z => hb (by simp [z]))).trans (kp b ob (fun z => hb (by simp [z])) (fun z => hb (by simp [z])) q)) hf (Nat.le_refl _) new
    refine ⟨.ref s.heap.objs.size, _, I1, rfl, ⟨_, x, rfl, I.hok.fresh (Nat.le_refl _), rfl, fun ys hy => by rw [I.tuple_inj hy hSq]; exact hx⟩, ⟨⟨x', ?_⟩, hit'.1.at fun o q => (sbu.2 it (Ne.symm nEI)).trans q, nEI, nAI⟩, fun b hb => ?_⟩
    · have e1 : ((i + 1 : Nat) : Int) = (i : Int) + 1 := by omega
      rw [e1]; exact he'
    · have hb' : b < s.heap.objs.size := by
        have e' : b = e ∨ b = it := by simpa using hb
        rcases e' with z | z
        · rw [z]; exact ltE
        · rw [z]; exact ltI
      rw [upd_ne (Nat.ne_of_lt hb')]
      exact (hf b hb).1
  done := by
    intro X hP hw hK hC i pins s σ H E I hf st hg
    subst hP hw hK
    obtain ⟨⟨old, he⟩, hIt, nEI, nAI⟩ := st
    obtain ⟨xs, hSq, hx⟩ := hg
    obtain ⟨vz, rz, p, hZ⟩ := I.tuple hSq
    obtain ⟨f0, f1, f2, f3, f4, f5⟩ := hf it (by simp)
    have hl := rz.length
    have hT : s.TypeIs (.ref e) "enumerate" := ⟨_, he, rfl⟩
    unfold pyNext
    refine wpAny_bind (wpAny_attempt (wpAny_callSpecial?_slot (name := Str.ofString "__next__") hT F.slot_enumerate_next
      (wpAny_call_entry F.slot_enumerate_next hT F.entry_enumerate_next ?_ (F.args_enumerate_next_1 _))))
    show wpAny _ _ (field (.ref e) 2 >>= _) _ _ _
    refine wpAny_bind (wpAny_field he rfl (x := .ref it) rfl ?_)
    refine wpAny_bind (wpAny_nextOf_tuple_end (show X.A.in1.handled = none from I.ok.hd hC) hIt p (by simp; omega) fun h' x he' hx' => ?_)
    obtain ⟨o, hO, hc'⟩ := hx'
    refine wpAny_bind (wpAny_isInstance (T := "StopIteration") (b := true) ⟨o, hO, hc'⟩ isSubtype_stop ?_)
    exact wpAny_pure ⟨rfl, I.turned (t' := s.toks) (fun b o hb q => he' b o hb q) f0 f1 f3 f4 f5⟩
  self := fun A i s Q E st h => let ⟨⟨_, he⟩, _⟩ := st; wpAny_pyIter_enum he h
def iEnumT (K : PySem.W.Frag) (ta : TA) : TI := fun σ H R => ta σ H fun vs H1 => ∃ a xs, vs = [.ref a] ∧ SqT K H1 a xs ∧ R (IteT K a) H1
theorem pi_enumT {X : Cx} {e : Expr} {ta : TA} {p pos tpos : Pos} {elts : List Expr} {kk : Nat} (hg : Gl X "enumerate") (hm : X.mg "enumerate" = none) (ha : PA X [e] ta) (hs : starEach [e] X.env = [(false, eval e X.env)] := by rfl) :
    PI X (.Tuple elts kk tpos) (.Call (.Name "enumerate" p) [e] [] pos) (iEnumT X.K ta) := by
  refine ⟨fun pins s σ H R I h => ?_⟩
  refine Call_ (ld_blt I hg hm boot_enumerate (PyProof.Rows.callWith_type1 (thn (ha.run pos pins s σ H _ I h) fun us s1 ⟨vs, H1, I1, r1, q1⟩ => ?_) hs rfl))
  obtain ⟨a, xs, ex, hSq, q⟩ := q1
  subst ex
  cases r1 with
  | cons r rr =>
    cases rr
    cases r
    obtain ⟨vz, rz, p', hZ⟩ := I1.tuple hSq
    have hal : a < s1.heap.objs.size := by obtain ⟨_, q', _⟩ := id p'; exact Heap.lt_size q'
    refine enum_one (begins_tuple a vz.toArray) p' fun h' he hIt hSz kp => wpAny_pyIter_enum he ?_
    have I2 : Inv X pins σ H1 { s1 with heap := h' } := I1.kept (t' := s1.toks) kp
    refine ⟨s1.heap.objs.size + 1, [s1.heap.objs.size + 1, s1.heap.objs.size], _, _, H1, rfl, I2, turn_enumT a (s1.heap.objs.size + 1) s1.heap.objs.size, ⟨⟨.none, he⟩, ⟨_, hIt, rfl, rfl⟩, Nat.succ_ne_self _, Nat.ne_of_lt hal⟩, fun b hb => ?_, q⟩
    have e' : b = s1.heap.objs.size + 1 ∨ b = s1.heap.objs.size := by simpa using hb
    have hle : s1.heap.objs.size ≤ b := by
      rcases e' with z | z
      · rw [z]; exact Nat.le_add_right _ _
      · rw [z]; exact Nat.le_refl _
    exact I1.fpOk hle (I1.hok.fresh hle)
/-! ### sorted(a tuple of ints) -/
def rSortedTup (K : PySem.W.Frag) : List V → Hp → VK → Prop := fun vs H Q => ∃ (a : Addr) (ns : List Int), vs = [V.ref a] ∧ SqT K H a (ns.map V.int) ∧ ns.length < 64 ∧
  ∀ (ns' : List Int) (p : Addr), ns'.Perm ns → ns'.Pairwise (· ≤ ·) → H p = none → Q (.ref p) (upd H p (.lst (ns'.map V.int)))
section
variable {prog : Program} {w : World} {A : Around} {E : Value → Shared → Prop} {s : Shared}
theorem collect_tup {l : Addr} {vs : List Value} {Q : List Value → Shared → Prop} (hl : IsTup s.heap l vs.toArray)
    (h : Q vs { s with heap := (s.heap.push (seqObj "list" #[] 0)).update s.heap.objs.size (Obj.mapSeq (· ++ vs.toArray)) }) (hSz : vs.length ≤ sizeLine := by size_fits) :
    wpAny (model prog w) A (collect (.ref l)) Q E s := by
  obtain ⟨o, hO, hC, n, hD⟩ := id hl
  unfold collect
  refine wpAny_bind (wpAny_runValue (codeAny_builtin F.entry_proto_collect ?_))
  rw [Around.under_plainId F.plain_proto_collect _]
  show wpAny _ A.in1 (newList [] >>= fun l' => again (.builtin "list.__iadd__" ⟨[l', .ref l], []⟩)) _ _ s
  refine wpAny_bind (wpAny_newList (wpAny_pure ⟨plainId_quiet F.plain_list_iadd _, codeAny_builtin F.entry_list_iadd ?_⟩))
  rw [Around.under_plainId F.plain_list_iadd _]
  show wpAny _ _ (Builtin.List.listExtendWith (.ref s.heap.objs.size) (.ref l) (.ref s.heap.objs.size)) _ _ { s with heap := s.heap.push (seqObj "list" #[] 0) }
  unfold Builtin.List.listExtendWith
  have ho' : (s.heap.push (seqObj "list" #[] 0)).get? l = some o := Heap.get?_push_of_some _ hO
  refine wpAny_bind (wpAny_typeOf (T := "tuple") ⟨o, ho', hC⟩ ?_)
  have hT0 : (Value.type "tuple" == Value.type "tuple") = true := by rfl
  rw [if_pos (by rw [hT0]; simp)]
  refine wpAny_bind (listItems_at ho' hD ?_)
  refine wpAny_bind (listItems_at (xs := #[]) (n := 0) (Heap.get?_push_size _ rfl) rfl ?_)
  rw [if_neg (by simp)]
  refine wpAny_bind (listUpdate_at (xs := #[]) (n := 0) (Heap.get?_push_size _ rfl) rfl ?_ (Nat.zero_le _) (by show (#[] ++ vs.toArray).size ≤ sizeLine + 1; simp only [Array.size_append, List.size_toArray, List.length_nil]; omega))
  refine wpAny_pure ?_
  show wpAny (model prog w) A (do
      let o ← load s.heap.objs.size
      match o.data with
      | .seq xs _ => pure xs.toList
      | _ => unsupported "internal:collect") Q E { s with heap := (s.heap.push (seqObj "list" #[] 0)).update s.heap.objs.size (Obj.mapSeq (· ++ vs.toArray)) }
  refine wpAny_bind (wpAny_load (get?_update_seq (Heap.get?_push_size _ rfl) _) ?_)
  show wpAny _ _ (pure ((#[] : Array Value) ++ vs.toArray).toList) Q E _
  rw [show ((#[] : Array Value) ++ vs.toArray).toList = vs by simp]
  exact wpAny_pure h
theorem sorted_intsT {l : Addr} {vs : List Value} {ns : List Int} {Q : Value → Shared → Prop} (hl : IsTup s.heap l vs.toArray) (hI : IntsAre vs ns) (h64 : vs.length < 64)
    (h : ∀ (out : Array Value) (ns' : List Int), IntsAre out.toList ns' → ns'.Perm ns → ns'.Pairwise (· ≤ ·) → Q (.ref (s.heap.objs.size + 1)) { s with heap := sortedAll s.heap vs out }) :
    wpAny (model prog w) A (call (.builtin "sorted") [.ref l]) Q E s := by
  refine Calls.call_function_entry kind_sorted plain_sorted entry_sorted (args_sorted1 _) ?_
  unfold Builtin.«sorted»
  refine wpAny_bind (m := checkCount "sorted" 1 1 _) (wpAny_pure ?_)
  have hsz0 : vs.length ≤ sizeLine := by
    rw [sizeLine_eq]
    omega
  refine wpAny_bind (collect_tup (hSz := hsz0) hl ?_)
  refine wpAny_bind (wpAny_newList ?_)
  have hSz : ((s.heap.push (seqObj "list" #[] 0)).update s.heap.objs.size (Obj.mapSeq (· ++ vs.toArray))).objs.size = s.heap.objs.size + 1 := by
    rw [Heap.size_update, size_push']
  have hOL : (((s.heap.push (seqObj "list" #[] 0)).update s.heap.objs.size (Obj.mapSeq (· ++ vs.toArray))).push (seqObj "list" vs.toArray 0)).get? (s.heap.objs.size + 1) = some (seqObj "list" vs.toArray 0) := by
    rw [← hSz]; exact Heap.get?_push_size _ rfl
  show wpAny _ _ _ _ _ { s with heap := ((s.heap.push (seqObj "list" #[] 0)).update s.heap.objs.size (Obj.mapSeq (· ++ vs.toArray))).push (seqObj "list" vs.toArray 0) }
  rw [hSz]
  refine wpAny_bind (wpAny_holding (wpAny_call_entry slot_list_sort ⟨_, hOL, rfl⟩ entry_list_sort (list_sort_tree hOL hI h64 fun out ns' a1 a2 a3 => ⟨_, rfl, ?_⟩) (args_list_sort _)))
  exact wpAny_pure ⟨_, rfl, h out ns' a1 a2 a3⟩
end
theorem cr_sortedTup {X : Cx} : CallR X (.builtin "sorted") (rSortedTup X.K) := by
  intro pins s σ H vs us Q I r h
  obtain ⟨a, ns, rfl, hs, h64, q⟩ := h
  obtain ⟨vz, rz, hl, _⟩ := I.tuple hs
  rw [Vals.ref1 r]
  have hi := rz.ints
  refine sorted_intsT hl hi (by rw [hi.length]; exact h64) fun out ns' h1 h2 h3 => ?_
  obtain ⟨ep, he'⟩ := PyProof.Rows.sortedAll_at s.heap vz out
  have hLn : (ns'.map V.int).length ≤ sizeLine := by rw [List.length_map, h2.length_eq]; exact small64 h64
  exact ⟨.ref _, upd H (s.heap.objs.size + 1) (.lst (ns'.map V.int)), I.laid (t' := s.toks) (fun _ _ => PyProof.Rows.sortedAll_old) (Nat.le_succ _) ⟨hLn, out.toList, ep, vals_of_ints h1, he'⟩, rfl, q ns' _ h2 h3 (I.hok.fresh (Nat.le_succ _))⟩
end RH
set_option Elab.async false
set_option linter.all false
set_option maxRecDepth 100000
set_option maxHeartbeats 2000000
/-! Lambdas with parameters and captured names, as values: made, handed to a def of the text, called there. -/
namespace RH
open PySem PySem.Spec PyProof.Rows L2
open LamX (Tabs TabS TabB ExtN CodeO codeO_ne inv_table among_app)
open NdefX (NF CellsAt NScope startF ncx inv_startN codeO_at slotAt Caps cells_of upd_none)
/-- a lambda's words, what it captured, its code object -/
structure LF where
  qual : Str
  params : Arguments
  body : Expr
  scope : Scope
  cl : List (Str × Addr)
  c : Addr
abbrev LF.fd (F : LF) (pm ctv : Value) : FuncData := PySem.W.kla_fn "<lambda>" F.qual F.params F.body F.scope F.cl pm (.ref F.c) ctv
abbrev LF.nf (F : LF) : NF := ⟨"<lambda>", F.qual, F.params, [], F.scope, F.cl, F.c⟩
/-- the object at f is this lambda -/
def FnL (f : Addr) (F : LF) : HO := .ext fun h => ∃ (od : Option Addr) (sl : Array (Option Value)) (pm ctv : Value), h.get? f = some (⟨.type "function", od, .func (F.fd pm ctv), sl⟩ : Obj)
theorem fnL_ne {f : Addr} {F : LF} (ps : Array Value) : FnL f F ≠ .tbl ps := fun z => by
  unfold FnL at z
  cases z
theorem fnL_at {P : Program} {w : World} {H : Hp} {h : Heap} {f : Addr} {F : LF} (hok : HOk P w H h) (e : H f = some (FnL f F)) : ∃ (od : Option Addr) (sl : Array (Option Value)) (pm ctv : Value), h.get? f = some (⟨.type "function", od, .func (F.fd pm ctv), sl⟩ : Obj) := (hok f _ e).1
section
variable {X : Cx} {pins : List (Addr × Obj)} {σ : L2.St} {H : Hp} {s : Shared}
theorem inv_lam {F : LF} {h' : Heap} {t' : Nat} {pm ctv : Value} (I : Inv X pins σ H { s with heap := h', toks := t' }) :
    Inv X pins σ (upd H h'.objs.size (FnL h'.objs.size F)) { s with heap := h'.push { cls := .type "function", data := .func (F.fd pm ctv) }, toks := t' } := by
  refine I.laid (t' := t') (a := h'.objs.size) (fun b u e => Heap.get?_push_of_some _ e) (Nat.le_refl _) ?_
  have e : (h'.push ({ cls := .type "function", data := .func (F.fd pm ctv) } : Obj)).get? h'.objs.size = some ({ cls := .type "function", data := .func (F.fd pm ctv) } : Obj) := Heap.get?_push_size _ rfl
  exact ⟨⟨_, _, pm, ctv, e⟩, ⟨_, e⟩, fun h1 h2 ⟨od, sl, p, t, z⟩ st => ⟨od, sl, p, t, st _ z⟩⟩
/-- the lambda is made -/
theorem lam_made {T : List (Addr × Str)} {c P : Addr} {params : Arguments} {body : Expr} {scope : Scope} {pos : Pos} {E : Value → Shared → Prop} {Q : Value → Shared → Prop} (I : Inv X pins σ H s) (TB : TabB X.base X.mg c P) (hcode : X.env.code = .ref c)
    (hm : (P, X.env.qual ++ "<lambda>") ∈ T) (hu : ∀ p ∈ T, p.1 = P → p.2 = X.env.qual ++ "<lambda>") (hT : Tabs T H) (hdef : defaultsOf params X.env = ([], [])) (hfree : ∀ y ∈ scope.names, y.2 = .free → ∃ c, X.env.cells.lookup y.1 = some c)
    (h : ∀ (f c' : Addr) (H1 : Hp) (s' : Shared), Inv X pins σ H1 s' → ExtN H H1 → (∀ b, H1 b = none → H b = none) → Tabs T H1 → H f = none →
      H1 f = some (FnL f ⟨X.env.qual ++ "<lambda>", params, body, scope, cloFrom X.env.cells scope.names [], c'⟩) → H1 c' = some (CodeO c' (X.env.qual ++ "<lambda>")) → Q (.ref f) s') :
    wpAny (model X.prog X.w) X.A (eval (.Lambda params body scope pos) X.env) Q E s := by
  obtain ⟨ps, hP, ht, ha⟩ := hT _ hm
  refine PySem.W.kla_eval hdef ?_
  have bP : s.heap.BuiltinsAt X.mg P := TB.bm.keeps I.bk
  have hP' : s.heap.get? P = some { cls := .none, data := .fields ps } := I.hok P _ hP
  cases hc : codeAmong pos ps.toList with
  | none =>
    refine PySem.W.kla_makeFunction (mg := X.mg) (c := c) (P := P) (ps := ps) (closure_ok hfree) I.ok.glob (I.mod.glob.keeps I.bk) hcode (TB.code.keeps I.bk) hP' ht hc TB.gP bP fun c' ctv h' tk hx hge hlt hrec htb => ?_
    obtain ⟨c2, oc, vs, t, e2, hoc, hd, hv⟩ := hrec
    cases e2
    have nC : H c' = none := I.hok.fresh hge
    have I1 := inv_table (t' := tk) (more := #[rawInt pos.line, rawInt pos.col, .ref c']) (h' := h') I hP (fun b o hb e => hx b o hb e) htb hge ⟨oc, vs, t, hoc, hd, hv⟩
    generalize hG : upd (upd H P (.tbl (ps ++ #[rawInt pos.line, rawInt pos.col, .ref c']))) c' (CodeO c' (X.env.qual ++ "<lambda>")) = G at I1
    have hE : ExtN H G := fun b o e n => by
      rw [← hG, upd_ne (ne_of_none e nC), upd_ne (fun z => n ps (Option.some.inj (e.symm.trans (by rw [z]; exact hP))))]
      exact e
    have gP : G P = some (.tbl (ps ++ #[rawInt pos.line, rawInt pos.col, .ref c'])) := by rw [← hG, upd_ne (ne_of_none hP nC), upd_same]
    have gC : G c' = some (CodeO c' (X.env.qual ++ "<lambda>")) := by rw [← hG, upd_same]
    have gO : ∀ b ps', b ≠ P → H b = some (.tbl ps') → G b = some (.tbl ps') := fun b ps' nb e => by
      rw [← hG, upd_ne (ne_of_none e nC), upd_ne nb]
      exact e
    have gN : ∀ b, G b = none → H b = none := fun b e => by
      rw [← hG] at e
      exact upd_none (upd_none e)
    have eL : (ps ++ #[rawInt pos.line, rawInt pos.col, .ref c']).toList = ps.toList ++ [rawInt pos.line, rawInt pos.col, .ref c'] := by simp
    have T1 : Tabs T G := fun p hp => by
      by_cases hb : p.1 = P
      · rw [hu p hp hb, hb]
        refine ⟨_, gP, by rw [eL]; exact PySem.TriplesOk_snoc _ _ _ _ ht, fun p' cv hcv => ?_⟩
        rw [eL] at hcv
        rcases among_app _ ht hcv with z | z
        · obtain ⟨c0, e1, e2⟩ := ha p' cv z
          exact ⟨c0, e1, hE _ _ e2 codeO_ne⟩
        · exact ⟨c', z, gC⟩
      · obtain ⟨ps', a1, a2, a3⟩ := hT p hp
        refine ⟨ps', gO _ _ hb a1, a2, fun p' cv hcv => ?_⟩
        obtain ⟨c0, e1, e2⟩ := a3 p' cv hcv
        exact ⟨c0, e1, hE _ _ e2 codeO_ne⟩
    have nF : G h'.objs.size = none := I1.hok.fresh (Nat.le_refl _)
    have I2 := inv_lam (F := ⟨X.env.qual ++ "<lambda>", params, body, scope, cloFrom X.env.cells scope.names [], c'⟩) (pm := (X.mg "__name__").getD .none) (ctv := ctv) I1
    refine h h'.objs.size c' _ _ I2 (fun b o e n => ?_) (fun b e => gN b (upd_none e)) (T1.ext fun b o e => ?_) (gN _ nF) upd_same ?_
    · have e1 := hE b o e n
      exact (upd_ne (ne_of_none e1 nF)).trans e1
    · exact (upd_ne (ne_of_none e nF)).trans e
    · exact (upd_ne (ne_of_none gC nF)).trans gC
  | some cv =>
    obtain ⟨c', e, hco⟩ := ha pos cv hc
    subst e
    refine PySem.W.kla_makeFunctionHit (mg := X.mg) (c := c) (P := P) (ps := ps) (closure_ok hfree) I.ok.glob (I.mod.glob.keeps I.bk) hcode (TB.code.keeps I.bk) hP' ht hc bP fun ctv h' tk hx hsz => ?_
    have I1 : Inv X pins σ H { s with heap := h', toks := tk } := I.kept hx
    have nF : H h'.objs.size = none := I1.hok.fresh (Nat.le_refl _)
    have I2 := inv_lam (F := ⟨X.env.qual ++ "<lambda>", params, body, scope, cloFrom X.env.cells scope.names [], c'⟩) (pm := (X.mg "__name__").getD .none) (ctv := ctv) I1
    refine h h'.objs.size c' _ _ I2 (fun b o e n => ?_) (fun b e => upd_none e) (hT.ext fun b o e => ?_) nF upd_same ?_
    · exact (upd_ne (ne_of_none e nF)).trans e
    · exact (upd_ne (ne_of_none e nF)).trans e
    · exact (upd_ne (ne_of_none hco nF)).trans hco
end
/-- lambda a, b: .. as a value -/
def tLamE (T : List (Addr × Str)) (mk : Addr → LF) : TE := fun _ H Q => Tabs T H ∧ ∀ (f c' : Addr) (H1 : Hp), ExtN H H1 → (∀ b, H1 b = none → H b = none) → Tabs T H1 → H f = none → H1 f = some (FnL f (mk c')) → H1 c' = some (CodeO c' (mk c').qual) → Q (.ref f) H1
theorem pe_lam {X : Cx} {T : List (Addr × Str)} {c P : Addr} {params : Arguments} {body : Expr} {scope : Scope} {pos : Pos} (TB : TabB X.base X.mg c P) (hcode : X.env.code = .ref c)
    (hm : (P, X.env.qual ++ "<lambda>") ∈ T) (hu : ∀ p ∈ T, p.1 = P → p.2 = X.env.qual ++ "<lambda>") (hdef : defaultsOf params X.env = ([], []))
    (hfree : ∀ y ∈ scope.names, y.2 = .free → X.env.scope.names.lookup y.1 = some .cell ∨ X.env.scope.names.lookup y.1 = some .free) :
    PE X (.Lambda params body scope pos) (tLamE T fun c' => ⟨X.env.qual ++ "<lambda>", params, body, scope, cloFrom X.env.cells scope.names [], c'⟩) := by
  refine ⟨fun pins s σ H Q I h => ?_⟩
  obtain ⟨hT, q⟩ := h
  refine lam_made I TB hcode hm hu hT hdef (fun y hy e => (hfree y hy e).elim (fun z => I.ok.has _ (.inl z)) fun z => I.ok.has _ (.inr z)) fun f c' H1 s' I' e n T' hf h1 h2 => ?_
  exact ⟨.ref f, H1, I', rfl, q f c' H1 e n T' hf h1 h2⟩
/-! ### what a lambda promises -/
structure LOk (P : Program) (w : World) (K : PySem.W.Frag) (mg : Str → Option Value) (base : Heap) (CX : CXT) (k : Nat) (f : Addr) (F : LF) (ps fr : List Str) (sp : List (Option V) → Sp) : Prop where
  len : ∀ ws vs H Q E, sp ws vs H Q E → vs.length = ps.length
  run : ∀ (A : Around) (outer : List Env) (s : Shared) (H : Hp) (us : List Value) (vs : List V) (ws : List (Option V)) (Q : VK) (E : XK), Room k A → Env0 P w K mg base A outer s H → H f = some (FnL f F) → H F.c = some (CodeO F.c F.qual) →
    CellsAt F.cl fr ws s.heap H → Vals vs us → sp ws vs H Q E → codeAny (model P w) A (.call (.ref f) ⟨us, []⟩) (CR CX outer P w H s Q E) s
section
variable {CX : CXT} {P : Program} {w : World} {K : PySem.W.Frag} {mg : Str → Option Value} {base : Heap} {N ps fr : List Str} {F : LF} {f : Addr} {k j : Nat} {sp : List (Option V) → Sp}
/-- a lambda by its body -/
theorem lok_of (S : NScope N ps fr F.scope) (hb : ∀ (pm ctv : Value) (us : List Value), us.length = ps.length → bindArgs (F.fd pm ctv) ⟨us, []⟩ = pure (ps.zip us)) (len : ∀ ws vs H Q E, sp ws vs H Q E → vs.length = ps.length)
    (hbody : ∀ (A : Around) (outer : List Env) (s : Shared) (H : Hp) (vs : List V) (ws : List (Option V)) (Q : VK) (E : XK), Room k (A.deeper (NdefX.envF F.nf f s.heap.objs.size)) → ws.length = fr.length → sp ws vs H Q E →
      ∃ t, PE (ncx CX P w K mg base N F.nf f A outer s H E) F.body t ∧ t (startF N vs ws) H Q) :
    LOk P w K mg base CX (k + 1) f F ps fr sp := by
  refine ⟨len, fun A outer s H us vs ws Q E hr e0 hf hc C r hsp => ?_⟩
  have hl := len _ _ _ _ _ hsp
  have lim : s.heap.NoLimit := e0.mod.nolimit.keeps fun b o e => (e0.bs b o e).1
  obtain ⟨od, sl, pm, ctv, ho⟩ := fnL_at e0.hok hf
  refine PySem.W.kla_callFunE hr.depth ho rfl S.co S.gen rfl (codeO_at e0.hok hc) ?_
  rw [hb pm ctv us (by rw [← r.length]; exact hl)]
  refine wpAny_pure (wpAny_newFunctionEnv S.nocell (fun ⟨n, _⟩ hy => S.par n (List.of_mem_zip hy).1) (fun h₁ hns hsb => ⟨lim.fresh _ hsb, ?_⟩) S.kind)
  show codeAny _ _ (.expr F.body (NdefX.envF F.nf f s.heap.objs.size)) _ _
  have kp : ∀ b o, s.heap.get? b = some o → h₁.get? b = some o := fun b o e => hsb.extBut b o (Nat.ne_of_lt (Heap.lt_size e)) (Heap.get?_push_of_some _ e)
  obtain ⟨t, ht, hq⟩ := hbody A outer s H vs ws Q E (hr.deeper _) C.len hsp
  have I : Inv (ncx CX P w K mg base N F.nf f A outer s H E) [] (startF N vs ws) H { s with heap := h₁, toks := s.toks + (ps.zip us).length } := inv_startN (F := F.nf) S hr.hd e0 hl r C hns kp
  refine PySem.W.kla_codeExpr (wpAny_mono (ht.run [] _ (startF N vs ws) H Q I hq) (fun v s' hs => ?_) fun e s' hs => hs)
  obtain ⟨v', H', J, rv, q⟩ := hs
  exact ⟨v', H', J.os, J.bare, J.base, J.hok, rv, q⟩
end
/-! ### a def that is handed things that can be called -/
/-- f may be called, from any frame that began at s, H below outer, while live holds -/
structure Callable (P : Program) (w : World) (K : PySem.W.Frag) (mg : Str → Option Value) (base : Heap) (CX : CXT) (k : Nat) (f : Addr) (live : Hp → Prop) (sp : Sp) (outer : List Env) (s : Shared) (H : Hp) : Prop where
  at_ : ∀ (X : Cx), X.prog = P → X.w = w → X.K = K → X.base = base → X.s_0 = s → X.H_0 = H → ∀ pins σ H' s', Inv X pins σ H' s' → live H' → PySem.W.FnAt f s'.heap
  run : ∀ (X : Cx), X.prog = P → X.w = w → X.K = K → X.mg = mg → X.base = base → X.s_0 = s → X.H_0 = H → X.outer = outer → X.ex = [] → Room k X.A → ∀ pins σ H' s' us vs Q E, Inv X pins σ H' s' → live H' → Vals vs us → Passes CX X E → sp vs H' Q E →
    wpAny (model P w) X.A (call (.ref f) us) (EP X pins σ Q) X.xe s'
section
variable {CX : CXT} {P : Program} {w : World} {K : PySem.W.Frag} {mg : Str → Option Value} {base : Heap} {ps fr : List Str} {k : Nat} {f : Addr} {ws : List (Option V)} {outer : List Env} {s : Shared} {H : Hp}
/-- a lambda is alive while its object and its code stand -/
def liveL (f : Addr) (F : LF) : Hp → Prop := fun H => H f = some (FnL f F) ∧ H F.c = some (CodeO F.c F.qual)
theorem callable_lam {F : LF} {sp : List (Option V) → Sp} (Fn : LOk P w K mg base CX k f F ps fr sp) (C : CellsAt F.cl fr ws s.heap H) (nf : ∀ y c, F.cl.lookup y = some c → c ∉ frs outer) :
    Callable P w K mg base CX k f (liveL f F) (sp ws) outer s H := by
  refine ⟨fun X _ _ _ _ _ _ pins σ H' s' I l => ?_, fun X e1 e2 e3 e4 e5 e6 e7 e8 e9 hr pins σ H' s' us vs Q E I l r hx q => ?_⟩
  · obtain ⟨od, sl, pm, ctv, ho⟩ := fnL_at I.hok l.1
    exact ⟨_, od, _, sl, ho⟩
  · subst e1 e2 e3 e4 e5 e6 e7 e8
    have C2 := NdefX.CellsAt.later (X := X) C nf (fun y c _ z => by rw [e9] at z; exact absurd z (by simp)) I
    refine wpAny_call (codeAny_mono (Fn.run X.A X.stack s' H' us vs ws Q E hr I.env0 l.1 l.2 C2 r q) fun r s' hq => ?_)
    cases r with
    | error e => exact hx pins σ H' _ e s' I hq
    | ok fl =>
      cases fl with
      | ret u => exact I.after hq
      | next => exact False.elim hq
      | brk => exact False.elim hq
      | cont => exact False.elim hq
end
def tCan (f : Addr) (live : Hp → Prop) (i : Nat) (sp : Sp) (E : XK) (t : TA) : TE := fun σ H Q => σ[i]? = some (some (.ref f)) ∧ live H ∧ t σ H fun vs H1 => live H1 ∧ sp vs H1 Q E
section
variable {X : Cx} {CX : CXT} {f : Addr} {live : Hp → Prop} {i j k : Nat} {x : Str} {sp : Sp} {E : XK} {t : TA} {e : Expr} {es : List Expr} {p pos : Pos}
theorem pe_can (Cb : Callable X.prog X.w X.K X.mg X.base CX k f live sp X.outer X.s_0 X.H_0) (nx : X.ex = []) (hr : Room j X.A) (hk : k ≤ j) (hx : Passes CX X E)
    (hN : X.N[i]? = some x) (hv : Vis X.env.scope x) (ha : PA X (e :: es) t) (hd : (x == ("__debug__" : Str)) = false := by decide) (hcd : (x == ("__classdict__" : Str)) = false := by decide)
    (he : starEach (e :: es) X.env = (false, eval e X.env) :: starEach es X.env := by rfl) (hpl : (backTo pos (starEach es X.env)).any (·.1) = false := by rfl) :
    PE X (.Call (.Name x p) (e :: es) [] pos) (tCan f live i sp E t) := by
  refine ⟨fun pins s σ H Q I h => ?_⟩
  obtain ⟨hs, hl, ht⟩ := h
  refine wpAny_Call_Name_kw (thn ((pe_var (pos := p) hN hv hd hcd).run pins s σ H (fun v H1 => v = .ref f ∧ H1 = H) I ⟨.ref f, hs, rfl, rfl⟩) fun u s1 ⟨v, H1, I1, r1, q1⟩ => ?_)
  obtain ⟨ev, eH⟩ := q1
  subst ev
  rw [eH] at I1
  obtain rfl : u = Value.ref f := r1
  refine PySem.W.callWith_F (first := []) (Cb.at_ X rfl rfl rfl rfl rfl rfl pins σ H s1 I1 hl) (thn (ha.run pos pins s1 σ H _ I1 ht) fun us s2 ⟨vs, H2, I2, r, h1, q⟩ => ⟨Cb.at_ X rfl rfl rfl rfl rfl rfl pins σ H2 s2 I2 h1, ?_⟩) he hpl
  exact Cb.run X rfl rfl rfl rfl rfl rfl rfl rfl nx (hr.mono hk) pins σ H2 s2 us vs Q E I2 h1 r hx q
end
/-- a def's promise that leans on what it is handed -/
structure FnC (P : Program) (w : World) (K : PySem.W.Frag) (mg : Str → Option Value) (base : Heap) (CX : CXT) (k : Nat) (f : Addr) (fd : FuncData) (ps : List Str) (Pre : List Env → Shared → Hp → Prop) (sp : Sp) : Prop where
  len : ∀ vs H Q E, sp vs H Q E → vs.length = ps.length
  run : ∀ (A : Around) (outer : List Env) (s : Shared) (H : Hp) (args : Args) (us : List Value) (vs : List V) (Q : VK) (E : XK), Room k A → Env0 P w K mg base A outer s H → BindsTo s fd args (ps.zip us) → Vals vs us → Pre outer s H → sp vs H Q E →
    codeAny (model P w) A (.call (.ref f) args) (CR CX outer P w H s Q E) s
section
variable {P : Program} {w : World} {K : PySem.W.Frag} {mg : Str → Option Value} {base : Heap}
theorem fnC_of {x qual : Str} {st : Stmt} {f : Addr} {fd : FuncData} {N ps : List Str} {k : Nat} {sp : Sp} {Pre : List Env → Shared → Hp → Prop} (F : Fun K x qual st f fd) (S : FnScope N ps (defScope st)) (len : ∀ vs H Q E, sp vs H Q E → vs.length = ps.length)
    (hbody : ∀ (cdv : Value) (A : Around) (outer : List Env) (s : Shared) (H : Hp) (vs : List V) (Q : VK) (E : XK), Room k (A.deeper (envOfC qual (defScope st) s.heap.objs.size f cdv)) → Pre outer s H → sp vs H Q E →
      ∃ t, PSs (cxOf CX0 P w K mg base N qual (defScope st) f cdv A outer s H E).nox (defBody st) t ∧ t { nx := fun _ H' => Q .non H', rt := Q } (start N vs) H) : FnC P w K mg base CX0 (k + 1) f fd ps Pre sp := by
  obtain ⟨oc, od, kV, doc, pm, an, cdv, ct, osl, rfl, lk, hcd⟩ := F.ex
  refine ⟨len, fun A outer s H args us vs Q E hr e0 hb r hP hsp => ?_⟩
  have hl := len _ _ _ _ hsp
  have KX : K.In s.heap := e0.mod.kin.keeps fun b o e => (e0.bs b o e).1
  have lim : s.heap.NoLimit := e0.mod.nolimit.keeps fun b o e => (e0.bs b o e).1
  have hkind : ∀ y ∈ ps.zip us, (defScope st).names.lookup y.1 = some .local ∨ ((defScope st).names.lookup y.1 = some .cell ∧ ((cellsFrom (s.heap.objs.size + 1) (defScope st).names []).lookup y.1).isSome = true) := fun y hy =>
    (S.par y.1 (List.of_mem_zip (a := y.1) (b := y.2) hy).1).elim .inl fun q => .inr ⟨q, PySem.W.cellsFrom_some _ _ _ (.inl q)⟩
  refine codeAny_call_function hr.depth (KX _ _ lk) rfl S.co S.gen rfl (PySem.W.codeRec_of KX hcd) (hb _ _ _ _ ?_)
  refine wpAny_newFunctionEnv_cells S.kind hkind fun env he s1 y => ?_
  subst he
  refine ⟨lim.keeps y.toInCall.keep, codeAny_func ?_⟩
  obtain ⟨t, ht, hq⟩ := hbody cdv A outer s H vs Q E (hr.deeper _) hP hsp
  have I : Inv (cxOf CX0 P w K mg base N qual (defScope st) f cdv A outer s H E) [] (L2.start N vs) H s1 := inv_start S hr.hd e0 hl r y
  refine wpAny_mono (ht.nox.run [] s1 (L2.start N vs) H _ I hq) (fun fl s' hs => ?_) fun e s' hs => hs
  cases fl with
  | ret u =>
    obtain ⟨v, σ', H', J, rv, q⟩ := hs
    exact ⟨v, H', J.os, J.bare, J.base, J.hok, rv, q⟩
  | next =>
    obtain ⟨σ', H', J, q⟩ := hs
    exact ⟨V.non, H', J.os, J.bare, J.base, J.hok, rfl, q⟩
  | brk => exact hs.choose_spec.choose_spec.2.elim
  | cont => exact hs.choose_spec.choose_spec.2.elim
end
/-- such a def called: g says with what -/
def tCallC {G : Type} (preS : G → L2.St → Hp → Prop) (sp : G → Sp) (E : XK) (t : TA) : TE := fun σ H Q => t σ H fun vs H1 => ∃ g, preS g σ H1 ∧ sp g vs H1 Q E
theorem pe_callC {G : Type} {X : Cx} {CX : CXT} {k j : Nat} {f : Addr} {fd : FuncData} {ps : List Str} {Pre : G → List Env → Shared → Hp → Prop} {preS : G → L2.St → Hp → Prop} {sp : G → Sp} {E : XK} {x : Str} {p pos : Pos} {e : Expr} {es : List Expr} {t : TA}
    (F : ∀ g, FnC X.prog X.w X.K X.mg X.base CX k f fd ps (Pre g) (sp g)) (hP : ∀ g pins σ H s, Inv X pins σ H s → preS g σ H → Pre g X.stack s H) (hr : Room j X.A) (hk : k ≤ j) (hg : Gl X x) (hm : X.mg x = some (.ref f)) (kp : PySem.W.keepIn X.K (.ref f) = true) (hb : Binds X.K fd ps []) (hx : Passes CX X E)
    (ha : PA X (e :: es) t) (hdb : (x == ("__debug__" : Str)) = false := by decide) (he : starEach (e :: es) X.env = (false, eval e X.env) :: starEach es X.env := by rfl) (hpl : (backTo pos (starEach es X.env)).any (·.1) = false := by rfl) :
    PE X (.Call (.Name x p) (e :: es) [] pos) (tCallC preS sp E t) := by
  refine ⟨fun pins s σ H Q I h => ?_⟩
  refine wpAny_Call_Name_kw (ld_glob I hg hm ?_ hdb)
  refine PySem.W.callWith_K (h₀ := X.base) I.ok.mod.kin kp (thn (ha.run pos pins s σ H _ I h) fun us s1 ⟨vs, H1, I1, r, g, pg, q⟩ => ⟨I1.kIn, ?_⟩) he hpl
  have hl : us.length = ps.length := by rw [← r.length]; exact (F g).len _ _ _ _ q
  have hb' := hb s1 us I1.kIn (by rw [List.append_nil]; exact hl)
  rw [List.append_nil] at hb'
  refine wpAny_call (codeAny_mono ((F g).run X.A X.stack s1 H1 ⟨us, []⟩ us vs Q E (hr.mono hk) I1.env0 hb' r (hP g pins σ H1 s1 I1 pg) q) fun r s' hq => ?_)
  cases r with
  | error e => exact hx pins σ H1 s1 e s' I1 hq
  | ok fl =>
    cases fl with
    | ret u => exact I1.after hq
    | next => exact False.elim hq
    | brk => exact False.elim hq
    | cont => exact False.elim hq
end RH
set_option Elab.async false
set_option linter.all false
set_option maxRecDepth 100000
set_option maxHeartbeats 2000000
/-! Dicts with tuples for keys: one pair written out, their values; where an int stands in a tuple. -/
namespace RH
open PySem PySem.Spec PyProof.Rows L2
theorem one_shape {X : Cx} {k v : Expr} {pos : Pos} : (evalEachOpt [some k] X.env).zip ((evalEach [v] X.env).map fun z => do let x ← z; standAt pos; pure x) = [(eval k X.env, (do let x ← eval v X.env; standAt pos; pure x : Sem Value))].map fun p => (some p.1, p.2) := rfl
end RH
set_option Elab.async false
set_option linter.all false
set_option maxRecDepth 100000
set_option maxHeartbeats 2000000
/-! Tuples told by their very object, and dicts whose keys are such tuples of ints. -/
namespace RH
open PySem PySem.Spec PyProof.Rows L2
def keyOf (s : List Int) : List L2.Key := s.map Sum.inl
theorem keyOf_kV (s : List Int) : (keyOf s).map kV = s.map V.int := by
  unfold keyOf
  rw [List.map_map]
  rfl
theorem mapInt_inj : ∀ {s t : List Int}, s.map V.int = t.map V.int → s = t
  | [], [], _ => rfl
  | [], _ :: _, e => by simp at e
  | _ :: _, [], e => by simp at e
  | a :: s, b :: t, e => by
    rw [List.map_cons, List.map_cons] at e
    injection e with e1 e2
    rw [V.int.inj e1, mapInt_inj e2]
theorem keyOf_inj {s t : List Int} (h : keyOf s = keyOf t) : s = t := by
  have e : (keyOf s).map kV = (keyOf t).map kV := by rw [h]
  rw [keyOf_kV, keyOf_kV] at e
  exact mapInt_inj e
/-- b is a tuple of these ints -/
def KX (H : Hp) (b : Addr) (s : List Int) : Prop := Rd H b (.tup (s.map V.int))
/-- the same, and its very object is known, one without a dict -/
def FT (H : Hp) (b : Addr) (s : List Int) : Prop := ∃ ob, H b = some (.frz ob (.tup (s.map V.int))) ∧ ob.dict = none
theorem FT.kx {H : Hp} {b : Addr} {s : List Int} (h : FT H b s) : KX H b s := let ⟨ob, h, _⟩ := h; .inr ⟨ob, h⟩
inductive XS : List (List Int × V) → List Addr → List (List L2.Key × Addr × Value) → Prop
  | nil : XS [] [] []
  | cons {q : List Int × V} {b : Addr} {u : Value} {as : List (List Int × V)} {bs : List Addr} {xs : List (List L2.Key × Addr × Value)} : RelV q.2 u → XS as bs xs → XS (q :: as) (b :: bs) ((keyOf q.1, b, u) :: xs)
inductive KB (H : Hp) : List (List Int × V) → List Addr → Prop
  | nil : KB H [] []
  | cons {q : List Int × V} {b : Addr} {as : List (List Int × V)} {bs : List Addr} : KX H b q.1 → KB H as bs → KB H (q :: as) (b :: bs)
theorem KB.snoc {H : Hp} {q : List Int × V} {b : Addr} (h : KX H b q.1) : ∀ {as : List (List Int × V)} {bs : List Addr}, KB H as bs → KB H (as ++ [q]) (bs ++ [b])
  | _, _, .nil => .cons h .nil
  | _, _, .cons g t => .cons g (t.snoc h)
theorem KB.imp {H H' : Hp} (f : ∀ b s, KX H b s → KX H' b s) : ∀ {as : List (List Int × V)} {bs : List Addr}, KB H as bs → KB H' as bs
  | _, _, .nil => .nil
  | _, _, .cons g t => .cons (f _ _ g) (t.imp f)
theorem XS.len : ∀ {as : List (List Int × V)} {bs : List Addr} {xs : List (List L2.Key × Addr × Value)}, XS as bs xs → xs.length = as.length
  | _, _, _, .nil => rfl
  | _, _, _, .cons _ t => congrArg (· + 1) t.len
theorem XS.snoc {q : List Int × V} {b : Addr} {u : Value} (h : RelV q.2 u) : ∀ {as : List (List Int × V)} {bs : List Addr} {xs : List (List L2.Key × Addr × Value)}, XS as bs xs → XS (as ++ [q]) (bs ++ [b]) (xs ++ [(keyOf q.1, b, u)])
  | _, _, _, .nil => .cons h .nil
  | _, _, _, .cons g t => .cons g (t.snoc h)
theorem atKey_pos {x : List L2.Key × Addr × Value} {xs : List (List L2.Key × Addr × Value)} {k : List L2.Key} (e : x.1 = k) : atKey (x :: xs) k = some x.2 := by simp [atKey, List.find?_cons, e]
theorem atKey_neg {x : List L2.Key × Addr × Value} {xs : List (List L2.Key × Addr × Value)} {k : List L2.Key} (e : ¬ x.1 = k) : atKey (x :: xs) k = atKey xs k := by simp [atKey, List.find?_cons, e]
theorem XS.no {s : List Int} : ∀ {as : List (List Int × V)} {bs : List Addr} {xs : List (List L2.Key × Addr × Value)}, XS as bs xs → s ∉ as.map Prod.fst → atKey xs (keyOf s) = none
  | _, _, _, .nil, _ => rfl
  | _, _, _, .cons g t, h => (atKey_neg fun e => h (by rw [← keyOf_inj e]; exact List.mem_cons_self ..)).trans (t.no fun z => h (List.mem_cons_of_mem _ z))
theorem XS.yes {s : List Int} : ∀ {as : List (List Int × V)} {bs : List Addr} {xs : List (List L2.Key × Addr × Value)}, XS as bs xs → s ∈ as.map Prod.fst → ∃ v p, atKey xs (keyOf s) = some p ∧ (s, v) ∈ as ∧ RelV v p.2
  | _, _, _, .nil, h => by simp at h
  | q :: as, _, _, .cons (u := u) g t, h => by
    by_cases e : q.1 = s
    · subst e
      exact ⟨q.2, _, atKey_pos rfl, List.mem_cons_self .., g⟩
    · rcases List.mem_cons.mp h with z | z
      · exact absurd z.symm e
      · obtain ⟨v, p, h1, h2, h3⟩ := t.yes z
        exact ⟨v, p, (atKey_neg fun z => e (keyOf_inj z)).trans h1, List.mem_cons_of_mem _ h2, h3⟩
theorem key_ofR {P : Program} {w : World} {H : Hp} {h : Heap} {a : Addr} {s : List Int} (ok : HOk P w H h) (e : KX H a s) : (tupleKind (mixKind P w)).is h (keyOf s) a := by
  obtain ⟨_, its, r, o, h1, h2, n, h3⟩ := (show ObjOk P w H h a (.tup (s.map V.int)) from e.ok ok)
  rw [← keyOf_kV] at r
  exact ⟨o, its.toArray, n, h1, h2, h3, by simpa using items_are r⟩
theorem XS.keys {P : Program} {w : World} {H : Hp} {h : Heap} (ok : HOk P w H h) : ∀ {as : List (List Int × V)} {bs : List Addr} {xs : List (List L2.Key × Addr × Value)}, XS as bs xs → KB H as bs → ∀ x ∈ xs, (tupleKind (mixKind P w)).is h x.1 x.2.1
  | _, _, _, .nil, _, x, hx => nomatch hx
  | _, _, _, .cons g t, .cons k r, x, hx => by
    rcases List.mem_cons.mp hx with e | hx
    · subst e
      exact key_ofR ok k
    · exact t.keys ok r x hx
/-- the dict at d: as with its values, bs its keys' tuples -/
abbrev DE (P : Program) (w : World) (as : List (List Int × V)) (bs : List Addr) (d : Addr) : HO := .ext fun h => (d == sysModules) = false ∧ as.length ≤ sizeLine ∧ ∃ xs : List (List L2.Key × Addr × Value), XS as bs xs ∧
  ∃ o es ep, h.get? d = some o ∧ o.ExactDict ∧ o.data = .dict es ep ∧ es.toList = xs.map (entryOfKey (tupleKind (mixKind P w))) ∧ (xs.map (·.1)).Nodup
theorem DE.ok {P : Program} {w : World} {H : Hp} {h : Heap} {as : List (List Int × V)} {bs : List Addr} {d : Addr} {xs : List (List L2.Key × Addr × Value)} (hd : (d == sysModules) = false) (hl : as.length ≤ sizeLine) (hx : XS as bs xs) (dd : h.DictOfH (tupleKind (mixKind P w)) d xs) : ObjOk P w H h d (DE P w as bs d) := by
  obtain ⟨o, es, ep, h1, h2, h3, h4, _, h5⟩ := dd
  refine ⟨⟨hd, hl, xs, hx, o, es, ep, h1, h2, h3, h4, h5⟩, ⟨o, h1⟩, fun h1 h2 ⟨a1, a2, xs, a3, o, es, ep, b1, b2⟩ k => ⟨a1, a2, xs, a3, o, es, ep, k _ b1, b2⟩⟩
/-! ### the rules -/
section
variable {X : Cx} {o i k v value : Expr} {pos pos' tpos : Pos} {td ty tk tv : TE}
/-- tuple(xs) of a list, told by its very object -/
def kTupF (K : PySem.W.Frag) (x : V) (H : Hp) (Q : VK) : Prop := ∃ p xs, x = .ref p ∧ SqL K H p xs ∧ ∀ q ob, H q = none → ob.dict = none → Q (.ref q) (upd H q (.frz ob (.tup xs)))
theorem pe_tupleF {a : Expr} {ta : TE} {p : Pos} (hg : Gl X "tuple") (hm : X.mg "tuple" = none) (ha : PE X a ta) (na : starEach [a] X.env = (false, eval a X.env) :: starEach [] X.env := by rfl) : PE X (.Call (.Name "tuple" p) [a] [] pos) (tThen ta (kTupF X.K)) := by
  refine ⟨fun pins s σ H Q I h => ?_⟩
  refine Call_ (ld_blt I hg hm boot_tuple (PyProof.Rows.callWith_type1 (one_arg ha I h (fun v s2 x H2 I2 r q => ?_) na) na))
  obtain ⟨p, xs, rfl, hs, q⟩ := q
  obtain rfl : v = .ref p := r
  obtain ⟨its, rv, pl, hz⟩ := I2.list hs
  refine call_tuple_list pl.isList (fun h' hk => ?_) (by rw [List.size_toArray, ← rv.length]; exact hz)
  have I3 : Inv X pins σ H2 { s2 with heap := h' } := I2.kept (t' := s2.toks) hk
  have e : (h'.push { cls := .type "tuple", data := .seq its.toArray }).get? h'.objs.size = some { cls := .type "tuple", data := .seq its.toArray } := Heap.get?_push_size _ rfl
  have I4 : Inv X pins σ (upd H2 h'.objs.size (.frz { cls := .type "tuple", data := .seq its.toArray } (.tup xs))) { s2 with heap := h'.push { cls := .type "tuple", data := .seq its.toArray } } :=
    I3.laid (t' := s2.toks) (fun b o e => Heap.get?_push_of_some _ e) (Nat.le_refl _) ⟨e, hz, its, rv, IsTup.new _ _⟩
  exact ⟨.ref h'.objs.size, _, I4, rfl, q _ _ (I3.hok.fresh (Nat.le_refl _)) rfl⟩
end
end RH
set_option Elab.async false
set_option linter.all false
set_option maxRecDepth 100000
set_option maxHeartbeats 2000000
/-! Sorted lists of tuples of ints, of any length; more rules for dicts whose keys are such tuples. -/
namespace RH
open PySem PySem.Spec PyProof.Rows L2
open SrtO (Swo Srtd Stb SortableO Cmp lt2)
open TS (TupInts intsOf code Bd lex_ints firsts_of)
/-- below 10, by the digits -/
def ltL (s t : List Int) : Bool := decide (code 10 s < code 10 t)
theorem swo_by {α : Type} (f : α → Int) : Swo fun x y : α => decide (f x < f y) := by
  refine ⟨fun x y h => ?_, fun x y z h1 h2 => ?_⟩
  · simp only [decide_eq_true_eq] at h
    simp only [decide_eq_false_iff_not]
    omega
  · simp only [decide_eq_false_iff_not] at *
    omega
theorem ltL_swo : Swo ltL := swo_by (code 10)
/-- each of xs is a tuple of the ints -/
inductive EX (H : Hp) : List V → List (List Int) → Prop
  | nil : EX H [] []
  | cons {b : Addr} {s : List Int} {xs : List V} {ls : List (List Int)} : KX H b s → EX H xs ls → EX H (.ref b :: xs) (s :: ls)
theorem EX.len {H : Hp} : ∀ {xs : List V} {ls : List (List Int)}, EX H xs ls → xs.length = ls.length
  | _, _, .nil => rfl
  | _, _, .cons _ t => congrArg (· + 1) t.len
theorem EX.imp {H H' : Hp} (f : ∀ b s, KX H b s → KX H' b s) : ∀ {xs : List V} {ls : List (List Int)}, EX H xs ls → EX H' xs ls
  | _, _, .nil => .nil
  | _, _, .cons g t => .cons (f _ _ g) (t.imp f)
theorem EX.snoc {H : Hp} {b : Addr} {s : List Int} (h : KX H b s) : ∀ {xs : List V} {ls : List (List Int)}, EX H xs ls → EX H (xs ++ [.ref b]) (ls ++ [s])
  | _, _, .nil => .cons h .nil
  | _, _, .cons g t => .cons g (t.snoc h)
theorem EX.at {H : Hp} : ∀ {xs : List V} {ls : List (List Int)} {i : Nat} {s : List Int}, EX H xs ls → ls[i]? = some s → ∃ b, xs[i]? = some (V.ref b) ∧ KX H b s
  | _, _, _, _, .nil, e => by simp at e
  | _, _, 0, _, .cons h _, e => by
    cases Option.some.inj e
    exact ⟨_, rfl, h⟩
  | _, _, i + 1, _, .cons _ t, e => t.at (i := i) e
theorem EX.of {P : Program} {w : World} {H : Hp} {h : Heap} : ∀ {out : List Value}, (∀ v ∈ out, ∃ b, v = Value.ref b ∧ KX H b (intsOf h v)) → Vals (out.map backV) out ∧ EX H (out.map backV) (out.map (intsOf h))
  | [], _ => ⟨.nil, .nil⟩
  | v :: out, hv => by
    obtain ⟨r, e⟩ := EX.of (P := P) (w := w) (H := H) (h := h) (out := out) fun u hu => hv u (List.mem_cons_of_mem _ hu)
    obtain ⟨b, rfl, k⟩ := hv v (List.mem_cons_self ..)
    exact ⟨.cons rfl r, .cons k e⟩
/-- what sorted makes of tuples of the ints ls -/
def SoT (H : Hp) (ls : List (List Int)) (ys : List V) (ls' : List (List Int)) : Prop := Srtd ltL ls' ∧ Stb ltL ls' ls ∧ EX H ys ls' ∧ ls'.length = ls.length
theorem SoT.one {H H' : Hp} {ls a b : List (List Int)} {ys zs : List V} (h1 : SoT H ls ys a) (h2 : SoT H' ls zs b) : a = b :=
  SrtO.stb_uniq ltL_swo h1.1 h2.1 ⟨h1.2.1.perm.trans h2.2.1.perm.symm, fun x => (h1.2.1.cls x).trans (h2.2.1.cls x).symm⟩
end RH
set_option Elab.async false
set_option linter.all false
set_option maxRecDepth 100000
set_option maxHeartbeats 2000000
namespace RH
open PySem PySem.Spec PyProof.Rows L2
open SrtO (Swo Srtd Stb SortableO Cmp lt2)
open TS (TupInts intsOf code Bd lex_ints firsts_of)
theorem KB.ex {H : Hp} : ∀ {as : List (List Int × V)} {bs : List Addr}, KB H as bs → EX H (bs.map V.ref) (as.map Prod.fst)
  | _, _, .nil => .nil
  | _, _, .cons g t => .cons g t.ex
theorem XS.adr : ∀ {as : List (List Int × V)} {bs : List Addr} {xs : List (List L2.Key × Addr × Value)}, XS as bs xs → xs.map (fun x => x.2.1) = bs
  | _, _, _, .nil => rfl
  | _, _, _, .cons _ t => by rw [List.map_cons, t.adr]
theorem vals_refs : ∀ bs : List Addr, Vals (bs.map V.ref) (bs.map Value.ref)
  | [] => .nil
  | b :: bs => .cons rfl (vals_refs bs)
theorem XS.blen : ∀ {as : List (List Int × V)} {bs : List Addr} {xs : List (List L2.Key × Addr × Value)}, XS as bs xs → bs.length = as.length
  | _, _, _, .nil => rfl
  | _, _, _, .cons _ t => congrArg (· + 1) t.blen
/-! ### get, in, a new one, [..] = -/
end RH
set_option Elab.async false
set_option linter.all false
set_option maxRecDepth 100000
set_option maxHeartbeats 2000000
/-! Lambdas that a def hands back: the cells that they caught are tracked from then on. -/
namespace RH
open PySem PySem.Spec PyProof.Rows L2
open LamX (Tabs TabS TabB ExtN CodeO codeO_ne)
open NdefX (NF CellsAt NScope startF ncx codeO_at slotAt Caps cells_of)
/-- the cell at c holds v -/
def CellO (c : Addr) (v : V) : HO := .ext fun h => ∃ u, L2.RelV v u ∧ h.IsCell c (some u)
theorem cellO_ne {c : Addr} {v : V} : (∀ y, CellO c v ≠ .own y) ∧ (∀ xs, CellO c v ≠ .tup xs) ∧ (∀ o u, CellO c v ≠ .frz o u) ∧ (∀ ps, CellO c v ≠ .tbl ps) := by
  unfold CellO
  exact ⟨fun _ z => (nomatch z), fun _ z => (nomatch z), fun _ _ z => (nomatch z), fun _ z => (nomatch z)⟩
abbrev CL := List (Addr × V)
/-- without the cells, with them -/
def era (l : CL) (H : Hp) : Hp := fun b => match l.lookup b with
  | some _ => none
  | none => H b
def lay (l : CL) (H : Hp) : Hp := fun b => match l.lookup b with
  | some v => some (CellO b v)
  | none => H b
theorem era_in {l : CL} {H : Hp} {b : Addr} {v : V} (e : l.lookup b = some v) : era l H b = none := by
  unfold era
  rw [e]
theorem era_no {l : CL} {H : Hp} {b : Addr} (e : l.lookup b = none) : era l H b = H b := by
  unfold era
  rw [e]
theorem lay_in {l : CL} {H : Hp} {b : Addr} {v : V} (e : l.lookup b = some v) : lay l H b = some (CellO b v) := by
  unfold lay
  rw [e]
theorem lay_no {l : CL} {H : Hp} {b : Addr} (e : l.lookup b = none) : lay l H b = H b := by
  unfold lay
  rw [e]
/-- the cells stand -/
def Stand (l : CL) (H : Hp) : Prop := ∀ b v, l.lookup b = some v → H b = some (CellO b v)
theorem Stand.ext {l : CL} {H H' : Hp} (s : Stand l H) (e : ExtN H H') : Stand l H' := fun b v q => e b _ (s b v q) cellO_ne.2.2.2
theorem Stand.same {l : CL} {H H' : Hp} (s : Stand l H) (e : Same H H') : Stand l H' := fun b v q => e b _ (s b v q)
theorem Stand.cases {l : CL} {H : Hp} (s : Stand l H) {b : Addr} {o : HO} (e : H b = some o) : (∃ v, l.lookup b = some v ∧ o = CellO b v) ∨ (l.lookup b = none ∧ era l H b = some o) := by
  cases q : l.lookup b with
  | some v => exact .inl ⟨v, rfl, Option.some.inj (e.symm.trans (s b v q))⟩
  | none => exact .inr ⟨rfl, (era_no q).trans e⟩
theorem Stand.tup {l : CL} {H : Hp} (s : Stand l H) {b : Addr} {xs : List V} (e : H b = some (.tup xs)) : era l H b = some (.tup xs) := by
  rcases s.cases e with ⟨v, _, z⟩ | ⟨_, z⟩
  · exact absurd z.symm (cellO_ne.2.1 xs)
  · exact z
theorem Stand.frz {l : CL} {H : Hp} (s : Stand l H) {b : Addr} {o : Obj} {u : HO} (e : H b = some (.frz o u)) : era l H b = some (.frz o u) := by
  rcases s.cases e with ⟨v, _, z⟩ | ⟨_, z⟩
  · exact absurd z.symm (cellO_ne.2.2.1 o u)
  · exact z
/-- the heap with the cells goes on as the one without them does -/
theorem Stand.on {l : CL} {H H2 : Hp} (s : Stand l H) (e : Same (era l H) H2) : Same H (RH.lay l H2) := fun b o q => by
  rcases s.cases q with ⟨v, z, rfl⟩ | ⟨z, y⟩
  · exact lay_in z
  · exact (lay_no z).trans (e b o y)
theorem Stand.hok {P : Program} {w : World} {l : CL} {H : Hp} {h : Heap} (s : Stand l H) (k : HOk P w H h) : HOk P w (era l H) h := fun a o e => by
  cases q : l.lookup a with
  | some v =>
    rw [era_in q] at e
    cases e
  | none =>
    rw [era_no q] at e
    refine (k a o e).stay (fun _ _ _ z => z) (fun b z => ?_) fun b xs z => s.tup z
    rcases s.cases z with ⟨v, _, y⟩ | ⟨_, y⟩
    · exact absurd y.symm (cellO_ne.1 a)
    · exact y
/-- what a lambda caught, and where -/
structure Cap (F : LF) (fr : List Str) (ws : List V) (l : CL) : Prop where
  len : ws.length = fr.length
  all : ∀ y c, F.cl.lookup y = some c → ∃ v, l.lookup c = some v
  inj : ∀ x y c, F.cl.lookup x = some c → F.cl.lookup y = some c → x = y
  has : ∀ (i : Nat) (y : Str), fr[i]? = some y → ∃ c, F.cl.lookup y = some c ∧ ∀ v, ws[i]? = some v → l.lookup c = some v
/-- the lambda at f stands, with its code and its cells -/
structure LiveK (f : Addr) (F : LF) (l : CL) (H : Hp) : Prop where
  fn : H f = some (FnL f F)
  code : H F.c = some (CodeO F.c F.qual)
  st : Stand l H
theorem LiveK.same {f : Addr} {F : LF} {l : CL} {H H' : Hp} (k : LiveK f F l H) (e : Same H H') : LiveK f F l H' := ⟨e _ _ k.fn, e _ _ k.code, k.st.same e⟩
theorem LiveK.ext {f : Addr} {F : LF} {l : CL} {H H' : Hp} (k : LiveK f F l H) (e : ExtN H H') : LiveK f F l H' := ⟨e _ _ k.fn (fun ps => fnL_ne ps), e _ _ k.code (fun ps => codeO_ne ps), k.st.ext e⟩
/-! ### a body that ends with a return, its names kept -/
end RH
set_option Elab.async false
set_option linter.all false
set_option maxRecDepth 100000
set_option maxHeartbeats 2000000
/-! A walk over zip of a tuple and a list. -/
set_option Elab.async false
set_option linter.all false
set_option maxRecDepth 100000
set_option maxHeartbeats 2000000
/-! Defs and methods that may raise, lambdas handed back that are called without arguments and may raise, what an except suite asks of its error. -/
namespace RH
open PySem PySem.Spec PyProof.Rows L2
open LamX (Tabs TabS TabB ExtN CodeO codeO_ne)
open NdefX (NF CellsAt NScope startF ncx codeO_at slotAt Caps cells_of)
/-! ### a lambda that was handed back, called without arguments -/
/-! ### what an except suite asks of its error -/
/-! ### list.count of flat things -/
/-- what leaves a def that may raise -/
theorem passE {P : Program} {w : World} {K : PySem.W.Frag} {mg : Str → Option Value} {base : Heap} {N : List Str} {qual : Str} {scope : Scope} {f : Addr} {cd : Value} {A : Around} {outer : List Env} {s : Shared} {H : Hp} {E : XK} :
    Passes (L2.CX P w) (cxOf (L2.CX P w) P w K mg base N qual scope f cd A outer s H E) E := passes_call (W := fun cls d _ H => E cls d H) (takes_of rfl rfl rfl rfl) (fun _ _ _ _ h => h)
theorem takesE {P : Program} {w : World} {K : PySem.W.Frag} {mg : Str → Option Value} {base : Heap} {N : List Str} {qual : Str} {scope : Scope} {f : Addr} {cd : Value} {A : Around} {outer : List Env} {s : Shared} {H : Hp} {E : XK} :
    Takes (cxOf (L2.CX P w) P w K mg base N qual scope f cd A outer s H E) (fun cls d _ H => E cls d H) := takes_of rfl rfl rfl rfl
end RH
set_option Elab.async false
set_option linter.all false
set_option maxRecDepth 100000
set_option maxHeartbeats 4000000
/-! own errors whose __init__ asks super().__init__ first -/
namespace L2
open PySem PySem.Calls PySem.Spec PyProof.Rows PySem.W
open NdefX (NScope NF CellsAt startF ncx envF inv_startN)
section
variable {X : Cx} {pins : List (Addr × Obj)} {σ : St} {H : Hp} {s : Shared} {a C u : Addr} {E : Value → Shared → Prop} {A : Around}
/-- the bound ValueError.__init__ is called: nothing of it is told -/
theorem call_mw {us : List Value} {Q : Value → Shared → Prop} (T : OexC X.K C) (I : Inv X pins σ H s) (hu : s.heap.get? u = some (kxs_mw "ValueError.__init__" a)) (e : H a = some (exo a C none)) (hl : us.length ≤ sizeLine) (h : ∀ s', Inv X pins σ H s' → Q .none s') :
    wpAny (model X.prog X.w) A (call (.ref u) us) Q E s := by
  obtain ⟨nm, q, N, bs, bm, sn, sub, ab, col, dd, k0, k1, k2, k3, k5, hC, hbm⟩ := T.cls
  obtain ⟨t1, ho⟩ := exo_at I.hok e
  obtain ⟨hp, g, d, t, os⟩ := s
  refine wpAny_call (codeAny_of_tree ?_)
  show wpAny _ A.in1 (callAny (.ref u) ⟨us, []⟩) _ _ _
  simp only [callAny]
  refine wpAny_bind (wpAny_load hu ?_)
  simp only [kxs_mw, show (Value.type "method-wrapper" == Value.type "method" || Value.type "method-wrapper" == Value.type "builtin_function_or_method" || Value.type "method-wrapper" == Value.type "method-wrapper") = true by decide, if_true]
  refine KFB.if_so (by decide) ?_
  refine wpAny_bind (check_bound_init PySem.F.excBase_ValueError.toExcCallFacts (I.kIn _ _ hC) ho rfl ?_)
  refine wpAny_bind (wpAny_pure (wpAny_pure ?_))
  refine ⟨plainId_quiet PySem.F.excBase_ValueError.init.plain _, codeAny_builtin PySem.F.excBase_ValueError.initEntry ?_⟩
  refine exc_init_tree (cls := .ref C) (t0 := t1) (dv := none) (c2 := .none) (c3 := .none) (b4 := .bool false) ho hl fun h' k hx _ => ?_
  have J := I.write (t' := t) (x := a) (e := a) (o := exo a C none) (by rw [e]; exact True.intro) (.inl rfl) k ⟨_, hx⟩ (exo_ok hx)
  have eu : upd H a (exo a C none) = H := by
    funext b
    by_cases hb : b = a
    · rw [hb, upd_same, e]
    · rw [upd_ne hb]
  rw [eu] at J
  exact h _ J
end
theorem mw_args {M : Model} {i : String} {a u : Addr} {s : Shared} {A : Around} {E : Value → Shared → Prop} {pos : Pos} {env : Env} {e : Expr} {es : List Expr} {Q : Value → Shared → Prop}
    (h : wpAny M A (spliced (backTo pos (starEach (e :: es) env))) (fun vs s₁ => KxsAt i u a s₁.heap ∧ wpAny M A (call (.ref u) vs) Q E s₁) E s)
    (he : starEach (e :: es) env = (false, eval e env) :: starEach es env) (hp : (backTo pos (starEach es env)).any (·.1) = false) : wpAny M A (callWith pos (.ref u) [] (backTo pos (starEach (e :: es) env)) []) Q E s := by
  rw [he] at h ⊢
  exact kxs_callWith (i := i) (x := a) (by show (false || (backTo pos (starEach es env)).any (·.1)) = false; rw [hp]; rfl) (evalArgs_plain h)
/-- the class C with an own __init__ that asks super().__init__ first -/
structure SupC (P : Program) (K : Frag) (mg : Str → Option Value) (C : Addr) (qual : Str) (st : Stmt) (f : Addr) (fd : FuncData) (cc cda : Addr) : Prop where
  t : OexC K C
  ex : ∃ (oc : Value) (od : Option Addr) (kV doc pm : Value) (an : Option Addr) (ct : Value) (osl : Array (Option Value)), fd = fnX "__init__" qual (defArgs st) (defBody st) (defScope st) [("__class__", cc)] .none kV doc pm an (.ref cda) ct ∧ K.lookup f = some ⟨oc, od, .func fd, osl⟩
  code : codeIn K (.ref cda) qual = true
  rec_ : ∃ (ccl : Value) (cdd : Option Addr) (vs : Array Value) (ccs : Array (Option Value)) (file : Str) (tf : Tok), K.lookup cda = some ⟨ccl, cdd, .fields vs, ccs⟩ ∧ vs[2]? = some (.str file tf) ∧ ((P.main.file : Str) == file) = true
  cell : ∃ (cl : Value) (cld : Option Addr) (csl : Array (Option Value)), K.lookup cc = some ⟨cl, cld, .cell (some (.ref C)), csl⟩
  mro : mroIn K C (.ref C) = some true
  any : nsIn K cStatics "thirdparty.any" = some none
  sup : ks_superIn K C C "__init__" = some (some (.builtin "ValueError.__init__"))
  ve : subIn K (.ref C) (.type "ValueError") = some true
  gs : mg "super" = none
  top : (P.main.scope.names.lookup ("super" : Str)).isSome = false
def supF (qual : Str) (st : Stmt) (cc cda : Addr) : NF := ⟨"__init__", qual, defArgs st, defBody st, defScope st, [("__class__", cc)], cda⟩
section
variable {P : Program} {w : World} {K : Frag} {mg : Str → Option Value} {base : Heap}
theorem fn_super {pl : Env → Sem Bool} {CX : CXT} {N ps : List Str} {k : Nat} {sp : Sp} {C f cc cda : Addr} {fd : FuncData} {qual self : Str} {st : Stmt} {rest : List Stmt} {e : Expr} {es : List Expr} {p0 p1 p2 p3 p4 : Pos} {ar : Arg} (M : SupC P K mg C qual st f fd cc cda) (S : NScope N ps ["__class__"] (defScope st))
    (hps : ps[0]? = some self) (har : ((defArgs st).posonlyargs ++ (defArgs st).args).head? = some ar) (hse : ar.arg = self) (hks : (defScope st).names.lookup ("super" : Str) = some .globalImplicit)
    (hb0 : defBody st = .Expr (.Call (.Attribute (.Call (.Name "super" p0) [] [] p1) "__init__" p2) (e :: es) [] p3) p4 :: rest) (len : ∀ vs H Q E, sp vs H Q E → vs.length = ps.length)
    (hbody : ∀ (A : Around) (outer : List Env) (s : Shared) (H : Hp) (vs : List V) (Q : VK) (E : XK), Room k (A.deeper (envF (supF qual st cc cda) f s.heap.objs.size)) → sp vs H Q E →
      ∃ (a : Addr) (ta : TA) (t : TS), vs[0]? = some (.ref a) ∧ H a = some (exo a C none) ∧ PA (ncx CX P w K mg base N (supF qual st cc cda) f A outer s H E) (e :: es) ta ∧ PSs (ncx CX P w K mg base N (supF qual st cc cda) f A outer s H E) rest t ∧
        ta (startF N vs [some (.ref C)]) H (fun us H1 => us.length ≤ 1000 ∧ H1 a = some (exo a C none) ∧ t { nx := fun _ H' => Q .non H', rt := Q } (startF N vs [some (.ref C)]) H1))
    (he : ∀ env, starEach (e :: es) env = (false, eval e env) :: starEach es env := by intro _; rfl) (hpl : ∀ env, (backTo p3 (starEach es env)).any (·.1) = false := by intro _; rfl)
    (hev : ∀ env : Env, eval (.Call (.Attribute (.Call (.Name "super" p0) [] [] p1) "__init__" p2) (e :: es) [] p3) env = (do
      let ov ← attributeBase (.Call (.Name "super" p0) [] [] p1) "__init__" env (eval (.Call (.Name "super" p0) [] [] p1) env)
      standAt p2.atName
      let (f, first) ← holding [ov] (getMethod ov "__init__" (pl env))
      callWith p3 f first (backTo p3 (starEach (e :: es) env)) []) := by intro _; rfl)
    (hsw : ∀ env, swapsWith (.Call (.Attribute (.Call (.Name "super" p0) [] [] p1) "__init__" p2) (e :: es) [] p3) none p4.line env = pure false := by intro _; rfl) :
    FnOk P w K mg base CX (k + 1) f fd ps sp := by
  obtain ⟨oc, od, kV, doc, pm, an, ct, osl, efd, lk⟩ := M.ex
  obtain ⟨ccl, cdd, fvs, ccs, file, tf, hcode, hvs, hfile⟩ := M.rec_
  obtain ⟨cl, cld, csl, hcell⟩ := M.cell
  obtain ⟨nm, qn, Nn, bs, bm, sn, sub, ab, col, dd, k0, k1, k2, k3, k5, hC, hbm⟩ := M.t.cls
  subst efd
  refine ⟨len, fun A outer s H args us vs Q E hr e0 hb r hsp => ?_⟩
  have hl := len _ _ _ _ hsp
  have KX : K.In s.heap := e0.mod.kin.keeps fun b o e => (e0.bs b o e).1
  have lim : s.heap.NoLimit := e0.mod.nolimit.keeps fun b o e => (e0.bs b o e).1
  have kH : ∀ b o, K.lookup b = some o → H b = none := fun b o e => (e0.bs b o (e0.mod.kin _ _ e)).2
  have hkc : (defScope st).names.lookup ("__class__" : Str) = some .free := S.frk _ (List.mem_singleton.mpr rfl)
  have CA : CellsAt (supF qual st cc cda).cl ["__class__"] [some (.ref C)] s.heap H := by
    have one : ∀ y c, ([("__class__", cc)] : List (Str × Addr)).lookup y = some c → y = ("__class__" : Str) ∧ c = cc := fun y c e => by
      have := PySem.mem_of_lookup e
      obtain ⟨rfl, rfl⟩ := Prod.mk.inj (List.mem_singleton.mp this)
      exact ⟨rfl, rfl⟩
    have ic : s.heap.IsCell cc (some (.ref C)) := ⟨_, KX _ _ hcell, rfl⟩
    refine ⟨rfl, fun y c e => ?_, fun x y c e1 e2 => (one x c e1).1.trans (one y c e2).1.symm, fun i y hi => ?_⟩
    · obtain ⟨_, rfl⟩ := one y c e
      exact ⟨kH _ _ hcell, _, ic⟩
    · match i, hi with
      | 0, hi =>
        cases Option.some.inj hi
        refine ⟨cc, by show ([("__class__", cc)] : List (Str × Addr)).lookup ("__class__" : Str) = some cc; rw [List.lookup_cons]; simp, fun v hv => ?_⟩
        cases Option.some.inj (Option.some.inj hv)
        exact ⟨_, rfl, ic⟩
      | i + 1, hi => simp at hi
  refine ks_codeAny_call_defAt (body := defBody st) (binds := ps.zip us) hr.depth (KX _ _ lk) rfl lim (codeRec_of KX M.code) rfl hb S.nocell (fun ⟨n, _⟩ hy => S.par n (List.of_mem_zip hy).1) (fun h₁ hns kp => ?_) S.co S.gen S.kind
  show _root_.PySem.wpAt _ (A.deeper (envF (supF qual st cc cda) f s.heap.objs.size)) (.func (defBody st) (envF (supF qual st cc cda) f s.heap.objs.size)) (execs (defBody st) (envF (supF qual st cc cda) f s.heap.objs.size)) _ _ _
  obtain ⟨a, ta, t, hv0, ha0, hA, ht, hT⟩ := hbody A outer s H vs Q E (hr.deeper _) hsp
  have I : Inv (ncx CX P w K mg base N (supF qual st cc cda) f A outer s H E) [] (startF N vs [some (.ref C)]) H { s with heap := h₁, toks := s.toks + (ps.zip us).length } := inv_startN S hr.hd e0 hl r CA hns kp
  have hx := r.get hv0
  obtain ⟨ux, hux, rx⟩ := hx
  obtain rfl : ux = Value.ref a := rx
  have ndP : ps.Nodup := by
    have q := S.nd.sublist (List.take_sublist (ps.length + (["__class__"] : List Str).length) N)
    rw [S.pre] at q
    exact (List.nodup_append.mp q).1
  have hself : (ps.zip us).reverse.lookup self = some (Value.ref a) := NdefX.zip_look ndP hps hux
  have hka : (defScope st).names.lookup self = some .local := S.par self (List.mem_of_getElem? hps)
  have K1 : K.In h₁ := KX.keeps kp
  have hD1 := K1 _ _ hC
  obtain ⟨t1, hxo⟩ := exo_at I.hok ha0
  have hcl : clsIn K C = some { name := nm, bases := bs, mro := .ref C :: bm, ns := Nn, qualname := qn, hasDict := true, slotNames := sn, subclasses := sub, abstract := ab, collection := col, hasDel := false } := by unfold clsIn; rw [hC] <;> rfl
  have hsup := M.sup
  unfold ks_superIn at hsup
  rw [hcl, Option.bind_some] at hsup
  have IA : InstAt h₁ a { cls := .ref C, dict := none, data := .fields #[.ref t1, .none, .none, .none, .bool false, .none] } C none := ⟨hxo, rfl, rfl, trivial⟩
  rw [hb0]
  refine ks_wpAt_execs_cons (ks_wpAt_Expr_any (ks_wpAt_MethodCall ?_ (hev _)) I.quiet (hsw _))
  refine ks_wpAt_super_base (env := envF (supF qual st cc cda) f s.heap.objs.size) hks hkc (by decide) rfl (K1 _ _ lk) rfl har rfl (K1 _ _ hcode) rfl hvs hfile M.top ?_
  obtain ⟨mb, h1, h2⟩ := I.mod.blt
  refine ks_loadName_global S.kind hks (loadGlobal_builtin (I.mod.glob.keeps I.bk) M.gs (h1.keeps I.bk) ((h2 "super" (by decide)).trans (by first | boot_by_name | rfl | kernel_rfl)) ⟨rfl, ?_⟩)
  refine wpAny_loadName_free S.kind hkc (by show ([("__class__", cc)] : List (Str × Addr)).lookup ("__class__" : Str) = some cc; rw [List.lookup_cons]; simp) ⟨_, K1 _ _ hcell, rfl⟩ ?_
  rw [hse]
  refine wpAny_loadName_local S.kind hka hns hself ?_
  refine ks_wpAny_isType_cls hD1 rfl ⟨rfl, ?_⟩
  refine ks_wpAny_call_super hD1 rfl hxo rfl (fun c z => nomatch z) (looks_mroIn K1 M.mro) (fun h2 eso k2 => ?_)
  have I1 := I.kept (t' := s.toks + (ps.zip us).length) k2
  have K2 : K.In h2 := K1.keeps k2
  have IA2 : InstAt h2 a { cls := .ref C, dict := none, data := .fields #[.ref t1, .none, .none, .none, .bool false, .none] } C none := ⟨k2 _ _ hxo, rfl, rfl, trivial⟩
  have hI : Looks (model P w) h2 (isInstance (.ref a) (.type "ValueError")) true := IA2.type.andThen (looks_subIn K2 M.ve)
  refine kxs_getMethod kxs_ValueError eso (looks_opaque K2 M.any) (l₀ := .ref C :: bm) ?_ rfl K2 hsup hI (ks_ne K1 IA hcl) (by decide) ?_
  · exact fun A Q E s k q => wpAny_bind ((looks_clsIn K2 hcl) A _ E s k (wpAny_pure q))
  have k3 : ∀ b o, h2.get? b = some o → (h2.push (kxs_mw "ValueError.__init__" a)).get? b = some o := fun b o e => Heap.get?_push_of_some _ e
  have I2 := I1.kept (t' := s.toks + (ps.zip us).length + 1) k3
  have hu : (h2.push (kxs_mw "ValueError.__init__" a)).get? h2.objs.size = some (kxs_mw "ValueError.__init__" a) := Heap.get?_push_at rfl rfl
  have I3 : Inv (ncx CX P w K mg base N (supF qual st cc cda) f A outer s H E) [(h2.objs.size, kxs_mw "ValueError.__init__" a)] (startF N vs [some (.ref C)]) H _ := I2.pins_of fun p hp => by
    rw [List.mem_singleton.mp hp]
    exact ⟨hu, I1.hok.fresh (Nat.le_refl _), (Nat.ne_of_lt I1.lt).symm, I1.nofs (Nat.le_refl _), fun v z => nomatch z⟩
  refine mw_args (i := "ValueError.__init__") (a := a) ?_ (he _) (hpl _)
  refine thn (hA.run p3 [(h2.objs.size, kxs_mw "ValueError.__init__" a)] _ (startF N vs [some (.ref C)]) H _ I3 hT) fun us1 s1 ⟨vs1, H1, J, r1, hl1, ha1, q1⟩ => ?_
  have hu1 : s1.heap.get? h2.objs.size = some (kxs_mw "ValueError.__init__" a) := (J.pin _ (List.mem_append_right _ (List.mem_singleton.mpr rfl))).1
  refine ⟨hu1, call_mw M.t J hu1 ha1 (by rw [← Paired.length r1, sizeLine_eq]; omega) fun s2 J2 => ?_⟩
  have J3 : Inv (ncx CX P w K mg base N (supF qual st cc cda) f A outer s H E) [] (startF N vs [some (.ref C)]) H1 s2 := J2.pins_of fun p hp => absurd hp (by simp)
  refine wpAt_of_wpAny (wpAny_mono (ht.run [] s2 (startF N vs [some (.ref C)]) H1 _ J3 q1) (fun fl s' hs => ?_) fun e s' hs => hs)
  have fin : ∀ {σ' : L2.St} {H' : Hp} {v : V} {u : Value}, Inv (ncx CX P w K mg base N (supF qual st cc cda) f A outer s H E) [] σ' H' s' → L2.RelV v u → Q v H' → CE outer P w H s Q u s' :=
    fun {σ' H' v u} J rv q => ⟨v, H', J.os, J.bare, J.base, J.hok, rv, q⟩
  cases fl with
  | ret u =>
    obtain ⟨v, σ', H', J, rv, q⟩ := hs
    exact fin J rv q
  | next =>
    obtain ⟨σ', H', J, q⟩ := hs
    exact fin (v := V.non) (u := Value.none) J rfl q
  | brk =>
    obtain ⟨_, _, _, q⟩ := hs
    exact False.elim q
  | cont =>
    obtain ⟨_, _, _, q⟩ := hs
    exact False.elim q
end
end L2
/-! ### isinstance of an error with a dict -/
namespace PySem.W
open PySem PySem.Spec PySem.Calls PyProof.Rows
end PySem.W
namespace L2
open PySem PySem.Spec PyProof.Rows
/-! ### f-strings with None -/
def tFmtN (te : TE) : TE := fun σ H Q => te σ H fun x H1 => (x = .non ∧ Q (.str "None") H1) ∨ ∃ i : Int, x = .int i ∧ i.natAbs.log2 < 1920 ∧ Q (.str (toString i)) H1
theorem pe_fmtN {X : Cx} {e : Expr} {te : TE} {pos : Pos} (he : PE X e te) : PE X (.FormattedValue e (-1) none pos) (tFmtN te) := by
  refine ⟨fun pins s σ H Q I h => ?_⟩
  refine wpAny_FormattedValue_plain (thn (he.run pins s σ H _ I h) fun v s1 hv => ?_)
  obtain ⟨x, H1, I1, r1, q⟩ := hv
  rcases q with ⟨rfl, q⟩ | ⟨i, rfl, hz, q⟩
  · obtain rfl : v = Value.none := r1
    exact wpAny_formatField_none ⟨.str "None", H1, I1.tok _, ⟨_, rfl⟩, q⟩
  · obtain ⟨t, rfl⟩ := r1
    exact wpAny_formatField_int hz ⟨.str (toString i), H1, I1.tok _, ⟨_, rfl⟩, q⟩
end L2
set_option Elab.async false
set_option linter.all false
set_option maxRecDepth 100000
set_option maxHeartbeats 2000000
/-! Sets of ints, made of a list, of a display, of a comprehension; the tuple of a dict's keys. -/
namespace RH
open PySem PySem.Spec PyProof.Rows L2
/-! ### the tuple of a dict's keys -/
/-! ### a set display of two ints -/
/-! ### set(xs) of a list of ints -/
section
variable {M : Program} {w : World} {A : Around} {E : Value → Shared → Prop} {s : Shared}
/-- what a new set is -/
abbrev bare (w : World) : Obj := { cls := .type "set", dict := none, data := .set #[] 0 (.fresh 0 0 (!w.params.followText "set-order")) }
end
end RH
set_option Elab.async false
set_option linter.all false
set_option maxRecDepth 100000
set_option maxHeartbeats 2000000
/-! A set comprehension whose members are ints. -/
set_option Elab.async false
set_option linter.all false
set_option maxRecDepth 100000
set_option maxHeartbeats 2000000
/-! Lambdas with a default, as values that a def of the text calls without arguments, and that may raise. -/
set_option Elab.async false
set_option linter.all false
set_option maxRecDepth 100000
set_option maxHeartbeats 2000000
/-! try with several except clauses, each with a name. -/
namespace RH
open PySem PySem.Spec PyProof.Rows L2
/-- an error of class cls that has come to the try of X, at the heap h -/
structure Caught (X : Cx) (pins : List (Addr × Obj)) (a : Addr) (cls : Value) (d : Option Addr) (σ : L2.St) (H : Hp) (s : Shared) : Prop where
  ex : ∃ (B : Heap) (sI : Shared), Inv X pins σ H sI ∧ (∀ b o, sI.heap.get? b = some o → b ∉ frs X.stack → B.get? b = some o) ∧ sI.heap.UpToSlots s.heap ∧ HandSPX.FlyingZ B (X.env :: X.outer) a (Zc cls d) s.heap ∧ s.os = sI.os ∧ AllBare s.gens
  na : H a = none
section
variable {X : Cx} {pins : List (Addr × Obj)} {a : Addr} {cls : Value} {d : Option Addr} {σ : L2.St} {H : Hp} {s : Shared}
/-- no clause takes it -/
theorem Caught.on {W : WX} {D : Ends} (c : Caught X pins a cls d σ H s) (hs : X.stack = X.env :: X.outer) (hf : X.env.frame = some X.env.locals) (tk : Takes X W) (w : W cls d σ H) : wpAny (model X.prog X.w) X.A (handleBy (.ref a) X.env []) (SP X pins D) X.xe s := by
  obtain ⟨B, sI, I, nb, up, fl, os, ag⟩ := c.ex
  refine wpAny_handleBy_nil ?_
  obtain ⟨_, _, _, oe, vs, T, oT, ts, at_, z, dat, one, _⟩ := id fl
  unfold PySem.passOn
  refine wpAny_bind (wpAny_field at_ dat one ?_)
  rw [if_neg (by simp : ¬ ((Value.ref T == Value.none) = true)), hf]
  have out : wpAny (model X.prog X.w) X.A (setFlight (.ref a) (some X.env.locals)) (fun _ s4 => wpAny (model X.prog X.w) X.A (throw (.ref a) : Sem Flow) (SP X pins D) X.xe s4) X.xe s :=
    HandSPX.setFlight_upZ fl fun h4 hh up4 => wpAny_throw (tk _ _ ⟨a, B, sI, pins, σ, H, cls, d, rfl, I, nb, up.trans up4, .inr (.inr (hs ▸ hh)), c.na, os, ag, w⟩)
  first
    | exact wpAny_bind (wpAny_pure (wpAny_bind out))
    | exact wpAny_bind out
end
end RH
set_option Elab.async false
set_option linter.all false
set_option maxRecDepth 100000
set_option maxHeartbeats 2000000
/-! sorted(range(n), key=f) and sorted(xs, key=f), f a lambda that may see names of the def; tuple.count. -/
namespace RH
open PySem PySem.Spec PyProof.Rows L2
/-! ### keys that stay -/
section
variable {K : PySem.W.Frag} {H H' : Hp}
theorem rdUp (e : Same H H') {b : Addr} {o : HO} (r : Rd H b o) : Rd H' b o := r.elim (fun z => .inl (e _ _ z)) fun ⟨ob, z⟩ => .inr ⟨ob, e _ _ z⟩
theorem keyUp (e : Same H H') {v : V} {d : PyData} (h : Dp K H v d) : Dp K H' v d :=
  Dp.rec (motive_1 := fun v d _ => Dp K H' v d) (motive_2 := fun vs ds _ => DpAll K H' vs ds) .non .bl .int .str (fun hs _ t => .lst (hs.imp_left (rdUp e)) t) (fun hs _ t => .tup (hs.imp_left (rdUp e)) t) .nil (fun _ _ a b => .cons a b) h
end
/-- the keys made so far: for each value a V, and its data -/
inductive KeysOk (K : PySem.W.Frag) (H : Hp) : List Value → List PyData → Prop
  | nil : KeysOk K H [] []
  | cons {u : Value} {us : List Value} {d : PyData} {ds : List PyData} (v : V) : RelV v u → Dp K H v d → KeysOk K H us ds → KeysOk K H (u :: us) (d :: ds)
section
variable {K : PySem.W.Frag} {H H' : Hp} {us : List Value} {ds : List PyData}
theorem KeysOk.up (e : Same H H') (k : KeysOk K H us ds) : KeysOk K H' us ds := by
  induction k with
  | nil => exact .nil
  | cons v r h _ ih => exact .cons v r (keyUp e h) ih
theorem KeysOk.more {u : Value} {d : PyData} {v : V} (k : KeysOk K H us ds) (r : RelV v u) (h : Dp K H v d) : KeysOk K H (us ++ [u]) (ds ++ [d]) := by
  induction k with
  | nil => exact .cons v r h .nil
  | cons v' r' h' _ ih => exact .cons v' r' h' ih
theorem KeysOk.size (k : KeysOk K H us ds) : us.length = ds.length := by
  induction k with
  | nil => rfl
  | cons _ _ _ _ ih => rw [List.length_cons, List.length_cons, ih]
theorem KeysOk.each {X : Cx} {pins : List (Addr × Obj)} {σ : L2.St} {s : Shared} (I : Inv X pins σ H s) (k : KeysOk X.K H us ds) : PySem.W.EachIs (fun u d => ∃ as, Reads s.heap u d as) us ds := by
  induction k with
  | nil => exact .nil
  | cons v r h _ ih => exact .cons (Dp.reads I _ _ _ h r) ih
end
/-- f gives the key kd x of each item x, from any state that has come since H -/
def KeyAt (X : Cx) (A : Around) (σ : L2.St) (f : Addr) (H : Hp) (xs : List V) (kd : V → PyData) : Prop :=
  ∀ (pins : List (Addr × Obj)) (H' : Hp) (s : Shared) (x : V) (u : Value), Inv X pins σ H' s → Same H H' → x ∈ xs → RelV x u →
    wpAny (model X.prog X.w) A (call (.ref f) [u]) (EP X pins σ fun v H2 => Dp X.K H2 v (kd x) ∧ Same H' H2) (fun _ _ => False) s
theorem pin_get {X : Cx} {pins : List (Addr × Obj)} {σ : L2.St} {H : Hp} {s : Shared} {h : Heap} {fp : List Addr} (I : Inv X (pins ++ pinsAt fp h) σ H s) {b : Addr} {o : Obj} (hb : b ∈ fp) (e : h.get? b = some o) : s.heap.get? b = some o ∧ H b = none := by
  have q := I.pin (b, o) (List.mem_append_right _ (List.mem_append_right _ (mem_pinsAt hb e)))
  exact ⟨q.1, q.2.1⟩
/-! ### list.sort(key=f) over a list of our own -/
section
variable {X : Cx} {A : Around} {pins : List (Addr × Obj)} {σ : L2.St} {H : Hp} {a kS f : Addr} {xs : List V} {kd : V → PyData} {e1 : Nat}
theorem fp_from {H' : Hp} {b : Addr} (h : FpOk X pins H b) (n : H' b = none) : FpOk X pins H' b := ⟨n, h.2⟩
/-- while the keys are made: the list is empty, the keys so far are kept beside -/
structure Making (X : Cx) (pins : List (Addr × Obj)) (σ : L2.St) (H : Hp) (a kS : Addr) (e1 : Nat) (ds : List PyData) (H' : Hp) (ks : Array Value) (e : Nat) (s : Shared) : Prop where
  inv : Inv X pins σ H' s
  same : Same H H'
  na : H' a = none
  nk : H' kS = none
  la : s.heap.get? a = some (seqObj "list" #[] e1)
  lk : s.heap.get? kS = some (seqObj "list" ks e)
  ok : KeysOk X.K H' ks.toList ds
theorem seq_nocell {t : String} {vs : Array Value} {n : Nat} : ∀ v, (seqObj t vs n).data ≠ .cell v := fun v z => by cases z
theorem Making.call {ds : List PyData} {H' : Hp} {ks : Array Value} {e : Nat} {s : Shared} {x : V} {u : Value} (M : Making X pins σ H a kS e1 ds H' ks e s) (fa : FpOk X pins H a) (fk : FpOk X pins H kS) (hK : KeyAt X A σ f H xs kd) (hx : x ∈ xs) (r : RelV x u) :
    wpAny (model X.prog X.w) A (call (.ref f) [u]) (fun w s2 => ∃ H2 v, Making X pins σ H a kS e1 ds H2 ks e s2 ∧ RelV v w ∧ Dp X.K H2 v (kd x)) (fun _ _ => False) s := by
  have J : Inv X (pins ++ pinsAt [a, kS] s.heap) σ H' s := M.inv.pinned (fun b hb => ?_) fun b hb => ?_
  · refine wpAny_mono (hK _ H' s x u J M.same hx r) (fun w s2 ⟨v, H2, I2, rv, dv, sm⟩ => ?_) fun _ _ z => z
    obtain ⟨ga, ha⟩ := pin_get I2 (List.Mem.head _) M.la
    obtain ⟨gk, hk⟩ := pin_get I2 (List.Mem.tail _ (List.Mem.head _)) M.lk
    exact ⟨H2, v, ⟨I2.unpinned, M.same.trans sm, ha, hk, ga, gk, M.ok.up sm⟩, rv, dv⟩
  · rcases List.mem_cons.mp hb with rfl | hb
    · exact fp_from fa M.na
    · rw [List.mem_singleton.mp hb]
      exact fp_from fk M.nk
  · rcases List.mem_cons.mp hb with rfl | hb
    · exact ⟨_, M.la, seq_nocell⟩
    · rw [List.mem_singleton.mp hb]
      exact ⟨_, M.lk, seq_nocell⟩
theorem Making.push {ds : List PyData} {H' : Hp} {ks : Array Value} {e : Nat} {s : Shared} {w : Value} {v : V} {d : PyData} (M : Making X pins σ H a kS e1 ds H' ks e s) (fk : FpOk X pins H kS) (hka : kS ≠ a) (rv : RelV v w) (dv : Dp X.K H' v d) :
    ∃ e', Making X pins σ H a kS e1 (ds ++ [d]) H' (ks.push w) e' { s with heap := s.heap.update kS (Obj.mapSeq (·.push w)) } := by
  have apart := Heap.SameBut.update s.heap kS (Obj.mapSeq (·.push w))
  refine ⟨_, M.inv.turned (t' := s.toks) (it := kS) (fun b o hb z => (apart.2 b hb).trans z) M.nk fk.2.1 fk.2.2.2.1 fk.2.2.2.2.1 fk.2.2.2.2.2, M.same, M.na, M.nk, (apart.2 a hka.symm).trans M.la, get?_update_seq M.lk (·.push w), ?_⟩
  rw [Array.toList_push]
  exact M.ok.more rv dv
end
/-! ### sorted(.., key=f) -/
/-! ### ranges of one bound, tuple.count -/
end RH
set_option Elab.async false
set_option linter.all false
set_option maxRecDepth 100000
set_option maxHeartbeats 2000000
/-! t[::-1] of a tuple; list(range(a, b, -1)). -/
set_option Elab.async false
set_option linter.all false
set_option maxRecDepth 100000
set_option maxHeartbeats 2000000
/-! Dicts whose keys are tuples within tuples. A state is told by a list of ints; κ says which nested key that is. -/
namespace RH
open PySem PySem.Spec PyProof.Rows L2
/-- nested keys, as lists of ints -/
structure KyF where
  key : List Int → NestedKey
  inj : ∀ s t, key s = key t → s = t
  deep : ∀ s, (key s).depth ≤ 8
mutual
/-- the value is this key -/
inductive NK (H : Hp) : V → NestedKey → Prop
  | non : NK H .non .none
  | int (i : Int) : NK H (.int i) (.num i)
  | str (x : Str) : NK H (.str x) (.text x)
  | tup {a : Addr} {xs : List V} {ks : List NestedKey} : Rd H a (.tup xs) → NKs H xs ks → NK H (.ref a) (.tup ks)
inductive NKs (H : Hp) : List V → List NestedKey → Prop
  | nil : NKs H [] []
  | cons {x : V} {k : NestedKey} {xs : List V} {ks : List NestedKey} : NK H x k → NKs H xs ks → NKs H (x :: xs) (k :: ks)
end
mutual
theorem NK.imp {H H' : Hp} (f : ∀ b xs, Rd H b (.tup xs) → Rd H' b (.tup xs)) : ∀ {v : V} {k : NestedKey}, NK H v k → NK H' v k
  | _, _, .non => .non
  | _, _, .int i => .int i
  | _, _, .str x => .str x
  | _, _, .tup h t => .tup (f _ _ h) (NKs.imp f t)
theorem NKs.imp {H H' : Hp} (f : ∀ b xs, Rd H b (.tup xs) → Rd H' b (.tup xs)) : ∀ {vs : List V} {ks : List NestedKey}, NKs H vs ks → NKs H' vs ks
  | _, _, .nil => .nil
  | _, _, .cons h t => .cons (NK.imp f h) (NKs.imp f t)
end
mutual
theorem NK.is {P : Program} {w : World} {H : Hp} {h : Heap} (ok : HOk P w H h) : ∀ {v : V} {k : NestedKey} {u : Value}, NK H v k → RelV v u → NestedIs h k u
  | _, _, _, .non, r => by
    cases r
    exact .none
  | _, _, _, .int i, r => by
    obtain ⟨t, rfl⟩ := (show ∃ t, _ = Value.int i t from r)
    exact .int i t
  | _, _, _, .str x, r => by
    obtain ⟨t, rfl⟩ := (show ∃ t, _ = Value.str x t from r)
    exact .text x t
  | _, _, _, .tup (a := a) (xs := xs) e t, r => by
    cases r
    obtain ⟨_, its, rv, o, h1, h2, n, h3⟩ := (show ObjOk P w H h a (.tup xs) from e.ok ok)
    exact .tup h1 h2 h3 (by rw [List.toList_toArray]; exact NKs.is ok t rv)
theorem NKs.is {P : Program} {w : World} {H : Hp} {h : Heap} (ok : HOk P w H h) : ∀ {vs : List V} {ks : List NestedKey} {us : List Value}, NKs H vs ks → Vals vs us → NestedAll h ks us
  | _, _, _, .nil, .nil => .nil
  | _, _, _, .cons h t, .cons r rs => .cons (NK.is ok h r) (NKs.is ok t rs)
end
/-- b holds the state s -/
def KS (κ : KyF) (H : Hp) (b : Addr) (s : List Int) : Prop := NK H (.ref b) (κ.key s)
theorem KS.on {κ : KyF} {H H' : Hp} {b : Addr} {s : List Int} (f : ∀ b xs, Rd H b (.tup xs) → Rd H' b (.tup xs)) (h : KS κ H b s) : KS κ H' b s := NK.imp f h
theorem room_in1N {P : Program} {w : World} {A : Around} (hu : A.units + 64 < cLine) : (nestedKind P w).room A.in1 := by
  show A.units + 1 + 8 < cLine
  omega
section
variable {κ : KyF}
inductive XSN (κ : KyF) : List (List Int × V) → List Addr → List (NestedKey × Addr × Value) → Prop
  | nil : XSN κ [] [] []
  | cons {q : List Int × V} {b : Addr} {u : Value} {as : List (List Int × V)} {bs : List Addr} {xs : List (NestedKey × Addr × Value)} : RelV q.2 u → XSN κ as bs xs → XSN κ (q :: as) (b :: bs) ((κ.key q.1, b, u) :: xs)
inductive KBN (κ : KyF) (H : Hp) : List (List Int × V) → List Addr → Prop
  | nil : KBN κ H [] []
  | cons {q : List Int × V} {b : Addr} {as : List (List Int × V)} {bs : List Addr} : KS κ H b q.1 → KBN κ H as bs → KBN κ H (q :: as) (b :: bs)
theorem KBN.snoc {H : Hp} {q : List Int × V} {b : Addr} (h : KS κ H b q.1) : ∀ {as : List (List Int × V)} {bs : List Addr}, KBN κ H as bs → KBN κ H (as ++ [q]) (bs ++ [b])
  | _, _, .nil => .cons h .nil
  | _, _, .cons g t => .cons g (t.snoc h)
theorem KBN.imp {H H' : Hp} (f : ∀ b s, KS κ H b s → KS κ H' b s) : ∀ {as : List (List Int × V)} {bs : List Addr}, KBN κ H as bs → KBN κ H' as bs
  | _, _, .nil => .nil
  | _, _, .cons g t => .cons (f _ _ g) (t.imp f)
theorem XSN.len : ∀ {as : List (List Int × V)} {bs : List Addr} {xs : List (NestedKey × Addr × Value)}, XSN κ as bs xs → xs.length = as.length
  | _, _, _, .nil => rfl
  | _, _, _, .cons _ t => congrArg (· + 1) t.len
theorem XSN.snoc {q : List Int × V} {b : Addr} {u : Value} (h : RelV q.2 u) : ∀ {as : List (List Int × V)} {bs : List Addr} {xs : List (NestedKey × Addr × Value)}, XSN κ as bs xs → XSN κ (as ++ [q]) (bs ++ [b]) (xs ++ [(κ.key q.1, b, u)])
  | _, _, _, .nil => .cons h .nil
  | _, _, _, .cons g t => .cons g (t.snoc h)
theorem atKeyN_pos {x : NestedKey × Addr × Value} {xs : List (NestedKey × Addr × Value)} {k : NestedKey} (e : x.1 = k) : atKey (x :: xs) k = some x.2 := by simp [atKey, List.find?_cons, e]
theorem atKeyN_neg {x : NestedKey × Addr × Value} {xs : List (NestedKey × Addr × Value)} {k : NestedKey} (e : ¬ x.1 = k) : atKey (x :: xs) k = atKey xs k := by simp [atKey, List.find?_cons, e]
theorem XSN.no {s : List Int} : ∀ {as : List (List Int × V)} {bs : List Addr} {xs : List (NestedKey × Addr × Value)}, XSN κ as bs xs → s ∉ as.map Prod.fst → atKey xs (κ.key s) = none
  | _, _, _, .nil, _ => rfl
  | _, _, _, .cons g t, h => (atKeyN_neg fun e => h (by rw [← κ.inj _ _ e]; exact List.mem_cons_self ..)).trans (t.no fun z => h (List.mem_cons_of_mem _ z))
theorem XSN.yes {s : List Int} : ∀ {as : List (List Int × V)} {bs : List Addr} {xs : List (NestedKey × Addr × Value)}, XSN κ as bs xs → s ∈ as.map Prod.fst → ∃ v p, atKey xs (κ.key s) = some p ∧ (s, v) ∈ as ∧ RelV v p.2
  | _, _, _, .nil, h => by simp at h
  | q :: as, _, _, .cons (u := u) g t, h => by
    by_cases e : q.1 = s
    · subst e
      exact ⟨q.2, _, atKeyN_pos rfl, List.mem_cons_self .., g⟩
    · rcases List.mem_cons.mp h with z | z
      · exact absurd z.symm e
      · obtain ⟨v, p, h1, h2, h3⟩ := t.yes z
        exact ⟨v, p, (atKeyN_neg fun z => e (κ.inj _ _ z)).trans h1, List.mem_cons_of_mem _ h2, h3⟩
theorem key_ofN {P : Program} {w : World} {H : Hp} {h : Heap} {a : Addr} {s : List Int} (ok : HOk P w H h) (e : KS κ H a s) : (nestedKind P w).is h (κ.key s) a := ⟨NK.is ok e rfl, κ.deep s⟩
theorem XSN.keys {P : Program} {w : World} {H : Hp} {h : Heap} (ok : HOk P w H h) : ∀ {as : List (List Int × V)} {bs : List Addr} {xs : List (NestedKey × Addr × Value)}, XSN κ as bs xs → KBN κ H as bs → ∀ x ∈ xs, (nestedKind P w).is h x.1 x.2.1
  | _, _, _, .nil, _, x, hx => nomatch hx
  | _, _, _, .cons g t, .cons k r, x, hx => by
    rcases List.mem_cons.mp hx with e | hx
    · subst e
      exact key_ofN ok k
    · exact t.keys ok r x hx
/-- the dict at d: as with its values, bs its keys' tuples -/
abbrev DN (P : Program) (w : World) (κ : KyF) (as : List (List Int × V)) (bs : List Addr) (d : Addr) : HO := .ext fun h => (d == sysModules) = false ∧ as.length ≤ sizeLine ∧ ∃ xs : List (NestedKey × Addr × Value), XSN κ as bs xs ∧
  ∃ o es ep, h.get? d = some o ∧ o.ExactDict ∧ o.data = .dict es ep ∧ es.toList = xs.map (entryOfKey (nestedKind P w)) ∧ (xs.map (·.1)).Nodup
theorem DN.ok {P : Program} {w : World} {H : Hp} {h : Heap} {as : List (List Int × V)} {bs : List Addr} {d : Addr} {xs : List (NestedKey × Addr × Value)} (hd : (d == sysModules) = false) (hl : as.length ≤ sizeLine) (hx : XSN κ as bs xs) (dd : h.DictOfH (nestedKind P w) d xs) : ObjOk P w H h d (DN P w κ as bs d) := by
  obtain ⟨o, es, ep, h1, h2, h3, h4, _, h5⟩ := dd
  refine ⟨⟨hd, hl, xs, hx, o, es, ep, h1, h2, h3, h4, h5⟩, ⟨o, h1⟩, fun h1 h2 ⟨a1, a2, xs, a3, o, es, ep, b1, b2⟩ k => ⟨a1, a2, xs, a3, o, es, ep, k _ b1, b2⟩⟩
section
variable {X : Cx} {pins : List (Addr × Obj)} {σ : L2.St} {H : Hp} {s : Shared} {a : Addr} {as : List (List Int × V)} {bs : List Addr}
theorem dn_of (I : Inv X pins σ H s) (e : H a = some (DN X.prog X.w κ as bs a)) (k : KBN κ H as bs) : (a == sysModules) = false ∧ as.length ≤ sizeLine ∧ ∃ xs, XSN κ as bs xs ∧ s.heap.DictOfH (nestedKind X.prog X.w) a xs := by
  obtain ⟨h1, h2, xs, h3, o, es, ep, b1, b2, b3, b4, b5⟩ := (show ObjOk X.prog X.w H s.heap a (DN X.prog X.w κ as bs a) from I.hok a _ e).1
  exact ⟨h1, h2, xs, h3, o, es, ep, b1, b2, b3, b4, h3.keys I.hok k, b5⟩
end
/-! ### the rules -/
def tDisp1N (P : Program) (w : World) (κ : KyF) (tk tv : TE) : TE := fun σ H Q => ∀ p, H p = none → tk σ (upd H p (DN P w κ [] [] p)) fun x H1 => tv σ H1 fun y H2 => H2 p = some (DN P w κ [] [] p) ∧ ∃ (b : Addr) (s : List Int), x = .ref b ∧ KS κ H2 b s ∧ Q (.ref p) (upd H2 p (DN P w κ [(s, y)] [b] p))
def tDGetN (P : Program) (w : World) (κ : KyF) (td ty : TE) : TE := fun σ H Q => td σ H fun x H1 => ty σ H1 fun y H2 => ∃ (a b : Addr) (as : List (List Int × V)) (bs : List Addr) (s : List Int), x = .ref a ∧ y = .ref b ∧ H2 a = some (DN P w κ as bs a) ∧ KBN κ H2 as bs ∧ KS κ H2 b s ∧ s ∈ as.map Prod.fst ∧ ∀ v, (s, v) ∈ as → Q v H2
def tDNotInN (P : Program) (w : World) (κ : KyF) (ty td : TE) : TE := fun σ H Q => ty σ H fun y H1 => td σ H1 fun x H2 => ∃ (a b : Addr) (as : List (List Int × V)) (bs : List Addr) (s : List Int), x = .ref a ∧ y = .ref b ∧ H2 a = some (DN P w κ as bs a) ∧ KBN κ H2 as bs ∧ KS κ H2 b s ∧ Q (.bl (!decide (s ∈ as.map Prod.fst))) H2
def sDPutN (P : Program) (w : World) (κ : KyF) (td ty tv : TE) : TS := fun D σ H => tv σ H fun v H1 => td σ H1 fun x H2 => ty σ H2 fun y H3 => ∃ (a b : Addr) (as : List (List Int × V)) (bs : List Addr) (s : List Int), x = .ref a ∧ y = .ref b ∧ H3 a = some (DN P w κ as bs a) ∧ KBN κ H3 as bs ∧ KS κ H3 b s ∧
  s ∉ as.map Prod.fst ∧ as.length < sizeLine ∧ D.nx σ (upd H3 a (DN P w κ (as ++ [(s, v)]) (bs ++ [b]) a))
section
variable {X : Cx} {o i k v value : Expr} {pos pos' tpos : Pos} {td ty tk tv : TE}
theorem dn_typeIs {pins : List (Addr × Obj)} {σ : L2.St} {H : Hp} {s : Shared} {a : Addr} {as : List (List Int × V)} {bs : List Addr} (I : Inv X pins σ H s) (e : H a = some (DN X.prog X.w κ as bs a)) : s.TypeIs (.ref a) "dict" ∧ ∃ ob, s.heap.get? a = some ob ∧ ob.dict = none := by
  obtain ⟨_, _, xs, _, o, es, ep, b1, b2, _⟩ := (show ObjOk X.prog X.w H s.heap a (DN X.prog X.w κ as bs a) from I.hok a _ e).1
  exact ⟨⟨o, b1, b2.1⟩, o, b1, b2.2.1⟩
theorem pe_disp1N (hu : X.A.units + 64 < cLine) (hk : PE X k tk) (hv : PE X v tv) : PE X (.Dict [some k] [v] pos) (tDisp1N X.prog X.w κ tk tv) := by
  refine ⟨fun pins s σ H Q I q => ?_⟩
  have hn := I.hok.fresh (Nat.le_refl s.heap.objs.size)
  have hsys : (s.heap.objs.size == sysModules) = false := beq_eq_false_iff_ne.mpr (Ne.symm (Nat.ne_of_lt I.big))
  have I1 := I.laid (a := s.heap.objs.size) (o := DN X.prog X.w κ [] [] s.heap.objs.size) (h' := s.heap.push { cls := .type "dict", data := .dict #[] }) (t' := s.toks) (fun _ _ q => Heap.get?_push_of_some _ q) (Nat.le_refl _)
    (DN.ok hsys (Nat.zero_le _) .nil (Heap.DictOfH.new s.heap))
  rw [arm_eval_Dict, one_shape, dictDisplay_pairs _ (by simp) (by simp)]
  have ru : (nestedKind X.prog X.w).room X.A := by
    show X.A.units + 8 < cLine
    omega
  refine wpAny_bind (wpAny_standAt (wpAny_bind (PySem.wpAny_subDictH (knd := nestedKind X.prog X.w) (Q := fun d s' => wpAny (model X.prog X.w) X.A (pure (Value.ref d)) (EP X pins σ Q) X.xe s') ru (by simp) ?_)))
  show wpAny _ _ (evalPairs (pairTrees [some k] [v] X.env pos)) _ _ _
  refine pairTrees_cons_walk (thn (hk.run pins _ σ _ _ I1 (q _ hn)) fun u s1 ⟨x, H1, I3, rx, q1⟩ => thn (hv.run pins s1 σ H1 _ I3 q1) fun w2 s2 ⟨y, H2, I2, ry, e, b, st, ex, eb, q2⟩ => pairTrees_nil_walk ?_)
  subst ex
  obtain rfl : u = Value.ref b := rx
  obtain ⟨hd, z, xs, rl, dd⟩ := dn_of I2 e .nil
  cases rl
  refine ⟨[(κ.key st, b, w2)], ⟨rfl, rfl, key_ofN I2.hok eb, trivial⟩, dd, fun h' tk dd' hs => wpAny_pure ?_⟩
  have hq : ∃ q, h'.get? s.heap.objs.size = some q := let ⟨o, _, _, hq, _⟩ := dd'; ⟨o, hq⟩
  have I4 : Inv X pins σ (upd H2 s.heap.objs.size (DN X.prog X.w κ [(st, y)] [b] s.heap.objs.size)) { s2 with heap := h', toks := tk } :=
    d_write I2 (by rw [e]; exact True.intro) hs hq (DN.ok hd (by show 1 ≤ sizeLine; decide) (.cons (q := (st, y)) ry .nil) dd')
  exact ⟨.ref s.heap.objs.size, _, I4, rfl, q2⟩
theorem pe_dgetN (hu : X.A.units + 64 < cLine) (ho : PE X o td) (hi : PE X i ty) (hs : NoSl i) : PE X (.Subscript o i pos) (tDGetN X.prog X.w κ td ty) := by
  refine ⟨fun pins s σ H Q I h => ?_⟩
  refine subD_of PySem.F.slot_dict_getitem.lookup hs (thn (ho.run pins s σ H _ I h) fun u s1 ⟨x, H1, I1, rx, q1⟩ => thn (hi.run pins s1 σ H1 _ I1 q1) fun iv s2 ⟨y, H2, I2, ry, a, b, as, bs, st, ex, ey, e, kb, eb, hm, q2⟩ => ?_)
  subst ex ey
  obtain rfl : u = Value.ref a := rx
  obtain rfl : iv = Value.ref b := ry
  obtain ⟨hd, z, xs, hx, dd⟩ := dn_of I2 e kb
  obtain ⟨v, p, h1, h2, h3⟩ := hx.yes hm
  exact ⟨(dn_typeIs I2 e).1, wpAny_getItem_heap (room_in1N hu) (key_ofN I2.hok eb) dd h1 ⟨v, H2, I2.tok _, h3, q2 v h2⟩⟩
theorem pc_dnotinN (hu : X.A.units + 64 < cLine) (hi : PE X i ty) (ho : PE X o td) : PC X .NotIn i o (tDNotInN X.prog X.w κ ty td) := by
  refine ⟨fun pins s σ H Q I h => ?_⟩
  refine thn (hi.run pins s σ H _ I h) fun iv s1 ⟨y, H1, I1, ry, q1⟩ => thn (ho.run pins s1 σ H1 _ I1 q1) fun u s2 ⟨x, H2, I2, rx, a, b, as, bs, st, ex, ey, e, kb, eb, q2⟩ => ?_
  subst ex ey
  obtain rfl : u = Value.ref a := rx
  obtain rfl : iv = Value.ref b := ry
  obtain ⟨hd, z, xs, hx, dd⟩ := dn_of I2 e kb
  refine wpAny_notIn_heap (room_in1N hu) (key_ofN I2.hok eb) hd dd ⟨_, H2, I2.tok _, ?_, q2⟩
  by_cases hm : st ∈ as.map Prod.fst
  · obtain ⟨v, p, h1, _⟩ := hx.yes hm
    rw [h1, decide_eq_true hm]
    rfl
  · rw [hx.no hm, decide_eq_false hm]
    rfl
theorem ps_dputN (hu : X.A.units + 64 < cLine) (ho : PE X o td) (hi : PE X i ty) (hv : PE X value tv) (hs : swapsWith value (some (.Subscript o i pos')) pos.line X.env = pure false) : PS X (.Assign [.Subscript o i pos'] value pos) (sDPutN X.prog X.w κ td ty tv) := by
  refine ⟨fun pins s σ H D I h => ?_⟩
  refine wpAny_Assign_Subscript (thn (hv.run pins s σ H _ I h) fun r s1 ⟨v, H1, I1, rv, q1⟩ => thn (ho.run pins s1 σ H1 _ I1 q1) fun u s2 ⟨x, H2, I2, rx, q2⟩ => thn (hi.run pins s2 σ H2 _ I2 q2) fun iv s3 ⟨y, H3, I3, ry, a, b, as, bs, st, ex, ey, e, kb, eb, hn, hl, q3⟩ => ?_) hs
  subst ex ey
  obtain rfl : u = Value.ref a := rx
  obtain rfl : iv = Value.ref b := ry
  obtain ⟨hd, z, xs, hx, dd⟩ := dn_of I3 e kb
  refine wpAny_setItem_heap (hsz := by rw [hx.len]; exact z) (room_in1N hu) (key_ofN I3.hok eb) dd fun h' dd' hs => ?_
  rw [storedH_new (hx.no hn)] at dd'
  have hq : ∃ q, h'.get? a = some q := let ⟨o, _, _, hq, _⟩ := dd'; ⟨o, hq⟩
  exact ⟨σ, _, d_write I3 (by rw [e]; exact True.intro) hs hq (DN.ok hd (by rw [List.length_append]; exact hl) (hx.snoc (q := (st, v)) rv) dd'), q3⟩
def rLenN (P : Program) (w : World) (κ : KyF) : List V → Hp → VK → Prop := fun xs H Q => ∃ (p : Addr) (as : List (List Int × V)) (bs : List Addr), xs = [.ref p] ∧ H p = some (DN P w κ as bs p) ∧ KBN κ H as bs ∧ Q (.int ((as.length : Nat) : Int)) H
theorem call_lenN : CallR X (.builtin "len") (rLenN X.prog X.w κ) := by
  intro pins s σ H xs us Q I r h
  obtain ⟨p, as, bs, rfl, hp, kb, q⟩ := h
  obtain ⟨u, rfl, rx⟩ := vals1 r
  obtain rfl : u = .ref p := rx
  obtain ⟨hd, z, ys, hx, dd⟩ := dn_of I hp kb
  refine call_len_dictH hd dd (by rw [hx.len]; rw [sizeLine_eq] at z; omega) ?_
  rw [hx.len]
  exact ⟨.int ((as.length : Nat) : Int), H, I.tok _, ⟨_, rfl⟩, q⟩
theorem XSN.adr : ∀ {as : List (List Int × V)} {bs : List Addr} {xs : List (NestedKey × Addr × Value)}, XSN κ as bs xs → xs.map (fun x => x.2.1) = bs
  | _, _, _, .nil => rfl
  | _, _, _, .cons _ t => by rw [List.map_cons, t.adr]
/-- the keys, as they are walked -/
theorem keysN_walked {P : Program} {w : World} {as : List (List Int × V)} {bs : List Addr} {xs : List (NestedKey × Addr × Value)} {es : Array DictEntry} {acc : Array Value} (hx : XSN κ as bs xs) (he : es.toList = xs.map (entryOfKey (nestedKind P w)))
    (it : ItemsOf (fun i v => ∃ hi : i < es.size, v = es[i].key) acc es.size) : acc.toList = bs.map Value.ref := by
  have l1 : es.size = xs.length := size_of_entries he
  rw [← hx.adr, List.map_map]
  refine List.ext_getElem? fun j => ?_
  rw [List.getElem?_map]
  have hl : acc.toList.length = xs.length := by rw [Array.length_toList, it.1]; exact l1
  by_cases hj : j < xs.length
  · have h1 : acc.toList[j]? = some acc.toList[j] := List.getElem?_eq_getElem (by omega)
    have h2 : xs[j]? = some xs[j] := List.getElem?_eq_getElem hj
    obtain ⟨hi, hv'⟩ := it.2 j _ (by rw [← Array.getElem?_toList]; exact h1)
    rw [h1, h2, hv']
    have h3 : es.toList[j]? = some es[j] := by rw [Array.getElem?_toList]; exact Array.getElem?_eq_getElem hi
    rw [he, List.getElem?_map, h2] at h3
    rw [← Option.some.inj h3]
    rfl
  · rw [List.getElem?_eq_none (by omega), List.getElem?_eq_none (by omega)]
    rfl
theorem XSN.blen : ∀ {as : List (List Int × V)} {bs : List Addr} {xs : List (NestedKey × Addr × Value)}, XSN κ as bs xs → bs.length = as.length
  | _, _, _, .nil => rfl
  | _, _, _, .cons _ t => congrArg (· + 1) t.blen
/-- list(d) -/
def rListN (P : Program) (w : World) (κ : KyF) : List V → Hp → VK → Prop := fun xs H Q => ∃ (d : Addr) (as : List (List Int × V)) (bs : List Addr), xs = [.ref d] ∧ H d = some (DN P w κ as bs d) ∧ ∀ l, H l = none → Q (.ref l) (upd H l (.lst (bs.map V.ref)))
theorem call_listN {X : Cx} (hc : X.calm = true) : CallR X (.type "list") (rListN X.prog X.w κ) := by
  intro pins s σ H xs us Q I r h
  obtain ⟨d, as, bs, rfl, hd, q⟩ := h
  obtain ⟨u, rfl, rx⟩ := r.one
  cases rx
  obtain ⟨hs, z, ks, hx, o, es, ep, ho, hxd, hdt, he, _⟩ := (show ObjOk X.prog X.w H s.heap d (DN X.prog X.w κ as bs d) from I.hok d _ hd).1
  have l1 : es.size = ks.length := size_of_entries he
  have l2 : ks.length = as.length := hx.len
  refine PySem.W.kdl_call (KdlSrc.rawDict (es := es) (ep := ep) hs) (I.ok.hd hc) ⟨o, ho, hxd, hdt⟩ (by omega) fun h' tk acc' c' kp e it => ?_
  have ea := keysN_walked hx he it
  have rv : Vals (bs.map V.ref) acc'.toList := by rw [ea]; exact vals_refs bs
  refine ⟨.ref s.heap.objs.size, _, I.laid (t' := tk) (o := .lst (bs.map V.ref)) kp (Nat.le_refl _) ?_, rfl, q _ (I.hok.fresh (Nat.le_refl _))⟩
  exact ⟨by rw [List.length_map, hx.blen]; exact z, acc'.toList, c', rv, by rw [Array.toArray_toList]; exact e⟩
/-! ### get, in, a new one, [..] = -/
def tDNewN (P : Program) (w : World) (κ : KyF) : TE := fun _ H Q => ∀ p, H p = none → Q (.ref p) (upd H p (DN P w κ [] [] p))
section
variable {X : Cx} {o i e f : Expr} {pos apos cpos : Pos} {td ty tx : TE}
theorem pe_dnewN : PE X (.Dict [] [] pos) (tDNewN X.prog X.w κ) := ⟨fun pins s σ H Q I h =>
  wpAny_Dict_empty ⟨.ref s.heap.objs.size, _, I.laid (a := s.heap.objs.size) (o := DN X.prog X.w κ [] [] s.heap.objs.size) (t' := s.toks) (fun _ _ q => Heap.get?_push_of_some _ q) (Nat.le_refl _)
    (DN.ok (beq_eq_false_iff_ne.mpr (Ne.symm (Nat.ne_of_lt I.big))) (Nat.zero_le _) .nil (Heap.DictOfH.new s.heap)), rfl, h _ (I.hok.fresh (Nat.le_refl _))⟩⟩
end
end
end
end RH
set_option Elab.async false
set_option linter.all false
set_option maxRecDepth 100000
set_option maxHeartbeats 2000000
/-! Lambdas one of whose parameters is a cell: a comprehension within them reads it. -/
namespace RH
open PySem PySem.Spec PyProof.Rows L2
open NdefX (NScope CellsAt startF ncx zip_look codeO_at)
/-- the names of such a lambda: one of them is a cell, a parameter -/
structure CScope (N ps fr : List Str) (sc : Scope) : Prop where
  kind : sc.kind = .function
  co : sc.isCoroutine = false
  gen : sc.isGenerator = false
  nd : N.Nodup
  pre : N.take (ps.length + fr.length) = ps ++ fr
  par : ∀ x ∈ ps, sc.names.lookup x = some .local ∨ sc.names.lookup x = some .cell
  own : ∀ x y, sc.names.lookup x = some .cell → sc.names.lookup y = some .cell → x = y
  far : ∀ x ∈ fr, ∀ k, (x, k) ∈ sc.names → k ≠ .cell
  free : ∀ y ∈ sc.names, y.2 = .free → y.1 ∈ fr
  frk : ∀ x ∈ fr, sc.names.lookup x = some .free
  uq : (sc.names.map Prod.fst).Nodup
def cscB (N ps fr : List Str) (sc : Scope) : Bool :=
  decide (sc.kind = .function) && !sc.isCoroutine && !sc.isGenerator && decide N.Nodup && decide (N.take (ps.length + fr.length) = ps ++ fr) && ps.all (fun x => decide (sc.names.lookup x = some .local) || decide (sc.names.lookup x = some .cell))
    && sc.names.all (fun y => !decide (y.2 = .cell) || sc.names.all (fun z => !decide (z.2 = .cell) || decide (y.1 = z.1))) && fr.all (fun x => sc.names.all fun y => !decide (y.1 = x) || !decide (y.2 = .cell))
    && sc.names.all (fun y => !decide (y.2 = .free) || decide (y.1 ∈ fr)) && fr.all (fun x => decide (sc.names.lookup x = some .free)) && decide (sc.names.map Prod.fst).Nodup
theorem cscope_by {N ps fr : List Str} {sc : Scope} (h : cscB N ps fr sc = true) : CScope N ps fr sc := by
  unfold cscB at h
  simp only [Bool.and_eq_true, Bool.not_eq_true', decide_eq_true_eq, List.all_eq_true, Bool.or_eq_true, decide_eq_false_iff_not] at h
  obtain ⟨⟨⟨⟨⟨⟨⟨⟨⟨⟨h1, h2⟩, h3⟩, h4⟩, h5⟩, h6⟩, h7⟩, h8⟩, h9⟩, h10⟩, h11⟩ := h
  refine ⟨h1, h2, h3, h4, h5, h6, fun x y hx hy => ?_, fun x hx k hk e => ?_, fun y hy e => (h9 y hy).elim (fun z => absurd e z) id, h10, h11⟩
  · have mx := PySem.mem_of_lookup hx
    have my := PySem.mem_of_lookup hy
    rcases h7 _ mx with z | z
    · exact absurd rfl z
    · rcases z _ my with z | z
      · exact absurd rfl z
      · exact z
  · rcases h8 x hx _ hk with z | z
    · exact absurd rfl z
    · exact z e
/-- a name that is no cell is looked up behind them -/
theorem cf_else {y : Str} : ∀ {names : List (Str × NameKind)} {n : Nat} {acc : List (Str × Addr)}, (∀ k, (y, k) ∈ names → k ≠ .cell) → (cellsFrom n names acc).lookup y = acc.lookup y
  | [], _, _, _ => rfl
  | (x, k) :: r, n, acc, h => by
    unfold cellsFrom
    have hr : ∀ k, (y, k) ∈ r → k ≠ .cell := fun k hk => h k (List.mem_cons_of_mem _ hk)
    split
    · rename_i hk
      rw [cf_else hr, List.lookup_cons]
      have ne : (y == x) = false := by
        rw [beq_eq_false_iff_ne]
        intro e
        subst e
        exact h k (List.mem_cons_self ..) (beq_iff_eq.mp hk)
      rw [ne]
    · exact cf_else hr
/-- the environment of the lambda's body -/
abbrev envL (F : LF) (f L : Addr) : Env := newEnv F.scope L mainGlobals (cellsFrom (L + 1) F.scope.names F.cl) (F.qual ++ ".<locals>.") (some f) (.ref F.c) none builtinsNs
def lcx (CX : CXT) (P : Program) (w : World) (K : PySem.W.Frag) (mg : Str → Option Value) (base : Heap) (N : List Str) (F : LF) (f : Addr) (A : Around) (outer : List Env) (s : Shared) (H : Hp) (E : XK) : Cx where
  prog := P
  w := w
  K := K
  mg := mg
  base := base
  A := A.deeper (envL F f s.heap.objs.size)
  N := N
  s_0 := s
  H_0 := H
  env := envL F f s.heap.objs.size
  outer := outer
  stack := envL F f s.heap.objs.size :: outer
  ex := []
  calm := true
  fn := fun _ => false
  pn := []
  xe := fun e s' => wpAny (model P w) (A.deeper (envL F f s.heap.objs.size)) (leaving (envL F f s.heap.objs.size) e) (fun _ s'' => CX outer H s E e s'') (fun e' s'' => CX outer H s E e' s'') s'
/-- what stands while the parameters are bound -/
structure BdL (s0 : Shared) (env : Env) (m cm : Str → Option Value) (s : Shared) : Prop where
  same : ∃ h tk, s = { s0 with heap := h, toks := tk }
  ns : s.heap.Ns env.locals m
  keep : ∀ b o, s0.heap.get? b = some o → s.heap.get? b = some o
  cell : ∀ x c, env.kindOf x = some .cell → env.cells.lookup x = some c → s.heap.IsCell c (cm x)
/-- what an environment is like whose own cells are new -/
structure EnvL (s0 : Shared) (env : Env) : Prop where
  kind : env.scope.kind = .function
  at_ : env.locals = s0.heap.objs.size
  own : ∀ x c, env.kindOf x = some .cell → env.cells.lookup x = some c → env.locals < c
  one : ∀ x y, env.kindOf x = some .cell → env.kindOf y = some .cell → x = y
  has : ∀ x, env.kindOf x = some .cell → ∃ c, env.cells.lookup x = some c
section
variable {M : Model} {A : Around} {E : Value → Shared → Prop} {s0 s : Shared} {env : Env} {m cm : Str → Option Value}
theorem BdL.put (e : EnvL s0 env) {x : Str} {v : Value} {Q : Unit → Shared → Prop} (b : BdL s0 env m cm s) (hx : env.kindOf x = some .local ∨ env.kindOf x = some .cell)
    (h : ∀ s' m' cm', BdL s0 env m' cm' s' → (env.kindOf x = some .local → m' = (fun y => if y = x then some v else m y) ∧ cm' = cm) → (env.kindOf x = some .cell → m' = m ∧ cm' = fun y => if y = x then some v else cm y) → Q () s') : wpAny M A (storeName env x v) Q E s := by
  obtain ⟨h0, tk, es⟩ := b.same
  rcases hx with hl | hc
  · refine wpAny_storeName_local hl b.ns (fun h' hn hs => h _ _ _ ⟨⟨h', s.toks + 1, by rw [es]⟩, hn, fun a o q => ?_, fun y c k q => ?_⟩ (fun _ => ⟨rfl, rfl⟩) fun z => by rw [hl] at z; cases z) (by rw [e.kind]; rfl)
    · exact hs.extBut a o (by rw [e.at_]; exact Nat.ne_of_lt (Heap.lt_size q)) (b.keep a o q)
    · exact (b.cell y c k q).sameBut hs (Nat.ne_of_gt (e.own y c k q))
  · obtain ⟨c, hcl⟩ := e.has x hc
    have lt := e.own x c hc hcl
    refine wpAny_storeName_cell e.kind hc hcl (b.cell x c hc hcl) fun h' hv hs => h _ _ _ ⟨⟨h', s.toks, by rw [es]⟩, b.ns.sameBut hs (Nat.ne_of_lt lt), fun a o q => ?_, fun y c' k q => ?_⟩ (fun z => by rw [hc] at z; cases z) fun _ => ⟨rfl, rfl⟩
    · exact hs.extBut a o (Nat.ne_of_lt (Nat.lt_trans (by rw [e.at_]; exact Heap.lt_size q) lt)) (b.keep a o q)
    · obtain rfl := e.one x y hc k
      rw [hcl] at q
      cases q
      simpa using hv
theorem BdL.all (e : EnvL s0 env) (f : Str × Value → PUnit → Sem (ForInStep PUnit)) (hf : ∀ n v u, f (n, v) u = (do storeName env n v; pure (.yield ⟨⟩))) {Q : PUnit → Shared → Prop} :
    ∀ (ps : List Str) (us : List Value) {m cm : Str → Option Value} {s : Shared}, ps.length = us.length → ps.Nodup → BdL s0 env m cm s → (∀ x ∈ ps, env.kindOf x = some .local ∨ env.kindOf x = some .cell) →
      (∀ s' m' cm', BdL s0 env m' cm' s' → (∀ (i : Nat) (x : Str) (u : Value), ps[i]? = some x → us[i]? = some u → (env.kindOf x = some .local → m' x = some u) ∧ (env.kindOf x = some .cell → cm' x = some u)) →
        (∀ x, x ∉ ps → m' x = m x ∧ cm' x = cm x) → Q ⟨⟩ s') → wpAny M A (forIn (ps.zip us) ⟨⟩ f) Q E s
  | [], us, m, cm, s, _, _, b, _, h => by
    rw [List.zip_nil_left, List.forIn_nil]
    exact wpAny_pure (h s m cm b (fun i x u e1 => by simp at e1) fun _ _ => ⟨rfl, rfl⟩)
  | x :: ps, [], _, _, _, l, _, _, _, _ => by simp at l
  | x :: ps, u :: us, m, cm, s, l, nd, b, hk, h => by
    rw [List.zip_cons_cons, List.forIn_cons, hf]
    have nd' := List.nodup_cons.mp nd
    refine wpAny_bind (wpAny_bind (b.put e (hk x (List.mem_cons_self ..)) fun s1 m1 cm1 b1 g1 g2 => wpAny_pure ?_))
    refine BdL.all e f hf ps us (by simpa using l) nd'.2 b1 (fun y hy => hk y (List.mem_cons_of_mem _ hy)) fun s2 m2 cm2 b2 q1 q2 => h s2 m2 cm2 b2 (fun i y v e1 e2 => ?_) fun y hy => ?_
    · cases i with
      | zero =>
        cases Option.some.inj e1
        cases Option.some.inj e2
        obtain ⟨z1, z2⟩ := q2 x nd'.1
        refine ⟨fun k => ?_, fun k => ?_⟩
        · rw [z1, (g1 k).1]
          simp
        · rw [z2, (g2 k).2]
          simp
      | succ i => exact q1 i y v (by simpa using e1) (by simpa using e2)
    · obtain ⟨z1, z2⟩ := q2 y fun z => hy (List.mem_cons_of_mem _ z)
      have ne : y ≠ x := fun z => hy (by rw [z]; exact List.mem_cons_self ..)
      rcases hk x (List.mem_cons_self ..) with k | k
      · obtain ⟨w1, w2⟩ := g1 k
        rw [z1, z2, w1, w2]
        simp [ne]
      · obtain ⟨w1, w2⟩ := g2 k
        rw [z1, z2, w1, w2]
        simp [ne]
end
section
variable {CX : CXT} {P : Program} {w : World} {K : PySem.W.Frag} {mg : Str → Option Value} {base : Heap} {N ps fr : List Str} {F : LF} {f : Addr} {k : Nat}
/-- where its cells lie -/
theorem envL_ok {s : Shared} (S : CScope N ps fr F.scope) (hcl : ∀ y c, F.cl.lookup y = some c → y ∈ fr) : EnvL s (envL F f s.heap.objs.size) := by
  have nc : ∀ x, F.scope.names.lookup x = some .cell → F.cl.lookup x = none := fun x hx => by
    cases e : F.cl.lookup x with
    | none => rfl
    | some c => exact absurd rfl (S.far x (hcl x c e) _ (PySem.mem_of_lookup hx))
  have hs : ∀ (h : Heap) (o : Obj), (h.push o).objs.size = h.objs.size + 1 := fun h o => Heap.size_push ..
  refine ⟨S.kind, rfl, fun x c hx e => ?_, fun x y hx hy => S.own x y hx hy, fun x hx => ?_⟩
  · have hx : F.scope.names.lookup x = some .cell := hx
    obtain ⟨c', e1, e2, _⟩ := oc_cell (h := s.heap.push { cls := .type "frame", data := .dict #[] }) hx (nc x hx)
    rw [hs] at e1 e2
    have e : (cellsFrom (s.heap.objs.size + 1) F.scope.names F.cl).lookup x = some c := e
    rw [e1] at e
    cases e
    exact e2
  · have hx : F.scope.names.lookup x = some .cell := hx
    obtain ⟨c', e1, _, _⟩ := oc_cell (h := s.heap.push { cls := .type "frame", data := .dict #[] }) hx (nc x hx)
    rw [hs] at e1
    exact ⟨c', e1⟩
theorem lok_cell (S : CScope N ps fr F.scope) (hcl : ∀ y c, F.cl.lookup y = some c → y ∈ fr) (hb : ∀ (pm ctv : Value) (us : List Value), us.length = ps.length → bindArgs (F.fd pm ctv) ⟨us, []⟩ = pure (ps.zip us)) {sp : List (Option V) → Sp} (len : ∀ ws vs H Q E, sp ws vs H Q E → vs.length = ps.length)
    (hbody : ∀ (A : Around) (outer : List Env) (s : Shared) (H : Hp) (vs : List V) (ws : List (Option V)) (Q : VK) (E : XK), Room k (A.deeper (envL F f s.heap.objs.size)) → ws.length = fr.length → sp ws vs H Q E →
      ∃ t, PE (lcx CX P w K mg base N F f A outer s H E) F.body t ∧ t (startF N vs ws) H Q) :
    LOk P w K mg base CX (k + 1) f F ps fr sp := by
  refine ⟨len, fun A outer s H us vs ws Q E hr e0 hf hc C r hsp => ?_⟩
  have hl := len _ _ _ _ _ hsp
  have hul : us.length = ps.length := by rw [← r.length]; exact hl
  have lim : s.heap.NoLimit := e0.mod.nolimit.keeps fun b o e => (e0.bs b o e).1
  obtain ⟨od, sl, pm, ctv, ho⟩ := fnL_at e0.hok hf
  refine PySem.W.kla_callFunE hr.depth ho rfl S.co S.gen rfl (codeO_at e0.hok hc) ?_
  rw [hb pm ctv us hul]
  have nds := S.nd.sublist (List.take_sublist (ps.length + fr.length) N)
  rw [S.pre] at nds
  have ndP : ps.Nodup := (List.nodup_append.mp nds).1
  have eo := envL_ok (f := f) (s := s) S hcl
  have hs1 : ∀ (h : Heap) (o : Obj), (h.push o).objs.size = h.objs.size + 1 := fun h o => Heap.size_push ..
  refine wpAny_pure ?_
  simp only [newFunctionEnv, Option.isSome_none, Bool.false_eq_true, if_false]
  refine wpAny_bind (wpAny_alloc ?_)
  refine wpAny_bind (wpAny_layCells _ (fun name kind cells => by cases hkc : kind == NameKind.cell <;> simp [hkc]) _ _ _ _ ?_)
  rw [show ({ s with heap := s.heap.push { cls := .type "frame", data := .dict #[] } } : Shared).heap.objs.size = s.heap.objs.size + 1 from hs1 ..]
  have kp1 : ∀ b o, s.heap.get? b = some o → (pushCells (s.heap.push { cls := .type "frame", data := .dict #[] }) F.scope.names).get? b = some o := fun b o e => pushCells_keeps _ _ b o (Heap.get?_push_of_some _ e)
  refine wpAny_bind (BdL.all (s0 := s) (env := envL F f s.heap.objs.size) eo _ (fun _ _ _ => rfl) ps us (m := fun _ => none) (cm := fun _ => none) hul.symm ndP ⟨⟨_, _, rfl⟩, (Heap.Ns.new s.heap (.type "frame")).keeps (pushCells_keeps _ _), kp1, fun x c hx e => ?_⟩ (fun x hx => S.par x hx) fun s1 m cm b q1 q2 => wpAny_pure ?_)
  · have hx : F.scope.names.lookup x = some .cell := hx
    have nc : F.cl.lookup x = none := by
      cases e : F.cl.lookup x with
      | none => rfl
      | some c => exact absurd rfl (S.far x (hcl x c e) _ (PySem.mem_of_lookup hx))
    obtain ⟨c', e1, _, e3⟩ := oc_cell (h := s.heap.push { cls := .type "frame", data := .dict #[] }) hx nc
    rw [hs1] at e1
    have e : (cellsFrom (s.heap.objs.size + 1) F.scope.names F.cl).lookup x = some c := e
    rw [e1] at e
    cases e
    exact e3
  obtain ⟨h1, tk, rfl⟩ := b.same
  refine ⟨lim.keeps b.keep, ?_⟩
  show codeAny _ _ (.expr F.body (envL F f s.heap.objs.size)) _ _
  obtain ⟨t, ht, hq⟩ := hbody A outer s H vs ws Q E (hr.deeper _) C.len hsp
  have cellK : ∀ {c : Addr} {v : Option Value}, s.heap.IsCell c v → h1.IsCell c v := fun {c v} ⟨o, ho, hd⟩ => ⟨o, b.keep _ _ ho, hd⟩
  have hpl : ps.length + fr.length ≤ N.length := by
    have q := congrArg List.length S.pre
    rw [List.length_take, List.length_append] at q
    omega
  -- a name of the closure is looked up there
  have look_of : ∀ {l : List (Str × NameKind)} {y : Str} {k : NameKind}, (l.map Prod.fst).Nodup → (y, k) ∈ l → l.lookup y = some k := fun {l y k} nd hm => by
    induction l with
    | nil => cases hm
    | cons z r ih =>
      obtain ⟨n, a⟩ := z
      rw [List.map_cons, List.nodup_cons] at nd
      rw [List.lookup_cons]
      rcases List.mem_cons.mp hm with e | hm
      · cases e
        rw [beq_self_eq_true]
      · have ne : (y == n) = false := by
          rw [beq_eq_false_iff_ne]
          intro e
          subst e
          exact nd.1 (List.mem_map.mpr ⟨(y, k), by assumption, rfl⟩)
        rw [ne]
        exact ih nd.2 (by assumption)
  have lk : ∀ y, F.scope.names.lookup y ≠ some .cell → ∀ n, (cellsFrom n F.scope.names F.cl).lookup y = F.cl.lookup y := fun y hy n => cf_else fun k hk e => hy (by rw [look_of S.uq hk, e])
  have cl_lt : ∀ y c, F.cl.lookup y = some c → c < s.heap.objs.size := fun y c e => by
    obtain ⟨_, v, o, ho, _⟩ := C.all y c e
    exact Heap.lt_size ho
  have both : ∀ y c, (cellsFrom (s.heap.objs.size + 1) F.scope.names F.cl).lookup y = some c → (F.scope.names.lookup y = some .cell ∧ s.heap.objs.size < c) ∨ (F.scope.names.lookup y ≠ some .cell ∧ F.cl.lookup y = some c) := fun y c e => by
    by_cases hy : F.scope.names.lookup y = some .cell
    · exact .inl ⟨hy, eo.own y c hy e⟩
    · exact .inr ⟨hy, by rw [← lk y hy]; exact e⟩
  have noA : ∀ b : Addr, b ∉ (lcx CX P w K mg base N F f A outer s H E).ex := fun b z => absurd (show b ∈ ([] : List Addr) from z) (by simp)
  have I : Inv (lcx CX P w K mg base N F f A outer s H E) [] (startF N vs ws) H { s with heap := h1, toks := tk } := by
    refine ⟨⟨e0.mod, S.kind, rfl, rfl, Nat.le_refl _, fun x y c ex ey => ?_, fun y hy => ?_, fun y c z _ => ?_, fun _ => hr.hd, Around.frames_deeper e0.frames, .inr ⟨rfl, rfl⟩, fun b z => absurd z (noA b), e0.bs, e0.bsz, fun b _ _ => noA b,
        fun b z => absurd z (noA b), e0.funs, e0.frf⟩,
      rfl, e0.bare, Un.kept b.keep, ⟨_, b.ns, fun i y v e1 e2 e3 => ?_⟩, fun y c e => ?_, e0.hok.fresh (Nat.le_refl _), fun y c e => ?_, fun q hq => absurd (show q ∈ ([] : List (Addr × Obj)) ++ [] from hq) (by simp), e0.hok.kept b.keep, ?_⟩
    · rcases both x c ex with ⟨hx, lx⟩ | ⟨hx, cx⟩ <;> rcases both y c ey with ⟨hy, ly⟩ | ⟨hy, cy⟩
      · exact S.own x y hx hy
      · exact absurd (cl_lt y c cy) (Nat.not_lt.mpr (Nat.le_of_lt lx))
      · exact absurd (cl_lt x c cx) (Nat.not_lt.mpr (Nat.le_of_lt ly))
      · exact C.inj x y c cx cy
    · have hy : F.scope.names.lookup y = some .cell ∨ F.scope.names.lookup y = some .free := hy
      rcases hy with hy | hy
      · exact eo.has y hy
      · obtain ⟨i, hi⟩ := List.mem_iff_getElem?.mp (S.free _ (PySem.mem_of_lookup hy) rfl)
        obtain ⟨c, hc, _⟩ := C.has i y hi
        exact ⟨c, by show (cellsFrom _ _ _).lookup y = _; rw [lk y (by rw [hy]; decide)]; exact hc⟩
    · have z : false = true := z
      cases z
    · have e1 : N[i]? = some y := e1
      have clen := C.len
      unfold startF at e2
      by_cases h1' : i < ps.length
      · have hq : (ps ++ fr)[i]? = some y := by
          rw [← S.pre, List.getElem?_take_of_lt (by omega)]
          exact e1
        rw [List.getElem?_append_left h1'] at hq
        rw [List.getElem?_append_left (by rw [List.length_map]; omega), List.getElem?_map] at e2
        have ha : vs[i]? = some v := by
          cases e : vs[i]? with
          | none => rw [e] at e2; cases e2
          | some a => rw [e] at e2; cases e2; rfl
        obtain ⟨u, hu, rv⟩ := r.get ha
        obtain ⟨g1, g2⟩ := q1 i y u hq hu
        refine ⟨u, rv, ?_⟩
        rcases S.par y (List.mem_of_getElem? hq) with k | k
        · exact .inl ⟨k, g1 k⟩
        · obtain ⟨c, e⟩ := eo.has y k
          refine .inr ⟨.inl k, c, e, ?_⟩
          have q := b.cell y c k e
          rw [g2 k] at q
          exact q
      · rw [List.getElem?_append_right (by rw [List.length_map]; omega), List.length_map] at e2
        by_cases h2 : i < ps.length + fr.length
        · have hq : (ps ++ fr)[i]? = some y := by
            rw [← S.pre, List.getElem?_take_of_lt (by omega)]
            exact e1
          rw [List.getElem?_append_right (by omega)] at hq
          rw [List.getElem?_append_left (by omega), hl] at e2
          obtain ⟨c, hc, hv⟩ := C.has (i - ps.length) y hq
          obtain ⟨u, ru, hu⟩ := hv v e2
          have kf := S.frk y (List.mem_of_getElem? hq)
          exact ⟨u, ru, .inr ⟨.inr kf, c, by show (cellsFrom _ _ _).lookup y = _; rw [lk y (by rw [kf]; decide)]; exact hc, cellK hu⟩⟩
        · rw [List.getElem?_append_right (by omega), List.getElem?_replicate] at e2
          split at e2 <;> cases e2
    · rcases both y c e with ⟨hy, _⟩ | ⟨_, cy⟩
      · exact ⟨_, b.cell y c hy e⟩
      · obtain ⟨v, z⟩ := (C.all y c cy).2
        exact ⟨v, cellK z⟩
    · rcases both y c e with ⟨_, ly⟩ | ⟨_, cy⟩
      · exact e0.hok.fresh (Nat.le_of_lt ly)
      · exact (C.all y c cy).1
    · have clen := C.len
      unfold startF
      show _ = N.length
      rw [List.length_append, List.length_append, List.length_map, List.length_replicate]
      omega
  refine PySem.W.kla_codeExpr (wpAny_mono (ht.run [] _ (startF N vs ws) H Q I hq) (fun v s' hs => ?_) fun e s' hs => hs)
  obtain ⟨v', H', J, rv, q⟩ := hs
  exact ⟨v', H', J.os, J.bare, J.base, J.hok, rv, q⟩
end
end RH
set_option Elab.async false
set_option linter.all false
set_option maxRecDepth 100000
set_option maxHeartbeats 2000000
/-! Sorted lists of tuples of tuples of ints. -/
namespace RH
open PySem PySem.Spec PyProof.Rows L2
open PySem.W (EachIs AllAlike Sortable dataLe dataLt alike alikeAll)
abbrev keyR (Ls : List (List Int)) : NestedKey := .tup (Ls.map fun L => .tup (L.map .num))
abbrev datR (Ls : List (List Int)) : PyData := .tuple (Ls.map fun L => .tuple (L.map .int))
/-- each of xs is the tuple of rows -/
inductive ER (H : Hp) : List V → List (List (List Int)) → Prop
  | nil : ER H [] []
  | cons {b : Addr} {s : List (List Int)} {xs : List V} {ls : List (List (List Int))} : NK H (.ref b) (keyR s) → ER H xs ls → ER H (.ref b :: xs) (s :: ls)
theorem ER.len {H : Hp} : ∀ {xs : List V} {ls : List (List (List Int))}, ER H xs ls → xs.length = ls.length
  | _, _, .nil => rfl
  | _, _, .cons _ t => congrArg (· + 1) t.len
theorem ER.imp {H H' : Hp} (f : ∀ b s, NK H (.ref b) (keyR s) → NK H' (.ref b) (keyR s)) : ∀ {xs : List V} {ls : List (List (List Int))}, ER H xs ls → ER H' xs ls
  | _, _, .nil => .nil
  | _, _, .cons g t => .cons (f _ _ g) (t.imp f)
/-! ### the order of rows, in plain words -/
def rowsLt : List (List Int) → List (List Int) → Bool
  | [], [] => false
  | [], _ :: _ => true
  | _ :: _, [] => false
  | x :: xs, y :: ys => if x = y then rowsLt xs ys else decide (x < y)
def leR (a b : List (List Int)) : Bool := !rowsLt b a
theorem alike_row (x y : List Int) : alike (.tuple (x.map .int)) (.tuple (y.map .int)) = true := by
  rw [alike]
  exact PySem.W.alike_ints x y
theorem alike_rows : ∀ xs ys : List (List Int), alikeAll (xs.map fun L => PyData.tuple (L.map .int)) (ys.map fun L => .tuple (L.map .int)) = true
  | [], _ => by simp [alikeAll]
  | _ :: _, [] => by simp [alikeAll]
  | x :: xs, y :: ys => by
    rw [List.map_cons, List.map_cons, alikeAll, alike_row, alike_rows xs ys]
    rfl
theorem eqv_ints : ∀ x y : List Int, PyData.eqvAll (x.map .int) (y.map .int) = decide (x = y)
  | [], [] => by simp [PyData.eqvAll]
  | [], _ :: _ => by simp [PyData.eqvAll]
  | _ :: _, [] => by simp [PyData.eqvAll]
  | a :: x, b :: y => by
    rw [List.map_cons, List.map_cons, PyData.eqvAll, eqv_ints x y]
    have : (a == b) = decide (a = b) := by rw [Bool.eq_iff_iff, beq_iff_eq, decide_eq_true_iff]
    simp [PyData.eqv, this]
theorem rowsLt_data : ∀ xs ys : List (List Int), PySem.W.rowLt (xs.map fun L => PyData.tuple (L.map .int)) (ys.map fun L => .tuple (L.map .int)) = rowsLt xs ys
  | [], [] => PyProof.Rows.lex_irrefl _
  | [], y :: ys => by
    show PySem.W.rowLt [] (PyData.tuple (y.map .int) :: _) = true
    unfold PySem.W.rowLt
    rw [PySem.W.toks_all_cons]
    simp only [PySem.W.keyToksAll]
    rw [PyProof.Rows.lex_diff (O := itemOrd) (by simp)]
    rfl
  | x :: xs, [] => by
    show PySem.W.rowLt (PyData.tuple (x.map .int) :: _) [] = false
    unfold PySem.W.rowLt
    rw [PySem.W.toks_all_cons]
    simp only [PySem.W.keyToksAll]
    rw [PyProof.Rows.lex_diff (O := itemOrd) (by simp)]
    rfl
  | x :: xs, y :: ys => by
    show PySem.W.rowLt (PyData.tuple (x.map .int) :: _) (PyData.tuple (y.map .int) :: _) = _
    unfold PySem.W.rowLt
    rw [PySem.W.dataLt_cons (alike_row x y)]
    have e1 : PyData.eqv (.tuple (x.map .int)) (.tuple (y.map .int)) = decide (x = y) := by
      rw [PyData.eqv]
      exact eqv_ints x y
    have e2 : dataLt (.tuple (x.map .int)) (.tuple (y.map .int)) = decide (x < y) := by
      rw [PySem.W.dataLt_tuple]
      exact PySem.W.dataLt_ints x y
    rw [e1, e2]
    unfold rowsLt
    have := rowsLt_data xs ys
    unfold PySem.W.rowLt at this
    rw [this]
    by_cases h : x = y
    · rw [decide_eq_true h, if_pos rfl, if_pos h]
    · rw [decide_eq_false h, if_neg Bool.false_ne_true, if_neg h]
theorem dataLe_R : dataLe false datR = leR := by
  funext p q
  show (!dataLt (datR q) (datR p)) = _
  rw [PySem.W.dataLt_tuple]
  show (!PySem.W.rowLt (q.map fun L => PyData.tuple (L.map .int)) (p.map fun L => .tuple (L.map .int))) = _
  rw [rowsLt_data]
  rfl
/-! ### it is a linear order -/
/-! ### sorted(xs) -/
theorem nks_ints_row {H : Hp} {xs : List V} : ∀ {L : List Int}, NKs H xs (L.map .num) → xs = L.map V.int
  | [], h => by cases h; rfl
  | _ :: _, h => by
    cases h with
    | cons g t =>
      cases g
      rw [nks_ints_row t]
      rfl
theorem reads_ints {h : Heap} : ∀ {L : List Int} {us : List Value}, Vals (L.map V.int) us → ReadsAll h us (L.map .int) []
  | [], _, .nil => .nil
  | i :: _, _, .cons (b := u) r rs => by
    obtain ⟨t, rfl⟩ := (show ∃ t, u = Value.int i t from r)
    exact .cons (as := []) (bs := []) (.int _ t) (reads_ints rs)
theorem reads_row {P : Program} {w : World} {H : Hp} {h : Heap} (ok : HOk P w H h) {v : V} {L : List Int} {u : Value} (k : NK H v (.tup (L.map .num))) (r : RelV v u) : Reads h u (.tuple (L.map .int)) [] := by
  cases k with
  | tup e t =>
    rw [nks_ints_row t] at e
    rename_i a xs
    obtain rfl : u = Value.ref a := r
    obtain ⟨_, its, rv, hl⟩ := (show ObjOk P w H h a (.tup (L.map V.int)) from Rd.ok e ok)
    obtain ⟨o, h1, h2, n, h3⟩ := hl
    exact .tuple h1 h2 h3 (by simpa using reads_ints rv)
theorem reads_rows {P : Program} {w : World} {H : Hp} {h : Heap} (ok : HOk P w H h) : ∀ {Ls : List (List Int)} {xs : List V} {us : List Value}, NKs H xs (Ls.map fun L => .tup (L.map .num)) → Vals xs us → ReadsAll h us (Ls.map fun L => .tuple (L.map .int)) []
  | [], _, _, k, r => by
    cases k
    cases r
    exact .nil
  | L :: Ls, _, _, k, r => by
    cases k with
    | cons g t =>
      cases r with
      | cons r rs => exact .cons (as := []) (bs := []) (reads_row ok g r) (reads_rows ok t rs)
theorem reads_key {P : Program} {w : World} {H : Hp} {h : Heap} (ok : HOk P w H h) {b : Addr} {Ls : List (List Int)} (k : NK H (.ref b) (keyR Ls)) : Reads h (.ref b) (datR Ls) [] := by
  cases k with
  | tup e t =>
    obtain ⟨_, its, rv, hl⟩ := (show ObjOk P w H h b (.tup _) from Rd.ok e ok)
    obtain ⟨o, h1, h2, n, h3⟩ := hl
    exact .tuple h1 h2 h3 (by simpa using reads_rows ok t rv)
theorem ER.each {H : Hp} : ∀ {xs : List V} {ls : List (List (List Int))} {vs : List Value}, ER H xs ls → Vals xs vs → EachIs (fun v Ls => ∃ b, v = Value.ref b ∧ NK H (.ref b) (keyR Ls)) vs ls
  | _, _, _, .nil, .nil => .nil
  | _, _, _, .cons k t, .cons r rs => by
    rename_i b s xs ls u us
    obtain rfl : u = Value.ref b := r
    exact .cons ⟨b, rfl, k⟩ (t.each rs)
theorem ER.of {H : Hp} : ∀ {out : List Value} {ls : List (List (List Int))}, EachIs (fun v Ls => ∃ b, v = Value.ref b ∧ NK H (.ref b) (keyR Ls)) out ls → Vals (out.map backV) out ∧ ER H (out.map backV) ls
  | _, _, .nil => ⟨.nil, .nil⟩
  | _, _, .cons ⟨b, e, k⟩ t => by
    subst e
    obtain ⟨r, x⟩ := ER.of t
    exact ⟨.cons rfl r, .cons k x⟩
theorem depth_rows2 : ∀ Ls : List (List Int), PyData.depthAll (Ls.map fun L => PyData.tuple (L.map .int)) ≤ 1
  | [] => by simp [PyData.depthAll]
  | L :: Ls => by
    rw [List.map_cons, PyData.depthAll, PyData.depth, PySem.W.depth_ints]
    have := depth_rows2 Ls
    omega
def rSortR (K : PySem.W.Frag) : List V → Hp → VK → Prop := fun vs H Q => ∃ (a : Addr) (xs : List V) (ls : List (List (List Int))), vs = [V.ref a] ∧ SqL K H a xs ∧ ER H xs ls ∧ (∀ s ∈ ls, s ≠ []) ∧
  ∀ ys p, ER H ys (ls.mergeSort leR) → ys.length = ls.length → H p = none → Q (.ref p) (upd H p (.lst ys))
theorem call_sortR {X : Cx} (hu : X.A.units + 64 < cLine) : CallR X (.builtin "sorted") (rSortR X.K) := by
  intro pins s σ H vs us Q I r h
  obtain ⟨a, xs, ls, rfl, hs, hx, hne, q⟩ := h
  obtain ⟨its, rv, hl, hz⟩ := I.list hs
  obtain ⟨u, rfl, ru⟩ := vals1 r
  obtain rfl : u = Value.ref a := ru
  have e := hx.each rv
  have er : EachIs (fun v b => ∃ as, Reads s.heap v (datR b) as) its ls := e.mono fun v Ls ⟨b, h1, h2⟩ => ⟨[], by subst h1; exact reads_key I.hok h2⟩
  have ll : ls.length ≤ sizeLine := by rw [← hx.len]; exact hz
  refine PySem.W.sorted_data (enc := datR) hl.isList e er (AllAlike.of fun b b' => by rw [alike]; exact alike_rows b b') (.inl fun d hd => ?_) ll (fun b hb => ?_) fun out hlen eo => ?_
  · obtain ⟨b, hb, rfl⟩ := List.mem_map.mp hd
    cases b with
    | nil => exact absurd rfl (hne [] hb)
    | cons x t => exact ⟨_, _, rfl⟩
  · show X.A.units + 2 + PyData.depth (.tuple _) < cLine
    rw [PyData.depth]
    have := depth_rows2 b
    omega
  · rw [dataLe_R] at eo
    obtain ⟨r3, x3⟩ := ER.of eo
    obtain ⟨n, hn⟩ := sortedAll_at s.heap its out.toArray
    refine ⟨.ref _, upd H (s.heap.objs.size + 1) (.lst (out.map backV)), I.laid (t' := s.toks) (fun b o e => sortedAll_old e) (Nat.le_succ _) ⟨?_, out, n, r3, hn⟩, rfl, q _ _ x3 (by rw [List.length_map, hlen]) (I.hok.fresh (Nat.le_succ _))⟩
    rw [List.length_map, hlen]
    exact ll
end RH
set_option Elab.async false
set_option linter.all false
set_option maxRecDepth 100000
set_option maxHeartbeats 2000000
namespace RH
open PySem PySem.Spec PyProof.Rows L2
def topS (i : Nat) : Stmt := PySem.Challenge.pw_restlesshelf_k09_whole_stands.main.body.getD i (.Pass ⟨0, 0, 0, 0⟩)
abbrev st_e_BadHabits : Stmt := inClass (topS 2) 0
theorem sc_e_BadHabits : NdefX.NScope ["self", "index", "__class__"] ["self", "index"] ["__class__"] (defScope st_e_BadHabits) := NdefX.nscope_by (by decide +kernel)
abbrev st_e_BadStand : Stmt := inClass (topS 3) 0
theorem sc_e_BadStand : NdefX.NScope ["self", "index", "__class__"] ["self", "index"] ["__class__"] (defScope st_e_BadStand) := NdefX.nscope_by (by decide +kernel)
abbrev st_is_integer : Stmt := topS 10
theorem sc_is_integer : FnScope ["value"] ["value"] (defScope st_is_integer) :=
  ⟨rfl, rfl, rfl, by decide +kernel, rfl, by decide +kernel, by decide +kernel⟩
abbrev st_is_number : Stmt := topS 11
theorem sc_is_number : FnScope ["value", "low", "high"] ["value", "low", "high"] (defScope st_is_number) :=
  ⟨rfl, rfl, rfl, by decide +kernel, rfl, by decide +kernel, by decide +kernel⟩
abbrev st_is_row : Stmt := topS 12
theorem sc_is_row : FnScope ["value", "low", "high"] ["value", "low", "high"] (defScope st_is_row) :=
  ⟨rfl, rfl, rfl, by decide +kernel, rfl, by decide +kernel, by decide +kernel⟩
abbrev st_is_place : Stmt := topS 13
theorem sc_is_place : FnScope ["value", "places"] ["value", "places"] (defScope st_is_place) :=
  ⟨rfl, rfl, rfl, by decide +kernel, rfl, by decide +kernel, by decide +kernel⟩
abbrev st_are_places : Stmt := topS 14
theorem sc_are_places : FnScope ["value", "places", "place"] ["value", "places"] (defScope st_are_places) :=
  ⟨rfl, rfl, rfl, by decide +kernel, rfl, by decide +kernel, by decide +kernel⟩
abbrev st_is_layout : Stmt := topS 15
theorem sc_is_layout : FnScope ["value", "places"] ["value", "places"] (defScope st_is_layout) :=
  ⟨rfl, rfl, rfl, by decide +kernel, rfl, by decide +kernel, by decide +kernel⟩
abbrev st_is_habit : Stmt := topS 16
theorem sc_is_habit : FnScope ["value", "moves"] ["value"] (defScope st_is_habit) :=
  ⟨rfl, rfl, rfl, by decide +kernel, rfl, by decide +kernel, by decide +kernel⟩
abbrev st_check_habits : Stmt := topS 17
theorem sc_check_habits : FnScope ["habits", "most", "index", "habit"] ["habits", "most"] (defScope st_check_habits) :=
  ⟨rfl, rfl, rfl, by decide +kernel, rfl, by decide +kernel, by decide +kernel⟩
abbrev st_check_stand : Stmt := topS 18
theorem sc_check_stand : FnScope ["stand", "habits", "index", "layout"] ["stand", "habits"] (defScope st_check_stand) :=
  ⟨rfl, rfl, rfl, by decide +kernel, rfl, by decide +kernel, by decide +kernel⟩
abbrev st_check_name : Stmt := topS 19
theorem sc_check_name : FnScope ["name", "places"] ["name", "places"] (defScope st_check_name) :=
  ⟨rfl, rfl, rfl, by decide +kernel, rfl, by decide +kernel, by decide +kernel⟩
abbrev st_places_of_habit : Stmt := topS 21
theorem sc_places_of_habit : FnScope ["habit"] ["habit"] (defScope st_places_of_habit) :=
  ⟨rfl, rfl, rfl, by decide +kernel, rfl, by decide +kernel, by decide +kernel⟩
abbrev st_move : Stmt := topS 22
theorem sc_move : FnScope ["habit", "layout", "place", "moves", "stood"] ["habit", "layout", "place"] (defScope st_move) :=
  ⟨rfl, rfl, rfl, by decide +kernel, rfl, by decide +kernel, by decide +kernel⟩
abbrev st_depths : Stmt := topS 23
theorem sc_depths : FnScope ["start", "touches", "step", "most", "found", "level", "further", "state", "place", "new"] ["start", "touches", "step", "most"] (defScope st_depths) :=
  ⟨rfl, rfl, rfl, by decide +kernel, rfl, by decide +kernel, by decide +kernel⟩
abbrev st_traced : Stmt := topS 24
theorem sc_traced : FnScope ["came", "state", "word", "place"] ["came", "state"] (defScope st_traced) :=
  ⟨rfl, rfl, rfl, by decide +kernel, rfl, by decide +kernel, by decide +kernel⟩
abbrev st_least_word : Stmt := topS 25
theorem sc_least_word : FnScope ["start", "touches", "step", "is_goal", "came", "level", "further", "state", "place", "new"] ["start", "touches", "step", "is_goal"] (defScope st_least_word) :=
  ⟨rfl, rfl, rfl, by decide +kernel, rfl, by decide +kernel, by decide +kernel⟩
abbrev st_move_stand : Stmt := topS 26
theorem sc_move_stand : FnScope ["habits", "stand", "place", "habit", "layout"] ["habits", "stand", "place"] (defScope st_move_stand) :=
  ⟨rfl, rfl, rfl, by decide +kernel, rfl, by decide +kernel, by decide +kernel⟩
abbrev st_stands : Stmt := topS 29
theorem sc_stands : FnScope ["habits", "stand"] ["habits", "stand"] (defScope st_stands) :=
  ⟨rfl, rfl, rfl, by decide +kernel, rfl, by decide +kernel, by decide +kernel⟩
abbrev st_meeting : Stmt := topS 30
theorem sc_meeting : FnScope ["habits", "stand", "name"] ["habits", "stand", "name"] (defScope st_meeting) :=
  ⟨rfl, rfl, rfl, by decide +kernel, rfl, by decide +kernel, by decide +kernel⟩
abbrev st_names_met : Stmt := topS 31
theorem sc_names_met : FnScope ["habits", "stand"] ["habits", "stand"] (defScope st_names_met) :=
  ⟨rfl, rfl, rfl, by decide +kernel, rfl, by decide +kernel, by decide +kernel⟩
abbrev st_check_stands : Stmt := topS 32
theorem sc_check_stands : FnScope ["habits", "stand"] ["habits", "stand"] (defScope st_check_stands) :=
  ⟨rfl, rfl, rfl, by decide +kernel, rfl, by decide +kernel, by decide +kernel⟩
abbrev st_all_stands : Stmt := topS 33
theorem sc_all_stands : FnScope ["habits", "stand", "touches", "found"] ["habits", "stand"] (defScope st_all_stands) :=
  ⟨rfl, rfl, rfl, by decide +kernel, rfl, by decide +kernel, by decide +kernel⟩
abbrev st_places_of_name : Stmt := topS 34
theorem sc_places_of_name : FnScope ["stand", "name", "layout"] ["stand", "name"] (defScope st_places_of_name) :=
  ⟨rfl, rfl, rfl, by decide +kernel, rfl, by decide +kernel, by decide +kernel⟩
abbrev st_is_together : Stmt := topS 35
theorem sc_is_together : FnScope ["places", "place"] ["places"] (defScope st_is_together) :=
  ⟨rfl, rfl, rfl, by decide +kernel, rfl, by decide +kernel, by decide +kernel⟩
abbrev st_meeting_word : Stmt := topS 36
theorem sc_meeting_word : FnScope ["habits", "stand", "name"] ["habits", "stand", "name"] (defScope st_meeting_word) :=
  ⟨rfl, rfl, rfl, by decide +kernel, rfl, by decide +kernel, by decide +kernel⟩
abbrev st_names_that_meet : Stmt := topS 37
theorem sc_names_that_meet : FnScope ["habits", "stand", "names", "name"] ["habits", "stand"] (defScope st_names_that_meet) :=
  ⟨rfl, rfl, rfl, by decide +kernel, rfl, by decide +kernel, by decide +kernel⟩
abbrev st__law_taken : Stmt := topS 39
theorem sc__law_taken : FnScope ["row", "many", "found", "cell"] ["row", "many"] (defScope st__law_taken) :=
  ⟨rfl, rfl, rfl, by decide +kernel, rfl, by decide +kernel, by decide +kernel⟩
abbrev st__law_order : Stmt := topS 40
theorem sc__law_order : FnScope ["row", "many", "left", "found"] ["row", "many"] (defScope st__law_order) :=
  ⟨rfl, rfl, rfl, by decide +kernel, rfl, by decide +kernel, by decide +kernel⟩
abbrev st__law_habit : Stmt := topS 41
theorem sc__law_habit : FnScope ["row", "places", "way", "found", "place", "moved", "other", "spot"] ["row", "places"] (defScope st__law_habit) :=
  ⟨rfl, rfl, rfl, by decide +kernel, rfl, by decide +kernel, by decide +kernel⟩
abbrev st__law_several : Stmt := topS 42
theorem sc__law_several : FnScope ["row", "places", "many", "habits", "stand", "moved", "at", "turn"] ["row", "places"] (defScope st__law_several) :=
  ⟨rfl, rfl, rfl, by decide +kernel, rfl, by decide +kernel, by decide +kernel⟩
abbrev st__law_touch : Stmt := topS 43
theorem sc__law_touch : FnScope ["habit", "layout", "place", "spot"] ["habit", "layout", "place"] (defScope st__law_touch) :=
  ⟨rfl, rfl, rfl, by decide +kernel, rfl, by decide +kernel, by decide +kernel⟩
abbrev st__law_stands : Stmt := topS 44
theorem sc__law_stands : FnScope ["habits", "stand", "most", "found", "last", "far", "longer", "one", "place", "other", "habit", "layout"] ["habits", "stand", "most"] (defScope st__law_stands) :=
  ⟨rfl, rfl, rfl, by decide +kernel, rfl, by decide +kernel, by decide +kernel⟩
abbrev st__law_alike : Stmt := topS 45
theorem sc__law_alike : FnScope ["found", "due", "k"] ["found", "due"] (defScope st__law_alike) :=
  ⟨rfl, rfl, rfl, by decide +kernel, rfl, by decide +kernel, by decide +kernel⟩
abbrev st__law_agrees : Stmt := topS 46
theorem sc__law_agrees : FnScope ["stand", "name", "layout"] ["stand", "name"] (defScope st__law_agrees) :=
  ⟨rfl, rfl, rfl, by decide +kernel, rfl, by decide +kernel, by decide +kernel⟩
abbrev st_law : Stmt := topS 47
theorem sc_law : FnScope ["script", "row", "places", "habits", "stand", "near", "met", "name", "far", "found", "last", "turn", "longer", "seen", "one", "word", "place", "other", "habit", "layout"] ["script"] (defScope st_law) :=
  ⟨rfl, rfl, rfl, by decide +kernel, rfl, by decide +kernel, by decide +kernel⟩
/-! ### what the top has written -/
/-- the def x of the text stands in the module under its name -/
structure Df (K : PySem.W.Frag) (mg : Str → Option Value) (x : Str) (st : Stmt) (ps : List Str) : Prop where
  ex : ∃ (f : Addr) (fd : FuncData), Fun K x x st f fd ∧ mg x = some (.ref f) ∧ Binds K fd ps []
/-- names of the interpreter that the module leaves alone -/
structure Bu (mg : Str → Option Value) : Prop where
  isi : mg "isinstance" = none
  int : mg "int" = none
  bool : mg "bool" = none
  str : mg "str" = none
  tuple : mg "tuple" = none
  list : mg "list" = none
  len : mg "len" = none
  all : mg "all" = none
  zip : mg "zip" = none
  range : mg "range" = none
  sorted : mg "sorted" = none
  enumerate : mg "enumerate" = none
  max : mg "max" = none
section
variable {P : Program} {w : World} {K : PySem.W.Frag} {mg : Str → Option Value} {base : Heap}
/-- a def that may be called by its name -/
structure Cal (P : Program) (w : World) (K : PySem.W.Frag) (mg : Str → Option Value) (base : Heap) (k : Nat) (x : Str) (sp : Sp) : Prop where
  ex : ∃ (f : Addr) (fd : FuncData) (ps : List Str), FnOk P w K mg base CX0 k f fd ps sp ∧ mg x = some (.ref f) ∧ PySem.W.keepIn K (.ref f) = true ∧ Binds K fd ps []
theorem mkCal {x : Str} {st : Stmt} {N ps : List Str} {k : Nat} {sp : Sp} (F : Df K mg x st ps) (S : FnScope N ps (defScope st)) (len : ∀ vs H Q E, sp vs H Q E → vs.length = ps.length)
    (hbody : ∀ (f : Addr) (cdv : Value) (A : Around) (outer : List Env) (s : Shared) (H : Hp) (vs : List V) (Q : VK) (E : XK), Room k (A.deeper (envOfC x (defScope st) s.heap.objs.size f cdv)) → sp vs H Q E →
      ∃ t, PSs (cxOf CX0 P w K mg base N x (defScope st) f cdv A outer s H E).nox (defBody st) t ∧ t { nx := fun _ H' => Q .non H', rt := Q } (start N vs) H) : Cal P w K mg base (k + 1) x sp := by
  obtain ⟨f, fd, F, g, b⟩ := F.ex
  exact ⟨f, fd, ps, F.ok S len (hbody f), g, F.kp, b⟩
theorem Cal.imp {k : Nat} {x : Str} {sp sp' : Sp} (c : Cal P w K mg base k x sp) (h : ∀ vs H Q E, sp' vs H Q E → sp vs H Q E) : Cal P w K mg base k x sp' := by
  obtain ⟨f, fd, ps, F, g, kp, b⟩ := c.ex
  exact ⟨f, fd, ps, F.imp h, g, kp, b⟩
end
theorem pc {X : Cx} {k j : Nat} {x : Str} {sp : Sp} {p pos : Pos} {e : Expr} {es : List Expr} {t : TA} (c : Cal X.prog X.w X.K X.mg X.base k x sp) (hr : Room j X.A) (ha : PA X (e :: es) t) (hk : k ≤ j := by decide) (hg : Gl X x := by rfl)
    (hdb : (x == ("__debug__" : Str)) = false := by decide) (he : starEach (e :: es) X.env = (false, eval e X.env) :: starEach es X.env := by rfl) (hpl : (backTo pos (starEach es X.env)).any (·.1) = false := by rfl) :
    PE X (.Call (.Name x p) (e :: es) [] pos) (tCall sp [] E0 t) := by
  obtain ⟨f, fd, ps, F, hm, kp, b⟩ := c.ex
  exact pe_call F (hr.mono hk) hg hm kp b .nil pass0 ha hdb he hpl
/-- a statement that is never come to -/
theorem ps_no {X : Cx} {st : Stmt} : PS X st (fun _ _ _ => False) := ⟨fun _ _ _ _ _ _ h => h.elim⟩
/-! ### heaps, tuples of ints, and of such -/
theorem same_new {H : Hp} {p : Addr} {o : HO} (h : H p = none) : Same H (upd H p o) := fun b x e => by
  rw [upd_ne (ne_of_none e h)]
  exact e
theorem seqT {K : PySem.W.Frag} {H H' : Hp} {a : Addr} {xs : List V} (e : ∀ o, H a = some o → H' a = some o) (h : SqT K H a xs) : SqT K H' a xs := by
  rcases h with (h | ⟨o, h⟩) | h
  · exact .inl (.inl (e _ h))
  · exact .inl (.inr ⟨o, e _ h⟩)
  · exact .inr h
theorem onT {K : PySem.W.Frag} {H H' : Hp} {a : Addr} {xs : List V} (e : Same H H') (h : SqT K H a xs) : SqT K H' a xs := seqT (fun o => e a o) h
theorem tupAt {K : PySem.W.Frag} {H : Hp} {a : Addr} {xs : List V} (h : H a = some (.tup xs)) : SqT K H a xs := .inl (.inl h)
theorem lstAt {K : PySem.W.Frag} {H : Hp} {a : Addr} {xs : List V} (h : H a = some (.lst xs)) : SqL K H a xs := .inl (.inl h)
/-- a tuple's type -/
theorem ty_tup {K : PySem.W.Frag} {H : Hp} {a : Addr} {xs : List V} (h : SqT K H a xs) : TyX K H (.ref a) (.type "tuple") := by
  rcases h with (h | ⟨o, h⟩) | ⟨o, its, n, h, c, _⟩
  · exact .base (.tup h)
  · exact .fTuple h
  · exact .kTuple h c
/-- each by each -/
inductive Each {α : Type} (R : V → α → Prop) : List V → List α → Prop
  | nil : Each R [] []
  | cons {v : V} {d : α} {vs : List V} {ds : List α} : R v d → Each R vs ds → Each R (v :: vs) (d :: ds)
theorem Each.len {α : Type} {R : V → α → Prop} : ∀ {vs : List V} {ds : List α}, Each R vs ds → vs.length = ds.length
  | _, _, .nil => rfl
  | _, _, .cons _ t => congrArg (· + 1) t.len
theorem Each.imp {α : Type} {R R' : V → α → Prop} (f : ∀ v d, R v d → R' v d) : ∀ {vs : List V} {ds : List α}, Each R vs ds → Each R' vs ds
  | _, _, .nil => .nil
  | _, _, .cons h t => .cons (f _ _ h) (t.imp f)
theorem Each.at {α : Type} {R : V → α → Prop} : ∀ {vs : List V} {ds : List α} {i : Nat} {v : V}, Each R vs ds → vs[i]? = some v → ∃ d, ds[i]? = some d ∧ R v d
  | _, _, _, _, .nil, e => by simp at e
  | _, _, 0, _, .cons h _, e => by
    have e' := Option.some.inj e
    subst e'
    exact ⟨_, rfl, h⟩
  | _, _, i + 1, _, .cons _ t, e => t.at (i := i) e
theorem Each.of {α : Type} {R : V → α → Prop} : ∀ {vs : List V} {ds : List α} {i : Nat} {d : α}, Each R vs ds → ds[i]? = some d → ∃ v, vs[i]? = some v ∧ R v d
  | _, _, _, _, .nil, e => by simp at e
  | _, _, 0, _, .cons h _, e => by
    have e' := Option.some.inj e
    subst e'
    exact ⟨_, rfl, h⟩
  | _, _, i + 1, _, .cons _ t, e => t.of (i := i) e
theorem Each.snoc {α : Type} {R : V → α → Prop} {v : V} {d : α} (h : R v d) : ∀ {vs : List V} {ds : List α}, Each R vs ds → Each R (vs ++ [v]) (ds ++ [d])
  | _, _, .nil => .cons h .nil
  | _, _, .cons g t => .cons g (t.snoc h)
/-- a tuple of ints -/
def TI (K : PySem.W.Frag) (H : Hp) (v : V) (ns : List Int) : Prop := ∃ a, v = .ref a ∧ SqT K H a (ns.map V.int)
/-- a tuple of such -/
def TII (K : PySem.W.Frag) (H : Hp) (v : V) (nss : List (List Int)) : Prop := ∃ a vs, v = .ref a ∧ SqT K H a vs ∧ Each (TI K H) vs nss
def THs (K : PySem.W.Frag) (H : Hp) (v : V) (hs : List (List (List Int))) : Prop := ∃ a vs, v = .ref a ∧ SqT K H a vs ∧ Each (TII K H) vs hs
/-- all tuples stand -/
def Tups (K : PySem.W.Frag) (H H' : Hp) : Prop := ∀ a xs, SqT K H a xs → SqT K H' a xs
theorem Same.tups {K : PySem.W.Frag} {H H' : Hp} (e : Same H H') : Tups K H H' := fun _ _ h => onT e h
theorem TI.on {K : PySem.W.Frag} {H H' : Hp} {v : V} {ns : List Int} (e : Tups K H H') (h : TI K H v ns) : TI K H' v ns := let ⟨a, h1, h2⟩ := h; ⟨a, h1, e _ _ h2⟩
theorem TII.on {K : PySem.W.Frag} {H H' : Hp} {v : V} {nss : List (List Int)} (e : Tups K H H') (h : TII K H v nss) : TII K H' v nss := let ⟨a, vs, h1, h2, h3⟩ := h; ⟨a, vs, h1, e _ _ h2, h3.imp fun _ _ z => z.on e⟩
theorem THs.on {K : PySem.W.Frag} {H H' : Hp} {v : V} {hs : List (List (List Int))} (e : Tups K H H') (h : THs K H v hs) : THs K H' v hs := let ⟨a, vs, h1, h2, h3⟩ := h; ⟨a, vs, h1, e _ _ h2, h3.imp fun _ _ z => z.on e⟩
theorem map_at {ns : List Int} {i : Nat} {x : V} (h : (ns.map V.int)[i]? = some x) : ∃ n, ns[i]? = some n ∧ x = .int n := by
  rw [List.getElem?_map] at h
  cases e : ns[i]? with
  | none =>
    rw [e] at h
    cases h
  | some n =>
    rw [e] at h
    exact ⟨n, rfl, (Option.some.inj h).symm⟩
theorem at_map {ns : List Int} {i : Nat} {n : Int} (h : ns[i]? = some n) : (ns.map V.int)[i]? = some (.int n) := by
  rw [List.getElem?_map, h]
  rfl
theorem all_snoc {α : Type} (f : α → Bool) {l : List α} {i : Nat} {x : α} (h : l[i]? = some x) : (l.take (i + 1)).map f = (l.take i).map f ++ [f x] := by
  rw [List.take_add_one, h, List.map_append]
  rfl
/-! ### lists of ints, compared -/
theorem dpAll_ints {K : PySem.W.Frag} {H : Hp} : ∀ ns : List Int, DpAll K H (ns.map V.int) (ns.map PyData.int)
  | [] => .nil
  | n :: ns => .cons (.int n) (dpAll_ints ns)
theorem dp_lst {K : PySem.W.Frag} {H : Hp} {a : Addr} {ns : List Int} (h : SqL K H a (ns.map V.int)) : Dp K H (.ref a) (.list (ns.map PyData.int)) := .lst h (dpAll_ints ns)
theorem dp_tup {K : PySem.W.Frag} {H : Hp} {a : Addr} {ns : List Int} (h : SqT K H a (ns.map V.int)) : Dp K H (.ref a) (.tuple (ns.map PyData.int)) := .tup h (dpAll_ints ns)
theorem eqv_lst (ns ms : List Int) : PyData.eqv (.list (ns.map PyData.int)) (.list (ms.map PyData.int)) = decide (ns = ms) := by
  rw [PyData.eqv]
  exact PySem.W.ked_eqvAll ns ms
def rg (n : Nat) : List Int := (List.range n).map fun i : Nat => (i : Int)
theorem rgV_rg (n : Nat) : rgV 0 (n : Int) = (rg n).map V.int := by
  unfold rgV rg
  rw [List.map_map, Int.sub_zero, Int.toNat_natCast]
  refine List.map_congr_left fun i _ => ?_
  show V.int (0 + (i : Int)) = V.int (i : Int)
  rw [Int.zero_add]
theorem rg_len (n : Nat) : (rg n).length = n := by
  unfold rg
  rw [List.length_map, List.length_range]
theorem rg_mem {n : Nat} {x : Int} : x ∈ rg n ↔ 0 ≤ x ∧ x < n := by
  unfold rg
  rw [List.mem_map]
  constructor
  · rintro ⟨i, h, rfl⟩
    have := List.mem_range.mp h
    omega
  · rintro ⟨h1, h2⟩
    exact ⟨x.toNat, List.mem_range.mpr (by omega), by omega⟩
theorem rg_at {n i : Nat} (h : i < n) : (rg n)[i]? = some (i : Int) := by
  unfold rg
  rw [List.getElem?_map, List.getElem?_range h]
  rfl
/-! ### walks over enumerate and zip of tuples -/
section
variable {K : PySem.W.Frag} {a b : Addr} {xs ys : List V}
theorem for_enumT {g : TG} {tb : TS} {D : Ends} {σ : L2.St} {H : Hp} (Pv : Nat → L2.St → Hp → Prop) (h0 : Pv 0 σ H) (hl : ∀ i σ H, Pv i σ H → SqT K H a xs)
    (hs : ∀ i x T σ H, xs[i]? = some x → Pv i σ H → H T = none → g (.ref T) σ (upd H T (.tup [.int (i : Nat), x])) fun σ2 H2 => tb { D with nx := Pv (i + 1), ct := Pv (i + 1), bk := D.nx } σ2 H2) (hd : ∀ σ H, Pv xs.length σ H → D.nx σ H) :
    ∃ W : Nat → Nat → L2.St → Hp → Prop, (∃ m, W 0 m σ H) ∧ ∀ i m σ H, W i m σ H →
      ((IteT K a).stop i H ∧ D.nx σ H) ∨ ((IteT K a).go i H ∧ ∃ N : L2.St → Hp → Prop, (∀ σ' H', N σ' H' → ∃ m', m' < m ∧ W (i + 1) m' σ' H') ∧ ∀ x H', (IteT K a).yld i H x H' → g x σ H' fun σ2 H2 => tb { D with nx := N, ct := N, bk := D.nx } σ2 H2) := by
  refine ⟨fun i m σ H => m = xs.length - i ∧ i ≤ xs.length ∧ Pv i σ H, ⟨xs.length, rfl, Nat.zero_le _, h0⟩, ?_⟩
  rintro i m σ H ⟨rfl, hi, p⟩
  have q := hl i σ H p
  by_cases hlt : i < xs.length
  · have hx : xs[i]? = some xs[i] := List.getElem?_eq_getElem hlt
    refine .inr ⟨⟨xs, _, q, hx⟩, Pv (i + 1), fun σ' H' p' => ⟨xs.length - (i + 1), by omega, rfl, hlt, p'⟩, fun v H' y => ?_⟩
    obtain ⟨T, x', rfl, hT, rfl, f1⟩ := y
    exact hs i x' T σ H (f1 xs q) p hT
  · have e : i = xs.length := by omega
    subst e
    exact .inl ⟨⟨xs, q, Nat.le_refl _⟩, hd σ H p⟩
theorem lc_zipT {g : TG} {tt : TT} {te : TE} {vs : List Nat} {σ : L2.St} {H1 : Hp} {D : Addr} {Qd : Hp → Prop} (n : Nat) (hn : n = min xs.length ys.length) (Pv : Nat → Hp → Prop) (h0 : Pv 0 (upd H1 D (.lst []))) (hl : ∀ i H, Pv i H → SqT K H a xs ∧ SqT K H b ys)
    (hs : ∀ i x z T H, xs[i]? = some x → ys[i]? = some z → Pv i H → H T = none → g (.ref T) (wipe σ vs) (upd H T (.tup [x, z])) fun σ2 H2 => wipe σ2 vs = wipe σ vs ∧ tt σ2 H2 fun k H3 =>
      if k = true then te σ2 H3 fun y H4 => ∃ acc, H4 D = some (.lst acc) ∧ acc.length < sizeLine ∧ Pv (i + 1) (upd H4 D (.lst (acc ++ [y]))) else Pv (i + 1) H3) (hd : ∀ H, Pv n H → Qd H) :
    ∃ W : Nat → Nat → Hp → Prop, (∃ m, W 0 m (upd H1 D (.lst []))) ∧ ∀ i m H, W i m H →
      ((RZ.ItzT K a b).stop i H ∧ Qd H) ∨ ((RZ.ItzT K a b).go i H ∧ ∃ Nx : Hp → Prop, (∀ H', Nx H' → ∃ m', m' < m ∧ W (i + 1) m' H') ∧ ∀ x H', (RZ.ItzT K a b).yld i H x H' → g x (wipe σ vs) H' fun σ2 H2 => wipe σ2 vs = wipe σ vs ∧ tt σ2 H2 fun k H3 =>
        if k = true then te σ2 H3 fun y H4 => ∃ acc, H4 D = some (.lst acc) ∧ acc.length < sizeLine ∧ Nx (upd H4 D (.lst (acc ++ [y]))) else Nx H3) := by
  refine ⟨fun i m H => m = n - i ∧ i ≤ n ∧ Pv i H, ⟨n, rfl, Nat.zero_le _, h0⟩, ?_⟩
  rintro i m H ⟨rfl, hi, p⟩
  obtain ⟨q1, q2⟩ := hl i H p
  by_cases hlt : i < n
  · have hx : xs[i]? = some xs[i] := List.getElem?_eq_getElem (by omega)
    have hy : ys[i]? = some ys[i] := List.getElem?_eq_getElem (by omega)
    refine .inr ⟨⟨xs, ys, _, _, q1, q2, hx, hy⟩, Pv (i + 1), fun H' p' => ⟨n - (i + 1), by omega, rfl, hlt, p'⟩, fun v H' y => ?_⟩
    obtain ⟨T, x', z', rfl, hT, rfl, f1, f2⟩ := y
    exact hs i x' z' T H (f1 xs q1) (f2 ys q2) p hT
  · have e : i = n := by omega
    subst e
    exact .inl ⟨⟨xs, ys, q1, q2, by omega⟩, hd H p⟩
end
end RH
set_option Elab.async false
set_option linter.all false
set_option maxRecDepth 100000
set_option maxHeartbeats 2000000
set_option Elab.async false
set_option linter.all false
set_option maxRecDepth 100000
set_option maxHeartbeats 2000000
namespace RH
open PySem PySem.Spec PyProof.Rows L2
section
variable {P : Program} {w : World} {K : PySem.W.Frag} {mg : Str → Option Value} {base : Heap}
/-- all are places -/
def inP (p : Int) (ns : List Int) : Bool := ns.all fun i => decide (0 ≤ i) && decide (i ≤ p - 1)
end
end RH
set_option Elab.async false
set_option linter.all false
set_option maxRecDepth 100000
set_option maxHeartbeats 2000000
namespace RH
open PySem PySem.Spec PyProof.Rows L2
/-! ### slices and constants -/
theorem cut_from (xs : List V) (k : Nat) : cutV xs (some (k : Int)) none = xs.drop k := by
  unfold cutV
  rw [HT.sIx_nat, HT.sIx_none]
  rcases Nat.le_total k xs.length with h | h
  · rw [Nat.min_eq_left h]
    exact List.take_of_length_le (by rw [List.length_drop]; exact Nat.le_refl _)
  · rw [Nat.min_eq_right h, Nat.sub_self, List.take_zero, List.drop_eq_nil_of_le h]
theorem cut_to (xs : List V) (k : Nat) : cutV xs none (some (k : Int)) = xs.take k := by
  unfold cutV
  rw [HT.sIx_nat, HT.sIx_none, List.drop_zero, Nat.sub_zero]
  rcases Nat.le_total k xs.length with h | h
  · rw [Nat.min_eq_left h]
  · rw [Nat.min_eq_right h, List.take_length, List.take_of_length_le h]
/-- a number that the module keeps -/
theorem pk {X : Cx} {x : Str} {i : Int} {pos : Pos} (h : ∃ t, X.mg x = some (.int i t)) (hg : Gl X x := by rfl) (hn : x ≠ "__name__" := by decide) (hd : (x == ("__debug__" : Str)) = false := by decide) : PE X (.Name x pos) (tC (.int i)) := by
  obtain ⟨t, h⟩ := h
  exact pe_glob (v := .int i) hg h ⟨_, rfl⟩ hd
/-! ### rules within a comprehension: the written part is told -/
def rLenK (K : PySem.W.Frag) : List V → Hp → VK → Prop := fun xs H Q => ∃ p ys, xs = [.ref p] ∧ (SqL K H p ys ∨ SqT K H p ys) ∧ Q (.int ys.length) H
theorem cl_len {X : Cx} (K : PySem.W.Frag) (h : X.K = K := by rfl) : CallR X (.builtin "len") (rLenK K) := by
  subst h
  exact call_len_seq
theorem ixT {X : Cx} (K : PySem.W.Frag) (h : X.K = K := by rfl) : IxR X (rIxT K) := by
  subst h
  exact ix_tup
/-! ### rising, a layout, a habit -/
def isLay (p : Nat) (ns : List Int) : Bool := ns.isPerm (rg p)
def isHab (nss : List (List Int)) : Bool := decide (2 ≤ nss.length) && decide (nss.length ≤ 5) && nss.all (isLay nss.length)
theorem rg_le (p : Nat) : (rg p).Pairwise (· ≤ ·) := by
  unfold rg
  rw [List.pairwise_map]
  exact (List.pairwise_lt_range (n := p)).imp fun h => by omega
end RH
set_option Elab.async false
set_option linter.all false
set_option maxRecDepth 100000
set_option maxHeartbeats 2000000
namespace RH
open PySem PySem.Spec PyProof.Rows L2
/-! ### the mathematics of marks -/
theorem ifT {c : Bool} {A B : Prop} (hc : c = true) (h : A) : if c = true then A else B := by
  rw [if_pos hc]
  exact h
theorem ifF {c : Bool} {A B : Prop} (hc : c = false) (h : B) : if c = true then A else B := by
  rw [hc, if_neg Bool.false_ne_true]
  exact h
/-- a habit of n places -/
structure Hb (n : Nat) (h : List (List Int)) : Prop where
  len : h.length = n
  perm : ∀ ns ∈ h, ns.Perm (rg n)
  lo : 2 ≤ n
  hi : n ≤ 5
theorem Hb.is {n : Nat} {h : List (List Int)} (q : Hb n h) : isHab h = true := by
  unfold isHab
  simp only [Bool.and_eq_true, decide_eq_true_eq, List.all_eq_true]
  refine ⟨⟨by have := q.len; have := q.lo; omega, by have := q.len; have := q.hi; omega⟩, fun ns hm => ?_⟩
  unfold isLay
  rw [q.len, List.isPerm_iff]
  exact q.perm ns hm
theorem Hb.short {n : Nat} {h : List (List Int)} (q : Hb n h) {ns : List Int} (hm : ns ∈ h) : ns.length = n := by
  rw [(q.perm ns hm).length_eq, rg_len]
def mv (h : List (List Int)) (t s : Int) : Int := (h.getD t.toNat []).getD s.toNat 0
theorem Hb.at {n : Nat} {h : List (List Int)} (q : Hb n h) {t s : Int} (t0 : 0 ≤ t) (t1 : t < n) (s0 : 0 ≤ s) (s1 : s < n) :
    ∃ ns, h[t.toNat]? = some ns ∧ ns[s.toNat]? = some (mv h t s) ∧ 0 ≤ mv h t s ∧ mv h t s < n := by
  have h1 : t.toNat < h.length := by rw [q.len]; omega
  have e1 : h[t.toNat]? = some h[t.toNat] := List.getElem?_eq_getElem h1
  have hm : h[t.toNat] ∈ h := List.getElem_mem h1
  have h2 : s.toNat < h[t.toNat].length := by rw [q.short hm]; omega
  have e2 : h[t.toNat][s.toNat]? = some h[t.toNat][s.toNat] := List.getElem?_eq_getElem h2
  have e4 : h.getD t.toNat [] = h[t.toNat] := by
    rw [List.getD_eq_getElem?_getD, e1]
    rfl
  have e3 : mv h t s = h[t.toNat][s.toNat] := by
    unfold mv
    rw [e4, List.getD_eq_getElem?_getD, e2]
    rfl
  have h4 := rg_mem.mp ((q.perm _ hm).mem_iff.mp (List.getElem_mem h2))
  rw [← e3] at h4
  exact ⟨_, e1, by rw [e3]; exact e2, h4⟩
def InR (n : Nat) (i : Int) : Prop := 0 ≤ i ∧ i < n
theorem take_more {α : Type} {l : List α} {i : Nat} {x : α} (h : l[i]? = some x) : l.take (i + 1) = l.take i ++ [x] := by
  rw [List.take_add_one, h]
  rfl
/-- an item of an int's place -/
theorem at_int {α : Type} {xs : List α} {z : Int} {v : α} (h0 : 0 ≤ z) (h : xs[z.toNat]? = some v) : atI xs z = some v := by
  have e : z = ((z.toNat : Nat) : Int) := by omega
  rw [e]
  exact atI_nat h
/-- a def with defaults, of which none is written where it is called -/
structure DfD (K : PySem.W.Frag) (mg : Str → Option Value) (x : Str) (st : Stmt) (ps : List Str) (dvs : List V) : Prop where
  ex : ∃ (f : Addr) (fd : FuncData), FunD K x x (defArgs st) (defBody st) (defScope st) dvs [] f fd ∧ mg x = some (.ref f) ∧ ∃ ds, Vals dvs ds ∧ Binds K fd ps ds
end RH
set_option Elab.async false
set_option linter.all false
set_option maxRecDepth 100000
set_option maxHeartbeats 2000000
namespace RH
open PySem PySem.Spec PyProof.Rows L2
theorem ix2 {K : PySem.W.Frag} {H : Hp} {xs : List V} {h : List (List Int)} {n : Nat} (hE : Each (TI K H) xs h) (q : Hb n h) {t s : Int} (ht : InR n t) (hs : InR n s) :
    ∃ (a' : Addr) (ns : List Int), atI xs t = some (.ref a') ∧ SqT K H a' (ns.map V.int) ∧ atI (ns.map V.int) s = some (.int (mv h t s)) := by
  obtain ⟨ns, e1, e2, _⟩ := q.at ht.1 ht.2 hs.1 hs.2
  obtain ⟨v, e3, a', rfl, hS⟩ := hE.of e1
  exact ⟨a', ns, at_int ht.1 e3, hS, at_int hs.1 (at_map e2)⟩
end RH
set_option Elab.async false
set_option linter.all false
set_option maxRecDepth 100000
set_option maxHeartbeats 2000000
namespace RH
open PySem PySem.Spec PyProof.Rows L2
/-! ### the law's own row of draws -/
/-- all but what stands at p is as it was -/
def But (p : Addr) (H H' : Hp) : Prop := ∀ b o, H b = some o → b ≠ p → H' b = some o
theorem But.refl (p : Addr) (H : Hp) : But p H H := fun _ _ e _ => e
theorem But.trans {p : Addr} {H H1 H2 : Hp} (a : But p H H1) (b : But p H1 H2) : But p H H2 := fun c o e n => b c o (a c o e n) n
theorem But.same {p : Addr} {H H1 : Hp} (a : Same H H1) : But p H H1 := fun c o e _ => a c o e
theorem But.upd {p : Addr} {H H1 : Hp} {o : HO} (a : But p H H1) : But p H (upd H1 p o) := fun c u e n => by
  rw [upd_ne n]
  exact a c u e n
/-- all that is no list is as it was -/
def Fix (H H' : Hp) : Prop := ∀ b o, H b = some o → (∀ xs, o ≠ .lst xs) → H' b = some o
theorem Fix.refl (H : Hp) : Fix H H := fun _ _ e _ => e
theorem Fix.trans {H H1 H2 : Hp} (a : Fix H H1) (b : Fix H1 H2) : Fix H H2 := fun c o e n => b c o (a c o e n) n
theorem Fix.same {H H1 : Hp} (a : Same H H1) : Fix H H1 := fun c o e _ => a c o e
theorem Fix.lst {H : Hp} {p : Addr} {xs : List V} {o : HO} (h : H p = some (.lst xs)) : Fix H (L2.upd H p o) := fun b u e n => by
  by_cases z : b = p
  · subst z
    rw [h] at e
    cases e
    exact absurd rfl (n _)
  · rw [upd_ne z]
    exact e
theorem Fix.tups {K : PySem.W.Frag} {H H' : Hp} (b : Fix H H') : Tups K H H' := fun a xs hS => by
  rcases hS with (hS | ⟨u, hS⟩) | hS
  · exact .inl (.inl (b _ _ hS (fun _ z => nomatch z)))
  · exact .inl (.inr ⟨u, b _ _ hS (fun _ z => nomatch z)⟩)
  · exact .inr hS
theorem But.fix {H H' : Hp} {p : Addr} {xs : List V} (h : H p = some (.lst xs)) (b : But p H H') : Fix H H' := fun c o e n => b c o e fun z => by
  subst z
  rw [h] at e
  cases e
  exact n _ rfl
/-- a list that never changes -/
def Fz (K : PySem.W.Frag) (H : Hp) (a : Addr) (xs : List V) : Prop := (∃ o, H a = some (.frz o (.lst xs))) ∨ ∀ H', SqL K H' a xs
theorem Fz.seq {K : PySem.W.Frag} {H : Hp} {a : Addr} {xs : List V} (h : Fz K H a xs) : SqL K H a xs := by
  rcases h with ⟨o, h⟩ | h
  · exact .inl (.inr ⟨o, h⟩)
  · exact h H
theorem Fz.on {K : PySem.W.Frag} {H H' : Hp} {a : Addr} {xs : List V} (f : Fix H H') (h : Fz K H a xs) : Fz K H' a xs := by
  rcases h with ⟨o, h⟩ | h
  · exact .inl ⟨o, f _ _ h (fun _ z => nomatch z)⟩
  · exact .inr h
theorem Fz.of {K : PySem.W.Frag} {H : Hp} {a : Addr} {xs : List V} (o : Only H) (h : SqL K H a xs) : Fz K H a xs := by
  rcases h with (h | h) | h
  · rcases o a with e | ⟨u, ys, e⟩
    · rw [e] at h
      cases h
    · rw [e] at h
      cases h
  · exact .inl h
  · exact .inr fun H' => .inr h
/-- row: the script, how many of it are taken, the running number, what is left of a great one -/
structure RowA (K : PySem.W.Frag) (H : Hp) (p a : Addr) (ns : List Int) (i r c : Int) : Prop where
  at_ : H p = some (.lst [.ref a, .int i, .int r, .int c])
  fz : Fz K H a (ns.map V.int)
  pos : 0 ≤ i
theorem RowA.scr {K : PySem.W.Frag} {H : Hp} {p a : Addr} {ns : List Int} {i r c : Int} (h : RowA K H p a ns i r c) : SqL K H a (ns.map V.int) := h.fz.seq
def Row (K : PySem.W.Frag) (H : Hp) (p : Addr) : Prop := ∃ a ns i r c, RowA K H p a ns i r c
theorem RowA.put {K : PySem.W.Frag} {H : Hp} {p a : Addr} {ns : List Int} {i r c i' r' c' : Int} (h : RowA K H p a ns i r c) (hi : 0 ≤ i') :
    RowA K (upd H p (.lst [.ref a, .int i', .int r', .int c'])) p a ns i' r' c' :=
  ⟨upd_same, h.fz.on (Fix.lst h.at_), hi⟩
theorem RowA.row {K : PySem.W.Frag} {H : Hp} {p a : Addr} {ns : List Int} {i r c : Int} (h : RowA K H p a ns i r c) : Row K H p := ⟨_, _, _, _, _, h⟩
theorem Row.lst {K : PySem.W.Frag} {H : Hp} {p : Addr} (h : Row K H p) : ∃ xs, H p = some (.lst xs) := by
  obtain ⟨a, ns, i, r, c, h⟩ := h
  exact ⟨_, h.at_⟩
theorem Row.fix {K : PySem.W.Frag} {H H' : Hp} {p : Addr} (h : Row K H p) (b : But p H H') : Fix H H' := by
  obtain ⟨xs, e⟩ := h.lst
  exact But.fix e b
theorem Row.on {K : PySem.W.Frag} {H H' : Hp} {p : Addr} (h : Row K H p) (f : Fix H H') (e : H' p = H p) : Row K H' p := by
  obtain ⟨a, ns, i, r, c, h⟩ := h
  exact ⟨a, ns, i, r, c, e.trans h.at_, h.fz.on f, h.pos⟩
theorem Row.same {K : PySem.W.Frag} {H H' : Hp} {p : Addr} (h : Row K H p) (s : Same H H') : Row K H' p := by
  obtain ⟨xs, e⟩ := h.lst
  exact h.on (Fix.same s) ((s _ _ e).trans e.symm)
/-- another list is written -/
theorem Row.lst_upd {K : PySem.W.Frag} {H : Hp} {p q : Addr} {xs : List V} {o : HO} (h : Row K H p) (e : H q = some (.lst xs)) (n : p ≠ q) : Row K (upd H q o) p := h.on (Fix.lst e) (upd_ne n)
/-- a new object -/
theorem Row.new {K : PySem.W.Frag} {H : Hp} {p q : Addr} {o : HO} (h : Row K H p) (e : H q = none) : Row K (upd H q o) p := h.same (same_new e)
theorem Row.ne {K : PySem.W.Frag} {H : Hp} {p q : Addr} (h : Row K H p) (e : H q = none) : p ≠ q := by
  obtain ⟨xs, e'⟩ := h.lst
  exact ne_of_none e' e
section
variable {P : Program} {w : World} {K : PySem.W.Frag} {mg : Str → Option Value} {base : Heap}
def spTaken (K : PySem.W.Frag) : Sp := fun vs H Q _ => ∃ (p : Addr) (m : Int), vs = [.ref p, .int m] ∧ Row K H p ∧ 0 < m ∧ m < 1048576 ∧ ∀ k H', 0 ≤ k → k < m → But p H H' → Row K H' p → Q (.int k) H'
theorem ok_taken (F : Df K mg "_law_taken" st__law_taken ["row", "many"]) (B : Bu mg) : Cal P w K mg base 1 "_law_taken" (spTaken K) := by
  refine mkCal F sc__law_taken (fun vs H Q E h => ?_) (fun f cdv A outer s H vs Q E hr h => ?_)
  · obtain ⟨p, m, rfl, _⟩ := h
    rfl
  · obtain ⟨p, m, rfl, ⟨a, ns, i, r, c, hR⟩, m0, m1, q⟩ := h
    refine ⟨_, pss_cons (ps_if (pt_cmpR op_gt (pe_ix ix_list (pv 0) pe_int (fun _ _ => rfl)) pe_int (nomark _))
        (pss_cons (ps_set (i := 2) sc__law_taken.nd rfl (.inl rfl) (pe_op op_mod (pe_callTy call_int1 (by rfl) B.int (by decide +kernel) (pa_cons (pe_ix ix_list (pv 0) pe_int (fun _ _ => rfl)) pa_nil)) (pv 1)))
        (pss_cons (ps_asg (pe_op op_fdiv (pe_ix ix_list (pv 0) pe_int (fun _ _ => rfl)) (pv 1)) (pg_sub (pv 0) pe_int set_list))
        (pss_one (ps_ret (pv 2))))) pss_nil)
      (pss_cons (ps_asg (pe_op op_add (pe_ix ix_list (pv 0) pe_int (fun _ _ => rfl)) pe_int) (pg_sub (pv 0) pe_int set_list))
      (pss_cons (ps_if (pt_cmpR op_gt (pe_ix ix_list (pv 0) pe_int (fun _ _ => rfl)) (pe_callB (cl_len K) (by rfl) B.len PySem.boot_len (pa_cons (pe_ix ix_list (pv 0) pe_int (fun _ _ => rfl)) pa_nil)) (nomark _))
        (pss_cons (ps_asg (pe_op op_mod (pe_callTy call_int1 (by rfl) B.int (by decide +kernel) (pa_cons (pe_op op_add (pe_op op_mul (pe_ix ix_list (pv 0) pe_int (fun _ _ => rfl)) pe_int) pe_int) pa_nil)) pe_int) (pg_sub (pv 0) pe_int set_list))
        (pss_one (ps_ret (pe_op op_mod (pe_callTy call_int1 (by rfl) B.int (by decide +kernel) (pa_cons (pe_op op_fdiv (pe_ix ix_list (pv 0) pe_int (fun _ _ => rfl)) pe_int) pa_nil)) (pv 1))))) pss_nil)
      (pss_cons (ps_set (i := 3) sc__law_taken.nd rfl (.inl rfl) (pe_ix ix_list (pe_ix ix_list (pv 0) pe_int (fun _ _ => rfl)) (pe_op op_sub (pe_ix ix_list (pv 0) pe_int (fun _ _ => rfl)) pe_int) (fun _ _ => rfl)))
      (pss_cons (ps_asg (pe_op op_mod (pe_callTy call_int1 (by rfl) B.int (by decide +kernel) (pa_cons (pe_op op_add (pe_op op_add (pe_op op_mul (pe_ix ix_list (pv 0) pe_int (fun _ _ => rfl)) pe_int) (pv 3)) pe_int) pa_nil)) pe_int) (pg_sub (pv 0) pe_int set_list))
      (pss_cons (ps_if (pt_cmpR op_ge (pv 3) (pe_op op_pow pe_int pe_int) (nomark _))
        (pss_one (ps_asg (pe_op op_fdiv (pv 3) (pv 1)) (pg_sub (pv 0) pe_int set_list))) pss_nil)
      (pss_one (ps_ret (pe_op op_mod (pe_callTy call_int1 (by rfl) B.int (by decide +kernel) (pa_cons (pv 3) pa_nil)) (pv 1))))))))), ?_⟩
    have L := hR.at_
    refine ⟨_, rfl, p, _, 3, .int c, rfl, rfl, lstAt L, rfl, c, 0, rfl, rfl, _, rfl, ite2 (fun e => ?_) (fun e => ?_)⟩
    · refine ⟨_, rfl, p, _, 3, .int c, rfl, rfl, lstAt L, rfl, .inl ⟨c, rfl, _, rfl, c, m, rfl, rfl, m0, ?_⟩⟩
      refine ⟨_, rfl, p, _, 3, .int c, rfl, rfl, lstAt L, rfl, _, rfl, c, m, rfl, rfl, ⟨m0, by omega⟩, _, rfl, p, _, 3, 3, rfl, rfl, L, rfl, ?_⟩
      exact ⟨_, rfl, q (c % m) _ (Int.emod_nonneg _ (by omega)) (Int.emod_lt_of_pos _ m0) (But.upd (But.refl p H)) (hR.put hR.pos).row⟩
    · refine ⟨_, rfl, p, _, 1, .int i, rfl, rfl, lstAt L, rfl, i, 1, rfl, rfl, _, rfl, p, _, 1, 1, rfl, rfl, L, rfl, ?_⟩
      have R1 : RowA K (upd H p (.lst [.ref a, .int (i + 1), .int r, .int c])) p a ns (i + 1) r c := hR.put (by have := hR.pos; omega)
      have L1 := R1.at_
      refine ⟨_, rfl, p, _, 1, .int (i + 1), rfl, rfl, lstAt L1, rfl, _, rfl, p, _, 0, .ref a, rfl, rfl, lstAt L1, rfl, a, _, rfl, .inl R1.scr, _, _, rfl, rfl, _, rfl, ite2 (fun e1 => ?_) (fun e1 => ?_)⟩
      · refine ⟨_, rfl, p, _, 2, .int r, rfl, rfl, lstAt L1, rfl, r, 48271, rfl, rfl, .inr ⟨by decide, by decide⟩, _, 11, rfl, rfl, .inl ⟨_, rfl, _, _, rfl, rfl, (by show (0 : Int) < 2147483647; decide), _, rfl, p, _, 2, 2, rfl, rfl, L1, rfl, ?_⟩⟩
        have R2 : RowA K (upd (upd H p (.lst [.ref a, .int (i + 1), .int r, .int c])) p (.lst [.ref a, .int (i + 1), .int ((r * 48271 + 11) % 2147483647), .int c])) p a ns (i + 1) ((r * 48271 + 11) % 2147483647) c := R1.put R1.pos
        refine ⟨_, rfl, p, _, 2, _, rfl, rfl, lstAt R2.at_, rfl, _, 7, rfl, rfl, ⟨by decide, by decide⟩, .inl ⟨_, rfl, _, rfl, _, m, rfl, rfl, m0, ?_⟩⟩
        exact q _ _ (Int.emod_nonneg _ (by omega)) (Int.emod_lt_of_pos _ m0) (But.upd (But.upd (But.refl p H))) R2.row
      · have hi : i < (ns.length : Int) := by
          rw [List.length_map] at e1
          have e9 : i + 1 ≤ (ns.length : Int) := by simpa using e1
          omega
        have hi0 := hR.pos
        obtain ⟨z, hz⟩ : ∃ z, ns[i.toNat]? = some z := ⟨ns[i.toNat]'(by omega), List.getElem?_eq_getElem (by omega)⟩
        refine ⟨_, rfl, p, _, 0, .ref a, rfl, rfl, lstAt L1, rfl, _, rfl, p, _, 1, .int (i + 1), rfl, rfl, lstAt L1, rfl, _, 1, rfl, rfl, a, _, i + 1 - 1, .int z, rfl, rfl, R1.scr, at_int (by omega) (at_map (by rw [show (i + 1 - 1).toNat = i.toNat by omega]; exact hz)), ?_⟩
        refine ⟨_, rfl, p, _, 2, .int r, rfl, rfl, lstAt L1, rfl, r, 48271, rfl, rfl, .inr ⟨by decide, by decide⟩, _, rfl, _, z, rfl, rfl, _, 11, rfl, rfl, .inl ⟨_, rfl, _, _, rfl, rfl, (by show (0 : Int) < 2147483647; decide), _, rfl, p, _, 2, 2, rfl, rfl, L1, rfl, ?_⟩⟩
        have R2 : RowA K (upd (upd H p (.lst [.ref a, .int (i + 1), .int r, .int c])) p (.lst [.ref a, .int (i + 1), .int ((r * 48271 + z + 11) % 2147483647), .int c])) p a ns (i + 1) ((r * 48271 + z + 11) % 2147483647) c := R1.put R1.pos
        refine ⟨_, rfl, 10, 18, rfl, rfl, ⟨by decide, by decide, by decide⟩, z, _, rfl, rfl, _, rfl, ite2 (fun e2 => ?_) (fun e2 => ?_)⟩
        · refine ⟨_, rfl, _, rfl, z, m, rfl, rfl, ⟨m0, by omega⟩, _, rfl, p, _, 3, 3, rfl, rfl, R2.at_, rfl, ?_⟩
          refine ⟨_, rfl, .inl ⟨z, rfl, _, rfl, z, m, rfl, rfl, m0, ?_⟩⟩
          exact q _ _ (Int.emod_nonneg _ (by omega)) (Int.emod_lt_of_pos _ m0) (But.upd (But.upd (But.upd (But.refl p H)))) (R2.put R2.pos).row
        · refine ⟨_, rfl, .inl ⟨z, rfl, _, rfl, z, m, rfl, rfl, m0, ?_⟩⟩
          exact q _ _ (Int.emod_nonneg _ (by omega)) (Int.emod_lt_of_pos _ m0) (But.upd (But.upd (But.refl p H))) R2.row
end
end RH
set_option Elab.async false
set_option linter.all false
set_option maxRecDepth 100000
set_option maxHeartbeats 2000000
namespace RH
open PySem PySem.Spec PyProof.Rows L2
theorem ix_nat {n : Nat} {k : Int} (h0 : 0 ≤ k) (h1 : k < n) : seqIndex? k n = some k.toNat := by
  unfold seqIndex?
  have e : (if k < 0 then k + (n : Int) else k) = k := if_neg (by omega)
  simp only [e]
  rw [if_pos]
  simp [h0, h1]
theorem But.fresh {p l : Addr} {H H1 : Hp} {o : HO} (a : But p H H1) (e : H l = none) : But p H (L2.upd H1 l o) := fun c u h n => by
  rw [upd_ne (ne_of_none h e)]
  exact a c u h n
theorem map_erase (ns : List Int) (k : Nat) : (ns.map V.int).eraseIdx k = (ns.eraseIdx k).map V.int := by
  induction ns generalizing k with
  | nil => rfl
  | cons n ns ih =>
    cases k with
    | zero => rfl
    | succ k =>
      show V.int n :: (ns.map V.int).eraseIdx k = V.int n :: (ns.eraseIdx k).map V.int
      rw [ih]
theorem perm_erase : ∀ {ls : List Int} {k : Nat} {y : Int}, ls[k]? = some y → ls.Perm (y :: ls.eraseIdx k)
  | [], k, y, h => by simp at h
  | a :: ls, 0, y, h => by
    have e : a = y := Option.some.inj h
    subst e
    exact List.Perm.refl _
  | a :: ls, k + 1, y, h => by
    have ih := perm_erase (ls := ls) (k := k) (y := y) h
    exact (ih.cons a).trans (List.Perm.swap ..)
section
variable {P : Program} {w : World} {K : PySem.W.Frag} {mg : Str → Option Value} {base : Heap}
def spOrder (K : PySem.W.Frag) : Sp := fun vs H Q _ => ∃ (p : Addr) (n : Nat), vs = [.ref p, .int n] ∧ Row K H p ∧ n ≤ 1000 ∧ ∀ (H' : Hp) (q : Addr) (ns : List Int), ns.Perm (rg n) → But p H H' → Row K H' p → H q = none → FT H' q ns → Q (.ref q) H'
theorem ok_order (F : Df K mg "_law_order" st__law_order ["row", "many"]) (B : Bu mg) (CT : Cal P w K mg base 1 "_law_taken" (spTaken K)) : Cal P w K mg base 2 "_law_order" (spOrder K) := by
  refine mkCal F sc__law_order (fun vs H Q E h => ?_) (fun f cdv A outer s H vs Q E hr h => ?_)
  · obtain ⟨p, n, rfl, _⟩ := h
    rfl
  · obtain ⟨p, n, rfl, hR, hn, q⟩ := h
    refine ⟨_, pss_cons (ps_par (i := 2) (j := 3) rfl sc__law_order.nd rfl rfl (by decide) rfl rfl (pa_cons (pe_listRg rfl (by rfl) B.list (prg_1 (by rfl) B.range (pv 1))) (pa_cons (pe_lst pa_nil) pa_nil)) rfl)
      (pss_cons (ps_while PassesOwn.never (pt_cmpR (op_neD hr.units) (pv 2) (pe_lst pa_nil) (nomark _))
        (pss_one (ps_expr (pe_bm PySem.F.plainAttrs_list PySem.F.slot_list_append PySem.F.type_list_append mt_append (pv 3) (pa_cons (pe_bm PySem.F.plainAttrs_list PySem.F.slot_list_pop PySem.F.type_list_pop mt_popAt (pv 2)
          (pa_cons (pc CT hr (pa_cons (pv 0) (pa_cons (pe_callB (cl_len K) (by rfl) B.len PySem.boot_len (pa_cons (pv 2) pa_nil)) pa_nil))) pa_nil)) pa_nil)))))
      (pss_one (ps_ret (pe_tupleF (by rfl) B.tuple (pv 3))))), ?_⟩
    refine ⟨_, rfl, n, rfl, ⟨by omega, by omega, by omega, by omega, by omega⟩, fun l hl => ⟨Nat.zero_le _, fun g hg => ⟨_, _, rfl, ?_⟩⟩⟩
    have hlg : l ≠ g := ne_of_none upd_same hg
    have hgH : H g = none := by
      rw [upd_ne (Ne.symm hlg)] at hg
      exact hg
    have hpl : p ≠ l := hR.ne hl
    have hpg : p ≠ g := hR.ne hgH
    refine ⟨fun m σ H' => ∃ ls fs : List Int, m = ls.length ∧ σ = [some (.ref p), some (.int n), some (.ref l), some (.ref g)] ∧ But p H H' ∧ Row K H' p ∧ H' l = some (.lst (ls.map V.int)) ∧ H' g = some (.lst (fs.map V.int)) ∧ (fs ++ ls).Perm (rg n),
      ⟨(rg n).length, rg n, [], rfl, rfl, But.same (Same.trans (same_new hl) (same_new hg)), (hR.new hl).new hg, ?_, upd_same, List.Perm.refl _⟩, ?_⟩
    · rw [upd_ne hlg, upd_same, rgV_rg]
    rintro m σ H1 ⟨ls, fs, rfl, rfl, hB, hR1, e1, e2, hpm⟩
    refine ⟨_, rfl, Nat.zero_le _, fun z hz => ?_⟩
    have sz : Same H1 (upd H1 z (.lst [])) := same_new hz
    refine ⟨_, _, dp_lst (ns := ls) (lstAt (sz _ _ e1)), dp_lst (ns := []) (lstAt upd_same), PySem.W.ke_shaped_ints _, PySem.W.ke_shaped_ints _, _, rfl, ?_⟩
    rw [eqv_lst]
    have len1 : fs.length + ls.length = n := by
      have := hpm.length_eq
      rw [List.length_append, rg_len] at this
      exact this
    cases ls with
    | nil =>
      refine ifF rfl ⟨_, rfl, g, _, rfl, lstAt (sz _ _ e2), fun t ob ht hob => ?_⟩
      rw [List.append_nil] at hpm
      have st : Same H1 (upd (upd H1 z (.lst [])) t (.frz ob (.tup (fs.map V.int)))) := sz.trans (same_new ht)
      refine q _ t fs hpm (hB.trans (But.same st)) (hR1.same st) ?_ ⟨ob, upd_same, hob⟩
      cases e : H t with
      | none => rfl
      | some o =>
        exfalso
        by_cases zp : t = p
        · obtain ⟨xs, ep⟩ := hR1.lst
          rw [zp, sz _ _ ep] at ht
          cases ht
        · rw [sz _ _ (hB _ _ e zp)] at ht
          cases ht
    | cons y ls =>
      have hRz : Row K (upd H1 z (.lst [])) p := hR1.same sz
      have e1z := sz _ _ e1
      have e2z := sz _ _ e2
      refine ifT rfl ⟨fun σ' H' => ∃ m', m' < (y :: ls).length ∧ ∃ ls fs : List Int, m' = ls.length ∧ σ' = [some (.ref p), some (.int n), some (.ref l), some (.ref g)] ∧ But p H H' ∧ Row K H' p ∧ H' l = some (.lst (ls.map V.int)) ∧ H' g = some (.lst (fs.map V.int)) ∧ (fs ++ ls).Perm (rg n), fun _ _ h => h, ?_⟩
      refine ⟨_, rfl, .inl ⟨rfl, _, lstAt e2z⟩, _, rfl, .inl ⟨rfl, _, lstAt e1z⟩, _, rfl, _, rfl, l, _, rfl, .inl (lstAt e1z), p, _, rfl, hRz, ?_, ?_, fun k H3 k0 k1 hB3 hR3 => ?_⟩
      · rw [List.length_map, List.length_cons]
        omega
      · rw [List.length_map]
        omega
      rw [List.length_map] at k1
      have e1' := hB3 _ _ e1z (Ne.symm hpl)
      have e2' := hB3 _ _ e2z (Ne.symm hpg)
      have hk : k.toNat < (y :: ls).length := by omega
      obtain ⟨v, hv⟩ : ∃ v, (y :: ls)[k.toNat]? = some v := ⟨_, List.getElem?_eq_getElem hk⟩
      have e2u : (upd H3 l (.lst (((y :: ls).map V.int).eraseIdx k.toNat))) g = some (.lst (fs.map V.int)) := by
        rw [upd_ne (Ne.symm hlg)]
        exact e2'
      refine ⟨l, _, k, k.toNat, .int v, rfl, rfl, e1', by omega, by omega, ?_, at_map hv, g, _, .int v, rfl, rfl, e2u, ?_, ?_⟩
      · rw [List.length_map]
        exact ix_nat k0 k1
      · rw [List.length_map]
        exact small1000 (by have := List.length_cons (a := y) (as := ls); omega)
      · refine ⟨((y :: ls).eraseIdx k.toNat).length, ?_, (y :: ls).eraseIdx k.toNat, fs ++ [v], rfl, rfl, ?_, ?_, ?_, ?_, ?_⟩
        · rw [List.length_eraseIdx_of_lt hk]
          omega
        · exact (((hB.trans (But.same sz)).trans hB3).fresh hl).fresh hgH
        · exact (hR3.lst_upd e1' hpl).lst_upd e2u hpg
        · rw [upd_ne hlg, upd_same, map_erase]
        · rw [upd_same, List.map_append]
          rfl
        · have hp2 := perm_erase hv
          refine List.Perm.trans ?_ hpm
          rw [List.append_assoc]
          exact List.Perm.append_left fs hp2.symm
end
end RH
set_option Elab.async false
set_option linter.all false
set_option maxRecDepth 100000
set_option maxHeartbeats 2000000
namespace RH
open PySem PySem.Spec PyProof.Rows L2
/-! ### _law_alike of equal data -/
theorem Dp.on {K : PySem.W.Frag} {H H' : Hp} (s : Same H H') : ∀ (d : PyData) (v : V), Dp K H v d → Dp K H' v d
  | d, v, h => by
    refine Dp.rec (motive_1 := fun v d _ => Dp K H' v d) (motive_2 := fun vs ds _ => DpAll K H' vs ds) .non .bl .int .str ?_ ?_ .nil ?_ h
    · intro a xs ds h1 _ h2
      exact .lst (s.seq h1) h2
    · intro a xs ds h1 _ h2
      exact .tup (onT s h1) h2
    · intro v vs d ds _ _ h1 h2
      exact .cons h1 h2
theorem DpAll.len {K : PySem.W.Frag} {H : Hp} : ∀ {vs : List V} {ds : List PyData}, DpAll K H vs ds → vs.length = ds.length
  | _, _, .nil => rfl
  | _, _, .cons _ t => congrArg (· + 1) (DpAll.len t)
theorem DpAll.of {K : PySem.W.Frag} {H : Hp} : ∀ {vs : List V} {ds : List PyData} {i : Nat} {d : PyData}, DpAll K H vs ds → ds[i]? = some d → ∃ v, vs[i]? = some v ∧ Dp K H v d
  | _, _, _, _, .nil, e => by simp at e
  | _, _, 0, _, .cons h _, e => by
    have e' := Option.some.inj e
    subst e'
    exact ⟨_, rfl, h⟩
  | _, _, i + 1, _, .cons _ t, e => DpAll.of (i := i) t e
def okD : Nat → PyData → Prop
  | 0, .none => True
  | 0, .bool _ => True
  | 0, .int _ => True
  | 0, .str _ => True
  | 0, _ => False
  | _ + 1, .none => True
  | _ + 1, .bool _ => True
  | _ + 1, .int _ => True
  | _ + 1, .str _ => True
  | k + 1, .list ds => ds.length ≤ 20000 ∧ ∀ d ∈ ds, okD k d
  | k + 1, .tuple ds => ds.length ≤ 20000 ∧ ∀ d ∈ ds, okD k d
  | _ + 1, .dict _ => False
theorem kit2 {K : PySem.W.Frag} {t : String} {b1 b2 : Bool} (h1 : kitB t "tuple" = some b1) (h2 : kitB t "list" = some b2) : PySem.W.kitAny K (.type t) [.type "tuple", .type "list"] = some (b1 || b2) := by
  cases b1 with
  | true => exact kitAny_cons (kit_ty h1) (fun z => nomatch z) (fun _ => rfl)
  | false =>
    cases b2 with
    | true => exact kitAny_cons (kit_ty h1) (fun _ => kitAny_cons (kit_ty h2) (fun z => nomatch z) (fun _ => rfl)) (fun z => nomatch z)
    | false => exact kitAny_cons (kit_ty h1) (fun _ => kitAny_cons (kit_ty h2) (fun _ => kitAny_nil) (fun z => nomatch z)) (fun z => nomatch z)
theorem cls2 : Paired ClsV [V.ty "tuple", V.ty "list"] [Value.type "tuple", Value.type "list"] := .cons (.ty _) (.cons (.ty _) .nil)
theorem ixS {X : Cx} (K : PySem.W.Frag) (h : X.K = K := by rfl) : IxR X (rIx K) := by
  subst h
  exact ix_seq
/-- a list or a tuple -/
structure Sq2 (K : PySem.W.Frag) (H : Hp) (a : Addr) (xs : List V) (T : String) (b : Bool) : Prop where
  ty : TyX K H (.ref a) (.type T)
  sq : SqL K H a xs ∨ SqT K H a xs
  k1 : PySem.W.kitAny K (.type T) [.type "tuple", .type "list"] = some true
  k2 : PySem.W.kitOne K (.type T) (.type "list") = some b
  ix : ∀ (i : Nat) (x : V) (Q : VK), xs[i]? = some x → Q x H → rIx K (.ref a) (.int (i : Int)) H Q
theorem sq2T {K : PySem.W.Frag} {H : Hp} {a : Addr} {xs : List V} (h : SqT K H a xs) : Sq2 K H a xs "tuple" false :=
  ⟨ty_tup h, .inr h, kit2 (b1 := true) (b2 := false) (by decide +kernel) (by decide +kernel), kit_ty (by decide +kernel), fun i x Q e q => .inr (.inl ⟨a, xs, i, x, rfl, rfl, h, atI_nat e, q⟩)⟩
theorem ty_lst {K : PySem.W.Frag} {H : Hp} {a : Addr} {xs : List V} (h : SqL K H a xs) : TyX K H (.ref a) (.type "list") := by
  rcases h with (h | ⟨o, h⟩) | ⟨o, vz, n, h, c, _⟩
  · exact .base (.lst h)
  · exact .base (.frz h)
  · exact .kList h c
theorem sq2L {K : PySem.W.Frag} {H : Hp} {a : Addr} {xs : List V} (h : SqL K H a xs) : Sq2 K H a xs "list" true :=
  ⟨ty_lst h, .inl h, kit2 (b1 := false) (b2 := true) (by decide +kernel) (by decide +kernel), kit_ty (by decide +kernel), fun i x Q e q => .inl ⟨a, xs, i, x, rfl, rfl, h, atI_nat e, q⟩⟩
theorem pss_no {X : Cx} {sts : List Stmt} : PSs X sts (fun _ _ _ => False) := ⟨fun _ _ _ _ _ _ h => h.elim⟩
section
variable {P : Program} {w : World} {K : PySem.W.Frag} {mg : Str → Option Value} {base : Heap}
def spAlike (K : PySem.W.Frag) (k : Nat) : Sp := fun vs H Q _ => ∃ (v u : V) (d : PyData), vs = [v, u] ∧ Dp K H v d ∧ Dp K H u d ∧ okD k d ∧ ∀ H', Same H H' → Q (.bl true) H'
theorem ok_alike0 (F : Df K mg "_law_alike" st__law_alike ["found", "due"]) (B : Bu mg) : Cal P w K mg base 1 "_law_alike" (spAlike K 0) := by
  refine mkCal F sc__law_alike (fun vs H Q E h => ?_) (fun f cdv A outer s H vs Q E hr h => ?_)
  · obtain ⟨v, u, d, rfl, _⟩ := h
    rfl
  · obtain ⟨v, u, d, rfl, hv, hu, hk, q⟩ := h
    refine ⟨_, pss_cons (ps_if (pt_val (pe_callB call_isiT (by rfl) B.isi (by decide +kernel) (pa_cons (pv 1) (pa_cons (pe_tup (pa_cons (pe_bltn (v := .ty "tuple") (by rfl) B.tuple (by decide +kernel) rfl) (pa_cons (pe_bltn (v := .ty "list") (by rfl) B.list (by decide +kernel) rfl) pa_nil))) pa_nil)))) pss_no pss_nil)
      (pss_cons (ps_if (PW.pt (pw_or (pt_cmp (pc_isN (pv 1))) (pw_or1 (pt_val (pe_callB call_isi (by rfl) B.isi (by decide +kernel) (pa_cons (pv 1) (pa_cons (pe_bltn (v := .ty "str") (by rfl) B.str (by decide +kernel) rfl) pa_nil)))))))
        (pss_one (ps_ret (pe_and (pe_cmpR op_eq (pv 0) (pv 1) (nomark _)) (pe_one (pe_cmpR op_eq (pe_callB call_isi (by rfl) B.isi (by decide +kernel) (pa_cons (pv 0) (pa_cons (pe_bltn (v := .ty "str") (by rfl) B.str (by decide +kernel) rfl) pa_nil)))
          (pe_callB call_isi (by rfl) B.isi (by decide +kernel) (pa_cons (pv 1) (pa_cons (pe_bltn (v := .ty "str") (by rfl) B.str (by decide +kernel) rfl) pa_nil))) (nomark _)))))) pss_nil)
      (pss_one (ps_ret (pe_and (pe_callB call_isi (by rfl) B.isi (by decide +kernel) (pa_cons (pv 0) (pa_cons (pe_bltn (v := .ty "int") (by rfl) B.int (by decide +kernel) rfl) pa_nil)))
        (pe_and (pe_cmpR op_eq (pe_callB call_isi (by rfl) B.isi (by decide +kernel) (pa_cons (pv 0) (pa_cons (pe_bltn (v := .ty "bool") (by rfl) B.bool (by decide +kernel) rfl) pa_nil)))
          (pe_callB call_isi (by rfl) B.isi (by decide +kernel) (pa_cons (pv 1) (pa_cons (pe_bltn (v := .ty "bool") (by rfl) B.bool (by decide +kernel) rfl) pa_nil))) (nomark _)) (pe_one (pe_cmpR op_eq (pv 0) (pv 1) (nomark _)))))))), ?_⟩
    cases hv with
    | non =>
      cases hu
      refine ⟨_, rfl, (by show 2 ≤ sizeLine; decide), fun t ht => ⟨.non, t, _, _, _, false, rfl, upd_same, cls2, .base .non, kit2 (b1 := false) (b2 := false) (by decide +kernel) (by decide +kernel), _, rfl, ifF rfl ?_⟩⟩
      refine ⟨_, rfl, _, rfl, ifT (decide_eq_true rfl) (ifT rfl ?_)⟩
      exact ⟨_, rfl, _, rfl, rfl, _, rfl, ifT (decide_eq_true rfl) ⟨_, rfl, .non, .ty "str", _, _, false, rfl, .ty "str", .base .non, kit_ty (by decide +kernel), _, rfl, .non, .ty "str", _, _, false, rfl, .ty "str", .base .non, kit_ty (by decide +kernel), rfl, q _ (same_new ht)⟩⟩
    | bl b =>
      cases hu
      refine ⟨_, rfl, (by show 2 ≤ sizeLine; decide), fun t ht => ⟨.bl b, t, _, _, _, false, rfl, upd_same, cls2, .base (.bl b), kit2 (b1 := false) (b2 := false) (by decide +kernel) (by decide +kernel), _, rfl, ifF rfl ?_⟩⟩
      refine ⟨_, rfl, _, rfl, ifF (decide_eq_false (fun z => nomatch z)) ⟨_, rfl, .bl b, .ty "str", _, _, false, rfl, .ty "str", .base (.bl b), kit_ty (by decide +kernel), _, rfl, ifF rfl ?_⟩⟩
      refine ⟨_, rfl, .bl b, .ty "int", _, _, true, rfl, .ty "int", .base (.bl b), kit_ty (by decide +kernel), _, rfl, ifT rfl ?_⟩
      refine ⟨_, rfl, .bl b, .ty "bool", _, _, true, rfl, .ty "bool", .base (.bl b), kit_ty (by decide +kernel), _, rfl, .bl b, .ty "bool", _, _, true, rfl, .ty "bool", .base (.bl b), kit_ty (by decide +kernel), rfl, _, rfl, ifT (decide_eq_true rfl) ?_⟩
      refine ⟨_, rfl, _, rfl, rfl, ?_⟩
      rw [decide_eq_true (rfl : V.bl b = V.bl b)]
      exact q _ (same_new ht)
    | int i =>
      cases hu
      refine ⟨_, rfl, (by show 2 ≤ sizeLine; decide), fun t ht => ⟨.int i, t, _, _, _, false, rfl, upd_same, cls2, .base (.int i), kit2 (b1 := false) (b2 := false) (by decide +kernel) (by decide +kernel), _, rfl, ifF rfl ?_⟩⟩
      refine ⟨_, rfl, _, rfl, ifF (decide_eq_false (fun z => nomatch z)) ⟨_, rfl, .int i, .ty "str", _, _, false, rfl, .ty "str", .base (.int i), kit_ty (by decide +kernel), _, rfl, ifF rfl ?_⟩⟩
      refine ⟨_, rfl, .int i, .ty "int", _, _, true, rfl, .ty "int", .base (.int i), kit_ty (by decide +kernel), _, rfl, ifT rfl ?_⟩
      refine ⟨_, rfl, .int i, .ty "bool", _, _, false, rfl, .ty "bool", .base (.int i), kit_ty (by decide +kernel), _, rfl, .int i, .ty "bool", _, _, false, rfl, .ty "bool", .base (.int i), kit_ty (by decide +kernel), rfl, _, rfl, ifT (decide_eq_true rfl) ?_⟩
      refine ⟨_, rfl, _, rfl, rfl, ?_⟩
      rw [decide_eq_true (rfl : V.int i = V.int i)]
      exact q _ (same_new ht)
    | str x =>
      cases hu
      refine ⟨_, rfl, (by show 2 ≤ sizeLine; decide), fun t ht => ⟨.str x, t, _, _, _, false, rfl, upd_same, cls2, .base (.str x), kit2 (b1 := false) (b2 := false) (by decide +kernel) (by decide +kernel), _, rfl, ifF rfl ?_⟩⟩
      refine ⟨_, rfl, _, rfl, ifF (decide_eq_false (fun z => nomatch z)) ⟨_, rfl, .str x, .ty "str", _, _, true, rfl, .ty "str", .base (.str x), kit_ty (by decide +kernel), _, rfl, ifT rfl ?_⟩⟩
      exact ⟨_, rfl, _, rfl, rfl, _, rfl, ifT (decide_eq_true rfl) ⟨_, rfl, .str x, .ty "str", _, _, true, rfl, .ty "str", .base (.str x), kit_ty (by decide +kernel), _, rfl, .str x, .ty "str", _, _, true, rfl, .ty "str", .base (.str x), kit_ty (by decide +kernel), rfl, q _ (same_new ht)⟩⟩
    | lst _ _ => exact hk.elim
    | tup _ _ => exact hk.elim
end
end RH
set_option Elab.async false
set_option linter.all false
set_option maxRecDepth 100000
set_option maxHeartbeats 2000000
namespace RH
open PySem PySem.Spec PyProof.Rows L2
theorem alike_cases {K : PySem.W.Frag} {H : Hp} {k : Nat} {v u : V} {d : PyData} (hv : Dp K H v d) (hu : Dp K H u d) (hk : okD (k + 1) d) : okD 0 d ∨ ∃ (a b : Addr) (xs ys : List V) (ds : List PyData) (T : String) (bl : Bool), v = .ref a ∧ u = .ref b ∧
    (∀ H', Same H H' → Sq2 K H' a xs T bl) ∧ (∀ H', Same H H' → Sq2 K H' b ys T bl) ∧ DpAll K H xs ds ∧ DpAll K H ys ds ∧ ds.length ≤ 20000 ∧ ∀ d ∈ ds, okD k d := by
  cases hv with
  | non => exact .inl True.intro
  | bl _ => exact .inl True.intro
  | int _ => exact .inl True.intro
  | str _ => exact .inl True.intro
  | @lst a xs ds h1 h2 =>
    cases hu with
    | @lst b ys _ h3 h4 => exact .inr ⟨a, b, xs, ys, ds, "list", true, rfl, rfl, fun _ s => sq2L (s.seq h1), fun _ s => sq2L (s.seq h3), h2, h4, hk.1, hk.2⟩
  | @tup a xs ds h1 h2 =>
    cases hu with
    | @tup b ys _ h3 h4 => exact .inr ⟨a, b, xs, ys, ds, "tuple", false, rfl, rfl, fun _ s => sq2T (onT s h1), fun _ s => sq2T (onT s h3), h2, h4, hk.1, hk.2⟩
section
variable {P : Program} {w : World} {K : PySem.W.Frag} {mg : Str → Option Value} {base : Heap}
theorem ok_alikeS (k : Nat) (F : Df K mg "_law_alike" st__law_alike ["found", "due"]) (B : Bu mg) (C : Cal P w K mg base (k + 1) "_law_alike" (spAlike K k)) : Cal P w K mg base (k + 2) "_law_alike" (spAlike K (k + 1)) := by
  refine mkCal F sc__law_alike (fun vs H Q E h => ?_) (fun f cdv A outer s H vs Q E hr h => ?_)
  · obtain ⟨v, u, d, rfl, _⟩ := h
    rfl
  · obtain ⟨v, u, d, rfl, hv, hu, hk, q⟩ := h
    refine ⟨_, pss_cons (ps_if (pt_val (pe_callB call_isiT (by rfl) B.isi (by decide +kernel) (pa_cons (pv 1) (pa_cons (pe_tup (pa_cons (pe_bltn (v := .ty "tuple") (by rfl) B.tuple (by decide +kernel) rfl) (pa_cons (pe_bltn (v := .ty "list") (by rfl) B.list (by decide +kernel) rfl) pa_nil))) pa_nil))))
        (pss_cons (ps_if (PW.pt (pw_or (pt_not (pt_val (pe_callB call_isiT (by rfl) B.isi (by decide +kernel) (pa_cons (pv 0) (pa_cons (pe_tup (pa_cons (pe_bltn (v := .ty "tuple") (by rfl) B.tuple (by decide +kernel) rfl) (pa_cons (pe_bltn (v := .ty "list") (by rfl) B.list (by decide +kernel) rfl) pa_nil))) pa_nil)))))
            (pw_or1 (pt_cmpR op_ne (pe_callB call_isi (by rfl) B.isi (by decide +kernel) (pa_cons (pv 0) (pa_cons (pe_bltn (v := .ty "list") (by rfl) B.list (by decide +kernel) rfl) pa_nil)))
              (pe_callB call_isi (by rfl) B.isi (by decide +kernel) (pa_cons (pv 1) (pa_cons (pe_bltn (v := .ty "list") (by rfl) B.list (by decide +kernel) rfl) pa_nil))) (nomark _))))) (pss_one (ps_ret pe_bl)) pss_nil)
        (pss_cons (ps_if (pt_cmpR op_ne (pe_callB (cl_len K) (by rfl) B.len PySem.boot_len (pa_cons (pv 0) pa_nil)) (pe_callB (cl_len K) (by rfl) B.len PySem.boot_len (pa_cons (pv 1) pa_nil)) (nomark _)) (pss_one (ps_ret pe_bl)) pss_nil)
        (pss_one (ps_ret (pe_cmpR (op_eqD hr.units) (pe_lc (own := [("k", 2)]) (g := gName 2) rfl sc__law_alike.nd (pi_range1 (by rfl) B.range (pa_cons (pe_callB (cl_len K) (by rfl) B.len PySem.boot_len (pa_cons (pv 1) pa_nil)) pa_nil))
          (blkOk_by (N := ["found", "due", "k"]) (sc := defScope st__law_alike) (by decide +kernel)) (fun _ _ _ _ _ => pg_name (i := 2) sc__law_alike.nd rfl (Or.inl rfl))
          (fun _ _ _ _ _ => pts_one (pt_not (pt_val (pc C hr (pa_cons (pe_ix (ixS K) (pv 0) (pv 2) (fun _ _ => rfl)) (pa_cons (pe_ix (ixS K) (pv 1) (pv 2) (fun _ _ => rfl)) pa_nil)) (hk := Nat.le_refl _))))) (fun _ _ _ _ _ => pv 2)) (pe_lst pa_nil) (nomark _)))))) pss_nil)
      (pss_cons (ps_if (PW.pt (pw_or (pt_cmp (pc_isN (pv 1))) (pw_or1 (pt_val (pe_callB call_isi (by rfl) B.isi (by decide +kernel) (pa_cons (pv 1) (pa_cons (pe_bltn (v := .ty "str") (by rfl) B.str (by decide +kernel) rfl) pa_nil)))))))
        (pss_one (ps_ret (pe_and (pe_cmpR op_eq (pv 0) (pv 1) (nomark _)) (pe_one (pe_cmpR op_eq (pe_callB call_isi (by rfl) B.isi (by decide +kernel) (pa_cons (pv 0) (pa_cons (pe_bltn (v := .ty "str") (by rfl) B.str (by decide +kernel) rfl) pa_nil)))
          (pe_callB call_isi (by rfl) B.isi (by decide +kernel) (pa_cons (pv 1) (pa_cons (pe_bltn (v := .ty "str") (by rfl) B.str (by decide +kernel) rfl) pa_nil))) (nomark _)))))) pss_nil)
      (pss_one (ps_ret (pe_and (pe_callB call_isi (by rfl) B.isi (by decide +kernel) (pa_cons (pv 0) (pa_cons (pe_bltn (v := .ty "int") (by rfl) B.int (by decide +kernel) rfl) pa_nil)))
        (pe_and (pe_cmpR op_eq (pe_callB call_isi (by rfl) B.isi (by decide +kernel) (pa_cons (pv 0) (pa_cons (pe_bltn (v := .ty "bool") (by rfl) B.bool (by decide +kernel) rfl) pa_nil)))
          (pe_callB call_isi (by rfl) B.isi (by decide +kernel) (pa_cons (pv 1) (pa_cons (pe_bltn (v := .ty "bool") (by rfl) B.bool (by decide +kernel) rfl) pa_nil))) (nomark _)) (pe_one (pe_cmpR op_eq (pv 0) (pv 1) (nomark _)))))))), ?_⟩
    rcases alike_cases hv hu hk with hk0 | ⟨a, b, xs, ys, ds, T, bl, rfl, rfl, ha, hb, hx, hy, hl, hd⟩
    · clear hk
      cases hv with
      | non =>
        cases hu
        refine ⟨_, rfl, (by show 2 ≤ sizeLine; decide), fun t ht => ⟨.non, t, _, _, _, false, rfl, upd_same, cls2, .base .non, kit2 (b1 := false) (b2 := false) (by decide +kernel) (by decide +kernel), _, rfl, ifF rfl ?_⟩⟩
        refine ⟨_, rfl, _, rfl, ifT (decide_eq_true rfl) (ifT rfl ?_)⟩
        exact ⟨_, rfl, _, rfl, rfl, _, rfl, ifT (decide_eq_true rfl) ⟨_, rfl, .non, .ty "str", _, _, false, rfl, .ty "str", .base .non, kit_ty (by decide +kernel), _, rfl, .non, .ty "str", _, _, false, rfl, .ty "str", .base .non, kit_ty (by decide +kernel), rfl, q _ (same_new ht)⟩⟩
      | bl b =>
        cases hu
        refine ⟨_, rfl, (by show 2 ≤ sizeLine; decide), fun t ht => ⟨.bl b, t, _, _, _, false, rfl, upd_same, cls2, .base (.bl b), kit2 (b1 := false) (b2 := false) (by decide +kernel) (by decide +kernel), _, rfl, ifF rfl ?_⟩⟩
        refine ⟨_, rfl, _, rfl, ifF (decide_eq_false (fun z => nomatch z)) ⟨_, rfl, .bl b, .ty "str", _, _, false, rfl, .ty "str", .base (.bl b), kit_ty (by decide +kernel), _, rfl, ifF rfl ?_⟩⟩
        refine ⟨_, rfl, .bl b, .ty "int", _, _, true, rfl, .ty "int", .base (.bl b), kit_ty (by decide +kernel), _, rfl, ifT rfl ?_⟩
        refine ⟨_, rfl, .bl b, .ty "bool", _, _, true, rfl, .ty "bool", .base (.bl b), kit_ty (by decide +kernel), _, rfl, .bl b, .ty "bool", _, _, true, rfl, .ty "bool", .base (.bl b), kit_ty (by decide +kernel), rfl, _, rfl, ifT (decide_eq_true rfl) ?_⟩
        refine ⟨_, rfl, _, rfl, rfl, ?_⟩
        rw [decide_eq_true (rfl : V.bl b = V.bl b)]
        exact q _ (same_new ht)
      | int i =>
        cases hu
        refine ⟨_, rfl, (by show 2 ≤ sizeLine; decide), fun t ht => ⟨.int i, t, _, _, _, false, rfl, upd_same, cls2, .base (.int i), kit2 (b1 := false) (b2 := false) (by decide +kernel) (by decide +kernel), _, rfl, ifF rfl ?_⟩⟩
        refine ⟨_, rfl, _, rfl, ifF (decide_eq_false (fun z => nomatch z)) ⟨_, rfl, .int i, .ty "str", _, _, false, rfl, .ty "str", .base (.int i), kit_ty (by decide +kernel), _, rfl, ifF rfl ?_⟩⟩
        refine ⟨_, rfl, .int i, .ty "int", _, _, true, rfl, .ty "int", .base (.int i), kit_ty (by decide +kernel), _, rfl, ifT rfl ?_⟩
        refine ⟨_, rfl, .int i, .ty "bool", _, _, false, rfl, .ty "bool", .base (.int i), kit_ty (by decide +kernel), _, rfl, .int i, .ty "bool", _, _, false, rfl, .ty "bool", .base (.int i), kit_ty (by decide +kernel), rfl, _, rfl, ifT (decide_eq_true rfl) ?_⟩
        refine ⟨_, rfl, _, rfl, rfl, ?_⟩
        rw [decide_eq_true (rfl : V.int i = V.int i)]
        exact q _ (same_new ht)
      | str x =>
        cases hu
        refine ⟨_, rfl, (by show 2 ≤ sizeLine; decide), fun t ht => ⟨.str x, t, _, _, _, false, rfl, upd_same, cls2, .base (.str x), kit2 (b1 := false) (b2 := false) (by decide +kernel) (by decide +kernel), _, rfl, ifF rfl ?_⟩⟩
        refine ⟨_, rfl, _, rfl, ifF (decide_eq_false (fun z => nomatch z)) ⟨_, rfl, .str x, .ty "str", _, _, true, rfl, .ty "str", .base (.str x), kit_ty (by decide +kernel), _, rfl, ifT rfl ?_⟩⟩
        exact ⟨_, rfl, _, rfl, rfl, _, rfl, ifT (decide_eq_true rfl) ⟨_, rfl, .str x, .ty "str", _, _, true, rfl, .ty "str", .base (.str x), kit_ty (by decide +kernel), _, rfl, .str x, .ty "str", _, _, true, rfl, .ty "str", .base (.str x), kit_ty (by decide +kernel), rfl, q _ (same_new ht)⟩⟩
      | lst _ _ => exact hk0.elim
      | tup _ _ => exact hk0.elim
    · have lx : xs.length = ds.length := DpAll.len hx
      have ly : ys.length = ds.length := DpAll.len hy
      refine ⟨_, rfl, (by show 2 ≤ sizeLine; decide), fun t ht => ?_⟩
      have s1 : Same H (upd H t (.tup [.ty "tuple", .ty "list"])) := same_new ht
      have b1 := hb _ s1
      refine ⟨.ref b, t, _, _, _, true, rfl, upd_same, cls2, b1.ty, b1.k1, _, rfl, ifT rfl ?_⟩
      refine ⟨_, rfl, (by show 2 ≤ sizeLine; decide), fun t2 ht2 => ?_⟩
      have s2 := s1.trans (same_new (o := .tup [.ty "tuple", .ty "list"]) ht2)
      have a2 := ha _ s2
      have b2 := hb _ s2
      refine ⟨.ref a, t2, _, _, _, true, rfl, upd_same, cls2, a2.ty, a2.k1, _, rfl, ifF rfl ?_⟩
      refine ⟨_, rfl, .ref a, .ty "list", _, _, bl, rfl, .ty "list", a2.ty, a2.k2, _, rfl, .ref b, .ty "list", _, _, bl, rfl, .ty "list", b2.ty, b2.k2, rfl, _, rfl, ifF (by rw [decide_eq_true (rfl : V.bl bl = V.bl bl)]; rfl) ?_⟩
      refine ⟨_, rfl, a, xs, rfl, a2.sq, _, rfl, b, ys, rfl, b2.sq, rfl, _, rfl, ifF (by rw [lx, ly, decide_eq_true rfl]; rfl) ?_⟩
      refine ⟨_, rfl, b, ys, rfl, b2.sq, _, rfl, by omega, by omega, fun D hD => ?_⟩
      rw [Int.toNat_natCast]
      refine lc_range (lo := 0) (n := ys.length) (fun i H' => Same (upd (upd H t (.tup [.ty "tuple", .ty "list"])) t2 (.tup [.ty "tuple", .ty "list"])) H' ∧ H' D = some (.lst [])) ⟨same_new hD, upd_same⟩ (fun i H' hi h' => ?_) (fun H' h' => ?_)
      · obtain ⟨sm, eD⟩ := h'
        have s3 := s2.trans sm
        obtain ⟨d, hdi⟩ : ∃ d, ds[i]? = some d := ⟨_, List.getElem?_eq_getElem (by omega)⟩
        obtain ⟨x, hxi, hxd⟩ := DpAll.of hx hdi
        obtain ⟨y, hyi, hyd⟩ := DpAll.of hy hdi
        rw [Int.zero_add]
        refine ⟨rfl, _, rfl, _, rfl, ?_⟩
        refine (ha _ s3).ix i x _ hxi ⟨_, rfl, _, rfl, ?_⟩
        refine (hb _ s3).ix i y _ hyi ⟨x, y, d, rfl, Dp.on s3 d x hxd, Dp.on s3 d y hyd, hd d (List.mem_of_getElem? hdi), fun H4 s4 => ⟨_, rfl, ifF rfl ⟨?_, s4 _ _ eD⟩⟩⟩
        exact sm.trans s4
      · obtain ⟨sm, eD⟩ := h'
        refine ⟨Nat.zero_le _, fun z hz => ?_⟩
        refine ⟨_, _, dp_lst (ns := []) (lstAt (same_new hz _ _ eD)), dp_lst (ns := []) (lstAt upd_same), PySem.W.ke_shaped_ints _, PySem.W.ke_shaped_ints _, ?_⟩
        exact q _ (s2.trans (sm.trans (same_new hz)))
end
end RH
set_option Elab.async false
set_option linter.all false
set_option maxRecDepth 100000
set_option maxHeartbeats 2000000
namespace RH
open PySem PySem.Spec PyProof.Rows L2
/-! ### words, what they touch, and what a loss does -/
theorem perm_len {n : Nat} {l : List Int} (h : l.Perm (rg n)) : l.length = n := by rw [h.length_eq, rg_len]
theorem perm_in {n : Nat} {l : List Int} (h : l.Perm (rg n)) {x : Int} (hx : x ∈ l) : InR n x := rg_mem.mp (h.mem_iff.mp hx)
def stp (h : List (List Int)) (p : Int) (L : List Int) : List Int := L.map (mv h p)
/-- the row of a place -/
theorem Hb.row {n : Nat} {h : List (List Int)} (q : Hb n h) {p : Int} (hp : InR n p) : h.getD p.toNat [] ∈ h := by
  have h1 : p.toNat < h.length := by rw [q.len]; have := hp.1; have := hp.2; omega
  rw [List.getD_eq_getElem?_getD, List.getElem?_eq_getElem h1]
  exact List.getElem_mem h1
theorem Hb.row_eq {n : Nat} {h : List (List Int)} (q : Hb n h) {p : Int} (hp : InR n p) : (rg n).map (mv h p) = h.getD p.toNat [] := by
  have hl := q.short (q.row hp)
  refine List.ext_getElem? fun i => ?_
  rw [List.getElem?_map]
  by_cases hi : i < n
  · rw [rg_at hi]
    show some (mv h p (i : Int)) = _
    unfold mv
    rw [Int.toNat_natCast, List.getD_eq_getElem?_getD (l := h.getD p.toNat []), List.getElem?_eq_getElem (by omega : i < (h.getD p.toNat []).length)]
    rfl
  · rw [List.getElem?_eq_none (by rw [rg_len]; omega), List.getElem?_eq_none (by omega)]
    rfl
theorem Hb.stp_perm {n : Nat} {h : List (List Int)} (q : Hb n h) {p : Int} (hp : InR n p) {L : List Int} (hL : L.Perm (rg n)) : (stp h p L).Perm (rg n) := by
  have h1 : (stp h p L).Perm ((rg n).map (mv h p)) := hL.map _
  rw [q.row_eq hp] at h1
  exact h1.trans (q.perm _ (q.row hp))
end RH
set_option Elab.async false
set_option linter.all false
set_option maxRecDepth 100000
set_option maxHeartbeats 2000000
namespace RH
open PySem PySem.Spec PyProof.Rows L2
theorem ixN_int {n : Nat} {k : Int} (h0 : 0 ≤ k) (h1 : k < n) : ixN n k = some k.toNat := by
  unfold ixN
  rw [if_pos h0, if_pos h1]
def tF (n pl : Nat) : List Int := (List.range n).map fun s : Nat => ((s : Int) + (pl : Int)) % (n : Int)
def mF (n pl : Nat) : List Int := (List.range n).map fun s : Nat => (s : Int) + (if decide ((s : Int) < (pl : Int)) = true then 1 else 0)
def fF (n pl : Nat) : List Int := (mF n pl).take pl ++ [0] ++ (mF n pl).drop (pl + 1)
def sF (n pl : Nat) : List Int := ((rg n).set pl ((pl - 1 : Nat) : Int)).set (pl - 1) (pl : Int)
theorem perm_all : ∀ n, n < 6 → ∀ pl, pl < n → (tF n pl).isPerm (rg n) = true ∧ (fF n pl).isPerm (rg n) = true ∧ (sF n pl).isPerm (rg n) = true := by decide +kernel
theorem mF_len (n pl : Nat) : (mF n pl).length = n := by
  unfold mF
  rw [List.length_map, List.length_range]
theorem range_more {f : Nat → Int} (i : Nat) : ((List.range (i + 1)).map f).map V.int = ((List.range i).map f).map V.int ++ [V.int (f i)] := by
  rw [List.range_succ, List.map_append, List.map_append]
  rfl
/-- the permutations found so far -/
def HI (K : PySem.W.Frag) (p g : Addr) (H : Hp) (n i : Nat) (H' : Hp) : Prop := ∃ (xs : List V) (hs : List (List Int)), But p H H' ∧ Row K H' p ∧ H' g = some (.lst xs) ∧ Each (TI K H') xs hs ∧ hs.length = i ∧ ∀ ns ∈ hs, ns.Perm (rg n)
theorem HI.step {K : PySem.W.Frag} {p g : Addr} {H H1 H5 : Hp} {n i : Nat} (h : HI K p g H n i H1) (hg : H g = none) (hpg : p ≠ g) (b : But p H1 H5) (r : Row K H5 p) :
    ∃ xs, H5 g = some (.lst xs) ∧ xs.length = i ∧ ∀ (q : Addr) (ns : List Int) (H6 : Hp), Same H5 H6 → SqT K H6 q (ns.map V.int) → ns.Perm (rg n) → HI K p g H n (i + 1) (upd H6 g (.lst (xs ++ [.ref q]))) := by
  obtain ⟨xs, hs, hB, hR, e, hE, hl, hp⟩ := h
  have e5 := b _ _ e (Ne.symm hpg)
  refine ⟨xs, e5, hE.len.trans hl, fun q ns H6 s6 hq hpm => ⟨xs ++ [.ref q], hs ++ [ns], ?_, ?_, upd_same, ?_, ?_, ?_⟩⟩
  · exact ((hB.trans b).trans (But.same s6)).fresh hg
  · exact (r.same s6).lst_upd (s6 _ _ e5) hpg
  · have f1 : Fix H1 (upd H6 g (.lst (xs ++ [.ref q]))) := (hR.fix b).trans ((Fix.same s6).trans (Fix.lst (s6 _ _ e5)))
    exact Each.snoc ⟨q, rfl, Fix.tups (Fix.lst (s6 _ _ e5)) _ _ hq⟩ (hE.imp fun _ _ z => z.on f1.tups)
  · rw [List.length_append, hl]
    rfl
  · intro ns' hm
    rcases List.mem_append.mp hm with h1 | h1
    · exact hp _ h1
    · rw [List.mem_singleton.mp h1]
      exact hpm
section
variable {P : Program} {w : World} {K : PySem.W.Frag} {mg : Str → Option Value} {base : Heap}
def spHabit (K : PySem.W.Frag) : Sp := fun vs H Q _ => ∃ (p : Addr) (n : Nat), vs = [.ref p, .int n] ∧ Row K H p ∧ 2 ≤ n ∧ n ≤ 5 ∧ ∀ (H' : Hp) (v : V) (h : List (List Int)), Hb n h → But p H H' → Row K H' p → TII K H' v h → Q v H'
theorem ok_habit (F : Df K mg "_law_habit" st__law_habit ["row", "places"]) (B : Bu mg) (CT : Cal P w K mg base 1 "_law_taken" (spTaken K)) (CO : Cal P w K mg base 2 "_law_order" (spOrder K)) : Cal P w K mg base 3 "_law_habit" (spHabit K) := by
  refine mkCal F sc__law_habit (fun vs H Q E h => ?_) (fun f cdv A outer s H vs Q E hr h => ?_)
  · obtain ⟨p, n, rfl, _⟩ := h
    rfl
  · obtain ⟨p, n, rfl, hR, n2, n5, q⟩ := h
    refine ⟨_, pss_cons (ps_par (i := 2) (j := 3) rfl sc__law_habit.nd rfl rfl (by decide) rfl rfl (pa_cons (pc CT hr (pa_cons (pv 0) (pa_cons pe_int pa_nil))) (pa_cons (pe_lst pa_nil) pa_nil)) rfl)
      (pss_cons (ps_for PassesOwn.never rfl (pi_range1 (by rfl) B.range (pa_cons (pv 1) pa_nil)) (pg_name (i := 4) sc__law_habit.nd rfl (Or.inr rfl))
        (pss_one (ps_if (pt_cmpR op_eq (pv 2) pe_int (nomark _))
          (pss_one (ps_expr (pe_bm PySem.F.plainAttrs_list PySem.F.slot_list_append PySem.F.type_list_append mt_append (pv 3) (pa_cons (pe_tupleOf (by rfl) B.tuple (pe_lc (own := [("spot", 7)]) (g := gName 7) (tt := tYes) rfl sc__law_habit.nd
            (pi_range1 (by rfl) B.range (pa_cons (pv 1) pa_nil)) (blkOk_by (N := ["row", "places", "way", "found", "place", "moved", "other", "spot"]) (sc := defScope st__law_habit) (by decide +kernel)) (fun _ _ _ _ _ => pg_name (i := 7) sc__law_habit.nd rfl (Or.inl rfl))
            (fun _ _ _ _ _ => pts_nil) (fun _ _ _ _ _ => pe_op op_mod (pe_op op_add (pv 7) (pv 4)) (pv 1)))) pa_nil))))
        (pss_one (ps_if (pt_cmpR op_eq (pv 2) pe_int (nomark _))
          (pss_cons (ps_setLc (i := 5) (own := [("spot", 7)]) (g := gName 7) (tt := tYes) rfl sc__law_habit.nd rfl rfl (sw_true rfl rfl rfl (by decide +kernel)) (pi_range1 (by rfl) B.range (pa_cons (pv 1) pa_nil))
            (blkOk_by (N := ["row", "places", "way", "found", "place", "moved", "other", "spot"]) (sc := defScope st__law_habit) (by decide +kernel)) (fun _ _ _ _ _ => pg_name (i := 7) sc__law_habit.nd rfl (Or.inl rfl))
            (fun _ _ _ _ _ => pts_nil) (fun _ _ _ _ _ => pe_op op_add (pv 7) (pe_callTy call_int1 (by rfl) B.int (by decide +kernel) (pa_cons (pe_cmpR op_lt (pv 7) (pv 4) (nomark _)) pa_nil))))
          (pss_one (ps_expr (pe_bm PySem.F.plainAttrs_list PySem.F.slot_list_append PySem.F.type_list_append mt_append (pv 3) (pa_cons (pe_tupleOf (by rfl) B.tuple (pe_op op_cat (pe_op op_cat (pe_slice sl_list (pv 5) po_none (po_some (pv 4))) (pe_lst (pa_cons pe_int pa_nil)))
            (pe_slice sl_list (pv 5) (po_some (pe_op op_add (pv 4) pe_int)) po_none))) pa_nil)))))
        (pss_one (ps_if (pt_cmpR op_eq (pv 2) pe_int (nomark _))
          (pss_cons (ps_set (i := 6) sc__law_habit.nd rfl (.inl rfl) (pe_callB (call_max2 rfl) (by rfl) B.max (by decide +kernel) (pa_cons pe_int (pa_cons (pe_op op_sub (pv 4) pe_int) pa_nil))))
          (pss_cons (ps_set (i := 5) sc__law_habit.nd rfl (.inl rfl) (pe_listRg rfl (by rfl) B.list (prg_1 (by rfl) B.range (pv 1))))
          (pss_cons (ps_asg (pe_tup (pa_cons (pv 6) (pa_cons (pv 4) pa_nil))) (pg_tup rfl (pgs_cons (pg_sub (pv 5) (pv 4) set_list) (pgs_cons (pg_sub (pv 5) (pv 6) set_list) pgs_nil))))
          (pss_one (ps_expr (pe_bm PySem.F.plainAttrs_list PySem.F.slot_list_append PySem.F.type_list_append mt_append (pv 3) (pa_cons (pe_tupleOf (by rfl) B.tuple (pv 5)) pa_nil)))))))
        (pss_one (ps_if (PW.pt (pw_and (pt_cmpR op_eq (pv 2) pe_int (nomark _)) (pw_and1 (pt_cmpR op_eq (pc CT hr (pa_cons (pv 0) (pa_cons pe_int pa_nil))) pe_int (nomark _)))))
          (pss_one (ps_expr (pe_bm PySem.F.plainAttrs_list PySem.F.slot_list_append PySem.F.type_list_append mt_append (pv 3) (pa_cons (pe_tupRg rfl (by rfl) B.tuple (prg_1 (by rfl) B.range (pv 1))) pa_nil))))
          (pss_one (ps_expr (pe_bm PySem.F.plainAttrs_list PySem.F.slot_list_append PySem.F.type_list_append mt_append (pv 3) (pa_cons (pc CO hr (pa_cons (pv 0) (pa_cons (pv 1) pa_nil))) pa_nil))))))))))))) 
      (pss_one (ps_ret (pe_tupleOf (by rfl) B.tuple (pv 3))))), ?_⟩
    refine ⟨_, rfl, p, 5, rfl, hR, by decide, by decide, fun wy H0 w0 w1 hB0 hR0 => ⟨Nat.zero_le _, fun g hg0 => ⟨_, _, rfl, ?_⟩⟩⟩
    have hpg : p ≠ g := hR0.ne hg0
    have hg : H g = none := by
      cases e : H g with
      | none => rfl
      | some o =>
        rw [hB0 _ _ e (Ne.symm hpg)] at hg0
        cases hg0
    refine ⟨_, rfl, n, rfl, by omega, by omega, ?_⟩
    rw [Int.toNat_natCast]
    refine for_range (lo := 0) (n := n) (fun i σ H' => HI K p g H n i H' ∧ ∃ y4 y5 y6 y7, σ = [some (.ref p), some (.int n), some (.int wy), some (.ref g), y4, y5, y6, y7])
      ⟨⟨[], [], hB0.fresh hg, hR0.new hg0, upd_same, .nil, rfl, fun _ hm => absurd hm (List.not_mem_nil)⟩, none, none, none, none, rfl⟩ (fun i σ H1 hi h' => ?_) (fun σ H' h' => ?_)
    · obtain ⟨hI, y4, y5, y6, y7, rfl⟩ := h'
      obtain ⟨pT, pF, pS⟩ := perm_all n (by omega) i hi
      have hR1 : Row K H1 p := hI.choose_spec.choose_spec.2.1
      rw [Int.zero_add]
      refine ⟨_, rfl, rfl, _, rfl, ite2 (fun _ => ?_) (fun _ => ?_)⟩
      · -- turned round
        obtain ⟨xs, e1, xl, st⟩ := hI.step hg hpg (But.refl p H1) hR1
        refine ⟨_, rfl, .inl ⟨rfl, _, lstAt e1⟩, _, rfl, n, rfl, by omega, by omega, fun D hD => ?_⟩
        rw [Int.toNat_natCast]
        refine lc_range (lo := 0) (n := n) (fun j H' => Same H1 H' ∧ H' D = some (.lst (((List.range j).map fun s : Nat => ((s : Int) + (i : Int)) % (n : Int)).map V.int))) ⟨same_new hD, upd_same⟩ (fun j H' hj h' => ?_) (fun H' h' => ?_)
        · obtain ⟨sm, eD⟩ := h'
          refine ⟨rfl, _, rfl, _, rfl, _, _, rfl, rfl, _, rfl, _, n, rfl, rfl, by omega, _, eD, ?_, ?_, ?_⟩
          · rw [List.length_map, List.length_map, List.length_range]
            exact small1000 (by omega)
          · intro b o e
            rw [upd_ne (ne_of_none e hD)]
            exact sm b o e
          · rw [upd_same, range_more, Int.zero_add]
        · obtain ⟨sm, eD⟩ := h'
          refine .inl ⟨D, _, rfl, lstAt eD, fun t ht => ?_⟩
          have sT := sm.trans (same_new (o := .tup ((tF n i).map V.int)) ht)
          refine ⟨g, xs, .ref t, rfl, rfl, sT _ _ e1, small1000 (by omega), st t (tF n i) _ sT (tupAt upd_same) (List.isPerm_iff.mp pT), _, _, _, _, rfl⟩
      · refine ⟨_, rfl, rfl, _, rfl, ite2 (fun _ => ?_) (fun _ => ?_)⟩
        · -- to the front
          refine ⟨_, rfl, n, rfl, by omega, by omega, fun D hD => ?_⟩
          rw [Int.toNat_natCast]
          refine lc_range (lo := 0) (n := n) (fun j H' => Same H1 H' ∧ H' D = some (.lst (((List.range j).map fun s : Nat => (s : Int) + (if decide ((s : Int) < (i : Int)) = true then 1 else 0)).map V.int))) ⟨same_new hD, upd_same⟩ (fun j H' hj h' => ?_) (fun H' h' => ?_)
          · obtain ⟨sm, eD⟩ := h'
            refine ⟨rfl, _, rfl, _, rfl, _, rfl, _, _, rfl, rfl, .inr ⟨_, rfl, _, _, rfl, rfl, _, eD, ?_, ?_, ?_⟩⟩
            · rw [List.length_map, List.length_map, List.length_range]
              exact small1000 (by omega)
            · intro b o e
              rw [upd_ne (ne_of_none e hD)]
              exact sm b o e
            · rw [upd_same, range_more, Int.zero_add]
          · obtain ⟨sm, eD⟩ := h'
            have hR2 := hR1.same sm
            obtain ⟨xs, e1, xl, st⟩ := hI.step hg hpg (But.same sm) hR2
            have hDl : ((List.range n).map fun s : Nat => (s : Int) + (if decide ((s : Int) < (i : Int)) = true then 1 else 0)) = mF n i := rfl
            rw [hDl] at eD
            refine ⟨_, rfl, .inl ⟨rfl, _, lstAt e1⟩, _, rfl, _, rfl, (i : Int), rfl, D, _, rfl, lstAt eD, fun a1 ha1 => ⟨by show 1 ≤ sizeLine; decide, fun a2 ha2 => ?_⟩⟩
            rw [cut_to] at *
            have q1 := same_new (o := .lst (((mF n i).map V.int).take i)) ha1
            have q2 := same_new (o := .lst [.int 0]) ha2
            refine ⟨a1, a2, ((mF n i).map V.int).take i, [.int 0], rfl, rfl, q2 _ _ upd_same, upd_same, ?_, fun a3 ha3 => ?_⟩
            · rw [List.length_take, List.length_map, mF_len]
              exact Nat.le_of_lt (small1000 (by show min i n + 1 ≤ 1000; omega))
            have q3 := same_new (o := .lst (((mF n i).map V.int).take i ++ [.int 0])) ha3
            refine ⟨_, rfl, _, rfl, (i : Int), 1, rfl, rfl, (i : Int) + 1, rfl, D, _, rfl, lstAt (q3 _ _ (q2 _ _ (q1 _ _ eD))), fun a4 ha4 => ?_⟩
            have q4 := same_new (o := .lst (cutV ((mF n i).map V.int) (some ((i : Int) + 1)) none)) ha4
            have ec : cutV ((mF n i).map V.int) (some ((i : Int) + 1)) none = ((mF n i).map V.int).drop (i + 1) := cut_from _ (i + 1)
            refine ⟨a3, a4, _, _, rfl, rfl, q4 _ _ upd_same, upd_same, ?_, fun a5 ha5 => ?_⟩
            · rw [ec, List.length_append, List.length_take, List.length_drop, List.length_map, mF_len]
              exact Nat.le_of_lt (small1000 (by show min i n + 1 + (n - (i + 1)) ≤ 1000; omega))
            have q5 := same_new (o := .lst ((((mF n i).map V.int).take i ++ [.int 0]) ++ cutV ((mF n i).map V.int) (some ((i : Int) + 1)) none)) ha5
            refine .inl ⟨a5, _, rfl, lstAt upd_same, fun t ht => ?_⟩
            have q6 := same_new (o := .tup ((((mF n i).map V.int).take i ++ [.int 0]) ++ cutV ((mF n i).map V.int) (some ((i : Int) + 1)) none)) ht
            have qq := q1.trans (q2.trans (q3.trans (q4.trans (q5.trans q6))))
            have et : ((((mF n i).map V.int).take i ++ [.int 0]) ++ cutV ((mF n i).map V.int) (some ((i : Int) + 1)) none) = (fF n i).map V.int := by
              rw [ec]
              unfold fF
              rw [List.map_append, List.map_append, List.map_take, List.map_drop]
              rfl
            exact ⟨g, xs, .ref t, rfl, rfl, qq _ _ e1, small1000 (by omega), st t (fF n i) _ qq (tupAt (by rw [upd_same, et])) (List.isPerm_iff.mp pF), _, _, _, _, rfl⟩
        · refine ⟨_, rfl, rfl, _, rfl, ite2 (fun _ => ?_) (fun _ => ?_)⟩
          · -- neighbours
            refine ⟨_, rfl, (i : Int), 1, rfl, rfl, 0, (i : Int) - 1, rfl, ?_⟩
            have eo : (if (i : Int) - 1 > 0 then (i : Int) - 1 else 0) = ((i - 1 : Nat) : Int) := by
              split <;> omega
            rw [eo]
            refine ⟨_, rfl, n, rfl, ⟨by omega, by omega, by omega, by omega, by omega⟩, fun m hm => ?_⟩
            rw [rgV_rg] at *
            have hpm : p ≠ m := hR1.ne hm
            have s1 := same_new (o := .lst ((rg n).map V.int)) hm
            refine ⟨_, rfl, _, rfl, by show 2 ≤ sizeLine; decide, fun t ht => ?_⟩
            have s2 := same_new (o := .tup [.int ((i - 1 : Nat) : Int), .int (i : Int)]) ht
            have em := s2 _ _ (upd_same (H := H1) (a := m) (o := .lst ((rg n).map V.int)))
            have ll : ((rg n).map V.int).length = n := by rw [List.length_map, rg_len]
            refine ⟨t, _, rfl, tupAt upd_same, rfl, _, _, rfl, _, rfl, _, rfl, m, _, (i : Int), i, rfl, rfl, em, ?_, ?_⟩
            · have := ixN_int (n := ((rg n).map V.int).length) (k := (i : Int)) (by omega) (by omega)
              exact this
            refine ⟨_, _, rfl, _, rfl, _, rfl, m, _, ((i - 1 : Nat) : Int), i - 1, rfl, rfl, upd_same, ?_, rfl, ?_⟩
            · have := ixN_int (n := (((rg n).map V.int).set i (.int ((i - 1 : Nat) : Int))).length) (k := ((i - 1 : Nat) : Int)) (by omega) (by rw [List.length_set]; omega)
              exact this
            have et : (((rg n).map V.int).set i (.int ((i - 1 : Nat) : Int))).set (i - 1) (.int (i : Int)) = (sF n i).map V.int := by
              unfold sF
              rw [List.map_set, List.map_set]
            rw [et]
            have hR5 := ((hR1.same (s1.trans s2)).lst_upd (o := .lst (((rg n).map V.int).set i (.int ((i - 1 : Nat) : Int)))) em hpm).lst_upd (o := .lst ((sF n i).map V.int)) upd_same hpm
            obtain ⟨xs, e1, xl, st⟩ := hI.step hg hpg (((But.same (s1.trans s2)).fresh (o := .lst (((rg n).map V.int).set i (.int ((i - 1 : Nat) : Int)))) hm).fresh (o := .lst ((sF n i).map V.int)) hm) hR5
            refine ⟨_, rfl, .inl ⟨rfl, _, lstAt e1⟩, _, rfl, .inl ⟨m, _, rfl, lstAt upd_same, fun t2 ht2 => ?_⟩⟩
            have s6 := same_new (o := .tup ((sF n i).map V.int)) ht2
            exact ⟨g, xs, .ref t2, rfl, rfl, s6 _ _ e1, small1000 (by omega), st t2 (sF n i) _ s6 (tupAt upd_same) (List.isPerm_iff.mp pS), _, _, _, _, rfl⟩
          · have any : ∀ H3, But p H1 H3 → Row K H3 p → ∃ xs, H3 g = some (.lst xs) ∧ xs.length = i ∧ ∀ (q : Addr) (ns : List Int) (H6 : Hp), Same H3 H6 → SqT K H6 q (ns.map V.int) → ns.Perm (rg n) → HI K p g H n (i + 1) (upd H6 g (.lst (xs ++ [.ref q]))) := fun H3 b3 r3 => hI.step hg hpg b3 r3
            refine ⟨_, rfl, rfl, _, rfl, ite2 (fun _ => ?_) (fun _ => ?_)⟩
            · refine ⟨_, rfl, p, 2, rfl, hR1, by decide, by decide, fun k H3 k0 k1 hB3 hR3 => ⟨rfl, _, rfl, ite2 (fun _ => ?_) (fun _ => ?_)⟩⟩
              · obtain ⟨xs, e1, xl, st⟩ := any H3 hB3 hR3
                refine ⟨_, rfl, .inl ⟨rfl, _, lstAt e1⟩, _, rfl, n, rfl, ⟨by omega, by omega, by omega, by omega, by omega⟩, fun t ht => ?_⟩
                rw [rgV_rg] at *
                have s6 := same_new (o := .tup ((rg n).map V.int)) ht
                exact ⟨g, xs, .ref t, rfl, rfl, s6 _ _ e1, small1000 (by omega), st t (rg n) _ s6 (tupAt upd_same) (List.Perm.refl _), _, _, _, _, rfl⟩
              · obtain ⟨xs, e1, xl, st⟩ := any H3 hB3 hR3
                refine ⟨_, rfl, .inl ⟨rfl, _, lstAt e1⟩, _, rfl, _, rfl, p, n, rfl, hR3, by omega, fun H4 t ns pm b4 r4 _ e4 => ?_⟩
                obtain ⟨xs', e1', xl', st'⟩ := any H4 (hB3.trans b4) r4
                exact ⟨g, xs', .ref t, rfl, rfl, e1', small1000 (by omega), st' t ns _ (Same.refl H4) (.inl (FT.kx e4)) pm, _, _, _, _, rfl⟩
            · obtain ⟨xs, e1, xl, st⟩ := any H1 (But.refl p H1) hR1
              refine iteF ⟨_, rfl, .inl ⟨rfl, _, lstAt e1⟩, _, rfl, _, rfl, p, n, rfl, hR1, by omega, fun H4 t ns pm b4 r4 _ e4 => ?_⟩
              obtain ⟨xs', e1', xl', st'⟩ := any H4 b4 r4
              exact ⟨g, xs', .ref t, rfl, rfl, e1', small1000 (by omega), st' t ns _ (Same.refl H4) (.inl (FT.kx e4)) pm, _, _, _, _, rfl⟩
    · obtain ⟨⟨xs, hs, hB, hR', e, hE, hl, hp⟩, y4, y5, y6, y7, rfl⟩ := h'
      refine ⟨_, rfl, .inl ⟨g, xs, rfl, lstAt e, fun t ht => q _ _ hs ⟨hl, hp, n2, n5⟩ (hB.trans (But.same (same_new ht))) (hR'.new ht) ⟨t, xs, rfl, tupAt upd_same, hE.imp fun _ _ z => z.on (Same.tups (same_new ht))⟩⟩⟩
end
end RH
set_option Elab.async false
set_option linter.all false
set_option maxRecDepth 100000
set_option maxHeartbeats 2000000
namespace RH
open PySem PySem.Spec PyProof.Rows L2
/-! ### the checks of one shelf, a touch -/
section
variable {P : Program} {w : World} {K : PySem.W.Frag} {mg : Str → Option Value} {base : Heap}
theorem lay_yes {n : Nat} {L : List Int} (h : L.Perm (rg n)) : isLay n L = true := by
  unfold isLay
  exact List.isPerm_iff.mpr h
def spPlacesOf (K : PySem.W.Frag) : Sp := fun vs H Q _ => ∃ (v : V) (h : List (List Int)) (n : Nat), vs = [v] ∧ TII K H v h ∧ Hb n h ∧ ∀ q, H q = none → Q (.ref q) (upd H q (.tup ((rg n).map V.int)))
theorem ok_places_of (F : Df K mg "places_of_habit" st_places_of_habit ["habit"]) (B : Bu mg) : Cal P w K mg base 1 "places_of_habit" (spPlacesOf K) := by
  refine mkCal F sc_places_of_habit (fun vs H Q E h => ?_) (fun f cdv A outer s H vs Q E hr h => ?_)
  · obtain ⟨v, h, n, rfl, _⟩ := h
    rfl
  · obtain ⟨v, h, n, rfl, ⟨a, xs, rfl, hS, hE⟩, hb, q⟩ := h
    have hxl : xs.length = n := hE.len.trans hb.len
    have n5 := hb.hi
    refine ⟨_, pss_one (ps_ret (pe_tupRg rfl (by rfl) B.tuple (prg_1 (by rfl) B.range (pe_callB (cl_len K) (by rfl) B.len PySem.boot_len (pa_cons (pv 0) pa_nil))))), ?_⟩
    refine ⟨_, rfl, a, xs, rfl, .inr hS, (xs.length : Int), rfl, ?_⟩
    rw [hxl]
    refine ⟨⟨by omega, by omega, by omega, by omega, by omega⟩, fun t ht => ?_⟩
    rw [rgV_rg]
    exact q t ht
def spMove (K : PySem.W.Frag) : Sp := fun vs H Q _ => ∃ (v : V) (h : List (List Int)) (n : Nat) (a : Addr) (L : List Int) (p : Int), vs = [v, .ref a, .int p] ∧ TII K H v h ∧ Hb n h ∧ SqT K H a (L.map V.int) ∧ (∀ i ∈ L, InR n i) ∧ L.length ≤ 1000 ∧ InR n p ∧
  ∀ H' q, Same H H' → H q = none → FT H' q (stp h p L) → Q (.ref q) H'
theorem ok_move (F : Df K mg "move" st_move ["habit", "layout", "place"]) (B : Bu mg) : Cal P w K mg base 1 "move" (spMove K) := by
  refine mkCal F sc_move (fun vs H Q E h => ?_) (fun f cdv A outer s H vs Q E hr h => ?_)
  · obtain ⟨v, h, n, a, L, p, rfl, _⟩ := h
    rfl
  · obtain ⟨v, h, n, a, L, p, rfl, ⟨ah, xs, rfl, hS, hE⟩, hb, hL, hin, hlen, hp, q⟩ := h
    refine ⟨_, pss_cons (ps_set (i := 3) sc_move.nd rfl (.inr rfl) (pe_ix ix_tup (pv 0) (pv 2) (fun _ _ => rfl)))
      (pss_one (ps_ret (pe_tupleF (by rfl) B.tuple (pe_lc (own := [("stood", 4)]) (g := gName 4) (tt := tYes) rfl sc_move.nd (pi_tup (pv 1)) (blkOk_by (N := ["habit", "layout", "place", "moves", "stood"]) (sc := defScope st_move) (by decide +kernel))
        (fun _ _ _ _ _ => pg_name (i := 4) sc_move.nd rfl (Or.inl rfl)) (fun _ _ _ _ _ => pts_nil) (fun _ _ _ _ _ => pe_ix (ixT K) (pv 3) (pv 4) (fun _ _ => rfl)))))), ?_⟩
    obtain ⟨a1, ns1, e1, s1, _⟩ := ix2 hE hb hp hp
    refine ⟨_, rfl, _, rfl, ah, xs, p, _, rfl, rfl, hS, e1, ?_⟩
    refine ⟨_, rfl, a, rfl, ⟨_, hL⟩, fun D hD => ?_⟩
    refine lc_tup (xs := L.map V.int) (fun i H' => Same H H' ∧ H' D = some (.lst (((L.take i).map (mv h p)).map V.int))) ⟨same_new hD, upd_same⟩ (fun i H' _ h' => onT h'.1 hL) (fun i x H' hx h' => ?_) (fun H' h' => ?_)
    · obtain ⟨st, hst, rfl⟩ := map_at hx
      obtain ⟨sm, eD⟩ := h'
      obtain ⟨a2, ns2, e2, s2, e3⟩ := ix2 hE hb hp (hin st (List.mem_of_getElem? hst))
      rw [e1] at e2
      cases e2
      refine ⟨rfl, _, rfl, _, rfl, a1, _, st, _, rfl, rfl, onT sm s2, e3, _, eD, ?_, ?_, ?_⟩
      · rw [List.length_map, List.length_map, List.length_take]
        exact small1000 (by omega)
      · intro b o e
        rw [upd_ne (ne_of_none e hD)]
        exact sm b o e
      · rw [upd_same, take_more hst, List.map_append, List.map_append]
        rfl
    · obtain ⟨sm, eD⟩ := h'
      rw [List.length_map, List.take_length] at eD
      refine ⟨D, _, rfl, lstAt eD, fun t ob ht hob => q _ t (sm.trans (same_new ht)) ?_ ⟨ob, upd_same, hob⟩⟩
      cases e : H t with
      | none => rfl
      | some o =>
        rw [sm _ _ e] at ht
        cases ht
end
end RH
set_option Elab.async false
set_option linter.all false
set_option maxRecDepth 100000
set_option maxHeartbeats 2000000
namespace RH
open PySem PySem.Spec PyProof.Rows L2
/-! ### defs that may raise; checks of values of many kinds -/
structure CalX (P : Program) (w : World) (K : PySem.W.Frag) (mg : Str → Option Value) (base : Heap) (k : Nat) (x : Str) (sp : Sp) : Prop where
  ex : ∃ (f : Addr) (fd : FuncData) (ps : List Str), FnOk P w K mg base (L2.CX P w) k f fd ps sp ∧ mg x = some (.ref f) ∧ PySem.W.keepIn K (.ref f) = true ∧ Binds K fd ps []
/-- an own error without an __init__ -/
structure ExO (K : PySem.W.Frag) (mg : Str → Option Value) (x : Str) (C : Addr) : Prop where
  q : PySem.W.excIn K C [.type "ValueError", .type "Exception", .type "BaseException", .type "object"] "ValueError.__new__" = true
  g : mg x = some (.ref C)
  k : PySem.W.keepIn K (.ref C) = true
  b : PySem.W.subIn K (.ref C) (.type "BaseException") = some true
  t : PySem.W.typeIn K (.ref C) = some (.type "type")
section
variable {P : Program} {w : World} {K : PySem.W.Frag} {mg : Str → Option Value} {base : Heap}
theorem mkCalX {x : Str} {st : Stmt} {N ps : List Str} {k : Nat} {sp : Sp} (F : Df K mg x st ps) (S : FnScope N ps (defScope st)) (len : ∀ vs H Q E, sp vs H Q E → vs.length = ps.length)
    (hbody : ∀ (f : Addr) (cdv : Value) (A : Around) (outer : List Env) (s : Shared) (H : Hp) (vs : List V) (Q : VK) (E : XK), Room k (A.deeper (envOfC x (defScope st) s.heap.objs.size f cdv)) → sp vs H Q E →
      ∃ t, PSs (cxOf (L2.CX P w) P w K mg base N x (defScope st) f cdv A outer s H E) (defBody st) t ∧ t { nx := fun _ H' => Q .non H', rt := Q } (start N vs) H) : CalX P w K mg base (k + 1) x sp := by
  obtain ⟨f, fd, F, g, b⟩ := F.ex
  exact ⟨f, fd, ps, F.okX S len (hbody f), g, F.kp, b⟩
end
theorem pcX {X : Cx} {k j : Nat} {x : Str} {sp : Sp} {E : XK} {p pos : Pos} {e : Expr} {es : List Expr} {t : TA} (c : CalX X.prog X.w X.K X.mg X.base k x sp) (hx : Passes (L2.CX X.prog X.w) X E) (hr : Room j X.A) (ha : PA X (e :: es) t) (hk : k ≤ j := by decide) (hg : Gl X x := by rfl)
    (hdb : (x == ("__debug__" : Str)) = false := by decide) (he : starEach (e :: es) X.env = (false, eval e X.env) :: starEach es X.env := by rfl) (hpl : (backTo pos (starEach es X.env)).any (·.1) = false := by rfl) :
    PE X (.Call (.Name x p) (e :: es) [] pos) (tCall sp [] E t) := by
  obtain ⟨f, fd, ps, F, hm, kp, b⟩ := c.ex
  exact pe_call F (hr.mono hk) hg hm kp b .nil hx ha hdb he hpl
/-- a value of any kind -/
inductive Sw (K : PySem.W.Frag) (H : Hp) : V → Prop
  | int (i : Int) : Sw K H (.int i)
  | bl (b : Bool) : Sw K H (.bl b)
  | non : Sw K H .non
  | str (s : Str) : Sw K H (.str s)
  | tup {a : Addr} {xs : List V} : SqT K H a xs → Sw K H (.ref a)
  | lst {a : Addr} {xs : List V} : SqL K H a xs → Sw K H (.ref a)
def isI : V → Bool
  | .int _ => true
  | _ => false
def inV2 (lo hi : Int) : V → Bool
  | .int i => decide (lo ≤ i) && decide (i ≤ hi)
  | _ => false
section
variable {P : Program} {w : World} {K : PySem.W.Frag} {mg : Str → Option Value} {base : Heap}
theorem Sw.on {H H' : Hp} {v : V} (e : Same H H') (h : Sw K H v) : Sw K H' v := by
  cases h with
  | int i => exact .int i
  | bl b => exact .bl b
  | non => exact .non
  | str s => exact .str s
  | tup h => exact .tup (onT e h)
  | lst h => exact .lst (e.seq h)
def spIsIntegerW (K : PySem.W.Frag) : Sp := fun vs H Q _ => ∃ v, vs = [v] ∧ Sw K H v ∧ Q (.bl (isI v)) H
theorem ok_is_integerW (F : Df K mg "is_integer" st_is_integer ["value"]) (B : Bu mg) : Cal P w K mg base 1 "is_integer" (spIsIntegerW K) := by
  refine mkCal F sc_is_integer (fun vs H Q E h => ?_) (fun f cdv A outer s H vs Q E hr h => ?_)
  · obtain ⟨v, rfl, _⟩ := h
    rfl
  · obtain ⟨v, rfl, hv, q⟩ := h
    refine ⟨_, pss_one (ps_ret (pe_and (pe_callB call_isi (by rfl) B.isi (by decide +kernel) (pa_cons (pv 0) (pa_cons (pe_bltn (v := .ty "int") (by rfl) B.int (by decide +kernel) rfl) pa_nil)))
      (pe_one (pe_not (pe_callB call_isi (by rfl) B.isi (by decide +kernel) (pa_cons (pv 0) (pa_cons (pe_bltn (v := .ty "bool") (by rfl) B.bool (by decide +kernel) rfl) pa_nil))))))), ?_⟩
    cases hv with
    | int i => exact ⟨_, rfl, .int i, .ty "int", _, _, true, rfl, .ty "int", .base (.int i), kit_ty (by decide +kernel), true, rfl, _, rfl, .int i, .ty "bool", _, _, false, rfl, .ty "bool", .base (.int i), kit_ty (by decide +kernel), false, rfl, q⟩
    | bl b => exact ⟨_, rfl, .bl b, .ty "int", _, _, true, rfl, .ty "int", .base (.bl b), kit_ty (by decide +kernel), true, rfl, _, rfl, .bl b, .ty "bool", _, _, true, rfl, .ty "bool", .base (.bl b), kit_ty (by decide +kernel), true, rfl, q⟩
    | non => exact ⟨_, rfl, .non, .ty "int", _, _, false, rfl, .ty "int", .base .non, kit_ty (by decide +kernel), false, rfl, q⟩
    | str z => exact ⟨_, rfl, .str z, .ty "int", _, _, false, rfl, .ty "int", .base (.str z), kit_ty (by decide +kernel), false, rfl, q⟩
    | @tup a xs h => exact ⟨_, rfl, .ref a, .ty "int", _, _, false, rfl, .ty "int", ty_tup h, kit_ty (by decide +kernel), false, rfl, q⟩
    | @lst a xs h => exact ⟨_, rfl, .ref a, .ty "int", _, _, false, rfl, .ty "int", ty_lst h, kit_ty (by decide +kernel), false, rfl, q⟩
def spIsNumberW (K : PySem.W.Frag) : Sp := fun vs H Q _ => ∃ (v : V) (lo hi : Int), vs = [v, .int lo, .int hi] ∧ Sw K H v ∧ Q (.bl (inV2 lo hi v)) H
theorem inV2_no {lo hi : Int} {v : V} (h : isI v = false) : inV2 lo hi v = false := by
  cases v <;> first | rfl | (cases h)
theorem isI_yes {v : V} (h : isI v = true) : ∃ i, v = .int i := by
  cases v <;> first | exact ⟨_, rfl⟩ | (cases h)
theorem ok_is_numberW (F : Df K mg "is_number" st_is_number ["value", "low", "high"]) (C1 : Cal P w K mg base 1 "is_integer" (spIsIntegerW K)) : Cal P w K mg base 2 "is_number" (spIsNumberW K) := by
  refine mkCal F sc_is_number (fun vs H Q E h => ?_) (fun f cdv A outer s H vs Q E hr h => ?_)
  · obtain ⟨v, lo, hi, rfl, _⟩ := h
    rfl
  · obtain ⟨v, lo, hi, rfl, hv, q⟩ := h
    refine ⟨_, pss_one (ps_ret (pe_and (pc C1 hr (pa_cons (pv 0) pa_nil)) (pe_one (pe_chain op_le op_le (pv 1) (pv 0) (pv 2))))), ?_⟩
    refine ⟨_, rfl, v, rfl, hv, ?_⟩
    cases ei : isI v with
    | true =>
      obtain ⟨i, rfl⟩ := isI_yes ei
      refine ⟨true, rfl, _, rfl, _, rfl, lo, i, rfl, rfl, _, rfl, ite2 (fun e => ?_) (fun e => ?_)⟩
      · refine ⟨_, rfl, i, hi, rfl, rfl, ?_⟩
        have q : Q (.bl (decide (lo ≤ i) && decide (i ≤ hi))) H := q
        rw [e, Bool.true_and] at q
        exact q
      · have e' : decide (lo ≤ i) = false := by simpa using e
        have q : Q (.bl (decide (lo ≤ i) && decide (i ≤ hi))) H := q
        rw [e', Bool.false_and] at q
        exact q
    | false =>
      rw [inV2_no ei] at q
      exact ⟨false, rfl, q⟩
def spIsPlaceW (K : PySem.W.Frag) : Sp := fun vs H Q _ => ∃ (v : V) (p : Int), vs = [v, .int p] ∧ Sw K H v ∧ Q (.bl (inV2 0 (p - 1) v)) H
theorem ok_is_placeW (F : Df K mg "is_place" st_is_place ["value", "places"]) (C2 : Cal P w K mg base 2 "is_number" (spIsNumberW K)) : Cal P w K mg base 3 "is_place" (spIsPlaceW K) := by
  refine mkCal F sc_is_place (fun vs H Q E h => ?_) (fun f cdv A outer s H vs Q E hr h => ?_)
  · obtain ⟨v, p, rfl, _⟩ := h
    rfl
  · obtain ⟨v, p, rfl, hv, q⟩ := h
    refine ⟨_, pss_one (ps_ret (pc C2 hr (pa_cons (pv 0) (pa_cons pe_int (pa_cons (pe_op op_sub (pv 1) pe_int) pa_nil))))), ?_⟩
    exact ⟨_, rfl, _, rfl, p, 1, rfl, rfl, v, 0, p - 1, rfl, hv, q⟩
end
end RH
set_option Elab.async false
set_option linter.all false
set_option maxRecDepth 100000
set_option maxHeartbeats 2000000
namespace RH
open PySem PySem.Spec PyProof.Rows L2
open NdefX (NScope NF CellsAt startF ncx envF)
/-! ### errors that keep something -/
/-- a class of errors that can be made -/
structure BhX (P : Program) (w : World) (K : PySem.W.Frag) (mg : Str → Option Value) (base : Heap) (cls fld : Str) (C : Addr) (sp : Sp) : Prop where
  t : OexC K C
  g : mg cls = some (.ref C)
  f : ∃ (f : Addr) (fd : FuncData), FnOk P w K mg base CX0 1 f fd ["self", fld] sp ∧ PySem.W.findIn K (.ref C) "__init__" = some (some (.ref f)) ∧ PySem.W.typeIn K (.ref f) = some (.type "function") ∧ Binds K fd ["self", fld] []
/-- what an error keeps: none, or a small number -/
def plV (v : V) : Prop := v = .non ∨ ∃ i : Nat, i < 16 ∧ v = .int (i : Int)
def spBI (fld : Str) (C : Addr) : Sp := fun vs H Q _ => ∃ (a : Addr) (v : V), vs = [.ref a, v] ∧ plV v ∧ H a = some (exo a C none) ∧ ∀ d, H d = none → d ≠ a → Q .non (upd (upd H d (exd d [(fld, v)])) a (exo a C (some d)))
theorem few_of {i : Nat} (h : i < 16) : i = 0 ∨ i = 1 ∨ i = 2 ∨ i = 3 ∨ i = 4 ∨ i = 5 ∨ i = 6 ∨ i = 7 ∨ i = 8 ∨ i = 9 ∨ i = 10 ∨ i = 11 ∨ i = 12 ∨ i = 13 ∨ i = 14 ∨ i = 15 := by omega
theorem fmt_few {i : Nat} (h : i < 16) : ((i : Nat) : Int).natAbs.log2 < 1920 := by
  rcases few_of h with rfl | rfl | rfl | rfl | rfl | rfl | rfl | rfl | rfl | rfl | rfl | rfl | rfl | rfl | rfl | rfl <;> decide +kernel
/-- an error that keeps pl comes -/
def bhE (C : Addr) (fn : Str) (pl : V) (H : Hp) (E : XK) : Prop := ∀ d H', Same H H' → H' d = some (.xd [(fn, pl)]) → E (.ref C) (some d) H'
/-- an error without more comes -/
def noE (C : Addr) (H : Hp) (E : XK) : Prop := ∀ H', Same H H' → E (.ref C) none H'
theorem bhE.on {C : Addr} {fn : Str} {pl : V} {H H' : Hp} {E : XK} (h : bhE C fn pl H E) (s : Same H H') : bhE C fn pl H' E := fun d H2 s2 => h d H2 (s.trans s2)
theorem noE.on {C : Addr} {H H' : Hp} {E : XK} (h : noE C H E) (s : Same H H') : noE C H' E := fun H2 s2 => h H2 (s.trans s2)
section
variable {P : Program} {w : World} {K : PySem.W.Frag} {mg : Str → Option Value} {base : Heap}
theorem ok_BadHabits {C f cc cda : Addr} {fd : FuncData} (M : SupC P K mg C "BadHabits.__init__" st_e_BadHabits f fd cc cda) (hno : PySem.W.findIn K (.ref C) "index" = some none) : FnOk P w K mg base CX0 1 f fd ["self", "index"] (spBI "index" C) := by
  refine fn_super (self := "self") M sc_e_BadHabits rfl rfl rfl (by decide +kernel) rfl (fun vs H Q E h => ?_) (fun A outer s H vs Q E hr h => ?_)
  · obtain ⟨a, v, rfl, _⟩ := h
    rfl
  · obtain ⟨a, v, rfl, hv, ha, q⟩ := h
    refine ⟨a, _, _, rfl, ha, pa_cons (pe_joined (.cons pe_str (.cons (pe_fmtN (pv 1)) .nil))) pa_nil, pss_one (ps_ost (pv 0) (pv 1)), ?_⟩
    have go : ∀ H1, H1 = H → ([V.str "x"] : List V).length ≤ 1000 ∧ H1 a = some (exo a C none) ∧ tOst K "index" (tVar 0) (tVar 1) { nx := fun _ H' => Q .non H', rt := Q } [some (.ref a), some v, some (.ref C)] H1 := fun H1 e => by
      subst e
      exact ⟨by decide, ha, _, rfl, _, rfl, a, C, rfl, M.t, hno, .inl ⟨ha, fun dx n ne => q dx n ne⟩⟩
    rcases hv with rfl | ⟨i, hi, rfl⟩
    · refine ⟨_, rfl, ?_, _, rfl, .inl ⟨rfl, _, rfl, ?_, go _ rfl⟩⟩
      · rw [sizeLine_eq]; decide +kernel
      · rw [sizeLine_eq]; decide +kernel
    · refine ⟨_, rfl, ?_, _, rfl, .inr ⟨(i : Int), rfl, fmt_few hi, _, rfl, ?_, go _ rfl⟩⟩
      · rw [sizeLine_eq]; decide +kernel
      · rw [sizeLine_eq]
        rcases few_of hi with rfl | rfl | rfl | rfl | rfl | rfl | rfl | rfl | rfl | rfl | rfl | rfl | rfl | rfl | rfl | rfl <;> decide +kernel
theorem ok_BadStand {C f cc cda : Addr} {fd : FuncData} (M : SupC P K mg C "BadStand.__init__" st_e_BadStand f fd cc cda) (hno : PySem.W.findIn K (.ref C) "index" = some none) : FnOk P w K mg base CX0 1 f fd ["self", "index"] (spBI "index" C) := by
  refine fn_super (self := "self") M sc_e_BadStand rfl rfl rfl (by decide +kernel) rfl (fun vs H Q E h => ?_) (fun A outer s H vs Q E hr h => ?_)
  · obtain ⟨a, v, rfl, _⟩ := h
    rfl
  · obtain ⟨a, v, rfl, hv, ha, q⟩ := h
    refine ⟨a, _, _, rfl, ha, pa_cons (pe_joined (.cons pe_str (.cons (pe_fmtN (pv 1)) .nil))) pa_nil, pss_one (ps_ost (pv 0) (pv 1)), ?_⟩
    have go : ∀ H1, H1 = H → ([V.str "x"] : List V).length ≤ 1000 ∧ H1 a = some (exo a C none) ∧ tOst K "index" (tVar 0) (tVar 1) { nx := fun _ H' => Q .non H', rt := Q } [some (.ref a), some v, some (.ref C)] H1 := fun H1 e => by
      subst e
      exact ⟨by decide, ha, _, rfl, _, rfl, a, C, rfl, M.t, hno, .inl ⟨ha, fun dx n ne => q dx n ne⟩⟩
    rcases hv with rfl | ⟨i, hi, rfl⟩
    · refine ⟨_, rfl, ?_, _, rfl, .inl ⟨rfl, _, rfl, ?_, go _ rfl⟩⟩
      · rw [sizeLine_eq]; decide +kernel
      · rw [sizeLine_eq]; decide +kernel
    · refine ⟨_, rfl, ?_, _, rfl, .inr ⟨(i : Int), rfl, fmt_few hi, _, rfl, ?_, go _ rfl⟩⟩
      · rw [sizeLine_eq]; decide +kernel
      · rw [sizeLine_eq]
        rcases few_of hi with rfl | rfl | rfl | rfl | rfl | rfl | rfl | rfl | rfl | rfl | rfl | rfl | rfl | rfl | rfl | rfl <;> decide +kernel
/-- the error is made: its dict stands at d -/
theorem bh_made {C : Addr} {fn : Str} {v : V} {H1 : Hp} {Q : XK} (hv : plV v) (q : ∀ d, H1 d = none → Q (.ref C) (some d) (upd H1 d (.xd [(fn, v)]))) :
    ([v] : List V).length ≤ 1000 ∧ ∀ a, H1 a = none → spBI fn C (.ref a :: ([v] ++ [])) (upd H1 a (exo a C none)) (fun u H2 => u = .non ∧ ∃ (d : Addr) (fs : List (Str × V)), H2 a = some (exo a C (some d)) ∧ H2 d = some (exd d fs) ∧ H1 d = none ∧ Q (.ref C) (some d) (upd (del H2 a) d (.xd fs))) (fun _ _ _ => False) := by
  refine ⟨by show 1 ≤ 1000; decide, fun a ha => ⟨a, v, rfl, hv, upd_same, fun d hd ne => ⟨rfl, d, [(fn, v)], upd_same, ?_, ?_, ?_⟩⟩⟩
  · rw [upd_ne ne, upd_same]
  · rw [upd_ne ne] at hd
    exact hd
  · have hd' : H1 d = none := by
      rw [upd_ne ne] at hd
      exact hd
    have e : upd (del (upd (upd (upd H1 a (exo a C none)) d (exd d [(fn, v)])) a (exo a C (some d))) a) d (.xd [(fn, v)]) = upd H1 d (.xd [(fn, v)]) := by
      funext b
      by_cases hb : b = d
      · rw [hb, upd_same, upd_same]
      · rw [upd_ne hb, upd_ne hb]
        by_cases hba : b = a
        · rw [hba, del_same, ha]
        · rw [del_ne hba, upd_ne hba, upd_ne hb, upd_ne hba]
    rw [e]
    exact q d hd'
end
end RH
set_option Elab.async false
set_option linter.all false
set_option maxRecDepth 100000
set_option maxHeartbeats 2000000
namespace RH
open PySem PySem.Spec PyProof.Rows L2
/-! ### the checks, for values of whatever kind -/
/-- a value: a tuple of values, or what is none -/
inductive Tk (K : PySem.W.Frag) (H : Hp) : V → Option (List V) → Prop
  | tup {a : Addr} {xs : List V} : SqT K H a xs → Tk K H (.ref a) (some xs)
  | lst {a : Addr} {xs : List V} : SqL K H a xs → Tk K H (.ref a) none
  | dct {a : Addr} {kvs : List (L2.Key × V)} : H a = some (.dK kvs) → Tk K H (.ref a) none
  | int (i : Int) : Tk K H (.int i) none
  | bl (b : Bool) : Tk K H (.bl b) none
  | non : Tk K H .non none
  | str (z : Str) : Tk K H (.str z) none
theorem Tk.on {K : PySem.W.Frag} {H H' : Hp} (e : Same H H') {v : V} {wo : Option (List V)} (h : Tk K H v wo) : Tk K H' v wo := by
  cases h with
  | tup h => exact .tup (onT e h)
  | lst h => exact .lst (e.seq h)
  | dct h => exact .dct (e _ _ h)
  | int i => exact .int i
  | bl b => exact .bl b
  | non => exact .non
  | str z => exact .str z
/-- .. of values -/
structure Wd (K : PySem.W.Frag) (H : Hp) (v : V) (wo : Option (List V)) : Prop where
  t : Tk K H v wo
  s : ∀ xs, wo = some xs → ∀ x ∈ xs, Sw K H x
  l : ∀ xs, wo = some xs → xs.length < 64
theorem Wd.on {K : PySem.W.Frag} {H H' : Hp} (e : Same H H') {v : V} {wo : Option (List V)} (h : Wd K H v wo) : Wd K H' v wo := ⟨h.t.on e, fun xs z x hm => (h.s xs z x hm).on e, h.l⟩
def rowW (lo hi : Int) : Option (List V) → Bool
  | some xs => decide (lo ≤ (xs.length : Int)) && decide ((xs.length : Int) ≤ hi)
  | none => false
def plsW (p : Int) : Option (List V) → Bool
  | some xs => xs.all (inV2 0 (p - 1))
  | none => false
theorem inV2_yes0 {n : Nat} {i : Int} (h0 : 0 ≤ i) (h1 : i < n) : inV2 0 ((n : Int) - 1) (.int i) = true := by
  show (decide (0 ≤ i) && decide (i ≤ (n : Int) - 1)) = true
  rw [decide_eq_true h0, decide_eq_true (by omega)]
  rfl
theorem inV2_get {n : Nat} {v : V} (h : inV2 0 ((n : Int) - 1) v = true) : ∃ i, v = .int i ∧ 0 ≤ i ∧ i < n := by
  cases v <;> first | (cases h; done) | skip
  rename_i i
  have h : (decide (0 ≤ i) && decide (i ≤ (n : Int) - 1)) = true := h
  rw [Bool.and_eq_true, decide_eq_true_iff, decide_eq_true_iff] at h
  exact ⟨i, rfl, h.1, by omega⟩
/-- places all: numbers all -/
theorem all_ints {n : Nat} : ∀ {xs : List V}, (xs.all (inV2 0 ((n : Int) - 1))) = true → ∃ ns : List Int, xs = ns.map V.int ∧ inP n ns = true
  | [], _ => ⟨[], rfl, rfl⟩
  | x :: xs, h => by
    rw [List.all_cons, Bool.and_eq_true] at h
    obtain ⟨i, rfl, h0, h1⟩ := inV2_get h.1
    obtain ⟨ns, rfl, e⟩ := all_ints h.2
    refine ⟨i :: ns, rfl, ?_⟩
    unfold inP at e ⊢
    rw [List.all_cons, e, decide_eq_true h0, decide_eq_true (by omega)]
    rfl
def valI : V → Int
  | .int i => i
  | _ => -1
/-- is it a layout? -/
def layW (n : Nat) : Option (List V) → Bool
  | some xs => xs.all (inV2 0 ((n : Int) - 1)) && isLay n (xs.map valI)
  | none => false
section
variable {P : Program} {w : World} {K : PySem.W.Frag} {mg : Str → Option Value} {base : Heap}
def spIsRowW (K : PySem.W.Frag) : Sp := fun vs H Q _ => ∃ (v : V) (wo : Option (List V)) (lo hi : Int), vs = [v, .int lo, .int hi] ∧ Tk K H v wo ∧ Q (.bl (rowW lo hi wo)) H
theorem ok_is_rowW (F : Df K mg "is_row" st_is_row ["value", "low", "high"]) (B : Bu mg) : Cal P w K mg base 1 "is_row" (spIsRowW K) := by
  refine mkCal F sc_is_row (fun vs H Q E h => ?_) (fun f cdv A outer s H vs Q E hr h => ?_)
  · obtain ⟨v, ro, lo, hi, rfl, _⟩ := h
    rfl
  · obtain ⟨v, ro, lo, hi, rfl, hk, q⟩ := h
    refine ⟨_, pss_one (ps_ret (pe_and (pe_callB call_isi (by rfl) B.isi (by decide +kernel) (pa_cons (pv 0) (pa_cons (pe_bltn (v := .ty "tuple") (by rfl) B.tuple (by decide +kernel) rfl) pa_nil)))
      (pe_one (pe_chain op_le op_le (pv 1) (pe_callB call_len_seq (by rfl) B.len PySem.boot_len (pa_cons (pv 0) pa_nil)) (pv 2))))), ?_⟩
    cases hk with
    | int i => exact ⟨_, rfl, .int i, .ty "tuple", _, _, false, rfl, .ty "tuple", .base (.int i), kit_ty (by decide +kernel), false, rfl, q⟩
    | bl b => exact ⟨_, rfl, .bl b, .ty "tuple", _, _, false, rfl, .ty "tuple", .base (.bl b), kit_ty (by decide +kernel), false, rfl, q⟩
    | non => exact ⟨_, rfl, .non, .ty "tuple", _, _, false, rfl, .ty "tuple", .base .non, kit_ty (by decide +kernel), false, rfl, q⟩
    | str z => exact ⟨_, rfl, .str z, .ty "tuple", _, _, false, rfl, .ty "tuple", .base (.str z), kit_ty (by decide +kernel), false, rfl, q⟩
    | @lst a xs hS => exact ⟨_, rfl, .ref a, .ty "tuple", _, _, false, rfl, .ty "tuple", ty_lst hS, kit_ty (by decide +kernel), false, rfl, q⟩
    | @dct a kvs e => exact ⟨_, rfl, .ref a, .ty "tuple", _, _, false, rfl, .ty "tuple", .base (.dK e), kit_ty (by decide +kernel), false, rfl, q⟩
    | @tup a xs hS =>
      refine ⟨_, rfl, .ref a, .ty "tuple", _, _, true, rfl, .ty "tuple", ty_tup hS, kit_ty (by decide +kernel), true, rfl, _, rfl, _, rfl, a, xs, rfl, .inr hS, lo, (xs.length : Int), rfl, rfl, _, rfl, ite2 (fun e => ?_) (fun e => ?_)⟩
      · refine ⟨_, rfl, _, hi, rfl, rfl, ?_⟩
        have q : Q (.bl (decide (lo ≤ (xs.length : Int)) && decide ((xs.length : Int) ≤ hi))) H := q
        rw [e, Bool.true_and] at q
        exact q
      · have e' : decide (lo ≤ (xs.length : Int)) = false := by simpa using e
        have q : Q (.bl (decide (lo ≤ (xs.length : Int)) && decide ((xs.length : Int) ≤ hi))) H := q
        rw [e', Bool.false_and] at q
        exact q
def spArePlacesW (K : PySem.W.Frag) : Sp := fun vs H Q _ => ∃ (v : V) (wo : Option (List V)) (p : Int), vs = [v, .int p] ∧ Wd K H v wo ∧ ∀ H', Same H H' → Q (.bl (plsW p wo)) H'
theorem ok_are_placesW (F : Df K mg "are_places" st_are_places ["value", "places"]) (B : Bu mg) (C3 : Cal P w K mg base 3 "is_place" (spIsPlaceW K)) : Cal P w K mg base 4 "are_places" (spArePlacesW K) := by
  refine mkCal F sc_are_places (fun vs H Q E h => ?_) (fun f cdv A outer s H vs Q E hr h => ?_)
  · obtain ⟨v, wo, p, rfl, _⟩ := h
    rfl
  · obtain ⟨v, wo, p, rfl, hw, q⟩ := h
    refine ⟨_, pss_one (ps_ret (pe_and (pe_callB call_isi (by rfl) B.isi (by decide +kernel) (pa_cons (pv 0) (pa_cons (pe_bltn (v := .ty "tuple") (by rfl) B.tuple (by decide +kernel) rfl) pa_nil)))
      (pe_one (pe_callB (cr_all rfl) (by rfl) B.all (by decide +kernel) (pa_cons (pe_lc (own := [("place", 2)]) (g := gName 2) (tt := tYes) rfl sc_are_places.nd (pi_tup (pv 0)) (blkOk_by (N := ["value", "places", "place"]) (sc := defScope st_are_places) (by decide +kernel))
        (fun _ _ _ _ _ => pg_name (i := 2) sc_are_places.nd rfl (Or.inl rfl)) (fun _ _ _ _ _ => pts_nil) (fun _ _ _ _ _ => pc C3 hr (pa_cons (pv 2) (pa_cons (pv 1) pa_nil)))) pa_nil))))), ?_⟩
    obtain ⟨ht, hsw, hlen⟩ := hw
    cases ht with
    | int i => exact ⟨_, rfl, .int i, .ty "tuple", _, _, false, rfl, .ty "tuple", .base (.int i), kit_ty (by decide +kernel), false, rfl, q H (Same.refl H)⟩
    | bl b => exact ⟨_, rfl, .bl b, .ty "tuple", _, _, false, rfl, .ty "tuple", .base (.bl b), kit_ty (by decide +kernel), false, rfl, q H (Same.refl H)⟩
    | non => exact ⟨_, rfl, .non, .ty "tuple", _, _, false, rfl, .ty "tuple", .base .non, kit_ty (by decide +kernel), false, rfl, q H (Same.refl H)⟩
    | str z => exact ⟨_, rfl, .str z, .ty "tuple", _, _, false, rfl, .ty "tuple", .base (.str z), kit_ty (by decide +kernel), false, rfl, q H (Same.refl H)⟩
    | @lst a xs hS => exact ⟨_, rfl, .ref a, .ty "tuple", _, _, false, rfl, .ty "tuple", ty_lst hS, kit_ty (by decide +kernel), false, rfl, q H (Same.refl H)⟩
    | @dct a kvs e => exact ⟨_, rfl, .ref a, .ty "tuple", _, _, false, rfl, .ty "tuple", .base (.dK e), kit_ty (by decide +kernel), false, rfl, q H (Same.refl H)⟩
    | @tup a xs hS =>
      have hl := hlen xs rfl
      have hx := hsw xs rfl
      refine ⟨_, rfl, .ref a, .ty "tuple", _, _, true, rfl, .ty "tuple", ty_tup hS, kit_ty (by decide +kernel), true, rfl, ?_⟩
      refine ⟨_, rfl, a, rfl, ⟨_, hS⟩, fun D hD => ?_⟩
      refine lc_tup (xs := xs) (fun i H' => Same H H' ∧ H' D = some (.lst (((xs.take i).map (inV2 0 (p - 1))).map V.bl))) ⟨same_new hD, upd_same⟩ (fun i H' _ h' => onT h'.1 hS) (fun i x H' hi h' => ?_) (fun H' h' => ?_)
      · obtain ⟨sm, eD⟩ := h'
        refine ⟨rfl, _, rfl, _, rfl, x, p, rfl, (hx x (List.mem_of_getElem? hi)).on sm, _, eD, ?_, ?_, ?_⟩
        · rw [List.length_map, List.length_map, List.length_take]
          exact small1000 (by omega)
        · intro b o e
          rw [upd_ne (ne_of_none e hD)]
          exact sm b o e
        · rw [upd_same, all_snoc _ hi, List.map_append]
          rfl
      · obtain ⟨sm, eD⟩ := h'
        rw [List.take_length] at eD
        refine ⟨D, _, rfl, lstAt eD, ?_⟩
        have e : ((xs.map (inV2 0 (p - 1))).all id) = plsW p (some xs) := by
          rw [List.all_map]
          rfl
        rw [e]
        exact q H' sm
def spIsLayoutW (K : PySem.W.Frag) : Sp := fun vs H Q _ => ∃ (v : V) (wo : Option (List V)) (p : Nat), vs = [v, .int p] ∧ Wd K H v wo ∧ p ≤ 1000 ∧ ∀ H', Same H H' → Q (.bl (layW p wo)) H'
theorem ok_is_layoutW (F : Df K mg "is_layout" st_is_layout ["value", "places"]) (B : Bu mg) (C4 : Cal P w K mg base 4 "are_places" (spArePlacesW K)) : Cal P w K mg base 5 "is_layout" (spIsLayoutW K) := by
  refine mkCal F sc_is_layout (fun vs H Q E h => ?_) (fun f cdv A outer s H vs Q E hr h => ?_)
  · obtain ⟨v, wo, p, rfl, _⟩ := h
    rfl
  · obtain ⟨v, wo, p, rfl, hw, hp, q⟩ := h
    refine ⟨_, pss_one (ps_ret (pe_and (pc C4 hr (pa_cons (pv 0) (pa_cons (pv 1) pa_nil)))
      (pe_one (pe_cmpR (op_eqD hr.units) (pe_callB cr_sortedTup (by rfl) B.sorted (by decide +kernel) (pa_cons (pv 0) pa_nil)) (pe_listRg rfl (by rfl) B.list (prg_1 (by rfl) B.range (pv 1))) (nomark _))))), ?_⟩
    refine ⟨_, rfl, _, rfl, v, wo, p, rfl, hw, fun H1 sm1 => ⟨_, rfl, ite2 (fun e => ?_) (fun e => ?_)⟩⟩
    · obtain ⟨ht, hsw, hlen⟩ := hw
      cases ht with
      | @tup a xs hS =>
        obtain ⟨ns, rfl, hin⟩ := all_ints (n := p) e
        have hl : ns.length < 64 := by
          have := hlen _ rfl
          rwa [List.length_map] at this
        refine ⟨_, rfl, a, ns, rfl, onT sm1 hS, hl, fun ns' pL hpm hpw nL => ⟨_, rfl, (p : Int), rfl, ⟨by omega, by omega, by omega, by omega, by omega⟩, fun q' nq => ?_⟩⟩
        have nqp : pL ≠ q' := ne_of_none upd_same nq
        refine ⟨_, _, dp_lst (ns := ns') (lstAt ?_), dp_lst (ns := rg p) (lstAt ?_), PySem.W.ke_shaped_ints _, PySem.W.ke_shaped_ints _, ?_⟩
        · rw [upd_ne nqp, upd_same]
        · rw [upd_same, rgV_rg]
        · have em : ((ns.map V.int).map valI) = ns := by
            rw [List.map_map]
            exact List.map_id' ns
          have e2 : PyData.eqv (.list (ns'.map PyData.int)) (.list ((rg p).map PyData.int)) = layW p (some (ns.map V.int)) := by
            have e3 : layW p (some (ns.map V.int)) = isLay p ns := by
              have e : ((ns.map V.int).all (inV2 0 ((p : Int) - 1))) = true := e
              show ((ns.map V.int).all (inV2 0 ((p : Int) - 1)) && isLay p ((ns.map V.int).map valI)) = isLay p ns
              rw [e, Bool.true_and, em]
            rw [e3, eqv_lst, Bool.eq_iff_iff, decide_eq_true_iff]
            unfold isLay
            rw [List.isPerm_iff]
            constructor
            · intro z
              rw [← z]
              exact hpm.symm
            · intro z
              exact PySem.W.ksm_same (hpm.trans z) hpw (rg_le p)
          rw [e2]
          exact q _ (sm1.trans (Same.trans (same_new nL) (same_new nq)))
      | _ => cases e
    · have e2 : layW p wo = false := by
        cases wo with
        | none => rfl
        | some xs =>
          have e' : (xs.all (inV2 0 ((p : Int) - 1))) = false := by
            have e3 : ¬ (xs.all (inV2 0 ((p : Int) - 1))) = true := e
            simpa using e3
          show (xs.all (inV2 0 ((p : Int) - 1)) && isLay p (xs.map valI)) = false
          rw [e', Bool.false_and]
      have q := q H1 sm1
      rw [e2] at q
      exact q
end
end RH
set_option Elab.async false
set_option linter.all false
set_option maxRecDepth 100000
set_option maxHeartbeats 2000000
namespace RH
open PySem PySem.Spec PyProof.Rows L2
/-! ### the checks that raise -/
/-- a habit, or what is none: of each row what it is -/
inductive Hk (K : PySem.W.Frag) (H : Hp) : V → Option (List (Option (List V))) → Prop
  | tup {a : Addr} {xs : List V} {wos : List (Option (List V))} : SqT K H a xs → Each (Wd K H) xs wos → Hk K H (.ref a) (some wos)
  | no {v : V} : Tk K H v none → Hk K H v none
theorem Hk.on {K : PySem.W.Frag} {H H' : Hp} (e : Same H H') {v : V} {ho : Option (List (Option (List V)))} (h : Hk K H v ho) : Hk K H' v ho := by
  cases h with
  | tup h hx => exact .tup (onT e h) (hx.imp fun v d z => z.on e)
  | no h => exact .no (h.on e)
theorem few_cast (n : Nat) : (decide ((2 : Int) ≤ (n : Int)) && decide ((n : Int) ≤ 5)) = (decide (2 ≤ n) && decide (n ≤ 5)) := by
  rw [Bool.eq_iff_iff]
  simp only [Bool.and_eq_true, decide_eq_true_iff]
  omega
section
variable {P : Program} {w : World} {K : PySem.W.Frag} {mg : Str → Option Value} {base : Heap}
/-- a word's value: told row by row -/
structure Ww (K : PySem.W.Frag) (H : Hp) (v : V) (wo : Option (List V)) : Prop where
  t : Tk K H v wo
  w : rowW 0 400 wo = true → Wd K H v wo
theorem Ww.on {H H' : Hp} (e : Same H H') {v : V} {wo : Option (List V)} (h : Ww K H v wo) : Ww K H' v wo := ⟨h.t.on e, fun z => (h.w z).on e⟩
end
end RH
set_option Elab.async false
set_option linter.all false
set_option maxRecDepth 100000
set_option maxHeartbeats 2000000
namespace RH
open PySem PySem.Spec PyProof.Rows L2
/-! ### habits of whatever kind -/
theorem Hk.tk {K : PySem.W.Frag} {H : Hp} {v : V} {ho : Option (List (Option (List V)))} (h : Hk K H v ho) : ∃ xo : Option (List V), Tk K H v xo ∧ (xo.map List.length) = (ho.map List.length) := by
  cases h with
  | tup h hx => exact ⟨_, .tup h, by rw [Option.map_some, Option.map_some, hx.len]⟩
  | no h => exact ⟨_, h, rfl⟩
/-- is it a habit? -/
def habW : Option (List (Option (List V))) → Bool
  | some wos => decide (2 ≤ wos.length) && decide (wos.length ≤ 5) && wos.all (layW wos.length)
  | none => false
section
variable {P : Program} {w : World} {K : PySem.W.Frag} {mg : Str → Option Value} {base : Heap}
def spIsHabitW (K : PySem.W.Frag) : Sp := fun vs H Q _ => ∃ (v : V) (ho : Option (List (Option (List V)))), vs = [v] ∧ Hk K H v ho ∧ ∀ H', Same H H' → Q (.bl (habW ho)) H'
theorem ok_is_habitW (F : Df K mg "is_habit" st_is_habit ["value"]) (B : Bu mg) (c2 : ∃ t, mg "FEWEST_PLACES" = some (.int 2 t)) (c5 : ∃ t, mg "MOST_PLACES" = some (.int 5 t)) (C1 : Cal P w K mg base 1 "is_row" (spIsRowW K)) (C5 : Cal P w K mg base 5 "is_layout" (spIsLayoutW K)) :
    Cal P w K mg base 6 "is_habit" (spIsHabitW K) := by
  refine mkCal F sc_is_habit (fun vs H Q E h => ?_) (fun f cdv A outer s H vs Q E hr h => ?_)
  · obtain ⟨v, ho, rfl, _⟩ := h
    rfl
  · obtain ⟨v, ho, rfl, hk, q⟩ := h
    refine ⟨_, pss_one (ps_ret (pe_and (pc C1 hr (pa_cons (pv 0) (pa_cons (pk c2) (pa_cons (pk c5) pa_nil))))
      (pe_one (pe_callB (cr_all rfl) (by rfl) B.all (by decide +kernel) (pa_cons (pe_lc (own := [("moves", 1)]) (g := gName 1) (tt := tYes) rfl sc_is_habit.nd (pi_tup (pv 0)) (blkOk_by (N := ["value", "moves"]) (sc := defScope st_is_habit) (by decide +kernel))
        (fun _ _ _ _ _ => pg_name (i := 1) sc_is_habit.nd rfl (Or.inl rfl)) (fun _ _ _ _ _ => pts_nil) (fun _ _ _ _ _ => pc C5 hr (pa_cons (pv 1) (pa_cons (pe_callB (cl_len K) (by rfl) B.len PySem.boot_len (pa_cons (pv 0) pa_nil)) pa_nil)))) pa_nil))))), ?_⟩
    cases hk with
    | @no v ht => exact ⟨_, rfl, v, none, 2, 5, rfl, ht, _, rfl, q H (Same.refl H)⟩
    | @tup a xs wos hS hE =>
      have hlen := hE.len
      refine ⟨_, rfl, .ref a, some xs, 2, 5, rfl, .tup hS, _, rfl, ?_⟩
      have er : rowW 2 5 (some xs) = (decide (2 ≤ wos.length) && decide (wos.length ≤ 5)) := by
        show (decide ((2 : Int) ≤ (xs.length : Int)) && decide ((xs.length : Int) ≤ 5)) = _
        rw [hlen, few_cast]
      rw [er]
      cases hc : (decide (2 ≤ wos.length) && decide (wos.length ≤ 5)) with
      | false =>
        have q := q H (Same.refl H)
        unfold habW at q
        dsimp only at q
        rw [hc, Bool.false_and] at q
        exact q
      | true =>
        have hc' := hc
        rw [Bool.and_eq_true, decide_eq_true_iff, decide_eq_true_iff] at hc'
        refine ⟨_, rfl, a, rfl, ⟨_, hS⟩, fun D hD => ?_⟩
        refine lc_tup (xs := xs) (fun i H' => Same H H' ∧ H' D = some (.lst (((wos.take i).map (layW wos.length)).map V.bl))) ⟨same_new hD, upd_same⟩ (fun i H' _ h' => onT h'.1 hS) (fun i x H' hi h' => ?_) (fun H' h' => ?_)
        · obtain ⟨sm, eD⟩ := h'
          obtain ⟨wo, hwo, hw⟩ := hE.at hi
          refine ⟨rfl, _, rfl, _, rfl, a, xs, rfl, .inr (onT sm hS), x, wo, wos.length, by rw [hlen]; rfl, hw.on sm, by omega, fun H3 s3 => ⟨_, s3 _ _ eD, ?_, ?_, ?_⟩⟩
          · rw [List.length_map, List.length_map, List.length_take]
            exact small1000 (by omega)
          · intro b o e
            rw [upd_ne (ne_of_none e hD)]
            exact s3 _ _ (sm b o e)
          · rw [upd_same, all_snoc _ hwo, List.map_append]
            rfl
        · obtain ⟨sm, eD⟩ := h'
          rw [hlen, List.take_length] at eD
          refine ⟨D, _, rfl, lstAt eD, ?_⟩
          have e : ((wos.map (layW wos.length)).all id) = habW (some wos) := by
            unfold habW
            dsimp only
            rw [hc, Bool.true_and, List.all_map]
            rfl
          rw [e]
          exact q H' sm
end
end RH
set_option Elab.async false
set_option linter.all false
set_option maxRecDepth 100000
set_option maxHeartbeats 2000000
namespace RH
open PySem PySem.Spec PyProof.Rows L2
/-! ### some habits -/
structure CalXD (P : Program) (w : World) (K : PySem.W.Frag) (mg : Str → Option Value) (base : Heap) (k : Nat) (x : Str) (dvs : List V) (sp : Sp) : Prop where
  ex : ∃ (f : Addr) (fd : FuncData) (ps : List Str) (ds : List Value), FnOk P w K mg base (L2.CX P w) k f fd ps sp ∧ mg x = some (.ref f) ∧ PySem.W.keepIn K (.ref f) = true ∧ Vals dvs ds ∧ Binds K fd ps ds
theorem mkCalXD {P : Program} {w : World} {K : PySem.W.Frag} {mg : Str → Option Value} {base : Heap} {x : Str} {st : Stmt} {N ps : List Str} {dvs : List V} {k : Nat} {sp : Sp} (F : DfD K mg x st ps dvs) (S : FnScope N ps (defScope st)) (len : ∀ vs H Q E, sp vs H Q E → vs.length = ps.length)
    (hbody : ∀ (f : Addr) (cdv : Value) (A : Around) (outer : List Env) (s : Shared) (H : Hp) (vs : List V) (Q : VK) (E : XK), Room k (A.deeper (envOfC x (defScope st) s.heap.objs.size f cdv)) → sp vs H Q E →
      ∃ t, PSs (cxOf (L2.CX P w) P w K mg base N x (defScope st) f cdv A outer s H E) (defBody st) t ∧ t { nx := fun _ H' => Q .non H', rt := Q } (start N vs) H) : CalXD P w K mg base (k + 1) x dvs sp := by
  obtain ⟨f, fd, F, g, ds, hv, b⟩ := F.ex
  exact ⟨f, fd, ps, ds, F.ok S len (hbody f), g, F.kp, hv, b⟩
theorem pcXD {X : Cx} {k j : Nat} {x : Str} {sp : Sp} {E : XK} {dvs : List V} {p pos : Pos} {e : Expr} {es : List Expr} {t : TA} (c : CalXD X.prog X.w X.K X.mg X.base k x dvs sp) (hx : Passes (L2.CX X.prog X.w) X E) (hr : Room j X.A) (ha : PA X (e :: es) t) (hk : k ≤ j := by decide) (hg : Gl X x := by rfl)
    (hdb : (x == ("__debug__" : Str)) = false := by decide) (he : starEach (e :: es) X.env = (false, eval e X.env) :: starEach es X.env := by rfl) (hpl : (backTo pos (starEach es X.env)).any (·.1) = false := by rfl) :
    PE X (.Call (.Name x p) (e :: es) [] pos) (tCall sp dvs E t) := by
  obtain ⟨f, fd, ps, ds, F, hm, kp, hv, b⟩ := c.ex
  exact pe_call F (hr.mono hk) hg hm kp b hv hx ha hdb he hpl
abbrev HO1 : Type := Option (List (Option (List V)))
def lenH (ho : HO1) : Nat := (ho.map List.length).getD 0
/-- some habits, or what is none -/
inductive Hs (K : PySem.W.Frag) (H : Hp) : V → Option (List HO1) → Prop
  | tup {a : Addr} {xs : List V} {hos : List HO1} : SqT K H a xs → Each (Hk K H) xs hos → Hs K H (.ref a) (some hos)
  | no {v : V} : Tk K H v none → Hs K H v none
/-- an index that does not fit -/
def badI (n : Nat) (ho : HO1) : Bool := !habW ho || !decide (lenH ho = n)
/-- the index that BadHabits tells -/
def hsBad : Option (List HO1) → Option V
  | none => some .non
  | some hos => if (decide (1 ≤ hos.length) && decide (hos.length ≤ 3)) = true then (hos.findIdx? (badI (lenH (hos.headD none)))).map (fun i => V.int (i : Nat)) else some .non
theorem hsBad_pl {ho : Option (List HO1)} {pl : V} (h : hsBad ho = some pl) : plV pl := by
  cases ho with
  | none => exact .inl (Option.some.inj h).symm
  | some hos =>
    unfold hsBad at h
    dsimp only at h
    split at h
    · rename_i hc
      rw [Bool.and_eq_true, decide_eq_true_iff, decide_eq_true_iff] at hc
      obtain ⟨i, hi, e⟩ := Option.map_eq_some_iff.mp h
      have := (List.findIdx?_eq_some_iff_getElem.mp hi).1
      exact .inr ⟨i, by omega, e.symm⟩
    · exact .inl (Option.some.inj h).symm
theorem few_cast3 (n : Nat) : (decide ((1 : Int) ≤ (n : Int)) && decide ((n : Int) ≤ 3)) = (decide (1 ≤ n) && decide (n ≤ 3)) := by
  rw [Bool.eq_iff_iff]
  simp only [Bool.and_eq_true, decide_eq_true_iff]
  omega
theorem hk_tup {K : PySem.W.Frag} {H : Hp} {v : V} {ho : HO1} (h : Hk K H v ho) (hb : habW ho = true) : ∃ a xs, v = .ref a ∧ SqT K H a xs ∧ xs.length = lenH ho := by
  cases h with
  | tup h hx => exact ⟨_, _, rfl, h, hx.len⟩
  | no h => cases hb
section
variable {P : Program} {w : World} {K : PySem.W.Frag} {mg : Str → Option Value} {base : Heap}
def spCheckHabitsX (K : PySem.W.Frag) (C : Addr) : Sp := fun vs H Q E => ∃ (v : V) (ho : Option (List HO1)), vs = [v, .int 3] ∧ Hs K H v ho ∧ (hsBad ho = none → ∀ H', Same H H' → Q .non H') ∧ (∀ pl, hsBad ho = some pl → bhE C "index" pl H E)
theorem ok_check_habitsX {C : Addr} (F : DfD K mg "check_habits" st_check_habits ["habits", "most"] [.int 3]) (B : Bu mg) (T : BhX P w K mg base "BadHabits" "index" C (spBI "index" C)) (C1 : Cal P w K mg base 1 "is_row" (spIsRowW K)) (C6 : Cal P w K mg base 6 "is_habit" (spIsHabitW K)) :
    CalXD P w K mg base 7 "check_habits" [.int 3] (spCheckHabitsX K C) := by
  refine mkCalXD F sc_check_habits (fun vs H Q E h => ?_) (fun f cdv A outer s H vs Q E hr h => ?_)
  · obtain ⟨v, ho, rfl, _⟩ := h
    rfl
  · obtain ⟨v, ho, rfl, hk, q1, q2⟩ := h
    obtain ⟨fI, fdI, FI, iC, tI, bI⟩ := T.f
    refine ⟨_, pss_cons (ps_if (pt_not (pt_val (pc C1 hr (pa_cons (pv 0) (pa_cons pe_int (pa_cons (pv 1) pa_nil)))))) (pss_one (ps_raise rfl takesE (pmk_oex T.t iC tI FI (hr.mono (by decide)) bI .nil pass0 rfl T.g (pa_cons pe_non pa_nil)))) pss_nil)
      (pss_one (ps_for (passes_of rfl) rfl (pi_enumT (by rfl) B.enumerate (pa_cons (pv 0) pa_nil)) (pg_tup rfl (pgs_cons (pg_name (i := 2) sc_check_habits.nd rfl (.inl rfl)) (pgs_cons (pg_name (i := 3) sc_check_habits.nd rfl (.inl rfl)) pgs_nil)))
        (pss_one (ps_if (PW.pt (pw_or (pt_not (pt_val (pc C6 hr (pa_cons (pv 3) pa_nil)))) (pw_or1 (pt_cmpR op_ne (pe_callB (cl_len K) (by rfl) B.len PySem.boot_len (pa_cons (pv 3) pa_nil))
          (pe_callB (cl_len K) (by rfl) B.len PySem.boot_len (pa_cons (pe_ix (ixT K) (pv 0) pe_int (fun _ _ => rfl)) pa_nil)) (nomark _))))) (pss_one (ps_raise rfl takesE (pmk_oex T.t iC tI FI (hr.mono (by decide)) bI .nil pass0 rfl T.g (pa_cons (pv 2) pa_nil)))) pss_nil)))), ?_⟩
    have none_ : ∀ {H1 : Hp}, Same H H1 → hsBad ho = some .non → ∀ d, H1 d = none → E (.ref C) (some d) (upd H1 d (.xd [("index", .non)])) := fun {H1} s1 e d hd => q2 _ e d _ (s1.trans (same_new hd)) upd_same
    cases hk with
    | @no v ht => exact ⟨_, rfl, _, rfl, v, none, 1, 3, rfl, ht, _, rfl, ifT rfl (bh_made (.inl rfl) (none_ (Same.refl H) rfl))⟩
    | @tup a xs hos hS hE =>
      have hlen := hE.len
      refine ⟨_, rfl, _, rfl, .ref a, some xs, 1, 3, rfl, .tup hS, _, rfl, ?_⟩
      cases hc : (decide (1 ≤ hos.length) && decide (hos.length ≤ 3)) with
      | false =>
        refine ifT ?_ (bh_made (.inl rfl) (none_ (Same.refl H) ?_))
        · show (!(decide ((1 : Int) ≤ (xs.length : Int)) && decide ((xs.length : Int) ≤ 3))) = true
          rw [hlen, few_cast3, hc]
          rfl
        · unfold hsBad
          dsimp only
          rw [hc]
          rfl
      | true =>
        have hc' := hc
        rw [Bool.and_eq_true, decide_eq_true_iff, decide_eq_true_iff] at hc'
        refine ifF ?_ ?_
        · show (!(decide ((1 : Int) ≤ (xs.length : Int)) && decide ((xs.length : Int) ≤ 3))) = false
          rw [hlen, few_cast3, hc]
          rfl
        obtain ⟨x0, hx0⟩ : ∃ x0, xs[0]? = some x0 := ⟨xs[0], List.getElem?_eq_getElem (by omega)⟩
        obtain ⟨h0, hh0, hT0⟩ := hE.at hx0
        have ehd : hos.headD none = h0 := by
          cases hos with
          | nil => simp at hh0
          | cons y ys => exact Option.some.inj hh0
        refine ⟨_, rfl, a, xs, rfl, hS, ?_⟩
        refine for_enumT (xs := xs) (fun i σ H' => Same H H' ∧ (∀ (j : Nat) (ho : HO1), j < i → hos[j]? = some ho → badI (lenH h0) ho = false) ∧ ∃ y1 y2, σ = [some (.ref a), some (.int 3), y1, y2]) ⟨Same.refl H, fun j wo hj => absurd hj (Nat.not_lt_zero _), none, none, rfl⟩ (fun i σ H' h' => onT h'.1 hS) (fun i x T σ H' hx h' hT => ?_) (fun σ H' h' => q1 ?_ H' h'.1)
        · obtain ⟨sm, old, y1, y2, rfl⟩ := h'
          obtain ⟨ho, hho, hTx⟩ := hE.at hx
          have sT : Same H (upd H' T (.tup [.int (i : Nat), x])) := sm.trans (same_new hT)
          have isbad : badI (lenH h0) ho = true → hsBad (some hos) = some (.int (i : Nat)) := fun hb => by
            unfold hsBad
            dsimp only
            rw [if_pos hc, ehd]
            have : hos.findIdx? (badI (lenH h0)) = some i := by
              rw [List.findIdx?_eq_some_iff_getElem]
              refine ⟨(List.getElem?_eq_some_iff.mp hho).1, ?_, fun j hj => ?_⟩
              · rw [(List.getElem?_eq_some_iff.mp hho).2, hb]
              · rw [old j _ hj (List.getElem?_eq_getElem _)]
                decide
            rw [this]
            rfl
          refine ⟨T, _, rfl, tupAt upd_same, rfl, _, _, rfl, _, _, rfl, rfl, _, rfl, x, ho, rfl, hTx.on sT, fun H3 sm3 => ⟨_, rfl, ?_⟩⟩
          have s3 := sT.trans sm3
          cases hb : habW ho with
          | false =>
            refine ifT (by rfl) (ifT rfl ⟨_, rfl, ?_⟩)
            have e := isbad (by unfold badI; rw [hb]; rfl)
            exact bh_made (hsBad_pl e) fun d hd => q2 _ e d _ (s3.trans (same_new hd)) upd_same
          | true =>
            have hb0 : habW h0 = true := by
              cases i with
              | zero =>
                rw [hho] at hh0
                cases hh0
                exact hb
              | succ i =>
                have := old 0 h0 (Nat.succ_pos _) hh0
                unfold badI at this
                rw [Bool.or_eq_false_iff] at this
                simpa using this.1
            obtain ⟨ax, xx, rfl, hSx, lx⟩ := hk_tup (hTx.on s3) hb
            obtain ⟨a0, xx0, rfl, hS0, l0⟩ := hk_tup (hT0.on s3) hb0
            refine ifF (by rfl) ⟨_, rfl, ax, xx, rfl, .inr hSx, _, rfl, a, xs, 0, .ref a0, rfl, rfl, onT s3 hS, atI_nat (j := 0) hx0, a0, xx0, rfl, .inr hS0, rfl, _, rfl, ?_⟩
            by_cases el : lenH ho = lenH h0
            · refine ifF ?_ ⟨s3, fun j ho' hj e => ?_, _, _, rfl⟩
              · rw [lx, l0, el]
                simp
              · rcases Nat.lt_succ_iff_lt_or_eq.mp hj with hj | rfl
                · exact old j ho' hj e
                · rw [hho] at e
                  cases e
                  unfold badI
                  rw [hb, decide_eq_true el]
                  rfl
            · have e := isbad (by unfold badI; rw [decide_eq_false el, Bool.or_comm]; rfl)
              refine ifT ?_ ⟨_, rfl, bh_made (hsBad_pl e) fun d hd => q2 _ e d _ (s3.trans (same_new hd)) upd_same⟩
              rw [lx, l0]
              have : ((lenH ho : Nat) : Int) ≠ (lenH h0 : Nat) := fun z => el (by omega)
              simpa using this
        · unfold hsBad
          dsimp only
          rw [if_pos hc, ehd]
          have : hos.findIdx? (badI (lenH h0)) = none := by
            rw [List.findIdx?_eq_none_iff]
            intro wo hm
            obtain ⟨j, hj⟩ := List.mem_iff_getElem?.mp hm
            exact h'.2.1 j wo (by rw [hlen]; exact (List.getElem?_eq_some_iff.mp hj).1) hj
          rw [this]
          rfl
end
end RH
set_option Elab.async false
set_option linter.all false
set_option maxRecDepth 100000
set_option maxHeartbeats 2000000
namespace RH
open PySem PySem.Spec PyProof.Rows L2
/-! ### instructions, of whatever kind -/
/-- a tuple of texts among the module's names -/
def CTup (K : PySem.W.Frag) (mg : Str → Option Value) (x : Str) (zs : List Str) : Prop := ∃ (a : Addr) (o : Obj) (its : Array Value) (n : Nat), mg x = some (.ref a) ∧ K.lookup a = some o ∧ o.cls = .type "tuple" ∧ o.data = .seq its n ∧ its.size ≤ sizeLine ∧ Vals (zs.map V.str) its.toList
theorem CTup.at {K : PySem.W.Frag} {mg : Str → Option Value} {x : Str} {zs : List Str} (h : CTup K mg x zs) : ∃ a : Addr, mg x = some (.ref a) ∧ ∀ H, SqT K H a (zs.map V.str) := by
  obtain ⟨a, o, its, n, h1, h2, h3, h4, h5, h6⟩ := h
  exact ⟨a, h1, fun H => .inr ⟨o, its, n, h2, h3, h4, h5, h6⟩⟩
end RH
set_option Elab.async false
set_option linter.all false
set_option maxRecDepth 100000
set_option maxHeartbeats 2000000
set_option Elab.async false
set_option linter.all false
set_option maxRecDepth 100000
set_option maxHeartbeats 2000000
namespace RH
open PySem PySem.Spec PyProof.Rows L2
open NdefX (NScope CellsAt Caps slotAt slotAt_of cells_of startF ncx)
open LamX (Tabs TabS TabB ExtN CodeO codeO_ne)
/-! ### a def of the module that is handed on as a value -/
section
variable {P : Program} {w : World} {K : PySem.W.Frag} {mg : Str → Option Value} {base : Heap}
structure CalV (P : Program) (w : World) (K : PySem.W.Frag) (mg : Str → Option Value) (base : Heap) (k : Nat) (x : Str) (f : Addr) (sp : Sp) : Prop where
  glob : mg x = some (.ref f)
  can : ∀ outer s H, Callable P w K mg base CX0 k f (fun _ => True) sp outer s H
theorem calV {x : Str} {st : Stmt} {ps : List Str} {k : Nat} {sp : Sp} (F : Df K mg x st ps) (c : Cal P w K mg base k x sp) : ∃ f, CalV P w K mg base k x f sp := by
  obtain ⟨f, fd, D, g, _⟩ := F.ex
  obtain ⟨f2, fd2, ps2, Fn, g2, kp, b⟩ := c.ex
  have e : f = f2 := by
    have := g.symm.trans g2
    cases this
    rfl
  subst e
  refine ⟨f, g, fun outer s H => ⟨fun X _ _ e3 _ _ _ pins σ H' s' I _ => ?_, fun X e1 e2 e3 e4 e5 e6 e7 e8 e9 hr pins σ H' s' us vs Q E I _ r hx q => ?_⟩⟩
  · subst e3
    obtain ⟨oc, od, kV, doc, pm, an, cdv, ct, osl, rfl, lk, _⟩ := D.ex
    exact ⟨_, od, _, osl, I.kIn _ _ lk⟩
  · subst e1 e2 e3 e4 e5
    exact run_fn Fn hr b .nil hx I r (by rw [List.append_nil]; exact q)
theorem Callable.weak {CX : CXT} {k j : Nat} {f : Addr} {live : Hp → Prop} {sp sp' : Sp} {outer : List Env} {s : Shared} {H : Hp} (c : Callable P w K mg base CX k f live sp outer s H) (hk : k ≤ j) (h : ∀ vs H Q E, sp' vs H Q E → sp vs H Q E) : Callable P w K mg base CX j f live sp' outer s H :=
  ⟨c.at_, fun X e1 e2 e3 e4 e5 e6 e7 e8 e9 hr pins σ H' s' us vs Q E I l r hx q => c.run X e1 e2 e3 e4 e5 e6 e7 e8 e9 (hr.mono hk) pins σ H' s' us vs Q E I l r hx (h _ _ _ _ q)⟩
end
end RH
set_option Elab.async false
set_option linter.all false
set_option maxRecDepth 100000
set_option maxHeartbeats 2000000
namespace RH
open PySem PySem.Spec PyProof.Rows L2
/-! ### a search level by level, with words -/
abbrev SW := List Int × List Int
def exq (st : Int → List Int → List Int) (ts : List Int) (q : SW) : List SW := (ts).map fun p => (st p q.1, q.2 ++ [p])
def exl (st : Int → List Int → List Int) (ts : List Int) (l : List SW) : List SW := l.flatMap (exq st ts)
/-- those that are new: in no state of F, nor ahead -/
def ddS (F : List (List Int)) (acc : List SW) (q : SW) : List SW := if q.1 ∈ F ∨ q.1 ∈ acc.map Prod.fst then acc else acc ++ [q]
def dd (F : List (List Int)) (l : List SW) : List SW := l.foldl (ddS F) []
theorem dd_app (F : List (List Int)) (l m : List SW) : dd F (l ++ m) = m.foldl (ddS F) (dd F l) := List.foldl_append ..
theorem dd_snoc (F : List (List Int)) (l : List SW) (q : SW) : dd F (l ++ [q]) = ddS F (dd F l) q := dd_app F l [q]
theorem nd_one {α : Type} (a : α) : [a].Nodup := List.nodup_cons.mpr ⟨List.not_mem_nil, List.nodup_nil⟩
theorem snoc_ind {α : Type} {P : List α → Prop} (h0 : P []) (hs : ∀ l q, P l → P (l ++ [q])) : ∀ l, P l := by
  have : ∀ r : List α, P r.reverse := fun r => by
    induction r with
    | nil => exact h0
    | cons a r ih =>
      rw [List.reverse_cons]
      exact hs _ _ ih
  intro l
  have := this l.reverse
  rwa [List.reverse_reverse] at this
theorem ddS_in {F : List (List Int)} {acc : List SW} {q : SW} (h : q.1 ∈ F ∨ q.1 ∈ acc.map Prod.fst) : ddS F acc q = acc := if_pos h
theorem ddS_new {F : List (List Int)} {acc : List SW} {q : SW} (h : ¬ (q.1 ∈ F ∨ q.1 ∈ acc.map Prod.fst)) : ddS F acc q = acc ++ [q] := if_neg h
theorem dd_mono {F : List (List Int)} : ∀ {m acc : List SW} {q : SW}, q ∈ acc → q ∈ m.foldl (ddS F) acc
  | [], _, _, h => h
  | x :: m, acc, q, h => by
    rw [List.foldl_cons]
    refine dd_mono (m := m) ?_
    unfold ddS
    split
    · exact h
    · exact List.mem_append_left _ h
theorem dd_has (F : List (List Int)) : ∀ l : List SW, ∀ q ∈ l, q.1 ∈ F ∨ q.1 ∈ (dd F l).map Prod.fst := by
  refine snoc_ind (fun q hq => nomatch hq) fun l x ih q hq => ?_
  rw [dd_snoc]
  rcases List.mem_append.mp hq with z | z
  · rcases ih q z with y | y
    · exact .inl y
    · refine .inr ?_
      unfold ddS
      split
      · exact y
      · rw [List.map_append]
        exact List.mem_append_left _ y
  · rw [List.mem_singleton.mp z]
    by_cases hx : x.1 ∈ F ∨ x.1 ∈ (dd F l).map Prod.fst
    · rw [ddS_in hx]
      exact hx
    · rw [ddS_new hx, List.map_append]
      exact .inr (List.mem_append_right _ (List.mem_singleton.mpr rfl))
structure DdOk (F : List (List Int)) (l d : List SW) : Prop where
  sub : ∀ q ∈ d, q ∈ l
  new : ∀ q ∈ d, q.1 ∉ F
  nd : (d.map Prod.fst).Nodup
theorem dd_ok (F : List (List Int)) : ∀ l : List SW, DdOk F l (dd F l) := by
  refine snoc_ind ⟨fun q hq => (nomatch hq), fun q hq => (nomatch hq), List.nodup_nil⟩ fun l x ih => ?_
  rw [dd_snoc]
  by_cases hx : x.1 ∈ F ∨ x.1 ∈ (dd F l).map Prod.fst
  · rw [ddS_in hx]
    exact ⟨fun q hq => List.mem_append_left _ (ih.sub q hq), ih.new, ih.nd⟩
  · rw [ddS_new hx]
    refine ⟨fun q hq => ?_, fun q hq => ?_, ?_⟩
    · rcases List.mem_append.mp hq with z | z
      · exact List.mem_append_left _ (ih.sub q z)
      · exact List.mem_append_right _ z
    · rcases List.mem_append.mp hq with z | z
      · exact ih.new q z
      · rw [List.mem_singleton.mp z]
        exact fun y => hx (.inl y)
    · rw [List.map_append, List.nodup_append]
      refine ⟨ih.nd, nd_one _, fun a ha b hb e => ?_⟩
      rw [List.map_singleton, List.mem_singleton] at hb
      rw [e, hb] at ha
      exact hx (.inr ha)
/-- what is found, and the level, behind k levels -/
def bf (st : Int → List Int → List Int) (ts : List Int) (L : List Int) : Nat → List SW × List SW
  | 0 => ([(L, [])], [(L, [])])
  | k + 1 => ((bf st ts L k).1 ++ dd ((bf st ts L k).1.map Prod.fst) (exl st ts (bf st ts L k).2), dd ((bf st ts L k).1.map Prod.fst) (exl st ts (bf st ts L k).2))
def fd (st : Int → List Int → List Int) (ts : List Int) (L : List Int) (k : Nat) : List SW := (bf st ts L k).1
def lv (st : Int → List Int → List Int) (ts : List Int) (L : List Int) (k : Nat) : List SW := (bf st ts L k).2
section
variable {st : Int → List Int → List Int} {ts : List Int} {L : List Int}
theorem fd_succ (k : Nat) : fd st ts L (k + 1) = fd st ts L k ++ lv st ts L (k + 1) := rfl
theorem lv_succ (k : Nat) : lv st ts L (k + 1) = dd ((fd st ts L k).map Prod.fst) (exl st ts (lv st ts L k)) := rfl
theorem fd_mono {k j : Nat} (hk : k ≤ j) {q : SW} (hq : q ∈ fd st ts L k) : q ∈ fd st ts L j := by
  induction hk with
  | refl => exact hq
  | step _ ih => exact List.mem_append_left _ ih
theorem lv_fd {k : Nat} {q : SW} (hq : q ∈ lv st ts L k) : q ∈ fd st ts L k := by
  cases k with
  | zero => exact hq
  | succ k => exact List.mem_append_right _ hq
theorem lv_ex {k : Nat} {q : SW} (hq : q ∈ lv st ts L k) {p : Int} (hp : p ∈ ts) : st p q.1 ∈ (fd st ts L (k + 1)).map Prod.fst := by
  have hm : (st p q.1, q.2 ++ [p]) ∈ exl st ts (lv st ts L k) := List.mem_flatMap.mpr ⟨q, hq, List.mem_map.mpr ⟨p, hp, rfl⟩⟩
  rw [fd_succ, List.map_append, List.mem_append]
  exact dd_has _ _ _ hm
theorem fd_ex {q : SW} {p : Int} (hp : p ∈ ts) : ∀ {k : Nat}, q ∈ fd st ts L k → st p q.1 ∈ (fd st ts L (k + 1)).map Prod.fst
  | 0, hq => lv_ex (k := 0) hq hp
  | k + 1, hq => by
    rw [fd_succ, List.mem_append] at hq
    rcases hq with hq | hq
    · have := fd_ex hp hq
      rw [fd_succ (k + 1), List.map_append, List.mem_append]
      exact .inl this
    · exact lv_ex hq hp
theorem exl_len {l : List SW} {k : Nat} (hl : ∀ q ∈ l, q.2.length = k) : ∀ q ∈ exl st ts l, q.2.length = k + 1 := fun q hq => by
  obtain ⟨x, hx, hq⟩ := List.mem_flatMap.mp hq
  obtain ⟨p, _, rfl⟩ := List.mem_map.mp hq
  rw [List.length_append, hl x hx]
  rfl
theorem lv_len : ∀ k : Nat, ∀ q ∈ lv st ts L k, q.2.length = k
  | 0, q, hq => by
    rw [List.mem_singleton.mp hq]
    rfl
  | k + 1, q, hq => exl_len (lv_len k) q ((dd_ok _ _).sub q hq)
theorem fd_len : ∀ k : Nat, ∀ q ∈ fd st ts L k, q.2.length ≤ k
  | 0, q, hq => by
    rw [List.mem_singleton.mp hq]
    exact Nat.le_refl _
  | k + 1, q, hq => by
    rw [fd_succ, List.mem_append] at hq
    rcases hq with hq | hq
    · exact Nat.le_succ_of_le (fd_len k q hq)
    · exact Nat.le_of_eq (lv_len (k + 1) q hq)
theorem fd_nd : ∀ k : Nat, ((fd st ts L k).map Prod.fst).Nodup
  | 0 => nd_one _
  | k + 1 => by
    rw [fd_succ, List.map_append, List.nodup_append]
    refine ⟨fd_nd k, (dd_ok _ _).nd, fun a ha b hb e => ?_⟩
    obtain ⟨x, hx, rfl⟩ := List.mem_map.mp hb
    exact (dd_ok _ _).new x hx (e ▸ ha)
theorem lv_done {a : Nat} (e : lv st ts L a = []) : ∀ j : Nat, lv st ts L (a + j) = [] ∧ fd st ts L (a + j) = fd st ts L a
  | 0 => ⟨e, rfl⟩
  | j + 1 => by
    obtain ⟨h1, h2⟩ := lv_done e j
    have h3 : lv st ts L (a + j + 1) = [] := by
      rw [lv_succ, h1]
      rfl
    refine ⟨h3, ?_⟩
    show fd st ts L (a + j + 1) = _
    rw [fd_succ, h3, List.append_nil, h2]
theorem fd_one {a b : Nat} (ha : lv st ts L a = []) (hb : lv st ts L b = []) : fd st ts L a = fd st ts L b := by
  rcases Nat.le_total a b with z | z
  · obtain ⟨j, rfl⟩ := Nat.exists_eq_add_of_le z
    exact (lv_done ha j).2.symm
  · obtain ⟨j, rfl⟩ := Nat.exists_eq_add_of_le z
    exact (lv_done hb j).2
theorem fd_all {a k : Nat} (ha : lv st ts L a = []) {q : SW} (hq : q ∈ fd st ts L k) : q ∈ fd st ts L a := by
  rcases Nat.le_total k a with z | z
  · exact fd_mono z hq
  · obtain ⟨j, rfl⟩ := Nat.exists_eq_add_of_le z
    rw [← (lv_done ha j).2]
    exact hq
theorem fd_start (k : Nat) : (L, []) ∈ fd st ts L k := fd_mono (Nat.zero_le k) (List.mem_singleton.mpr rfl)
theorem fd_least {C : List Int → Prop} (h0 : C L) (hs : ∀ s, C s → ∀ p ∈ ts, C (st p s)) : ∀ k : Nat, ∀ q ∈ fd st ts L k, C q.1
  | 0, q, hq => by
    rw [List.mem_singleton.mp hq]
    exact h0
  | k + 1, q, hq => by
    rw [fd_succ, List.mem_append] at hq
    rcases hq with hq | hq
    · exact fd_least h0 hs k q hq
    · have := (dd_ok _ _).sub q hq
      obtain ⟨x, hx, hq⟩ := List.mem_flatMap.mp this
      obtain ⟨p, hp, rfl⟩ := List.mem_map.mp hq
      exact hs _ (fd_least h0 hs k x (lv_fd hx)) p hp
theorem fd_val {k : Nat} {s w w' : List Int} (h1 : (s, w) ∈ fd st ts L k) (h2 : (s, w') ∈ fd st ts L k) : w = w' := by
  have nd : ∀ {l : List SW}, (l.map Prod.fst).Nodup → (s, w) ∈ l → (s, w') ∈ l → w = w' := fun {l} => by
    induction l with
    | nil => exact fun _ z _ => nomatch z
    | cons x l ih =>
      intro nd a b
      rw [List.map_cons, List.nodup_cons] at nd
      rcases List.mem_cons.mp a with e1 | a
      · rcases List.mem_cons.mp b with e2 | b
        · rw [← e1] at e2
          exact (Prod.mk.inj e2).2.symm
        · rw [← e1] at nd
          exact absurd (List.mem_map.mpr ⟨_, b, rfl⟩) nd.1
      · rcases List.mem_cons.mp b with e2 | b
        · rw [← e2] at nd
          exact absurd (List.mem_map.mpr ⟨_, a, rfl⟩) nd.1
        · exact ih nd.2 a b
  exact nd (fd_nd k) h1 h2
end
theorem nd_len {α : Type} [DecidableEq α] : ∀ {l m : List α}, l.Nodup → (∀ x ∈ l, x ∈ m) → l.length ≤ m.length
  | [], _, _, _ => Nat.zero_le _
  | a :: l, m, nd, hs => by
    rw [List.nodup_cons] at nd
    have ha := hs a (List.mem_cons_self ..)
    have := nd_len (l := l) (m := m.erase a) nd.2 fun x hx => (List.mem_erase_of_ne (fun e => nd.1 (by rw [← e]; exact hx))).mpr (hs x (List.mem_cons_of_mem _ hx))
    rw [List.length_erase_of_mem ha] at this
    have hm := List.length_pos_of_mem ha
    rw [List.length_cons]
    omega
/-- what is new behind m expansions of the k-th level -/
def prt (st : Int → List Int → List Int) (ts : List Int) (L : List Int) (k m : Nat) : List SW := dd ((fd st ts L k).map Prod.fst) ((exl st ts (lv st ts L k)).take m)
section
variable {st : Int → List Int → List Int} {ts : List Int} {L : List Int}
theorem exl_cons (q : SW) (l : List SW) : exl st ts (q :: l) = exq st ts q ++ exl st ts l := rfl
theorem prt_zero (k : Nat) : prt st ts L k 0 = [] := by
  unfold prt
  rw [List.take_zero]
  rfl
theorem exq_len (q : SW) : (exq st ts q).length = ts.length := List.length_map ..
theorem exl_length : ∀ l : List SW, (exl st ts l).length = l.length * ts.length
  | [] => by
    rw [List.length_nil, Nat.zero_mul]
    rfl
  | q :: l => by
    rw [exl_cons, List.length_append, exq_len, exl_length l, List.length_cons, Nat.succ_mul, Nat.add_comm]
theorem exl_at : ∀ {l : List SW} {i j : Nat} {q : SW} {p : Int}, l[i]? = some q → ts[j]? = some p → (exl st ts l)[i * ts.length + j]? = some (st p q.1, q.2 ++ [p])
  | [], _, _, _, _, e, _ => by simp at e
  | a :: l, 0, j, q, p, e, hj => by
    cases Option.some.inj e
    rw [exl_cons, Nat.zero_mul, Nat.zero_add, List.getElem?_append_left (by rw [exq_len]; exact (List.getElem?_eq_some_iff.mp hj).1)]
    unfold exq
    rw [List.getElem?_map, hj]
    rfl
  | a :: l, i + 1, j, q, p, e, hj => by
    rw [exl_cons, List.getElem?_append_right (by rw [exq_len, Nat.succ_mul]; omega), exq_len, show (i + 1) * ts.length + j - ts.length = i * ts.length + j by rw [Nat.succ_mul]; omega]
    exact exl_at (l := l) (i := i) e hj
theorem prt_all (k : Nat) : prt st ts L k ((lv st ts L k).length * ts.length) = lv st ts L (k + 1) := by
  unfold prt
  rw [← exl_length, List.take_length, lv_succ]
theorem prt_old {k i j : Nat} {q : SW} {p : Int} (hq : (lv st ts L k)[i]? = some q) (hj : ts[j]? = some p) (hk : st p q.1 ∈ (fd st ts L k ++ prt st ts L k (i * ts.length + j)).map Prod.fst) : prt st ts L k (i * ts.length + j + 1) = prt st ts L k (i * ts.length + j) := by
  unfold prt at hk ⊢
  rw [take_more (exl_at hq hj), dd_snoc, ddS_in]
  rw [List.map_append, List.mem_append] at hk
  exact hk
theorem prt_new {k i j : Nat} {q : SW} {p : Int} (hq : (lv st ts L k)[i]? = some q) (hj : ts[j]? = some p) (hk : st p q.1 ∉ (fd st ts L k ++ prt st ts L k (i * ts.length + j)).map Prod.fst) :
    prt st ts L k (i * ts.length + j + 1) = prt st ts L k (i * ts.length + j) ++ [(st p q.1, q.2 ++ [p])] := by
  unfold prt at hk ⊢
  rw [take_more (exl_at hq hj), dd_snoc, ddS_new]
  rw [List.map_append, List.mem_append] at hk
  exact hk
theorem prt_sub {k m : Nat} {q : SW} (hq : q ∈ prt st ts L k m) : q ∈ lv st ts L (k + 1) := by
  rw [lv_succ, ← List.take_append_drop m (exl st ts (lv st ts L k)), dd_app]
  exact dd_mono hq
theorem prt_fd {k m : Nat} {q : SW} (hq : q ∈ fd st ts L k ++ prt st ts L k m) : q ∈ fd st ts L (k + 1) := by
  rcases List.mem_append.mp hq with z | z
  · exact List.mem_append_left _ z
  · exact lv_fd (prt_sub z)
theorem prt_nd (k m : Nat) : ((fd st ts L k ++ prt st ts L k m).map Prod.fst).Nodup := by
  rw [List.map_append, List.nodup_append]
  refine ⟨fd_nd k, (dd_ok _ _).nd, fun a ha b hb e => ?_⟩
  obtain ⟨x, hx, rfl⟩ := List.mem_map.mp hb
  exact (dd_ok _ _).new x hx (e ▸ ha)
/-- how far the search is from its end -/
def mea (N : Nat) (st : Int → List Int → List Int) (ts : List Int) (L : List Int) (k : Nat) : Nat := 2 * (N - (fd st ts L k).length) + (if lv st ts L k = [] then 0 else 1)
end
/-! ### few states -/
/-- the states are of C, of which there are few -/
structure Sys (N : Nat) (st : Int → List Int → List Int) (ts : List Int) (C : List Int → Prop) (U : List (List Int)) : Prop where
  go : ∀ s, C s → ∀ p ∈ ts, C (st p s)
  few : ∀ s, C s → s ∈ U
  num : U.length ≤ N
  len : ∀ s, C s → s.length ≤ 1000
  tl : ts.length ≤ 1000
/-- the state behind a word -/
def rn (st : Int → List Int → List Int) (L w : List Int) : List Int := w.foldl (fun s p => st p s) L
theorem rn_snoc (st : Int → List Int → List Int) (L w : List Int) (p : Int) : rn st L (w ++ [p]) = st p (rn st L w) := by
  unfold rn
  rw [List.foldl_append]
  rfl
section
variable {N : Nat} {st : Int → List Int → List Int} {ts : List Int} {L : List Int} {C : List Int → Prop} {U : List (List Int)}
theorem Sys.fd_C (q : Sys N st ts C U) (hL : C L) (k : Nat) : ∀ x ∈ fd st ts L k, C x.1 := fd_least hL q.go k
theorem Sys.cnt (q : Sys N st ts C U) {l : List SW} (nd : (l.map Prod.fst).Nodup) (hp : ∀ x ∈ l, C x.1) : l.length ≤ N := by
  have := nd_len nd (m := U) fun s hs => by
    obtain ⟨x, hx, rfl⟩ := List.mem_map.mp hs
    exact q.few _ (hp x hx)
  rw [List.length_map] at this
  exact Nat.le_trans this q.num
theorem Sys.prt_few (q : Sys N st ts C U) (hL : C L) (k m : Nat) : (fd st ts L k ++ prt st ts L k m).length ≤ N :=
  q.cnt (prt_nd k m) fun x hx => q.fd_C hL (k + 1) x (prt_fd hx)
theorem Sys.fd_few (q : Sys N st ts C U) (hL : C L) (k : Nat) : (fd st ts L k).length ≤ N := q.cnt (fd_nd k) (q.fd_C hL k)
theorem Sys.lv_C (q : Sys N st ts C U) (hL : C L) (k : Nat) : ∀ x ∈ lv st ts L k, C x.1 := fun x hx => q.fd_C hL k x (lv_fd hx)
theorem Sys.mea_less (q : Sys N st ts C U) (hL : C L) {k : Nat} (e : lv st ts L k ≠ []) : mea N st ts L (k + 1) < mea N st ts L k := by
  unfold mea
  rw [if_neg e, fd_succ, List.length_append]
  have h1 := q.fd_few hL (k + 1)
  rw [fd_succ, List.length_append] at h1
  by_cases z : lv st ts L (k + 1) = []
  · rw [if_pos z, z, List.length_nil]
    omega
  · rw [if_neg z]
    have : 0 < (lv st ts L (k + 1)).length := List.length_pos_iff.mpr z
    omega
theorem low : ∀ k : Nat, lv st ts L k ≠ [] → k + 1 ≤ (fd st ts L k).length
  | 0, _ => Nat.le_refl _
  | k + 1, e => by
    have e1 : lv st ts L k ≠ [] := fun z => e (by rw [lv_succ, z]; rfl)
    have := low k e1
    have h2 : 0 < (lv st ts L (k + 1)).length := List.length_pos_iff.mpr e
    rw [fd_succ, List.length_append]
    omega
/-- what is found is come to by its word -/
theorem fd_rn : ∀ k : Nat, ∀ q ∈ fd st ts L k, rn st L q.2 = q.1 ∧ ∀ p ∈ q.2, p ∈ ts
  | 0, q, hq => by
    rw [List.mem_singleton.mp hq]
    exact ⟨rfl, fun _ z => nomatch z⟩
  | k + 1, q, hq => by
    rw [fd_succ, List.mem_append] at hq
    rcases hq with hq | hq
    · exact fd_rn k q hq
    · have := (dd_ok _ _).sub q hq
      obtain ⟨x, hx, hq⟩ := List.mem_flatMap.mp this
      obtain ⟨p, hp, rfl⟩ := List.mem_map.mp hq
      obtain ⟨h1, h2⟩ := fd_rn k x (lv_fd hx)
      refine ⟨by rw [rn_snoc, h1], fun r hr => ?_⟩
      rcases List.mem_append.mp hr with z | z
      · exact h2 r z
      · rw [List.mem_singleton.mp z]
        exact hp
/-- what a word leads to is found -/
theorem rn_fd : ∀ w : List Int, (∀ p ∈ w, p ∈ ts) → rn st L w ∈ (fd st ts L w.length).map Prod.fst := by
  refine snoc_ind (fun _ => List.mem_map.mpr ⟨_, fd_start 0, rfl⟩) fun w p ih h => ?_
  obtain ⟨x, hx, e⟩ := List.mem_map.mp (ih fun r hr => h r (List.mem_append_left _ hr))
  rw [rn_snoc, ← e, List.length_append]
  exact fd_ex (h p (List.mem_append_right _ (List.mem_singleton.mpr rfl))) hx
theorem rn_all {a : Nat} (ha : lv st ts L a = []) {w : List Int} (h : ∀ p ∈ w, p ∈ ts) : ∃ x ∈ fd st ts L a, x.1 = rn st L w := by
  obtain ⟨x, hx, e⟩ := List.mem_map.mp (rn_fd (st := st) (L := L) w h)
  exact ⟨x, fd_all ha hx, e⟩
theorem rn_C (q : Sys N st ts C U) (hL : C L) : ∀ w : List Int, (∀ p ∈ w, p ∈ ts) → C (rn st L w) := by
  refine snoc_ind (fun _ => hL) fun w p ih h => ?_
  rw [rn_snoc]
  exact q.go _ (ih fun r hr => h r (List.mem_append_left _ hr)) p (h p (List.mem_append_right _ (List.mem_singleton.mpr rfl)))
/-- a least one of some -/
structure Lst1 (st : Int → List Int → List Int) (ts L : List Int) (gp : List Int → Bool) (w : List Int) : Prop where
  wd : ∀ p ∈ w, p ∈ ts
  at_ : gp (rn st L w) = true
  min : ∀ v : List Int, (∀ p ∈ v, p ∈ ts) → gp (rn st L v) = true → w.length ≤ v.length
theorem lst1_of {gp : List Int → Bool} {k : Nat} {s w : List Int} (hm : (s, w) ∈ fd st ts L (k + 1)) (hg : gp s = true) (hlo : ∀ x ∈ fd st ts L k, gp x.1 = false) : Lst1 st ts L gp w := by
  obtain ⟨h1, h2⟩ := fd_rn (k + 1) _ hm
  refine ⟨h2, by rw [h1]; exact hg, fun v hv hgv => ?_⟩
  rcases Nat.lt_or_ge v.length (k + 1) with z | z
  · exfalso
    obtain ⟨x, hx, e⟩ := List.mem_map.mp (rn_fd (st := st) (L := L) v hv)
    have := hlo x (fd_mono (by omega) hx)
    rw [e, hgv] at this
    cases this
  · have h3 : w.length ≤ k + 1 := fd_len (k + 1) _ hm
    omega
end
end RH
set_option Elab.async false
set_option linter.all false
set_option maxRecDepth 100000
set_option maxHeartbeats 2000000
namespace RH
open PySem PySem.Spec PyProof.Rows L2
/-! ### the least of the shortest words -/
/-- at most, word by word -/
def wle (w v : List Int) : Prop := w = v ∨ w < v
theorem wle.anti {w v : List Int} (h1 : wle w v) (h2 : wle v w) : w = v := by
  rcases h1 with h1 | h1
  · exact h1
  rcases h2 with h2 | h2
  · exact h2.symm
  exact absurd h2 (List.lt_asymm h1)
theorem wle.trans {w v u : List Int} (h1 : wle w v) (h2 : wle v u) : wle w u := by
  rcases h1 with rfl | h1
  · exact h2
  rcases h2 with rfl | h2
  · exact .inr h1
  exact .inr (List.lt_trans h1 h2)
theorem snoc_lt : ∀ {w v : List Int}, w.length = v.length → w < v → ∀ p q : Int, w ++ [p] < v ++ [q]
  | [], [], _, h, _, _ => absurd h (List.lt_irrefl _)
  | a :: w, b :: v, hl, h, p, q => by
    rw [List.cons_append, List.cons_append, List.cons_lt_cons_iff]
    rcases List.cons_lt_cons_iff.mp h with z | ⟨rfl, z⟩
    · exact .inl z
    · exact .inr ⟨rfl, snoc_lt (by simpa using hl) z p q⟩
theorem snoc_one : ∀ (w : List Int) {p q : Int}, p < q → w ++ [p] < w ++ [q]
  | [], p, q, h => List.cons_lt_cons_iff.mpr (.inl h)
  | a :: w, p, q, h => List.cons_lt_cons_iff.mpr (.inr ⟨rfl, snoc_one w h⟩)
theorem snoc_wle {w v : List Int} (hl : w.length = v.length) (h : wle w v) (p : Int) : wle (w ++ [p]) (v ++ [p]) := by
  rcases h with rfl | h
  · exact .inl rfl
  · exact .inr (snoc_lt hl h p p)
/-- the words rise -/
def upW (l : List SW) : Prop := (l.map Prod.snd).Pairwise (· < ·)
theorem dd_sub (F : List (List Int)) : ∀ l : List SW, (dd F l).Sublist l := by
  refine snoc_ind (List.Sublist.refl _) fun l q ih => ?_
  rw [dd_snoc]
  unfold ddS
  split
  · exact ih.trans (List.sublist_append_left ..)
  · exact List.Sublist.append ih (List.Sublist.refl _)
theorem upW.sub {l m : List SW} (h : upW m) (s : l.Sublist m) : upW l := h.sublist (s.map Prod.snd)
/-- of each state the first stays -/
theorem dd_first {F : List (List Int)} : ∀ l : List SW, upW l → ∀ q ∈ l, q.1 ∉ F → ∃ r ∈ dd F l, r.1 = q.1 ∧ wle r.2 q.2 := by
  refine snoc_ind (fun _ q hq => nomatch hq) fun l x ih hu q hq hF => ?_
  have hul : upW l := hu.sub (List.sublist_append_left ..)
  rw [dd_snoc]
  rcases List.mem_append.mp hq with h | h
  · obtain ⟨r, hr, e1, e2⟩ := ih hul q h hF
    refine ⟨r, ?_, e1, e2⟩
    unfold ddS
    split
    · exact hr
    · exact List.mem_append_left _ hr
  · rw [List.mem_singleton.mp h] at hF ⊢
    unfold ddS
    split
    · rename_i hx
      rcases hx with hx | hx
      · exact absurd hx hF
      · obtain ⟨r, hr, e⟩ := List.mem_map.mp hx
        refine ⟨r, hr, e, .inr ?_⟩
        have hrl := (dd_ok F l).sub r hr
        unfold upW at hu
        rw [List.map_append, List.pairwise_append] at hu
        exact hu.2.2 _ (List.mem_map.mpr ⟨r, hrl, rfl⟩) _ (List.mem_map.mpr ⟨x, List.mem_singleton.mpr rfl, rfl⟩)
    · exact ⟨x, List.mem_append_right _ (List.mem_singleton.mpr rfl), rfl, .inl rfl⟩
section
variable {st : Int → List Int → List Int} {ts L : List Int}
theorem exq_up {q : SW} (ht : ts.Pairwise (· < ·)) : upW (exq st ts q) := by
  unfold upW exq
  rw [List.map_map, List.pairwise_map]
  exact ht.imp fun h => snoc_one q.2 h
theorem exl_up (ht : ts.Pairwise (· < ·)) {k : Nat} : ∀ {l : List SW}, upW l → (∀ q ∈ l, q.2.length = k) → upW (exl st ts l)
  | [], _, _ => List.Pairwise.nil
  | q :: l, hu, hl => by
    rw [exl_cons]
    unfold upW
    rw [List.map_append, List.pairwise_append]
    have hq := List.pairwise_cons.mp hu
    refine ⟨exq_up ht, exl_up ht hq.2 (fun x hx => hl x (List.mem_cons_of_mem _ hx)), fun a ha b hb => ?_⟩
    obtain ⟨x, hx, rfl⟩ := List.mem_map.mp ha
    obtain ⟨y, hy, rfl⟩ := List.mem_map.mp hb
    obtain ⟨p, _, rfl⟩ := List.mem_map.mp hx
    obtain ⟨z, hz, hy⟩ := List.mem_flatMap.mp hy
    obtain ⟨r, _, rfl⟩ := List.mem_map.mp hy
    exact snoc_lt (by rw [hl q (List.mem_cons_self ..), hl z (List.mem_cons_of_mem _ hz)]) (hq.1 _ (List.mem_map.mpr ⟨z, hz, rfl⟩)) p r
/-- of the k-th level: its words rise, and are the least to their states -/
theorem lv_up (ht : ts.Pairwise (· < ·)) : ∀ k : Nat, upW (lv st ts L k)
  | 0 => List.pairwise_singleton _ _
  | k + 1 => (exl_up ht (lv_up ht k) (lv_len k)).sub (dd_sub _ _)
theorem lv_best (ht : ts.Pairwise (· < ·)) : ∀ (k : Nat) (v : List Int), v.length = k → (∀ p ∈ v, p ∈ ts) → (∀ j, j < k → rn st L v ∉ (fd st ts L j).map Prod.fst) → ∃ q ∈ lv st ts L k, q.1 = rn st L v ∧ wle q.2 v
  | 0, v, hl, _, _ => by
    rw [List.eq_nil_of_length_eq_zero hl]
    exact ⟨(L, []), List.mem_singleton.mpr rfl, rfl, .inl rfl⟩
  | k + 1, v, hl, hv, hn => by
    obtain ⟨u, p, rfl⟩ : ∃ u p, v = u ++ [p] := by
      have hne : v ≠ [] := fun z => by rw [z] at hl; cases hl
      exact ⟨v.dropLast, v.getLast hne, (List.dropLast_concat_getLast hne).symm⟩
    have hu : u.length = k := by rw [List.length_append] at hl; simpa using hl
    have hp : p ∈ ts := hv p (List.mem_append_right _ (List.mem_singleton.mpr rfl))
    obtain ⟨q, hq, e1, e2⟩ := lv_best ht k u hu (fun r hr => hv r (List.mem_append_left _ hr)) fun j hj hm => by
      obtain ⟨x, hx, e⟩ := List.mem_map.mp hm
      refine hn (j + 1) (by omega) ?_
      rw [rn_snoc, ← e]
      exact fd_ex hp hx
    have hx : (st p q.1, q.2 ++ [p]) ∈ exl st ts (lv st ts L k) := List.mem_flatMap.mpr ⟨q, hq, List.mem_map.mpr ⟨p, hp, rfl⟩⟩
    obtain ⟨r, hr, f1, f2⟩ := dd_first (F := (fd st ts L k).map Prod.fst) _ (exl_up ht (lv_up ht k) (lv_len k)) _ hx (by
      show st p q.1 ∉ _
      rw [e1, ← rn_snoc st L u p]
      exact hn k (by omega))
    refine ⟨r, hr, ?_, f2.trans (snoc_wle (by rw [lv_len k q hq, hu]) e2 p)⟩
    rw [f1, rn_snoc, ← e1]
/-- a shortest word, and the least of the shortest -/
structure Lex1 (st : Int → List Int → List Int) (ts L : List Int) (gp : List Int → Bool) (w : List Int) : Prop where
  s : Lst1 st ts L gp w
  lex : ∀ v : List Int, (∀ p ∈ v, p ∈ ts) → gp (rn st L v) = true → v.length = w.length → wle w v
theorem Lex1.one {gp : List Int → Bool} {w v : List Int} (h1 : Lex1 st ts L gp w) (h2 : Lex1 st ts L gp v) : w = v := by
  have l1 := h1.s.min v h2.s.wd h2.s.at_
  have l2 := h2.s.min w h1.s.wd h1.s.at_
  exact wle.anti (h1.lex v h2.s.wd h2.s.at_ (by omega)) (h2.lex w h1.s.wd h1.s.at_ (by omega))
theorem foldl_dd {F : List (List Int)} : ∀ (m acc : List SW), ∃ t, m.foldl (ddS F) acc = acc ++ t
  | [], acc => ⟨[], (List.append_nil _).symm⟩
  | q :: m, acc => by
    rw [List.foldl_cons]
    by_cases h : q.1 ∈ F ∨ q.1 ∈ acc.map Prod.fst
    · rw [ddS_in h]
      exact foldl_dd m acc
    · rw [ddS_new h]
      obtain ⟨t, e⟩ := foldl_dd (F := F) m (acc ++ [q])
      exact ⟨q :: t, by rw [e, List.append_assoc]; rfl⟩
/-- the first that is sought, as the search meets it -/
theorem lex1_of {gp : List Int → Bool} (ht : ts.Pairwise (· < ·)) {k m : Nat} {s w : List Int} (hm : prt st ts L k (m + 1) = prt st ts L k m ++ [(s, w)]) (hg : gp s = true) (hlo : ∀ x ∈ fd st ts L k ++ prt st ts L k m, gp x.1 = false) : Lex1 st ts L gp w := by
  have hin : (s, w) ∈ lv st ts L (k + 1) := prt_sub (m := m + 1) (by rw [hm]; exact List.mem_append_right _ (List.mem_singleton.mpr rfl))
  have h1 := lst1_of (lv_fd hin) hg fun x hx => hlo x (List.mem_append_left _ hx)
  refine ⟨h1, fun v hv hgv hl => ?_⟩
  have hw : w.length = k + 1 := lv_len (k + 1) _ hin
  obtain ⟨q, hq, e1, e2⟩ := lv_best (st := st) (L := L) ht (k + 1) v (by omega) hv fun j hj hm2 => by
    obtain ⟨x, hx, e⟩ := List.mem_map.mp hm2
    have := hlo x (List.mem_append_left _ (fd_mono (by omega) hx))
    rw [e, hgv] at this
    cases this
  have hqg : gp q.1 = true := by rw [e1]; exact hgv
  obtain ⟨t, et⟩ : ∃ t, lv st ts L (k + 1) = prt st ts L k (m + 1) ++ t := by
    rw [lv_succ, ← List.take_append_drop (m + 1) (exl st ts (lv st ts L k)), dd_app]
    exact foldl_dd _ _
  have hup := lv_up (st := st) (L := L) ht (k + 1)
  rw [et, hm] at hq hup
  rcases List.mem_append.mp hq with z | z
  · rcases List.mem_append.mp z with y | y
    · have := hlo q (List.mem_append_right _ y)
      rw [hqg] at this
      cases this
    · rw [List.mem_singleton.mp y] at e2
      exact e2
  · unfold upW at hup
    rw [List.map_append, List.pairwise_append] at hup
    have := hup.2.2 w (List.mem_map.mpr ⟨(s, w), List.mem_append_right _ (List.mem_singleton.mpr rfl), rfl⟩) q.2 (List.mem_map.mpr ⟨q, z, rfl⟩)
    exact wle.trans (.inr this) e2
/-! ### levels of all words of one length -/
def lvA (st : Int → List Int → List Int) (ts L : List Int) : Nat → List SW
  | 0 => [(L, [])]
  | k + 1 => dd [] (exl st ts (lvA st ts L k))
theorem lvA_ok : ∀ (k : Nat), ∀ q ∈ lvA st ts L k, rn st L q.2 = q.1 ∧ (∀ p ∈ q.2, p ∈ ts) ∧ q.2.length = k
  | 0, q, hq => by
    rw [List.mem_singleton.mp hq]
    exact ⟨rfl, (fun _ z => nomatch z), rfl⟩
  | k + 1, q, hq => by
    obtain ⟨x, hx, hq⟩ := List.mem_flatMap.mp ((dd_ok _ _).sub q hq)
    obtain ⟨p, hp, rfl⟩ := List.mem_map.mp hq
    obtain ⟨h1, h2, h3⟩ := lvA_ok k x hx
    refine ⟨by rw [rn_snoc, h1], fun r hr => ?_, by rw [List.length_append, h3]; rfl⟩
    rcases List.mem_append.mp hr with z | z
    · exact h2 r z
    · rw [List.mem_singleton.mp z]
      exact hp
theorem lvA_up (ht : ts.Pairwise (· < ·)) : ∀ k : Nat, upW (lvA st ts L k)
  | 0 => List.pairwise_singleton _ _
  | k + 1 => (exl_up ht (lvA_up ht k) (fun q hq => (lvA_ok k q hq).2.2)).sub (dd_sub _ _)
theorem lvA_best (ht : ts.Pairwise (· < ·)) : ∀ (k : Nat) (v : List Int), v.length = k → (∀ p ∈ v, p ∈ ts) → ∃ q ∈ lvA st ts L k, q.1 = rn st L v ∧ wle q.2 v
  | 0, v, hl, _ => by
    rw [List.eq_nil_of_length_eq_zero hl]
    exact ⟨(L, []), List.mem_singleton.mpr rfl, rfl, .inl rfl⟩
  | k + 1, v, hl, hv => by
    obtain ⟨u, p, rfl⟩ : ∃ u p, v = u ++ [p] := by
      have hne : v ≠ [] := fun z => by rw [z] at hl; cases hl
      exact ⟨v.dropLast, v.getLast hne, (List.dropLast_concat_getLast hne).symm⟩
    have hu : u.length = k := by rw [List.length_append] at hl; simpa using hl
    have hp : p ∈ ts := hv p (List.mem_append_right _ (List.mem_singleton.mpr rfl))
    obtain ⟨q, hq, e1, e2⟩ := lvA_best ht k u hu (fun r hr => hv r (List.mem_append_left _ hr))
    have hx : (st p q.1, q.2 ++ [p]) ∈ exl st ts (lvA st ts L k) := List.mem_flatMap.mpr ⟨q, hq, List.mem_map.mpr ⟨p, hp, rfl⟩⟩
    obtain ⟨r, hr, f1, f2⟩ := dd_first (F := []) _ (exl_up ht (lvA_up ht k) (fun q hq => (lvA_ok k q hq).2.2)) _ hx (by simp)
    refine ⟨r, hr, ?_, f2.trans (snoc_wle (by rw [(lvA_ok k q hq).2.2, hu]) e2 p)⟩
    rw [f1, rn_snoc, ← e1]
/-- the first of the level that is sought is the least of the shortest, if the level is as deep as these -/
theorem lex1_A {gp : List Int → Bool} (ht : ts.Pairwise (· < ·)) {w0 : List Int} (h0 : Lst1 st ts L gp w0) {q : SW} (hq : ((lvA st ts L w0.length).filter fun x => gp x.1)[0]? = some q) : Lex1 st ts L gp q.2 := by
  have hm := List.mem_filter.mp (List.mem_of_getElem? hq)
  obtain ⟨h1, h2, h3⟩ := lvA_ok _ q hm.1
  refine ⟨⟨h2, by rw [h1]; exact hm.2, fun v hv hg => by rw [h3]; exact h0.min v hv hg⟩, fun v hv hg hl => ?_⟩
  obtain ⟨r, hr, e1, e2⟩ := lvA_best (st := st) (L := L) ht w0.length v (by rw [hl, h3]) hv
  have hrf : r ∈ (lvA st ts L w0.length).filter fun x => gp x.1 := List.mem_filter.mpr ⟨hr, by rw [e1]; exact hg⟩
  have up : upW ((lvA st ts L w0.length).filter fun x => gp x.1) := (lvA_up ht _).sub List.filter_sublist
  cases e : (lvA st ts L w0.length).filter fun x => gp x.1 with
  | nil => rw [e] at hrf; cases hrf
  | cons y t =>
    rw [e] at hq hrf up
    obtain rfl : y = q := Option.some.inj hq
    rcases List.mem_cons.mp hrf with z | z
    · rw [← z]
      exact e2
    · exact wle.trans (.inr ((List.pairwise_cons.mp up).1 _ (List.mem_map.mpr ⟨r, z, rfl⟩))) e2
/-- there is one -/
theorem lvA_some {gp : List Int → Bool} (ht : ts.Pairwise (· < ·)) {w0 : List Int} (h0 : Lst1 st ts L gp w0) : ∃ q, ((lvA st ts L w0.length).filter fun x => gp x.1)[0]? = some q := by
  obtain ⟨r, hr, e1, e2⟩ := lvA_best (st := st) (L := L) ht w0.length w0 rfl h0.wd
  have hrf : r ∈ (lvA st ts L w0.length).filter fun x => gp x.1 := List.mem_filter.mpr ⟨hr, by rw [e1]; exact h0.at_⟩
  cases e : (lvA st ts L w0.length).filter fun x => gp x.1 with
  | nil => rw [e] at hrf; cases hrf
  | cons y t => exact ⟨y, rfl⟩
end
end RH
set_option Elab.async false
set_option linter.all false
set_option maxRecDepth 100000
set_option maxHeartbeats 2000000
namespace RH
open PySem PySem.Spec PyProof.Rows L2
open NdefX (NScope CellsAt Caps slotAt cells_of startF ncx)
/-! ### the search for depths -/
/-- states, one behind the other -/
inductive EN (κ : KyF) (H : Hp) : List V → List (List Int) → Prop
  | nil : EN κ H [] []
  | cons {b : Addr} {s : List Int} {xs : List V} {ls : List (List Int)} : KS κ H b s → EN κ H xs ls → EN κ H (.ref b :: xs) (s :: ls)
theorem EN.len {κ : KyF} {H : Hp} : ∀ {xs : List V} {ls : List (List Int)}, EN κ H xs ls → xs.length = ls.length
  | _, _, .nil => rfl
  | _, _, .cons _ t => congrArg (· + 1) t.len
theorem EN.imp {κ : KyF} {H H' : Hp} (f : ∀ b s, KS κ H b s → KS κ H' b s) : ∀ {xs : List V} {ls : List (List Int)}, EN κ H xs ls → EN κ H' xs ls
  | _, _, .nil => .nil
  | _, _, .cons g t => .cons (f _ _ g) (t.imp f)
theorem EN.snoc {κ : KyF} {H : Hp} {b : Addr} {s : List Int} (h : KS κ H b s) : ∀ {xs : List V} {ls : List (List Int)}, EN κ H xs ls → EN κ H (xs ++ [.ref b]) (ls ++ [s])
  | _, _, .nil => .cons h .nil
  | _, _, .cons g t => .cons g (t.snoc h)
theorem EN.at {κ : KyF} {H : Hp} : ∀ {xs : List V} {ls : List (List Int)} {i : Nat} {s : List Int}, EN κ H xs ls → ls[i]? = some s → ∃ b, xs[i]? = some (V.ref b) ∧ KS κ H b s
  | _, _, _, _, .nil, e => by simp at e
  | _, _, 0, _, .cons h _, e => by
    cases Option.some.inj e
    exact ⟨_, rfl, h⟩
  | _, _, i + 1, _, .cons _ t, e => by
    obtain ⟨b, h1, h2⟩ := t.at (i := i) (by simpa using e)
    exact ⟨b, by simpa using h1, h2⟩
/-- tuples stay -/
def TK (H H' : Hp) : Prop := ∀ b xs, Rd H b (.tup xs) → Rd H' b (.tup xs)
theorem TK.refl (H : Hp) : TK H H := fun _ _ e => e
theorem TK.trans {H H1 H2 : Hp} (a : TK H H1) (b : TK H1 H2) : TK H H2 := fun c xs e => b c xs (a c xs e)
theorem TK.same {H H1 : Hp} (a : Same H H1) : TK H H1 := fun c xs e => by
  rcases e with e | ⟨o, e⟩
  · exact .inl (a c _ e)
  · exact .inr ⟨o, a c _ e⟩
/-- what holds no tuple -/
def NoT (o : HO) : Prop := (∀ xs, o ≠ .tup xs) ∧ ∀ ob u, o ≠ .frz ob u
theorem TK.upd {H : Hp} {p : Addr} {o o' : HO} (h : H p = some o) (n : NoT o) : TK H (upd H p o') := fun b xs e => by
  by_cases z : b = p
  · subst z
    rcases e with e | ⟨ob, e⟩
    · rw [h] at e
      exact absurd (Option.some.inj e) (n.1 xs)
    · rw [h] at e
      exact absurd (Option.some.inj e) (n.2 ob _)
  · rcases e with e | ⟨ob, e⟩
    · exact .inl (by rw [upd_ne z]; exact e)
    · exact .inr ⟨ob, by rw [upd_ne z]; exact e⟩
theorem EN.on {κ : KyF} {H H' : Hp} {xs : List V} {ls : List (List Int)} (e : TK H H') (h : EN κ H xs ls) : EN κ H' xs ls := h.imp fun b s z => KS.on e z
theorem KBN.on {κ : KyF} {H H' : Hp} {as : List (List Int × V)} {bs : List Addr} (e : TK H H') (h : KBN κ H as bs) : KBN κ H' as bs := h.imp fun b s z => KS.on e z
theorem Same.upd {H H' : Hp} {p : Addr} {o : HO} (a : Same H H') (h : H p = none) : Same H (upd H' p o) := fun b u e => by
  rw [upd_ne (ne_of_none e h)]
  exact a b u e
theorem not_tup_l {xs : List V} : NoT (.lst xs) := ⟨fun _ z => (nomatch z), fun _ _ z => (nomatch z)⟩
theorem not_tup_d {φ : Heap → Prop} : NoT (.ext φ) := ⟨fun _ z => (nomatch z), fun _ _ z => (nomatch z)⟩
section
variable {P : Program} {w : World} {K : PySem.W.Frag} {mg : Str → Option Value} {base : Heap}
theorem fst_snoc {bs : List (List Int × V)} {ls : List SW} {x : List Int × V} {y : SW} (h : bs.map Prod.fst = ls.map Prod.fst) (e : x.1 = y.1) : (bs ++ [x]).map Prod.fst = (ls ++ [y]).map Prod.fst := by
  rw [List.map_append, List.map_append, h, List.map_singleton, List.map_singleton, e]
/-- what stands within a level -/
def MidB (P : Program) (w : World) (κ : KyF) (H : Hp) (st : Int → List Int → List Int) (ts : List Int) (L : List Int) (R : Hp → List SW → List (List Int × V) → Prop) (k : Nat) (d l u : Addr) (xs : List V) (i j : Nat) (H' : Hp) : Prop :=
  ∃ (as : List (List Int × V)) (ks : List Addr) (us : List V), Same H H' ∧ H' d = some (DN P w κ as ks d) ∧ KBN κ H' as ks ∧ as.map Prod.fst = (fd st ts L k ++ prt st ts L k (i * ts.length + j)).map Prod.fst ∧ R H' (fd st ts L k ++ prt st ts L k (i * ts.length + j)) as ∧
    H' l = some (.lst xs) ∧ EN κ H' xs ((lv st ts L k).map Prod.fst) ∧ H' u = some (.lst us) ∧ EN κ H' us ((prt st ts L k (i * ts.length + j)).map Prod.fst)
theorem lv_row {κ : KyF} {st : Int → List Int → List Int} {ts : List Int} {L : List Int} {k i : Nat} {xs : List V} {x : V} {H : Hp} (hE : EN κ H xs ((lv st ts L k).map Prod.fst)) (hx : xs[i]? = some x) : ∃ (q : SW) (b : Addr), (lv st ts L k)[i]? = some q ∧ x = .ref b ∧ KS κ H b q.1 := by
  have hi : i < (lv st ts L k).length := by
    have h1 := (List.getElem?_eq_some_iff.mp hx).1
    rw [hE.len, List.length_map] at h1
    exact h1
  have hq : (lv st ts L k)[i]? = some (lv st ts L k)[i] := List.getElem?_eq_getElem hi
  have hs : ((lv st ts L k).map Prod.fst)[i]? = some ((lv st ts L k)[i]).1 := by
    rw [List.getElem?_map, hq]
    rfl
  obtain ⟨b, h1, h2⟩ := hE.at hs
  rw [hx] at h1
  exact ⟨_, b, hq, Option.some.inj h1, h2⟩
theorem MidB.row {P : Program} {w : World} {κ : KyF} {H H' : Hp} {st : Int → List Int → List Int} {ts : List Int} {L : List Int} {R : Hp → List SW → List (List Int × V) → Prop} {k : Nat} {d l u : Addr} {xs : List V} {i : Nat} (m : MidB P w κ H st ts L R k d l u xs i ts.length H') : MidB P w κ H st ts L R k d l u xs (i + 1) 0 H' := by
  unfold MidB at m ⊢
  rw [show (i + 1) * ts.length + 0 = i * ts.length + ts.length by rw [Nat.succ_mul]; rfl]
  exact m
end
/-! ### the way back, the least word -/
theorem nd_val {s w w' : List Int} : ∀ {l : List SW}, (l.map Prod.fst).Nodup → (s, w) ∈ l → (s, w') ∈ l → w = w'
  | [], _, z, _ => nomatch z
  | x :: l, nd, a, b => by
    rw [List.map_cons, List.nodup_cons] at nd
    rcases List.mem_cons.mp a with e1 | a
    · rcases List.mem_cons.mp b with e2 | b
      · rw [← e1] at e2
        exact (Prod.mk.inj e2).2.symm
      · rw [← e1] at nd
        exact absurd (List.mem_map.mpr ⟨_, b, rfl⟩) nd.1
    · rcases List.mem_cons.mp b with e2 | b
      · rw [← e2] at nd
        exact absurd (List.mem_map.mpr ⟨_, a, rfl⟩) nd.1
      · exact nd_val nd.2 a b
/-- from where each state was come to -/
def CW (κ : KyF) (L : List Int) (H : Hp) (l : List SW) (as : List (List Int × V)) : Prop := as.map Prod.fst = l.map Prod.fst ∧ ∀ q ∈ as, (q.1 = L ∧ q.2 = .non ∧ (L, []) ∈ l) ∨
  ∃ (t b : Addr) (p : Int) (s' w' : List Int), q.2 = .ref t ∧ Rd H t (.tup [.ref b, .int p]) ∧ KS κ H b s' ∧ (s', w') ∈ l ∧ (q.1, w' ++ [p]) ∈ l
theorem CW.on {κ : KyF} {L : List Int} {H H' : Hp} {l : List SW} {as : List (List Int × V)} (e : TK H H') (c : CW κ L H l as) : CW κ L H' l as := ⟨c.1, fun q hq => by
  rcases c.2 q hq with z | ⟨t, b, p, s', w', h1, h2, h3, h4⟩
  · exact .inl z
  · exact .inr ⟨t, b, p, s', w', h1, e _ _ h2, h3.on e, h4⟩⟩
theorem CW.snoc {κ : KyF} {L : List Int} {H : Hp} {l : List SW} {as : List (List Int × V)} {s s' w' : List Int} {t b : Addr} {p : Int} (c : CW κ L H l as) (h2 : Rd H t (.tup [.ref b, .int p])) (h3 : KS κ H b s') (h4 : (s', w') ∈ l) : CW κ L H (l ++ [(s, w' ++ [p])]) (as ++ [(s, .ref t)]) := by
  refine ⟨fst_snoc c.1 rfl, fun q hq => ?_⟩
  rcases List.mem_append.mp hq with hq | hq
  · rcases c.2 q hq with ⟨z1, z2, z3⟩ | ⟨t, b, p, s', w', h1, h2, h3, h4, h5⟩
    · exact .inl ⟨z1, z2, List.mem_append_left _ z3⟩
    · exact .inr ⟨t, b, p, s', w', h1, h2, h3, List.mem_append_left _ h4, List.mem_append_left _ h5⟩
  · rw [List.mem_singleton.mp hq]
    exact .inr ⟨t, b, p, s', w', rfl, h2, h3, List.mem_append_left _ h4, List.mem_append_right _ (List.mem_singleton.mpr rfl)⟩
theorem fns : ∀ {as : List (List Int × V)} {s : List Int} {v w : V}, (as.map Prod.fst).Nodup → (s, v) ∈ as → (s, w) ∈ as → v = w
  | q :: as, s, v, w, nd, h1, h2 => by
    rw [List.map_cons, List.nodup_cons] at nd
    rcases List.mem_cons.mp h1 with e1 | h1
    · rcases List.mem_cons.mp h2 with e2 | h2
      · exact (Prod.mk.inj (e1.trans e2.symm)).2
      · rw [← e1] at nd
        exact absurd (List.mem_map.mpr ⟨_, h2, rfl⟩) nd.1
    · rcases List.mem_cons.mp h2 with e2 | h2
      · rw [← e2] at nd
        exact absurd (List.mem_map.mpr ⟨_, h1, rfl⟩) nd.1
      · exact fns nd.2 h1 h2
theorem ref_non (t : Addr) : decide (V.ref t = V.non) = false := decide_eq_false fun z => nomatch z
section
variable {P : Program} {w : World} {K : PySem.W.Frag} {mg : Str → Option Value} {base : Heap}
def spTraced (P : Program) (w : World) (κ : KyF) : Sp := fun vs H Q _ => ∃ (c b : Addr) (as : List (List Int × V)) (ks : List Addr) (s L wd : List Int) (l : List SW), vs = [.ref c, .ref b] ∧ H c = some (DN P w κ as ks c) ∧ KBN κ H as ks ∧ KS κ H b s ∧ (l.map Prod.fst).Nodup ∧ CW κ L H l as ∧ (s, wd) ∈ l ∧ wd.length ≤ 1000000 ∧
  ∀ (H' : Hp) (q : Addr), Same H H' → H' q = some (.tup (wd.map V.int)) → Q (.ref q) H'
theorem ok_traced (κ : KyF) (F : Df K mg "traced" st_traced ["came", "state"]) (B : Bu mg) : Cal P w K mg base 1 "traced" (spTraced P w κ) := by
  refine mkCal F sc_traced (fun vs H Q E h => ?_) (fun f cdv A outer s H vs Q E hr h => ?_)
  · obtain ⟨c, b, as, ks, s, L, wd, l, rfl, _⟩ := h
    rfl
  · obtain ⟨c, b, as, ks, s, L, wd, sl, rfl, hc, hkb, hb, hnd, hR, hs, hd, q⟩ := h
    refine ⟨_, pss_cons (ps_set (i := 2) sc_traced.nd rfl (.inl rfl) (pe_lst pa_nil))
      (pss_cons (ps_while PassesOwn.never (pt_cmp (pc_notN (pe_dgetN (κ := κ) hr.units (pv 0) (pv 1) (fun _ _ => rfl))))
        (pss_cons (ps_asg (pe_dgetN (κ := κ) hr.units (pv 0) (pv 1) (fun _ _ => rfl)) (pg_tup rfl (pgs_cons (pg_name (i := 1) sc_traced.nd rfl (Or.inl rfl)) (pgs_cons (pg_name (i := 3) sc_traced.nd rfl (Or.inl rfl)) pgs_nil))))
        (pss_one (ps_expr (pe_bm PySem.F.plainAttrs_list PySem.F.slot_list_append PySem.F.type_list_append mt_append (pv 2) (pa_cons (pv 3) pa_nil))))))
      (pss_cons (ps_expr (pe_bm0 PySem.F.plainAttrs_list PySem.F.slot_list_reverse PySem.F.type_list_reverse mt_reverse (pv 2)))
      (pss_one (ps_ret (pe_tupleOf (by rfl) B.tuple (pv 2)))))), ?_⟩
    have hnd2 : (as.map Prod.fst).Nodup := by rw [hR.1]; exact hnd
    have has : ∀ {x y : List Int}, (x, y) ∈ sl → x ∈ as.map Prod.fst := fun hx => by
      rw [hR.1]
      exact List.mem_map.mpr ⟨_, hx, rfl⟩
    refine ⟨Nat.zero_le _, fun l hl => ?_⟩
    refine ⟨fun m σ H' => ∃ (b' : Addr) (s' w' ws : List Int), m = w'.length ∧ (∃ y, σ = [some (.ref c), some (.ref b'), some (.ref l), y]) ∧ Same H H' ∧ KS κ H' b' s' ∧ (s', w') ∈ sl ∧ H' l = some (.lst (ws.map V.int)) ∧ wd = w' ++ ws.reverse,
      ⟨wd.length, b, s, wd, [], rfl, ⟨none, rfl⟩, same_new hl, hb.on (TK.same (same_new hl)), hs, upd_same, (List.append_nil _).symm⟩, ?_⟩
    rintro m σ H1 ⟨b', s', w', ws, rfl, ⟨y, rfl⟩, sm, eb, hs', eL, hlen⟩
    have hkb1 := hkb.on (TK.same sm)
    have hl2 : wd.length = w'.length + ws.length := by rw [hlen, List.length_append, List.length_reverse]
    refine ⟨_, rfl, _, rfl, c, b', as, ks, s', rfl, rfl, sm _ _ hc, hkb1, eb, has hs', fun v hvm => ⟨_, rfl, ?_⟩⟩
    rcases hR.2 _ hvm with ⟨e1, e2, e3⟩ | ⟨t, b2, p, s2, w2, e1, h2, h3, h4, h5⟩
    · have e2 : v = .non := e2
      have e1' : s' = L := e1
      subst e2
      have ew : w' = [] := nd_val hnd hs' (by rw [e1']; exact e3)
      refine ifF rfl ⟨_, rfl, .inl ⟨rfl, _, lstAt eL⟩, l, _, rfl, rfl, eL, ?_⟩
      have el : (upd H1 l (.lst (ws.map V.int).reverse)) l = some (.lst (ws.map V.int).reverse) := upd_same
      refine ⟨_, rfl, .inl ⟨l, _, rfl, lstAt el, fun r hr2 => q _ r ((Same.upd sm hl).trans (same_new hr2)) ?_⟩⟩
      rw [upd_same, hlen, ew, List.nil_append, List.map_reverse]
    · have e1 : v = .ref t := e1
      subst e1
      have h5 : (s', w2 ++ [p]) ∈ sl := h5
      have ew : w' = w2 ++ [p] := nd_val hnd hs' h5
      have ewl : w'.length = w2.length + 1 := by rw [ew, List.length_append]; rfl
      refine ifT (by rw [ref_non]; rfl) ⟨fun σ' H' => ∃ m', m' < w'.length ∧ ∃ (b' : Addr) (s' w' ws : List Int), m' = w'.length ∧ (∃ y, σ' = [some (.ref c), some (.ref b'), some (.ref l), y]) ∧ Same H H' ∧ KS κ H' b' s' ∧ (s', w') ∈ sl ∧ H' l = some (.lst (ws.map V.int)) ∧ wd = w' ++ ws.reverse, fun _ _ h => h, ?_⟩
      refine ⟨_, rfl, _, rfl, c, b', as, ks, s', rfl, rfl, sm _ _ hc, hkb1, eb, has hs', fun v2 hvm2 => ?_⟩
      have ev2 : v2 = .ref t := fns hnd2 hvm2 hvm
      subst ev2
      refine ⟨t, _, rfl, .inl (TK.same sm _ _ h2), rfl, _, _, rfl, _, _, rfl, rfl, ?_⟩
      refine ⟨_, rfl, .inl ⟨rfl, _, lstAt eL⟩, _, rfl, l, _, .int p, rfl, rfl, eL, by rw [List.length_map]; rw [sizeLine_eq]; omega, ?_⟩
      refine ⟨w2.length, by omega, b2, s2, w2, ws ++ [p], rfl, ⟨_, rfl⟩, Same.upd sm hl, ?_, h4, ?_, ?_⟩
      · exact (h3.on (TK.same sm)).on (TK.upd eL not_tup_l)
      · rw [upd_same, List.map_append]
        rfl
      · rw [hlen, ew, List.reverse_append, List.append_assoc]
        rfl
end
theorem sameU {H H' : Hp} {p : Addr} {o : HO} (a : Same H H') (h : H p = none) : Same H (upd H' p o) := fun b u e => by
  rw [upd_ne (ne_of_none e h)]
  exact a b u e
theorem none_of {H H' : Hp} {p : Addr} (a : Same H H') (h : H' p = none) : H p = none := by
  cases e : H p with
  | none => rfl
  | some o =>
    rw [a _ _ e] at h
    cases h
section
variable {P : Program} {w : World} {K : PySem.W.Frag} {mg : Str → Option Value} {base : Heap} {CX : CXT} {k : Nat} {f : Addr} {live live' : Hp → Prop} {sp sp' : Sp} {outer : List Env} {s : Shared} {H : Hp}
theorem Callable.imp (c : Callable P w K mg base CX k f live sp outer s H) (hl : ∀ H, live' H → live H) (hs : ∀ vs H Q E, live' H → sp' vs H Q E → sp vs H Q E) : Callable P w K mg base CX k f live' sp' outer s H :=
  ⟨fun X e1 e2 e3 e4 e5 e6 pins σ H' s' I l => c.at_ X e1 e2 e3 e4 e5 e6 pins σ H' s' I (hl _ l),
    fun X e1 e2 e3 e4 e5 e6 e7 e8 e9 hr pins σ H' s' us vs Q E I l r hx q => c.run X e1 e2 e3 e4 e5 e6 e7 e8 e9 hr pins σ H' s' us vs Q E I (hl _ l) r hx (hs _ _ _ _ l q)⟩
end
/-- what the search for a goal is handed -/
structure GL where
  f : Addr
  live : Hp → Prop
  st : Int → List Int → List Int
  ts : List Int
  C : List Int → Prop
  U : List (List Int)
  f2 : Addr
  live2 : Hp → Prop
  gp : List Int → Bool
  κ : KyF
  N : Nat
  hN : N ≤ 100000
section
variable {P : Program} {w : World} {K : PySem.W.Frag} {mg : Str → Option Value} {base : Heap}
/-- what a step promises -/
def spStepG (κ : KyF) (st : Int → List Int → List Int) (ts : List Int) (C : List Int → Prop) : Sp := fun vs H Q _ => ∃ (a : Addr) (L : List Int) (p : Int), vs = [.ref a, .int p] ∧ KS κ H a L ∧ C L ∧ p ∈ ts ∧
  ∀ H' q, Same H H' → H q = none → KS κ H' q (st p L) → Q (.ref q) H'
/-- is it a goal? -/
def spGoalG (κ : KyF) (C : List Int → Prop) (gp : List Int → Bool) : Sp := fun vs H Q _ => ∃ (a : Addr) (L : List Int), vs = [.ref a] ∧ KS κ H a L ∧ C L ∧ ∀ H', Same H H' → Q (.bl (gp L)) H'
def preL (P : Program) (w : World) (K : PySem.W.Frag) (mg : Str → Option Value) (base : Heap) (g : GL) : List Env → Shared → Hp → Prop := fun outer s H =>
  Callable P w K mg base CX0 4 g.f g.live (spStepG g.κ g.st g.ts g.C) outer s H ∧ Callable P w K mg base CX0 4 g.f2 g.live2 (spGoalG g.κ g.C g.gp) outer s H
def spLeast (K : PySem.W.Frag) (g : GL) : Sp := fun vs H Q _ => ∃ (a t : Addr) (L : List Int), vs = [.ref a, .ref t, .ref g.f, .ref g.f2] ∧ KS g.κ H a L ∧ SqT K H t (g.ts.map V.int) ∧
  (∀ H', Same H H' → g.live H') ∧ (∀ H', Same H H' → g.live2 H') ∧ Sys g.N g.st g.ts g.C g.U ∧ g.C L ∧ g.ts.Pairwise (· < ·) ∧
  (∀ (H' : Hp) (q : Addr) (wd : List Int), Same H H' → Lex1 g.st g.ts L g.gp wd → H' q = some (.tup (wd.map V.int)) → wd.length ≤ g.N → Q (.ref q) H') ∧
  (∀ (H' : Hp), Same H H' → (∀ v, (∀ p ∈ v, p ∈ g.ts) → g.gp (rn g.st L v) = false) → Q .non H')
theorem ok_least {f : Addr} {fdat : FuncData} (F : Fun K "least_word" "least_word" st_least_word f fdat) (B : Bu mg) (g : GL) (CT : Cal P w K mg base 1 "traced" (spTraced P w g.κ)) : FnC P w K mg base CX0 5 f fdat ["start", "touches", "step", "is_goal"] (preL P w K mg base g) (spLeast K g) := by
  refine fnC_of F sc_least_word (fun vs H Q E h => ?_) (fun cdv A outer s H vs Q E hr hP h => ?_)
  · obtain ⟨a, t, L, rfl, _⟩ := h
    rfl
  · obtain ⟨a, t, L, rfl, ha, ht, hlive, hlive2, sy, hL, hup, qy, qn0⟩ := h
    obtain ⟨hP1, hP2⟩ := hP
    refine ⟨_, pss_cons (ps_if (pt_val (pe_can hP2 rfl hr (by decide) pass0 (i := 3) rfl (Or.inl rfl) (pa_cons (pv 0) pa_nil))) (pss_one (ps_ret (pe_tup pa_nil))) pss_nil)
      (pss_cons (ps_set (i := 4) sc_least_word.nd rfl (.inl rfl) (pe_disp1N (κ := g.κ) hr.units (pv 0) pe_non))
      (pss_cons (ps_set (i := 5) sc_least_word.nd rfl (.inl rfl) (pe_lst (pa_cons (pv 0) pa_nil)))
      (pss_cons (ps_while PassesOwn.never (pt_truth (pv 5) (by intro _; rfl))
        (pss_cons (ps_set (i := 6) sc_least_word.nd rfl (.inl rfl) (pe_lst pa_nil))
        (pss_cons (ps_for PassesOwn.never rfl (pi_list (pv 5)) (pg_name (i := 7) sc_least_word.nd rfl (Or.inl rfl))
          (pss_one (ps_for PassesOwn.never rfl (pi_tup (pv 1)) (pg_name (i := 8) sc_least_word.nd rfl (Or.inl rfl))
            (pss_cons (ps_set (i := 9) sc_least_word.nd rfl (.inl rfl) (pe_can hP1 rfl hr (by decide) pass0 (i := 2) rfl (Or.inl rfl) (pa_cons (pv 7) (pa_cons (pv 8) pa_nil))))
            (pss_one (ps_if (pt_cmp (pc_dnotinN (κ := g.κ) hr.units (pv 9) (pv 4)))
              (pss_cons (ps_dputN (κ := g.κ) hr.units (pv 4) (pv 9) (pe_tup (pa_cons (pv 7) (pa_cons (pv 8) pa_nil))) rfl)
              (pss_cons (ps_if (pt_val (pe_can hP2 rfl hr (by decide) pass0 (i := 3) rfl (Or.inl rfl) (pa_cons (pv 9) pa_nil))) (pss_one (ps_ret (pc CT hr (pa_cons (pv 4) (pa_cons (pv 9) pa_nil))))) pss_nil)
              (pss_one (ps_expr (pe_bm PySem.F.plainAttrs_list PySem.F.slot_list_append PySem.F.type_list_append mt_append (pv 6) (pa_cons (pv 9) pa_nil)))))) pss_nil))))))
        (pss_one (ps_set (i := 5) sc_least_word.nd rfl (.inl rfl) (pv 6))))))
      (pss_one (ps_ret pe_non))))), ?_⟩
    refine ⟨rfl, hlive2 _ (Same.refl H), _, rfl, hlive2 _ (Same.refl H), a, L, rfl, ha, hL, fun H0 s0 => ?_⟩
    have ha := ha.on (TK.same s0)
    have ht := onT s0 ht
    have hlive := fun H' s => hlive H' (s0.trans s)
    have hlive2 := fun H' s => hlive2 H' (s0.trans s)
    have qy := fun (H' : Hp) (q : Addr) (wd : List Int) s => qy H' q wd (s0.trans s)
    have qn0 := fun (H' : Hp) s => qn0 H' (s0.trans s)
    refine ⟨_, rfl, ite2 (fun eg => ?_) (fun eg => ?_)⟩
    · exact ⟨Nat.zero_le _, fun r hr2 => qy _ r [] (same_new hr2) ⟨⟨fun _ z => (nomatch z), eg, fun _ _ _ => Nat.zero_le _⟩, fun v _ _ hl => .inl (List.eq_nil_of_length_eq_zero hl).symm⟩ upd_same (Nat.zero_le _)⟩
    have eg : g.gp L = false := by simpa using eg
    intro d hd
    refine ⟨_, rfl, upd_same, a, L, rfl, ha.on (TK.same (same_new hd)), ?_⟩
    have hd1 : Same H0 (upd (upd H0 d (DN P w g.κ [] [] d)) d (DN P w g.κ [(L, .non)] [a] d)) := Same.upd (same_new hd) hd
    refine ⟨_, rfl, by show 1 ≤ sizeLine; decide, fun l hl => ?_⟩
    refine ⟨fun m σ H0' => ∃ (k : Nat) (as : List (List Int × V)) (ks : List Addr) (xs : List V) (l : Addr), m = mea g.N g.st g.ts L k ∧ (∃ y6 y7 y8 y9, σ = [some (.ref a), some (.ref t), some (.ref g.f), some (.ref g.f2), some (.ref d), some (.ref l), y6, y7, y8, y9]) ∧
      Same H0 H0' ∧ H0' d = some (DN P w g.κ as ks d) ∧ KBN g.κ H0' as ks ∧ CW g.κ L H0' (fd g.st g.ts L k) as ∧ (∀ x ∈ fd g.st g.ts L k, g.gp x.1 = false) ∧ H0' l = some (.lst xs) ∧ EN g.κ H0' xs ((lv g.st g.ts L k).map Prod.fst), ⟨mea g.N g.st g.ts L 0, 0, [(L, .non)], [a], [.ref a], l, rfl, ⟨none, none, none, none, rfl⟩, hd1.trans (same_new hl), same_new hl _ _ upd_same, ?_, ?_, ?_, upd_same, ?_⟩, ?_⟩
    · exact .cons (ha.on (TK.same (hd1.trans (same_new hl)))) .nil
    · refine ⟨rfl, fun q hq => .inl ?_⟩
      rw [List.mem_singleton.mp hq]
      exact ⟨rfl, rfl, fd_start 0⟩
    · intro x hx
      rw [List.mem_singleton.mp hx]
      exact eg
    · exact .cons (ha.on (TK.same (hd1.trans (same_new hl)))) .nil
    rintro m σ H1 ⟨k, as, ks, xs, l, rfl, ⟨y6, y7, y8, y9, rfl⟩, sm, eD, kb, hv, hg, eL, hE⟩
    have lx : xs.length = (lv g.st g.ts L k).length := hE.len.trans (List.length_map ..)
    refine ⟨_, rfl, !xs.isEmpty, .inl ⟨xs, lstAt eL, rfl⟩, ite2 (fun ex => ?_) (fun ex => ?_)⟩
    · have hne : lv g.st g.ts L k ≠ [] := by
        intro z
        rw [z] at lx
        rw [List.eq_nil_of_length_eq_zero lx] at ex
        cases ex
      have hk : k + 1 ≤ g.N := by
        have h1 := low k hne
        have h2 := sy.fd_few hL k
        omega
      refine ⟨fun σ' H0' => ∃ m', m' < mea g.N g.st g.ts L k ∧ ∃ (k : Nat) (as : List (List Int × V)) (ks : List Addr) (xs : List V) (l : Addr), m' = mea g.N g.st g.ts L k ∧ (∃ y6 y7 y8 y9, σ' = [some (.ref a), some (.ref t), some (.ref g.f), some (.ref g.f2), some (.ref d), some (.ref l), y6, y7, y8, y9]) ∧
        Same H0 H0' ∧ H0' d = some (DN P w g.κ as ks d) ∧ KBN g.κ H0' as ks ∧ CW g.κ L H0' (fd g.st g.ts L k) as ∧ (∀ x ∈ fd g.st g.ts L k, g.gp x.1 = false) ∧ H0' l = some (.lst xs) ∧ EN g.κ H0' xs ((lv g.st g.ts L k).map Prod.fst), fun _ _ h => h, ?_⟩
      refine ⟨Nat.zero_le _, fun u hu => ?_⟩
      have su := same_new (o := .lst []) hu
      have hlu : l ≠ u := ne_of_none eL hu
      have huH := none_of sm hu
      refine ⟨_, rfl, l, rfl, ⟨_, lstAt (su _ _ eL)⟩, ?_⟩
      refine for_list (xs := xs) (fun i σ H0' => MidB P w g.κ H0 g.st g.ts L (fun H0' l as => CW g.κ L H0' l as ∧ (∀ x ∈ l, g.gp x.1 = false)) k d l u xs i 0 H0' ∧ ∃ y7 y8 y9, σ = [some (.ref a), some (.ref t), some (.ref g.f), some (.ref g.f2), some (.ref d), some (.ref l), some (.ref u), y7, y8, y9])
        ⟨⟨as, ks, [], sm.trans su, su _ _ eD, kb.on (TK.same su), ?_, ?_, su _ _ eL, hE.on (TK.same su), upd_same, ?_⟩, _, _, _, rfl⟩ (fun i σ H0' _ h' => ?_) (fun i x σ H2 hx h' => ?_) (fun σ H2 h' => ?_)
      · rw [Nat.zero_mul, prt_zero, List.append_nil]
        exact hv.1
      · rw [Nat.zero_mul, prt_zero, List.append_nil]
        exact ⟨hv.on (TK.same su), hg⟩
      · rw [Nat.zero_mul, prt_zero]
        exact .nil
      · obtain ⟨⟨_, _, _, _, _, _, _, _, e, _⟩, _⟩ := h'
        exact lstAt e
      · obtain ⟨hM, z7, z8, z9, rfl⟩ := h'
        obtain ⟨q0, b, hq0, rfl, _⟩ := lv_row hE hx
        have hp0 := sy.lv_C hL k q0 (List.mem_of_getElem? hq0)
        refine ⟨_, rfl, t, rfl, ⟨_, onT (hM.choose_spec.choose_spec.choose_spec.1) ht⟩, ?_⟩
        refine for_tup (xs := g.ts.map V.int) (fun j σ H0' => MidB P w g.κ H0 g.st g.ts L (fun H0' l as => CW g.κ L H0' l as ∧ (∀ x ∈ l, g.gp x.1 = false)) k d l u xs i j H0' ∧ ∃ y8 y9, σ = [some (.ref a), some (.ref t), some (.ref g.f), some (.ref g.f2), some (.ref d), some (.ref l), some (.ref u), some (.ref b), y8, y9])
          ⟨hM, _, _, rfl⟩ (fun j σ H0' _ h' => onT (h'.1.choose_spec.choose_spec.choose_spec.1) ht) (fun j x2 σ H3 hx2 h' => ?_) (fun σ H3 h' => ?_)
        · obtain ⟨⟨bs, ks, us, sm3, eD3, kb3, hf3, hv3, eL3, hE3, eU3, hF3⟩, w8, w9, rfl⟩ := h'
          obtain ⟨pj, hpj, rfl⟩ := map_at hx2
          obtain ⟨q0', b', hq0', eb', hb3⟩ := lv_row hE3 hx
          cases eb'
          rw [hq0] at hq0'
          cases hq0'
          have hfew := sy.prt_few hL k (i * g.ts.length + j)
          have blen : bs.length ≤ g.N := by
            have := congrArg List.length hf3
            rw [List.length_map, List.length_map] at this
            omega
          have ulen : us.length ≤ g.N := by
            have h1 := hF3.len
            rw [List.length_map] at h1
            rw [List.length_append] at hfew
            omega
          have hin0 : (q0.1, q0.2) ∈ fd g.st g.ts L k ++ prt g.st g.ts L k (i * g.ts.length + j) := List.mem_append_left _ (lv_fd (List.mem_of_getElem? hq0))
          refine ⟨rfl, hlive _ sm3, _, rfl, _, rfl, hlive _ sm3, b, q0.1, pj, rfl, hb3, hp0, List.mem_of_getElem? hpj, fun H4 qn s4 nq eq4 => ?_⟩
          have sm4 := sm3.trans s4
          have eD4 := s4 _ _ eD3
          have eU4 := s4 _ _ eU3
          have kb4 := kb3.on (TK.same s4)
          have hv4 := hv3.1.on (TK.same s4)
          refine ⟨_, rfl, _, rfl, d, qn, bs, ks, g.st pj q0.1, rfl, rfl, eD4, kb4, eq4, _, rfl, ?_⟩
          by_cases hm : g.st pj q0.1 ∈ bs.map Prod.fst
          · have hm2 := hm
            rw [hf3] at hm2
            have ep := prt_old hq0 hpj hm2
            refine ifF (by rw [decide_eq_true hm]; rfl) ⟨⟨bs, ks, us, sm4, eD4, kb4, ?_, ?_, s4 _ _ eL3, hE3.on (TK.same s4), eU4, ?_⟩, _, _, rfl⟩
            · rw [show i * g.ts.length + (j + 1) = i * g.ts.length + j + 1 from rfl, ep]
              exact hf3
            · rw [show i * g.ts.length + (j + 1) = i * g.ts.length + j + 1 from rfl, ep]
              exact ⟨hv4, hv3.2⟩
            · rw [show i * g.ts.length + (j + 1) = i * g.ts.length + j + 1 from rfl, ep]
              exact hF3.on (TK.same s4)
          · have hm2 := hm
            rw [hf3] at hm2
            have ep := prt_new hq0 hpj hm2
            refine ifT (by rw [decide_eq_false hm]; rfl) ?_
            refine ⟨_, rfl, _, rfl, by show 2 ≤ sizeLine; decide, fun T hT => ?_⟩
            have sT := same_new (o := .tup [.ref b, .int pj]) hT
            have eT : Rd (upd H4 T (.tup [.ref b, .int pj])) T (.tup [.ref b, .int pj]) := .inl upd_same
            have smT := sm4.trans sT
            have eDT := sT _ _ eD4
            have eUT := sT _ _ eU4
            have eLT := sT _ _ (s4 _ _ eL3)
            have eqT := eq4.on (TK.same sT)
            have kbT := kb4.on (TK.same sT)
            have tk4T := TK.same (s4.trans sT)
            have hbT := hb3.on tk4T
            have hvT := hv4.on (TK.same sT)
            generalize (upd H4 T (.tup [.ref b, .int pj])) = HT at *
            refine ⟨_, rfl, _, rfl, d, qn, bs, ks, g.st pj q0.1, rfl, rfl, eDT, kbT, eqT, hm, (by rw [sizeLine_eq]; have := g.hN; omega), ?_⟩
            have hv5 : CW g.κ L HT (fd g.st g.ts L k ++ prt g.st g.ts L k (i * g.ts.length + j + 1)) (bs ++ [(g.st pj q0.1, V.ref T)]) := by
              rw [ep, ← List.append_assoc]
              exact hvT.snoc eT hbT hin0
            have tk5 : TK HT (upd HT d (DN P w g.κ (bs ++ [(g.st pj q0.1, V.ref T)]) (ks ++ [qn]) d)) := TK.upd eDT not_tup_d
            have eU5 : (upd HT d (DN P w g.κ (bs ++ [(g.st pj q0.1, V.ref T)]) (ks ++ [qn]) d)) u = some (.lst us) := by
              rw [upd_ne (ne_of eUT eDT (fun z => nomatch z))]
              exact eUT
            have eL5 : (upd HT d (DN P w g.κ (bs ++ [(g.st pj q0.1, V.ref T)]) (ks ++ [qn]) d)) l = some (.lst xs) := by
              rw [upd_ne (ne_of eLT eDT (fun z => nomatch z))]
              exact eLT
            have sm5 : Same H0 (upd HT d (DN P w g.κ (bs ++ [(g.st pj q0.1, V.ref T)]) (ks ++ [qn]) d)) := Same.upd smT hd
            have eD5 : (upd HT d (DN P w g.κ (bs ++ [(g.st pj q0.1, V.ref T)]) (ks ++ [qn]) d)) d = some (DN P w g.κ (bs ++ [(g.st pj q0.1, V.ref T)]) (ks ++ [qn]) d) := upd_same
            have hv6 := hv5.on tk5
            have eq5 := eqT.on tk5
            have tk45 := tk4T.trans tk5
            have kb5 : KBN g.κ (upd HT d (DN P w g.κ (bs ++ [(g.st pj q0.1, V.ref T)]) (ks ++ [qn]) d)) (bs ++ [(g.st pj q0.1, V.ref T)]) (ks ++ [qn]) := (kbT.on tk5).snoc (q := (g.st pj q0.1, V.ref T)) (b := qn) eq5
            have hnew : (g.st pj q0.1, q0.2 ++ [pj]) ∈ fd g.st g.ts L k ++ prt g.st g.ts L k (i * g.ts.length + j + 1) := by
              rw [ep]
              exact List.mem_append_right _ (List.mem_append_right _ (List.mem_singleton.mpr rfl))
            have hp2 := sy.fd_C hL (k + 1) _ (prt_fd hnew)
            have hw120 : (q0.2 ++ [pj]).length ≤ g.N := by
              have := fd_len (k + 1) _ (prt_fd hnew)
              have : (q0.2 ++ [pj]).length ≤ k + 1 := this
              omega
            have hwl : (q0.2 ++ [pj]).length ≤ 1000000 := by
              have := g.hN
              omega
            refine ⟨rfl, hlive2 _ sm5, _, rfl, hlive2 _ sm5, qn, _, rfl, eq5, hp2, fun H6 s6 => ?_⟩
            have sm6 := sm5.trans s6
            have eD6 := s6 _ _ eD5
            have kb6 := kb5.on (TK.same s6)
            have eq6 := eq5.on (TK.same s6)
            have hv7 := hv6.on (TK.same s6)
            have eU6 := s6 _ _ eU5
            have eL6 := s6 _ _ eL5
            have tk456 := tk45.trans (TK.same s6)
            refine ⟨_, rfl, ite2 (fun e2 => ?_) (fun e2 => ?_)⟩
            · have hf2 : (g.st pj q0.1, q0.2 ++ [pj]) ∈ fd g.st g.ts L (k + 1) := prt_fd hnew
              exact ⟨_, rfl, _, rfl, d, qn, _, _, g.st pj q0.1, L, q0.2 ++ [pj], _, rfl, eD6, kb6, eq6, prt_nd k (i * g.ts.length + j + 1), hv7, hnew, hwl, fun H0' r s' er => qy H0' r _ (sm6.trans s') (lex1_of hup ep e2 hv3.2) er hw120⟩
            · have e2 : g.gp (g.st pj q0.1) = false := by simpa using e2
              refine ⟨_, rfl, .inl ⟨rfl, _, lstAt eU6⟩, _, rfl, u, us, .ref qn, rfl, rfl, eU6, (by rw [sizeLine_eq]; have := g.hN; omega), ?_⟩
              have tk6 : TK H6 (upd H6 u (.lst (us ++ [.ref qn]))) := TK.upd eU6 not_tup_l
              have tk46 := tk456.trans tk6
              refine ⟨⟨bs ++ [(g.st pj q0.1, V.ref T)], ks ++ [qn], us ++ [.ref qn], Same.upd sm6 huH, ?_, kb6.on tk6, ?_, ⟨hv7.on tk6, ?_⟩, ?_, hE3.on tk46, upd_same, ?_⟩, _, _, rfl⟩
              · rw [upd_ne (ne_of eD6 eU6 (fun z => nomatch z))]
                exact eD6
              · exact hv7.1
              · rw [show i * g.ts.length + (j + 1) = i * g.ts.length + j + 1 from rfl, ep, ← List.append_assoc]
                intro x hx
                rcases List.mem_append.mp hx with z | z
                · exact hv3.2 x z
                · rw [List.mem_singleton.mp z]
                  exact e2
              · rw [upd_ne hlu]
                exact eL6
              · rw [show i * g.ts.length + (j + 1) = i * g.ts.length + j + 1 from rfl, ep, List.map_append]
                exact EN.snoc (eq6.on tk6) (hF3.on tk46)
        · obtain ⟨hM3, w8, w9, rfl⟩ := h'
          rw [List.length_map] at hM3
          exact ⟨hM3.row, _, _, _, rfl⟩
      · obtain ⟨⟨bs, ks, us, sm3, eD3, kb3, hf3, hv3, eL3, hE3, eU3, hF3⟩, w7, w8, w9, rfl⟩ := h'
        rw [lx, Nat.add_zero, prt_all] at hv3 hF3
        exact ⟨_, rfl, mea g.N g.st g.ts L (k + 1), sy.mea_less hL hne, k + 1, bs, ks, us, u, rfl, ⟨_, _, _, _, rfl⟩, sm3, eD3, kb3, hv3.1, hv3.2, eU3, hF3⟩
    · have hnil : lv g.st g.ts L k = [] := by
        cases xs with
        | nil => exact List.eq_nil_of_length_eq_zero lx.symm
        | cons x r => exact absurd rfl ex
      refine qn0 H1 sm fun v hv2 => ?_
      obtain ⟨x, hx, e⟩ := rn_all hnil hv2
      rw [← e]
      exact hg x hx
end
end RH
set_option Elab.async false
set_option linter.all false
set_option maxRecDepth 100000
set_option maxHeartbeats 2000000
namespace RH
open PySem PySem.Spec PyProof.Rows L2
open NdefX (NScope CellsAt Caps slotAt cells_of startF ncx)
/-! ### the search for depths, over nested keys -/
section
variable {P : Program} {w : World} {K : PySem.W.Frag} {mg : Str → Option Value} {base : Heap}
/-- the value of a state is the length of its word -/
def valD (q : SW) : List Int × V := (q.1, .int (q.2.length : Nat))
theorem valD_fst (l : List SW) : (l.map valD).map Prod.fst = l.map Prod.fst := by
  rw [List.map_map]
  rfl
def preD (P : Program) (w : World) (K : PySem.W.Frag) (mg : Str → Option Value) (base : Heap) (g : GL) : List Env → Shared → Hp → Prop := fun outer s H => Callable P w K mg base CX0 4 g.f g.live (spStepG g.κ g.st g.ts g.C) outer s H
def spDepths (P : Program) (w : World) (K : PySem.W.Frag) (g : GL) : Sp := fun vs H Q _ => ∃ (a t : Addr) (L : List Int) (most : Nat), vs = [.ref a, .ref t, .ref g.f, .int (most : Nat)] ∧ KS g.κ H a L ∧ SqT K H t (g.ts.map V.int) ∧
  (∀ H', Same H H' → g.live H') ∧ Sys g.N g.st g.ts g.C g.U ∧ g.C L ∧ g.N ≤ most ∧
  ∀ (H' : Hp) (d : Addr) (k : Nat) (bs : List Addr), Same H H' → H' d = some (DN P w g.κ ((fd g.st g.ts L k).map valD) bs d) → KBN g.κ H' ((fd g.st g.ts L k).map valD) bs → lv g.st g.ts L k = [] → Q (.ref d) H'
theorem ok_depths {f : Addr} {fdat : FuncData} (F : Fun K "depths" "depths" st_depths f fdat) (B : Bu mg) (g : GL) : FnC P w K mg base CX0 5 f fdat ["start", "touches", "step", "most"] (preD P w K mg base g) (spDepths P w K g) := by
  refine fnC_of F sc_depths (fun vs H Q E h => ?_) (fun cdv A outer s H vs Q E hr hP h => ?_)
  · obtain ⟨a, t, L, most, rfl, _⟩ := h
    rfl
  · obtain ⟨a, t, L, most, rfl, ha, ht, hlive, sy, hL, hmost, q⟩ := h
    refine ⟨_, pss_cons (ps_set (i := 4) sc_depths.nd rfl (.inl rfl) (pe_disp1N (κ := g.κ) hr.units (pv 0) pe_int))
      (pss_cons (ps_set (i := 5) sc_depths.nd rfl (.inl rfl) (pe_lst (pa_cons (pv 0) pa_nil)))
      (pss_cons (ps_while PassesOwn.never (PW.pt (pw_and (pt_truth (pv 5) (by intro _; rfl)) (pw_and1 (pt_cmpR op_le (pe_callB (call_lenN (κ := g.κ)) (by rfl) B.len PySem.boot_len (pa_cons (pv 4) pa_nil)) (pv 3) (nomark _)))))
        (pss_cons (ps_set (i := 6) sc_depths.nd rfl (.inl rfl) (pe_lst pa_nil))
        (pss_cons (ps_for PassesOwn.never rfl (pi_list (pv 5)) (pg_name (i := 7) sc_depths.nd rfl (Or.inl rfl))
          (pss_one (ps_for PassesOwn.never rfl (pi_tup (pv 1)) (pg_name (i := 8) sc_depths.nd rfl (Or.inl rfl))
            (pss_cons (ps_set (i := 9) sc_depths.nd rfl (.inl rfl) (pe_can hP rfl hr (by decide) pass0 (i := 2) rfl (Or.inl rfl) (pa_cons (pv 7) (pa_cons (pv 8) pa_nil))))
            (pss_one (ps_if (pt_cmp (pc_dnotinN (κ := g.κ) hr.units (pv 9) (pv 4)))
              (pss_cons (ps_dputN (κ := g.κ) hr.units (pv 4) (pv 9) (pe_op op_add (pe_dgetN (κ := g.κ) hr.units (pv 4) (pv 7) (fun _ _ => rfl)) pe_int) rfl)
              (pss_one (ps_expr (pe_bm PySem.F.plainAttrs_list PySem.F.slot_list_append PySem.F.type_list_append mt_append (pv 6) (pa_cons (pv 9) pa_nil))))) pss_nil))))))
        (pss_one (ps_set (i := 5) sc_depths.nd rfl (.inl rfl) (pv 6))))))
      (pss_one (ps_ret (pv 4))))), ?_⟩
    have hN := g.hN
    intro d hd
    refine ⟨_, rfl, upd_same, a, L, rfl, ha.on (TK.same (same_new hd)), ?_⟩
    have hd1 : Same H (upd (upd H d (DN P w g.κ [] [] d)) d (DN P w g.κ [(L, .int 0)] [a] d)) := Same.upd (same_new hd) hd
    refine ⟨_, rfl, by show 1 ≤ sizeLine; decide, fun l hl => ?_⟩
    refine ⟨fun m σ H' => ∃ (k : Nat) (ks : List Addr) (xs : List V) (l : Addr), m = mea g.N g.st g.ts L k ∧ (∃ y6 y7 y8 y9, σ = [some (.ref a), some (.ref t), some (.ref g.f), some (.int (most : Nat)), some (.ref d), some (.ref l), y6, y7, y8, y9]) ∧
      Same H H' ∧ H' d = some (DN P w g.κ ((fd g.st g.ts L k).map valD) ks d) ∧ KBN g.κ H' ((fd g.st g.ts L k).map valD) ks ∧ H' l = some (.lst xs) ∧ EN g.κ H' xs ((lv g.st g.ts L k).map Prod.fst), ⟨mea g.N g.st g.ts L 0, 0, [a], [.ref a], l, rfl, ⟨none, none, none, none, rfl⟩, hd1.trans (same_new hl), same_new hl _ _ upd_same, ?_, upd_same, ?_⟩, ?_⟩
    · exact .cons (ha.on (TK.same (hd1.trans (same_new hl)))) .nil
    · exact .cons (ha.on (TK.same (hd1.trans (same_new hl)))) .nil
    rintro m σ H1 ⟨k, ks, xs, l, rfl, ⟨y6, y7, y8, y9, rfl⟩, sm, eD, kb, eL, hE⟩
    have lx : xs.length = (lv g.st g.ts L k).length := hE.len.trans (List.length_map ..)
    refine ⟨_, rfl, !xs.isEmpty, .inl ⟨xs, lstAt eL, rfl⟩, ite2 (fun ex => ?_) (fun ex => ?_)⟩
    · have hne : lv g.st g.ts L k ≠ [] := by
        intro z
        rw [z] at lx
        rw [List.eq_nil_of_length_eq_zero lx] at ex
        cases ex
      have hlen := sy.fd_few hL k
      refine ⟨_, rfl, d, _, ks, rfl, eD, kb, _, rfl, _, (most : Int), rfl, rfl, _, rfl, ifT (decide_eq_true (by rw [List.length_map]; omega)) ?_⟩
      refine ⟨fun σ' H' => ∃ m', m' < mea g.N g.st g.ts L k ∧ ∃ (k : Nat) (ks : List Addr) (xs : List V) (l : Addr), m' = mea g.N g.st g.ts L k ∧ (∃ y6 y7 y8 y9, σ' = [some (.ref a), some (.ref t), some (.ref g.f), some (.int (most : Nat)), some (.ref d), some (.ref l), y6, y7, y8, y9]) ∧
        Same H H' ∧ H' d = some (DN P w g.κ ((fd g.st g.ts L k).map valD) ks d) ∧ KBN g.κ H' ((fd g.st g.ts L k).map valD) ks ∧ H' l = some (.lst xs) ∧ EN g.κ H' xs ((lv g.st g.ts L k).map Prod.fst), fun _ _ h => h, ?_⟩
      refine ⟨Nat.zero_le _, fun u hu => ?_⟩
      have su := same_new (o := .lst []) hu
      have hlu : l ≠ u := ne_of_none eL hu
      have huH := none_of sm hu
      refine ⟨_, rfl, l, rfl, ⟨_, lstAt (su _ _ eL)⟩, ?_⟩
      refine for_list (xs := xs) (fun i σ H' => MidB P w g.κ H g.st g.ts L (fun _ l as => as = l.map valD) k d l u xs i 0 H' ∧ ∃ y7 y8 y9, σ = [some (.ref a), some (.ref t), some (.ref g.f), some (.int (most : Nat)), some (.ref d), some (.ref l), some (.ref u), y7, y8, y9])
        ⟨⟨_, ks, [], sm.trans su, su _ _ eD, kb.on (TK.same su), ?_, ?_, su _ _ eL, hE.on (TK.same su), upd_same, ?_⟩, _, _, _, rfl⟩ (fun i σ H' _ h' => ?_) (fun i x σ H2 hx h' => ?_) (fun σ H2 h' => ?_)
      · rw [Nat.zero_mul, prt_zero, List.append_nil, valD_fst]
      · rw [Nat.zero_mul, prt_zero, List.append_nil]
      · rw [Nat.zero_mul, prt_zero]
        exact .nil
      · obtain ⟨⟨_, _, _, _, _, _, _, _, e, _⟩, _⟩ := h'
        exact lstAt e
      · obtain ⟨hM, z7, z8, z9, rfl⟩ := h'
        obtain ⟨q0, b, hq0, rfl, _⟩ := lv_row hE hx
        have hp0 := sy.lv_C hL k q0 (List.mem_of_getElem? hq0)
        refine ⟨_, rfl, t, rfl, ⟨_, onT (hM.choose_spec.choose_spec.choose_spec.1) ht⟩, ?_⟩
        refine for_tup (xs := g.ts.map V.int) (fun j σ H' => MidB P w g.κ H g.st g.ts L (fun _ l as => as = l.map valD) k d l u xs i j H' ∧ ∃ y8 y9, σ = [some (.ref a), some (.ref t), some (.ref g.f), some (.int (most : Nat)), some (.ref d), some (.ref l), some (.ref u), some (.ref b), y8, y9])
          ⟨hM, _, _, rfl⟩ (fun j σ H' _ h' => onT (h'.1.choose_spec.choose_spec.choose_spec.1) ht) (fun j x2 σ H3 hx2 h' => ?_) (fun σ H3 h' => ?_)
        · obtain ⟨⟨bs, ks, us, sm3, eD3, kb3, hf3, hv3, eL3, hE3, eU3, hF3⟩, w8, w9, rfl⟩ := h'
          obtain ⟨pj, hpj, rfl⟩ := map_at hx2
          obtain ⟨q0', b', hq0', eb', hb3⟩ := lv_row hE3 hx
          cases eb'
          rw [hq0] at hq0'
          cases hq0'
          have hfew := sy.prt_few hL k (i * g.ts.length + j)
          have blen : bs.length ≤ g.N := by
            have := congrArg List.length hf3
            rw [List.length_map, List.length_map] at this
            omega
          have ulen : us.length ≤ g.N := by
            have h1 := hF3.len
            rw [List.length_map] at h1
            rw [List.length_append] at hfew
            omega
          refine ⟨rfl, hlive _ sm3, _, rfl, _, rfl, hlive _ sm3, b, q0.1, pj, rfl, hb3, hp0, List.mem_of_getElem? hpj, fun H4 qn s4 nq eq4 => ?_⟩
          have sm4 := sm3.trans s4
          have eD4 := s4 _ _ eD3
          have eU4 := s4 _ _ eU3
          have kb4 := kb3.on (TK.same s4)
          refine ⟨_, rfl, _, rfl, d, qn, bs, ks, g.st pj q0.1, rfl, rfl, eD4, kb4, eq4, _, rfl, ?_⟩
          by_cases hm : g.st pj q0.1 ∈ bs.map Prod.fst
          · have hm2 := hm
            rw [hf3] at hm2
            have ep := prt_old hq0 hpj hm2
            refine ifF (by rw [decide_eq_true hm]; rfl) ⟨⟨bs, ks, us, sm4, eD4, kb4, ?_, ?_, s4 _ _ eL3, hE3.on (TK.same s4), eU4, ?_⟩, _, _, rfl⟩
            · rw [show i * g.ts.length + (j + 1) = i * g.ts.length + j + 1 from rfl, ep]
              exact hf3
            · rw [show i * g.ts.length + (j + 1) = i * g.ts.length + j + 1 from rfl, ep]
              exact hv3
            · rw [show i * g.ts.length + (j + 1) = i * g.ts.length + j + 1 from rfl, ep]
              exact hF3.on (TK.same s4)
          · have hm2 := hm
            rw [hf3] at hm2
            have ep := prt_new hq0 hpj hm2
            refine ifT (by rw [decide_eq_false hm]; rfl) ?_
            have hold : q0.1 ∈ bs.map Prod.fst := by
              rw [hf3, List.map_append]
              exact List.mem_append_left _ (List.mem_map.mpr ⟨q0, lv_fd (List.mem_of_getElem? hq0), rfl⟩)
            refine ⟨_, rfl, _, rfl, d, b, bs, ks, q0.1, rfl, rfl, eD4, kb4, hb3.on (TK.same s4), hold, fun v hvm => ?_⟩
            have evk : v = .int (k : Nat) := by
              rw [hv3] at hvm
              obtain ⟨y, hy, ey⟩ := List.mem_map.mp hvm
              have ey2 : (y.1, V.int (y.2.length : Nat)) = (q0.1, v) := ey
              have e1 : y.1 = q0.1 := (Prod.mk.inj ey2).1
              have e2 : V.int (y.2.length : Nat) = v := (Prod.mk.inj ey2).2
              have h1 := prt_fd hy
              have h2 : q0 ∈ fd g.st g.ts L (k + 1) := fd_mono (Nat.le_succ k) (lv_fd (List.mem_of_getElem? hq0))
              have e3 := fd_val (s := q0.1) (w := y.2) (w' := q0.2) (by rw [← e1]; exact h1) h2
              rw [← e2, e3, lv_len k q0 (List.mem_of_getElem? hq0)]
            subst evk
            refine ⟨(k : Nat), 1, rfl, rfl, _, rfl, _, rfl, d, qn, bs, ks, g.st pj q0.1, rfl, rfl, eD4, kb4, eq4, hm, (by rw [sizeLine_eq]; omega), ?_⟩
            have tk5 : TK H4 (upd H4 d (DN P w g.κ (bs ++ [(g.st pj q0.1, V.int ((k : Nat) + 1 : Int))]) (ks ++ [qn]) d)) := TK.upd eD4 not_tup_d
            have eU5 : (upd H4 d (DN P w g.κ (bs ++ [(g.st pj q0.1, V.int ((k : Nat) + 1 : Int))]) (ks ++ [qn]) d)) u = some (.lst us) := by
              rw [upd_ne (ne_of eU4 eD4 (fun z => nomatch z))]
              exact eU4
            have eL5 : (upd H4 d (DN P w g.κ (bs ++ [(g.st pj q0.1, V.int ((k : Nat) + 1 : Int))]) (ks ++ [qn]) d)) l = some (.lst xs) := by
              rw [upd_ne (ne_of (s4 _ _ eL3) eD4 (fun z => nomatch z))]
              exact s4 _ _ eL3
            have sm5 : Same H (upd H4 d (DN P w g.κ (bs ++ [(g.st pj q0.1, V.int ((k : Nat) + 1 : Int))]) (ks ++ [qn]) d)) := Same.upd sm4 hd
            have eD5 : (upd H4 d (DN P w g.κ (bs ++ [(g.st pj q0.1, V.int ((k : Nat) + 1 : Int))]) (ks ++ [qn]) d)) d = some (DN P w g.κ (bs ++ [(g.st pj q0.1, V.int ((k : Nat) + 1 : Int))]) (ks ++ [qn]) d) := upd_same
            have kb5 : KBN g.κ (upd H4 d (DN P w g.κ (bs ++ [(g.st pj q0.1, V.int ((k : Nat) + 1 : Int))]) (ks ++ [qn]) d)) (bs ++ [(g.st pj q0.1, V.int ((k : Nat) + 1 : Int))]) (ks ++ [qn]) := (kb4.on tk5).snoc (q := (g.st pj q0.1, V.int ((k : Nat) + 1 : Int))) (b := qn) (eq4.on tk5)
            have hq5 := eq4.on tk5
            refine ⟨_, rfl, .inl ⟨rfl, _, lstAt eU5⟩, _, rfl, u, us, .ref qn, rfl, rfl, eU5, (by rw [sizeLine_eq]; omega), ?_⟩
            have tk6 : TK (upd H4 d (DN P w g.κ (bs ++ [(g.st pj q0.1, V.int ((k : Nat) + 1 : Int))]) (ks ++ [qn]) d)) (upd (upd H4 d (DN P w g.κ (bs ++ [(g.st pj q0.1, V.int ((k : Nat) + 1 : Int))]) (ks ++ [qn]) d)) u (.lst (us ++ [.ref qn]))) := TK.upd eU5 not_tup_l
            have tk46 := (TK.same s4).trans (tk5.trans tk6)
            refine ⟨⟨bs ++ [(g.st pj q0.1, V.int ((k : Nat) + 1 : Int))], ks ++ [qn], us ++ [.ref qn], Same.upd sm5 huH, ?_, kb5.on tk6, ?_, ?_, ?_, hE3.on tk46, upd_same, ?_⟩, _, _, rfl⟩
            · rw [upd_ne (ne_of eD5 eU5 (fun z => nomatch z))]
              exact eD5
            · rw [show i * g.ts.length + (j + 1) = i * g.ts.length + j + 1 from rfl, ep, ← List.append_assoc]
              exact fst_snoc hf3 rfl
            · rw [show i * g.ts.length + (j + 1) = i * g.ts.length + j + 1 from rfl, ep, ← List.append_assoc]
              show bs ++ _ = List.map valD _
              rw [List.map_append, ← hv3]
              congr 1
              show [(g.st pj q0.1, V.int ((k : Nat) + 1 : Int))] = [valD (g.st pj q0.1, q0.2 ++ [pj])]
              unfold valD
              rw [List.length_append, lv_len k q0 (List.mem_of_getElem? hq0)]
              rfl
            · rw [upd_ne hlu]
              exact eL5
            · rw [show i * g.ts.length + (j + 1) = i * g.ts.length + j + 1 from rfl, ep, List.map_append]
              exact EN.snoc (hq5.on tk6) (hF3.on tk46)
        · obtain ⟨hM3, w8, w9, rfl⟩ := h'
          rw [List.length_map] at hM3
          exact ⟨hM3.row, _, _, _, rfl⟩
      · obtain ⟨⟨bs, ks, us, sm3, eD3, kb3, hf3, hv3, eL3, hE3, eU3, hF3⟩, w7, w8, w9, rfl⟩ := h'
        rw [lx, Nat.add_zero, prt_all] at hv3 hF3
        subst hv3
        exact ⟨_, rfl, mea g.N g.st g.ts L (k + 1), sy.mea_less hL hne, k + 1, ks, us, u, rfl, ⟨_, _, _, _, rfl⟩, sm3, eD3, kb3, eU3, hF3⟩
    · have hnil : lv g.st g.ts L k = [] := by
        cases xs with
        | nil => exact List.eq_nil_of_length_eq_zero lx.symm
        | cons x r => exact absurd rfl ex
      refine ifF rfl ⟨_, rfl, q H1 d k ks sm eD kb hnil⟩
end
end RH
set_option Elab.async false
set_option linter.all false
set_option maxRecDepth 100000
set_option maxHeartbeats 2000000
namespace RH
open PySem PySem.Spec PyProof.Rows L2
open NdefX (NScope CellsAt Caps slotAt slotAt_of cells_of startF ncx)
open LamX (Tabs TabS TabB ExtN CodeO codeO_ne)
/-! ### stands: their states -/
theorem depth_nums : ∀ s : List Int, NestedKey.depthAll (s.map NestedKey.num) = 0
  | [] => rfl
  | a :: s => by
    show max (NestedKey.depth (.num a)) (NestedKey.depthAll (s.map NestedKey.num)) = 0
    rw [depth_nums s]
    rfl
theorem nums_inj : ∀ {s t : List Int}, s.map NestedKey.num = t.map NestedKey.num → s = t
  | [], [], _ => rfl
  | [], _ :: _, e => by simp at e
  | _ :: _, [], e => by simp at e
  | a :: s, b :: t, e => by
    rw [List.map_cons, List.map_cons] at e
    injection e with e1 e2
    rw [NestedKey.num.inj e1, nums_inj e2]
/-- a tuple of ints -/
def kF : KyF := ⟨fun s => .tup (s.map .num), fun s t e => nums_inj (NestedKey.tup.inj e), fun s => by
  show NestedKey.depthAll (s.map NestedKey.num) + 1 ≤ 8
  rw [depth_nums]
  omega⟩
/-- cut into pieces of n -/
def chk (n : Nat) (s : List Int) : List (List Int) := if n = 0 then [s] else if h : s = [] then [] else s.take n :: chk n (s.drop n)
  termination_by s.length
  decreasing_by
    rw [List.length_drop]
    have := List.length_pos_iff.mpr h
    omega
theorem chk_flat (n : Nat) : ∀ (m : Nat) (s : List Int), s.length ≤ m → (chk n s).flatten = s
  | m, s, hm => by
    rw [chk]
    by_cases h0 : n = 0
    · rw [if_pos h0]
      exact List.append_nil _
    · rw [if_neg h0]
      by_cases h : s = []
      · rw [dif_pos h, h]
        rfl
      · rw [dif_neg h, List.flatten_cons]
        have hl := List.length_pos_iff.mpr h
        cases m with
        | zero => omega
        | succ m => rw [chk_flat n m (s.drop n) (by rw [List.length_drop]; omega), List.take_append_drop]
theorem chk_of {n : Nat} (n0 : 0 < n) : ∀ {Ls : List (List Int)}, (∀ L ∈ Ls, L.length = n) → chk n Ls.flatten = Ls
  | [], _ => by
    rw [chk, if_neg (by omega)]
    exact dif_pos rfl
  | L :: Ls, h => by
    have hL := h L (List.mem_cons_self ..)
    rw [chk, if_neg (by omega), List.flatten_cons, dif_neg (fun e => by
      have := congrArg List.length e
      rw [List.length_append, List.length_nil] at this
      omega)]
    rw [List.take_left' hL, List.drop_left' hL, chk_of n0 fun M hM => h M (List.mem_cons_of_mem _ hM)]
theorem depth_rows : ∀ Ls : List (List Int), NestedKey.depthAll (Ls.map fun L => NestedKey.tup (L.map NestedKey.num)) ≤ 1
  | [] => Nat.zero_le _
  | L :: Ls => by
    show max (NestedKey.depthAll (L.map NestedKey.num) + 1) (NestedKey.depthAll (Ls.map fun L => NestedKey.tup (L.map NestedKey.num))) ≤ 1
    rw [depth_nums]
    have := depth_rows Ls
    omega
theorem rows_inj : ∀ {s t : List (List Int)}, (s.map fun L => NestedKey.tup (L.map NestedKey.num)) = (t.map fun L => NestedKey.tup (L.map NestedKey.num)) → s = t
  | [], [], _ => rfl
  | [], _ :: _, e => by simp at e
  | _ :: _, [], e => by simp at e
  | a :: s, b :: t, e => by
    rw [List.map_cons, List.map_cons] at e
    injection e with e1 e2
    rw [nums_inj (NestedKey.tup.inj e1), rows_inj e2]
/-- a tuple of tuples of n ints -/
def kS (n : Nat) : KyF := ⟨fun s => .tup ((chk n s).map fun L => .tup (L.map .num)), fun s t e => by
  have := congrArg List.flatten (rows_inj (NestedKey.tup.inj e))
  rw [chk_flat n _ s (Nat.le_refl _), chk_flat n _ t (Nat.le_refl _)] at this
  exact this, fun s => by
  show NestedKey.depthAll ((chk n s).map fun L => NestedKey.tup (L.map NestedKey.num)) + 1 ≤ 8
  have := depth_rows (chk n s)
  omega⟩
/-- a tuple that stands in the heap -/
def RL (H : Hp) (v : V) (L : List Int) : Prop := ∃ a, v = .ref a ∧ Rd H a (.tup (L.map V.int))
def RS2 (H : Hp) (b : Addr) (Ls : List (List Int)) : Prop := ∃ xs, Rd H b (.tup xs) ∧ Each (RL H) xs Ls
theorem RL.on {H H' : Hp} (e : TK H H') {v : V} {L : List Int} (h : RL H v L) : RL H' v L := let ⟨a, h1, h2⟩ := h; ⟨a, h1, e _ _ h2⟩
theorem RS2.on {H H' : Hp} (e : TK H H') {b : Addr} {Ls : List (List Int)} (h : RS2 H b Ls) : RS2 H' b Ls := let ⟨xs, h1, h2⟩ := h; ⟨xs, e _ _ h1, h2.imp fun _ _ z => z.on e⟩
theorem RL.ti {K : PySem.W.Frag} {H : Hp} {v : V} {L : List Int} (h : RL H v L) : TI K H v L := let ⟨a, h1, h2⟩ := h; ⟨a, h1, .inl h2⟩
theorem RS2.tii {K : PySem.W.Frag} {H : Hp} {b : Addr} {Ls : List (List Int)} (h : RS2 H b Ls) : TII K H (.ref b) Ls := let ⟨xs, h1, h2⟩ := h; ⟨b, xs, rfl, .inl h1, h2.imp fun _ _ z => z.ti⟩
theorem nks_ints {H : Hp} : ∀ s : List Int, NKs H (s.map V.int) (s.map NestedKey.num)
  | [] => .nil
  | a :: s => .cons (.int a) (nks_ints s)
theorem ints_nks {H : Hp} : ∀ {s : List Int} {xs : List V}, NKs H xs (s.map NestedKey.num) → xs = s.map V.int
  | [], xs, h => by
    cases h
    rfl
  | a :: s, xs, h => by
    cases h with
    | cons h t =>
      cases h
      rw [ints_nks t]
      rfl
theorem ks_flat {H : Hp} {b : Addr} {s : List Int} (h : Rd H b (.tup (s.map V.int))) : KS kF H b s := .tup h (nks_ints s)
theorem KS.flat {H : Hp} {b : Addr} {s : List Int} (h : KS kF H b s) : Rd H b (.tup (s.map V.int)) := by
  have h : NK H (.ref b) (.tup (s.map NestedKey.num)) := h
  cases h with
  | tup h t =>
    rw [ints_nks t] at h
    exact h
theorem nks_rows {H : Hp} : ∀ {Ls : List (List Int)} {xs : List V}, Each (RL H) xs Ls → NKs H xs (Ls.map fun L => .tup (L.map .num))
  | _, _, .nil => .nil
  | _, _, .cons ⟨a, e, h⟩ t => by
    subst e
    exact .cons (.tup h (nks_ints _)) (nks_rows t)
theorem rows_nks {H : Hp} : ∀ {Ls : List (List Int)} {xs : List V}, NKs H xs (Ls.map fun L => .tup (L.map .num)) → Each (RL H) xs Ls
  | [], xs, h => by
    cases h
    exact .nil
  | L :: Ls, xs, h => by
    cases h with
    | cons h t =>
      cases h with
      | tup h1 h2 =>
        rw [ints_nks h2] at h1
        exact .cons ⟨_, rfl, h1⟩ (rows_nks t)
theorem ks_rows {n : Nat} {H : Hp} {b : Addr} {s : List Int} (h : RS2 H b (chk n s)) : KS (kS n) H b s := let ⟨_, h1, h2⟩ := h; .tup h1 (nks_rows h2)
theorem KS.rows {n : Nat} {H : Hp} {b : Addr} {s : List Int} (h : KS (kS n) H b s) : RS2 H b (chk n s) := by
  have h : NK H (.ref b) (.tup ((chk n s).map fun L => .tup (L.map .num))) := h
  cases h with
  | tup h t => exact ⟨_, h, rows_nks t⟩
/-- m layouts of n places -/
def CS (n m : Nat) (s : List Int) : Prop := (chk n s).length = m ∧ ∀ L ∈ chk n s, L.Perm (rg n)
/-- a stand behind a touch -/
def stS (n : Nat) (hs : List (List (List Int))) (p : Int) (s : List Int) : List Int := ((hs.zip (chk n s)).map fun q => stp q.1 p q.2).flatten
/-- the places of a name behind a touch -/
def stP (hs : List (List (List Int))) (p : Int) (t : List Int) : List Int := (hs.zip t).map fun q => mv q.1 p q.2
/-- all the same? -/
def tog (t : List Int) : Bool := t.all fun p => decide (p = t.getD 0 0)
theorem stS_rows {n m : Nat} (n0 : 0 < n) {hs : List (List (List Int))} {s : List Int} {p : Int} (hb : ∀ h ∈ hs, Hb n h) (hp : InR n p) (hc : CS n m s) : chk n (stS n hs p s) = (hs.zip (chk n s)).map fun q => stp q.1 p q.2 := by
  refine chk_of n0 fun L hL => ?_
  obtain ⟨q, hq, rfl⟩ := List.mem_map.mp hL
  have h1 := List.of_mem_zip (a := q.1) (b := q.2) hq
  exact perm_len ((hb _ h1.1).stp_perm hp (hc.2 _ h1.2))
theorem CS.go {n m : Nat} (n0 : 0 < n) {hs : List (List (List Int))} {s : List Int} {p : Int} (hm : hs.length = m) (hb : ∀ h ∈ hs, Hb n h) (hp : InR n p) (hc : CS n m s) : CS n m (stS n hs p s) := by
  have e := stS_rows n0 hb hp hc
  refine ⟨by rw [e, List.length_map, List.length_zip, hc.1, hm, Nat.min_self], fun L hL => ?_⟩
  rw [e] at hL
  obtain ⟨q, hq, rfl⟩ := List.mem_map.mp hL
  have h1 := List.of_mem_zip (a := q.1) (b := q.2) hq
  exact (hb _ h1.1).stp_perm hp (hc.2 _ h1.2)
theorem each_zip {α β : Type} {R : V → α → Prop} {S : V → β → Prop} {xs ys : List V} {as : List α} {bs : List β} (h1 : Each R xs as) (h2 : Each S ys bs) {i : Nat} {x y : V} (hx : xs[i]? = some x) (hy : ys[i]? = some y) : ∃ a b, (as.zip bs)[i]? = some (a, b) ∧ R x a ∧ S y b := by
  obtain ⟨a, ha, ra⟩ := h1.at hx
  obtain ⟨b, hb, rb⟩ := h2.at hy
  exact ⟨a, b, List.getElem?_zip_eq_some.mpr ⟨ha, hb⟩, ra, rb⟩
theorem Each.snoc2 {α : Type} {R : V → α → Prop} {v : V} {d : α} (h : R v d) : ∀ {vs : List V} {ds : List α}, Each R vs ds → Each R (vs ++ [v]) (ds ++ [d])
  | _, _, .nil => .cons h .nil
  | _, _, .cons g t => .cons g (Each.snoc2 h t)
section
variable {P : Program} {w : World} {K : PySem.W.Frag} {mg : Str → Option Value} {base : Heap}
theorem THs.same {H H' : Hp} {v : V} {hs : List (List (List Int))} (e : Same H H') (h : THs K H v hs) : THs K H' v hs := h.on (Same.tups e)
def spMStand (K : PySem.W.Frag) : Sp := fun vs H Q _ => ∃ (hv : V) (b : Addr) (hs : List (List (List Int))) (n : Nat) (s : List Int) (p : Int), vs = [hv, .ref b, .int p] ∧ THs K H hv hs ∧ (∀ h ∈ hs, Hb n h) ∧ 2 ≤ n ∧ KS (kS n) H b s ∧ CS n hs.length s ∧ InR n p ∧ hs.length ≤ 3 ∧
  ∀ H' q, Same H H' → H q = none → KS (kS n) H' q (stS n hs p s) → Q (.ref q) H'
theorem ok_move_stand (F : Df K mg "move_stand" st_move_stand ["habits", "stand", "place"]) (B : Bu mg) (CM : Cal P w K mg base 1 "move" (spMove K)) : Cal P w K mg base 2 "move_stand" (spMStand K) := by
  refine mkCal F sc_move_stand (fun vs H Q E h => ?_) (fun f cdv A outer s H vs Q E hr h => ?_)
  · obtain ⟨hv, b, hs, n, s, p, rfl, _⟩ := h
    rfl
  · obtain ⟨hv, b, hs, n, s, p, rfl, hT, hb, n2, hk, hc, hp, h3, q⟩ := h
    refine ⟨_, pss_one (ps_ret (pe_tupleOf (by rfl) B.tuple (pe_lc (own := [("habit", 3), ("layout", 4)]) (g := gTup K 2 (gCons (gName 3) (gCons (gName 4) gNil))) (tt := tYes) rfl sc_move_stand.nd
        (RZ.pi_zipA (by rfl) B.zip (pa_cons (pv 0) (pa_cons (pv 1) pa_nil))) (blkOk_by (N := ["habits", "stand", "place", "habit", "layout"]) (sc := defScope st_move_stand) (by decide +kernel))
        (fun _ _ _ _ _ => pg_tup rfl (pgs_cons (pg_name (i := 3) sc_move_stand.nd rfl (Or.inl rfl)) (pgs_cons (pg_name (i := 4) sc_move_stand.nd rfl (Or.inl rfl)) pgs_nil))) (fun _ _ _ _ _ => pts_nil)
        (fun _ _ _ _ _ => pc CM hr (pa_cons (pv 3) (pa_cons (pv 4) (pa_cons (pv 2) pa_nil))))))), ?_⟩
    obtain ⟨ah, xs, rfl, hS, hE⟩ := id hT
    obtain ⟨ys, hY, hL⟩ := hk.rows
    have lx := hE.len
    have ly := hL.len
    rw [hc.1] at ly
    refine ⟨_, rfl, _, rfl, ah, b, _, _, rfl, .inr ⟨hS, .inl hY, fun D hD => ?_⟩⟩
    refine lc_zipT (xs := xs) (ys := ys) hs.length (by omega) (fun i H' => Same H H' ∧ ∃ zs, H' D = some (.lst zs) ∧ Each (RL H') zs (((hs.zip (chk n s)).take i).map fun q => stp q.1 p q.2)) ⟨same_new hD, [], upd_same, .nil⟩ (fun i H' h' => ⟨onT h'.1 hS, .inl (TK.same h'.1 _ _ hY)⟩) (fun i x z T H' hx hz h' hT => ?_) (fun H' h' => ?_)
    · obtain ⟨sm, zs, eD, hZ⟩ := h'
      obtain ⟨h, L, hz2, hTh, a, rfl, hA⟩ := each_zip hE hL hx hz
      have hm := List.of_mem_zip (List.mem_of_getElem? hz2)
      have sT := same_new (o := .tup [x, .ref a]) hT
      have smT := sm.trans sT
      have pL := hc.2 L hm.2
      refine ⟨T, _, rfl, tupAt upd_same, rfl, _, _, rfl, _, _, rfl, rfl, rfl, _, rfl, _, rfl, _, rfl, x, h, n, a, L, p, rfl, hTh.on (Same.tups smT), hb h hm.1, .inl (TK.same smT _ _ hA), fun u hu => perm_in pL hu, by have := perm_len pL; have := (hb h hm.1).hi; omega, hp, fun H4 r s4 nr er => ?_⟩
      have eD4 := s4 _ _ (sT _ _ eD)
      have s44 := sT.trans s4
      have lz := hZ.len
      rw [List.length_map, List.length_take, List.length_zip] at lz
      refine ⟨zs, eD4, small1000 (by omega), ?_, zs ++ [.ref r], upd_same, ?_⟩
      · exact fun c o ec => by rw [upd_ne (ne_of_none ec hD)]; exact (sm.trans s44) c o ec
      · rw [List.take_add_one, hz2, List.map_append]
        have tk : TK H4 (upd H4 D (.lst (zs ++ [V.ref r]))) := TK.upd eD4 not_tup_l
        exact Each.snoc2 ⟨r, rfl, tk _ _ er.kx⟩ (hZ.imp fun _ _ z => (z.on (TK.same s44)).on tk)
    · obtain ⟨sm, zs, eD, hZ⟩ := h'
      rw [List.take_of_length_le (by rw [List.length_zip]; omega)] at hZ
      refine .inl ⟨D, _, rfl, lstAt eD, fun t ht => ?_⟩
      have st := same_new (o := .tup zs) ht
      refine q _ t (sm.trans st) (by
        cases e : H t with
        | none => rfl
        | some o => rw [sm _ _ e] at ht; cases ht) (ks_rows ?_)
      rw [stS_rows (by omega) hb hp hc]
      exact ⟨zs, .inl upd_same, hZ.imp fun _ _ z => z.on (TK.same st)⟩
def spPON : Sp := fun vs H Q _ => ∃ (b : Addr) (Ls : List (List Int)) (x : Int), vs = [.ref b, .int x] ∧ RS2 H b Ls ∧ (∀ L ∈ Ls, 0 ≤ x ∧ x < L.length) ∧ Ls.length ≤ 3 ∧ ∀ H' q, Same H H' → H' q = some (.tup ((Ls.map fun L => L.getD x.toNat 0).map V.int)) → Q (.ref q) H'
theorem ok_pon (F : Df K mg "places_of_name" st_places_of_name ["stand", "name"]) (B : Bu mg) : Cal P w K mg base 1 "places_of_name" spPON := by
  refine mkCal F sc_places_of_name (fun vs H Q E h => ?_) (fun f cdv A outer s H vs Q E hr h => ?_)
  · obtain ⟨b, Ls, x, rfl, _⟩ := h
    rfl
  · obtain ⟨b, Ls, x, rfl, ⟨xs, hX, hE⟩, hin, h3, q⟩ := h
    refine ⟨_, pss_one (ps_ret (pe_tupleOf (by rfl) B.tuple (pe_lc (own := [("layout", 2)]) (g := gName 2) (tt := tYes) rfl sc_places_of_name.nd (pi_tup (pv 0)) (blkOk_by (N := ["stand", "name", "layout"]) (sc := defScope st_places_of_name) (by decide +kernel))
        (fun _ _ _ _ _ => pg_name (i := 2) sc_places_of_name.nd rfl (Or.inl rfl)) (fun _ _ _ _ _ => pts_nil) (fun _ _ _ _ _ => pe_ix (ixT K) (pv 2) (pv 1) (fun _ _ => rfl))))), ?_⟩
    refine ⟨_, rfl, b, rfl, ⟨_, .inl hX⟩, fun D hD => ?_⟩
    refine lc_tup (xs := xs) (fun i H' => Same H H' ∧ H' D = some (.lst (((Ls.take i).map fun L => L.getD x.toNat 0).map V.int))) ⟨same_new hD, upd_same⟩ (fun i H' _ h' => .inl (TK.same h'.1 _ _ hX)) (fun i v H' hv h' => ?_) (fun H' h' => ?_)
    · obtain ⟨sm, eD⟩ := h'
      obtain ⟨L, hL, a, rfl, hA⟩ := hE.at hv
      have hi := hin L (List.mem_of_getElem? hL)
      obtain ⟨y, hy⟩ : ∃ y, L[x.toNat]? = some y := ⟨_, List.getElem?_eq_getElem (by omega)⟩
      refine ⟨rfl, _, rfl, _, rfl, a, _, x, .int y, rfl, rfl, .inl (TK.same sm _ _ hA), at_int hi.1 (at_map hy), _, eD, ?_, ?_, ?_⟩
      · rw [List.length_map, List.length_map, List.length_take]
        exact small1000 (by omega)
      · exact fun c o ec => by rw [upd_ne (ne_of_none ec hD)]; exact sm c o ec
      · rw [upd_same, List.take_add_one, hL, List.map_append, List.map_append]
        show _ = some (HO.lst (_ ++ [V.int (L.getD x.toNat 0)]))
        rw [List.getD_eq_getElem?_getD, hy]
        rfl
    · obtain ⟨sm, eD⟩ := h'
      rw [hE.len, List.take_length] at eD
      exact .inl ⟨D, _, rfl, lstAt eD, fun t ht => q _ t (sm.trans (same_new ht)) upd_same⟩
theorem ok_tog (F : Df K mg "is_together" st_is_together ["places"]) (B : Bu mg) (C : List Int → Prop) (hC : ∀ t, C t → 0 < t.length ∧ t.length ≤ 1000) : Cal P w K mg base 1 "is_together" (spGoalG kF C tog) := by
  refine mkCal F sc_is_together (fun vs H Q E h => ?_) (fun f cdv A outer s H vs Q E hr h => ?_)
  · obtain ⟨a, L, rfl, _⟩ := h
    rfl
  · obtain ⟨a, t, rfl, hk, hc, q⟩ := h
    obtain ⟨l0, l1⟩ := hC t hc
    have hX := hk.flat
    obtain ⟨y0, hy0⟩ : ∃ y, t[0]? = some y := ⟨_, List.getElem?_eq_getElem l0⟩
    refine ⟨_, pss_one (ps_ret (pe_callB (cr_all rfl) (by rfl) B.all (by decide +kernel) (pa_cons (pe_lc (own := [("place", 1)]) (g := gName 1) (tt := tYes) rfl sc_is_together.nd (pi_tup (pv 0)) (blkOk_by (N := ["places", "place"]) (sc := defScope st_is_together) (by decide +kernel))
        (fun _ _ _ _ _ => pg_name (i := 1) sc_is_together.nd rfl (Or.inl rfl)) (fun _ _ _ _ _ => pts_nil) (fun _ _ _ _ _ => pe_cmpR op_eq (pv 1) (pe_ix (ixT K) (pv 0) pe_int (fun _ _ => rfl)) (nomark _))) pa_nil))), ?_⟩
    refine ⟨_, rfl, a, rfl, ⟨_, .inl hX⟩, fun D hD => ?_⟩
    refine lc_tup (xs := t.map V.int) (fun i H' => Same H H' ∧ H' D = some (.lst (((t.take i).map fun p => decide (p = t.getD 0 0)).map V.bl))) ⟨same_new hD, upd_same⟩ (fun i H' _ h' => .inl (TK.same h'.1 _ _ hX)) (fun i v H' hv h' => ?_) (fun H' h' => ?_)
    · obtain ⟨sm, eD⟩ := h'
      obtain ⟨y, hy, rfl⟩ := map_at hv
      refine ⟨rfl, _, rfl, _, rfl, a, _, 0, .int y0, rfl, rfl, .inl (TK.same sm _ _ hX), atI_nat (j := 0) (at_map hy0), rfl, _, eD, ?_, ?_, ?_⟩
      · rw [List.length_map, List.length_map, List.length_take]
        exact small1000 (by omega)
      · exact fun c o ec => by rw [upd_ne (ne_of_none ec hD)]; exact sm c o ec
      · rw [upd_same, all_snoc _ hy, List.map_append, List.getD_eq_getElem?_getD, hy0]
        show _ = some (HO.lst (_ ++ [V.bl (decide (y = y0))]))
        congr 3
        simp
    · obtain ⟨sm, eD⟩ := h'
      rw [List.length_map, List.take_length] at eD
      refine ⟨D, _, rfl, lstAt eD, ?_⟩
      have e : ((t.map fun p => decide (p = t.getD 0 0)).all id) = tog t := by
        unfold tog
        rw [List.all_map]
        rfl
      rw [e]
      exact q H' sm
end
end RH
set_option Elab.async false
set_option linter.all false
set_option maxRecDepth 100000
set_option maxHeartbeats 2000000
namespace RH
open PySem PySem.Spec PyProof.Rows L2
open NdefX (NScope CellsAt Caps slotAt slotAt_of cells_of startF ncx)
open LamX (Tabs TabS TabB ExtN CodeO codeO_ne)
/-! ### the lambdas that the law makes -/
def lamP : Expr → Arguments
  | .Lambda p _ _ _ => p
  | _ => defArgs st_law
def lamB : Expr → Expr
  | .Lambda _ b _ _ => b
  | e => e
def lamS : Expr → Scope
  | .Lambda _ _ sc _ => sc
  | _ => defScope st_law
def lamO : Expr → Pos
  | .Lambda _ _ _ p => p
  | _ => ⟨0, 0, 0, 0⟩
/-- a def of the text with its code object -/
structure DfC (K : PySem.W.Frag) (mg : Str → Option Value) (x : Str) (st : Stmt) (ps : List Str) (c : Addr) : Prop where
  ex : ∃ (f : Addr) (oc : Value) (od : Option Addr) (kV doc pm : Value) (an : Option Addr) (ct : Value) (osl : Array (Option Value)), K.lookup f = some ⟨oc, od, .func (PySem.W.fnOf x x (defArgs st) (defBody st) (defScope st) .none kV doc pm an (.ref c) ct), osl⟩ ∧
    PySem.W.codeIn K (.ref c) x = true ∧ PySem.W.keepIn K (.ref f) = true ∧ mg x = some (.ref f) ∧ Binds K (PySem.W.fnOf x x (defArgs st) (defBody st) (defScope st) .none kV doc pm an (.ref c) ct) ps []
section
variable {P : Program} {w : World} {K : PySem.W.Frag} {mg : Str → Option Value} {base : Heap}
/-- a lambda of the law's stands with what it caught -/
structure LamAt (lam : Expr) (fr : List Str) (ws : List V) (l : CL) (f : Addr) (H : Hp) : Prop where
  ex : ∃ q cl c, LiveK f ⟨q, lamP lam, lamB lam, lamS lam, cl, c⟩ l H ∧ Cap ⟨q, lamP lam, lamB lam, lamS lam, cl, c⟩ fr ws l
def lamQ (x : Str) : Str := (envOfC x (defScope st_all_stands) 0 0 .none).qual ++ "<lambda>"
theorem extN_upd {H H' : Hp} {p : Addr} {o : HO} (e : ExtN H H') (h : H p = none) : ExtN H (upd H' p o) := fun b u q n => by
  rw [upd_ne (ne_of_none q h)]
  exact e b u q n
theorem tabs_lst {T : List (Addr × Str)} {H : Hp} {p : Addr} {xs : List V} {o : HO} (t : Tabs T H) (h : H p = some (.lst xs)) : Tabs T (upd H p o) := fun q hq => by
  obtain ⟨ps, h1, h2, h3⟩ := t q hq
  refine ⟨ps, by rw [upd_ne (ne_of h1 h (fun z => nomatch z))]; exact h1, h2, fun pos cv hc => ?_⟩
  obtain ⟨c, e1, e2⟩ := h3 pos cv hc
  exact ⟨c, e1, by rw [upd_ne (ne_of e2 h (fun z => by unfold CodeO at z; cases z))]; exact e2⟩
/-- the first lambdas are in the list -/
def WSt (mk : Nat → Addr → LF) (T : List (Addr × Str)) (H : Hp) (lst : Addr) (fcs : List (Addr × Addr)) (H' : Hp) : Prop := ExtN H H' ∧ Tabs T H' ∧ H lst = none ∧ H' lst = some (.lst (fcs.map fun x => .ref x.1)) ∧
  ∀ i x, fcs[i]? = some x → H' x.1 = some (FnL x.1 (mk (i + 1) x.2)) ∧ H' x.2 = some (CodeO x.2 (mk (i + 1) x.2).qual)
theorem WSt.step {mk : Nat → Addr → LF} {T : List (Addr × Str)} {H : Hp} {lst : Addr} {fcs : List (Addr × Addr)} {H0 H1 : Hp} {f c : Addr} (s : WSt mk T H lst fcs H0) (ex : ExtN H0 H1) (t1 : Tabs T H1) (e1 : H1 f = some (FnL f (mk (fcs.length + 1) c))) (e2 : H1 c = some (CodeO c (mk (fcs.length + 1) c).qual)) :
    H1 lst = some (.lst (fcs.map fun x => .ref x.1)) ∧ WSt mk T H lst (fcs ++ [(f, c)]) (upd H1 lst (.lst ((fcs.map fun x => V.ref x.1) ++ [.ref f]))) := by
  obtain ⟨x0, t0, hn, el, hx⟩ := s
  have el1 : H1 lst = some (.lst (fcs.map fun x => .ref x.1)) := ex _ _ el (fun ps z => nomatch z)
  have nf : ∀ b F, H1 b = some (FnL b F) → b ≠ lst := fun b F e => ne_of e el1 (fun z => by unfold FnL at z; cases z)
  have nc : ∀ b q, H1 b = some (CodeO b q) → b ≠ lst := fun b q e => ne_of e el1 (fun z => by unfold CodeO at z; cases z)
  refine ⟨el1, extN_upd (x0.trans ex) hn, tabs_lst t1 el1, hn, ?_, fun i x hi => ?_⟩
  · rw [upd_same, List.map_append]
    rfl
  · rcases Nat.lt_or_ge i fcs.length with z | z
    · rw [List.getElem?_append_left z] at hi
      obtain ⟨a1, a2⟩ := hx i x hi
      have b1 := ex _ _ a1 (fun ps => fnL_ne ps)
      have b2 := ex _ _ a2 (fun ps => codeO_ne ps)
      exact ⟨by rw [upd_ne (nf _ _ b1)]; exact b1, by rw [upd_ne (nc _ _ b2)]; exact b2⟩
    · rw [List.getElem?_append_right z] at hi
      have hz : i = fcs.length := by
        have := (List.getElem?_eq_some_iff.mp hi).1
        rw [List.length_singleton] at this
        omega
      subst hz
      rw [Nat.sub_self] at hi
      obtain rfl : (f, c) = x := Option.some.inj hi
      exact ⟨by rw [upd_ne (nf _ _ e1)]; exact e1, by rw [upd_ne (nc _ _ e2)]; exact e2⟩
end
end RH
set_option Elab.async false
set_option linter.all false
set_option maxRecDepth 100000
set_option maxHeartbeats 2000000
namespace RH
open PySem PySem.Spec PyProof.Rows L2
open NdefX (NScope CellsAt Caps slotAt slotAt_of cells_of startF ncx)
open LamX (Tabs TabS TabB ExtN CodeO codeO_ne)
/-! ### stands: the searches -/
theorem ixRow {K : PySem.W.Frag} {H : Hp} {xs : List V} {h : List (List Int)} {n : Nat} (hE : Each (TI K H) xs h) (q : Hb n h) {t : Int} (ht : InR n t) : ∃ a' : Addr, atI xs t = some (.ref a') ∧ SqT K H a' ((h.getD t.toNat []).map V.int) := by
  obtain ⟨ns, e1, _⟩ := q.at ht.1 ht.2 ht.1 ht.2
  obtain ⟨v, e3, a', rfl, hS⟩ := hE.of e1
  refine ⟨a', at_int ht.1 e3, ?_⟩
  rw [List.getD_eq_getElem?_getD, e1]
  exact hS
theorem clo_free {cells : List (Str × Addr)} {y : Str} {c : Addr} : ∀ {names : List (Str × NameKind)} {acc : List (Str × Addr)}, (cloFrom cells names acc).lookup y = some c → (y, NameKind.free) ∈ names ∨ acc.lookup y = some c
  | [], _, h => .inr h
  | (x, k) :: r, acc, h => by
    unfold cloFrom at h
    split at h
    · rename_i hk
      rcases clo_free h with z | z
      · exact .inl (List.mem_cons_of_mem _ z)
      · rw [List.lookup_cons] at z
        cases e : y == x with
        | true =>
          obtain rfl := beq_iff_eq.mp e
          obtain rfl := beq_iff_eq.mp hk
          exact .inl (List.mem_cons_self ..)
        | false =>
          rw [e] at z
          exact .inr z
    · exact (clo_free h).imp (List.mem_cons_of_mem _) id
def stVal : Stmt → Expr
  | .Assign _ v _ => v
  | .Return (some v) _ => v
  | _ => .Constant .none 0 ⟨0, 0, 0, 0⟩
def argAt : Expr → Nat → Expr
  | .Call _ as _ _, i => as.getD i (.Constant .none 0 ⟨0, 0, 0, 0⟩)
  | e, _ => e
abbrev lamA : Expr := argAt (stVal ((defBody st_all_stands).getD 1 (.Pass ⟨0, 0, 0, 0⟩))) 2
abbrev lamM : Expr := argAt (stVal ((defBody st_meeting_word).getD 0 (.Pass ⟨0, 0, 0, 0⟩))) 2
theorem nsA : NScope ["one", "place", "habits"] ["one", "place"] ["habits"] (lamS lamA) := NdefX.nscope_by (by decide +kernel)
theorem nsM : CScope ["places", "touch", "habits", "habit", "place"] ["places", "touch"] ["habits"] (lamS lamM) := cscope_by (by decide +kernel)
theorem frs_free {X : Cx} {pins : List (Addr × Obj)} {σ : L2.St} {H : Hp} {s : Shared} (I : Inv X pins σ H s) (hf : ∀ x, X.fn x = true) {y : Str} {c : Addr} (h : X.env.cells.lookup y = some c) : c ∉ frs X.stack := by
  have out : c ∉ frs X.outer := fun z => by
    obtain ⟨_, o, e, _⟩ := I.ok.funs.mem z
    have h1 := Heap.lt_size e
    exact absurd (Nat.lt_of_lt_of_le h1 (I.ok.cab y c (hf y) h)) (Nat.lt_irrefl _)
  rcases I.ok.stk with e | ⟨e, ef⟩
  · rw [e]
    exact out
  · rw [e]
    intro z
    have z2 : c = X.env.locals ∨ c ∈ frs X.outer := by
      unfold frs at z ⊢
      rw [List.filterMap_cons, ef] at z
      exact List.mem_cons.mp z
    rcases z2 with z2 | z2
    · obtain ⟨m, hn, _⟩ := I.loc
      obtain ⟨o, es, ep, e1, e2, _⟩ := hn
      obtain ⟨v, o2, e3, e4⟩ := I.cell y c h
      rw [z2, e1] at e3
      cases e3
      rw [e2] at e4
      cases e4
    · exact out z2
theorem extN_tups {K : PySem.W.Frag} {H H' : Hp} (e : ExtN H H') : Tups K H H' := fun a xs hs => by
  rcases hs with (hs | ⟨o, hs⟩) | hs
  · exact .inl (.inl (e _ _ hs (fun ps z => nomatch z)))
  · exact .inl (.inr ⟨o, e _ _ hs (fun ps z => nomatch z)⟩)
  · exact .inr hs
theorem extN_same {H H' : Hp} (e : Same H H') : ExtN H H' := ExtN.of fun b o h => e b o h
theorem tabs_same {T : List (Addr × Str)} {H H' : Hp} (t : Tabs T H) (e : Same H H') : Tabs T H' := t.ext fun b o h => e b o h
theorem extN_tk {H H' : Hp} (e : ExtN H H') : TK H H' := fun b xs h => by
  rcases h with h | ⟨ob, h⟩
  · exact .inl (e _ _ h (fun ps z => nomatch z))
  · exact .inr ⟨ob, e _ _ h (fun ps z => nomatch z)⟩
theorem KBN.en {κ : KyF} {H : Hp} : ∀ {as : List (List Int × V)} {bs : List Addr}, KBN κ H as bs → EN κ H (bs.map V.ref) (as.map Prod.fst)
  | _, _, .nil => .nil
  | _, _, .cons g t => .cons g t.en
section
variable {P : Program} {w : World} {K : PySem.W.Frag} {mg : Str → Option Value} {base : Heap}
theorem mkCalK {x : Str} {st : Stmt} {N ps : List Str} {k : Nat} {sp : Sp} {c : Addr} (F : DfC K mg x st ps c) (S : FnScope N ps (defScope st)) (len : ∀ vs H Q E, sp vs H Q E → vs.length = ps.length)
    (hbody : ∀ (f : Addr) (A : Around) (outer : List Env) (s : Shared) (H : Hp) (vs : List V) (Q : VK) (E : XK), Room k (A.deeper (envOfC x (defScope st) s.heap.objs.size f (.ref c))) → sp vs H Q E →
      ∃ t, PSs (cxOf CX0 P w K mg base N x (defScope st) f (.ref c) A outer s H E).nox (defBody st) t ∧ t { nx := fun _ H' => Q .non H', rt := Q } (start N vs) H) : Cal P w K mg base (k + 1) x sp := by
  obtain ⟨f, oc, od, kV, doc, pm, an, ct, osl, lk, hcd, kp, g, b⟩ := F.ex
  refine ⟨f, _, ps, fn_of lk hcd S len fun A outer s H vs Q E hr hsp => ?_, g, kp, b⟩
  obtain ⟨t, h, q⟩ := hbody f A outer s H vs Q E hr hsp
  exact ⟨t, h.nox, q⟩
def spLamA (K : PySem.W.Frag) : List (Option V) → Sp := fun ws vs H Q E => ∃ hv, ws = [some hv] ∧ vs.length = 2 ∧ spMStand K (hv :: vs) H Q E
theorem lokA (CM : Cal P w K mg base 2 "move_stand" (spMStand K)) (q : Str) (cl : List (Str × Addr)) (c f : Addr) : LOk P w K mg base CX0 3 f ⟨q, lamP lamA, lamB lamA, lamS lamA, cl, c⟩ ["one", "place"] ["habits"] (spLamA K) := by
  refine lok_of nsA (fun pm ctv us hl => ?_) (fun ws vs H Q E hq => ?_) (fun A outer s H vs ws Q E hr _ hsp => ?_)
  · match us, hl with
    | [_, _], _ => rfl
  · obtain ⟨v, _, l, _⟩ := hq
    exact l
  · obtain ⟨v, rfl, l, hsp⟩ := hsp
    match vs, l, hsp with
    | [x, y], _, hsp => exact ⟨_, pc CM hr (pa_cons (pv 2) (pa_cons (pv 0) (pa_cons (pv 1) pa_nil))), _, rfl, _, rfl, _, rfl, hsp⟩
/-- a name's places behind a touch -/
def spLamM (K : PySem.W.Frag) : List (Option V) → Sp := fun ws vs H Q _ => ∃ (hv : V) (b : Addr) (hs : List (List (List Int))) (n : Nat) (t : List Int) (p : Int), ws = [some hv] ∧ vs = [.ref b, .int p] ∧ THs K H hv hs ∧ (∀ h ∈ hs, Hb n h) ∧ KS kF H b t ∧ t.length = hs.length ∧ (∀ x ∈ t, InR n x) ∧ InR n p ∧ hs.length ≤ 3 ∧
  ∀ H' q, Same H H' → H q = none → KS kF H' q (stP hs p t) → Q (.ref q) H'
theorem lokM (B : Bu mg) (cl : List (Str × Addr)) (hcl : ∀ y c, cl.lookup y = some c → y ∈ (["habits"] : List Str)) (q : Str) (c f : Addr) : LOk P w K mg base CX0 3 f ⟨q, lamP lamM, lamB lamM, lamS lamM, cl, c⟩ ["places", "touch"] ["habits"] (spLamM K) := by
  refine lok_cell nsM hcl (fun pm ctv us hl => ?_) (fun ws vs H Q E hq => ?_) (fun A outer s H vs ws Q E hr _ hsp => ?_)
  · match us, hl with
    | [_, _], _ => rfl
  · obtain ⟨hv, b, hs, n, t, p, _, rfl, _⟩ := hq
    rfl
  · obtain ⟨hv, b, hs, n, t, p, rfl, rfl, hT, hb, hk, lt, hin, hp, h3, q⟩ := hsp
    refine ⟨_, pe_tupleOf (by rfl) B.tuple (pe_lc (own := [("habit", 3), ("place", 4)]) (g := gTup K 2 (gCons (gName 3) (gCons (gName 4) gNil))) (tt := tYes) rfl nsM.nd
        (RZ.pi_zipA (by rfl) B.zip (pa_cons (pv 2) (pa_cons (pv 0) pa_nil))) (blkOk_by (N := ["places", "touch", "habits", "habit", "place"]) (sc := lamS lamM) (by decide +kernel))
        (fun _ _ _ _ _ => pg_tup rfl (pgs_cons (pg_name (i := 3) nsM.nd rfl (Or.inl rfl)) (pgs_cons (pg_name (i := 4) nsM.nd rfl (Or.inl rfl)) pgs_nil))) (fun _ _ _ _ _ => pts_nil)
        (fun _ _ _ _ _ => pe_ix (ixT K) (pe_ix (ixT K) (pv 3) (pv 1) (fun _ _ => rfl)) (pv 4) (fun _ _ => rfl))), ?_⟩
    obtain ⟨ah, xs, rfl, hS, hE⟩ := id hT
    have hY := hk.flat
    have lx := hE.len
    refine ⟨_, rfl, _, rfl, ah, b, _, _, rfl, .inr ⟨hS, .inl hY, fun D hD => ?_⟩⟩
    refine lc_zipT (xs := xs) (ys := t.map V.int) hs.length (by rw [List.length_map]; omega) (fun i H' => Same H H' ∧ H' D = some (.lst ((((hs.zip t).take i).map fun q => mv q.1 p q.2).map V.int))) ⟨same_new hD, upd_same⟩ (fun i H' h' => ⟨onT h'.1 hS, .inl (TK.same h'.1 _ _ hY)⟩) (fun i x z T H' hx hz h' hT2 => ?_) (fun H' h' => ?_)
    · obtain ⟨sm, eD⟩ := h'
      obtain ⟨y, hy, rfl⟩ := map_at hz
      obtain ⟨h, hh, hTh⟩ := hE.at hx
      have hz2 : (hs.zip t)[i]? = some (h, y) := List.getElem?_zip_eq_some.mpr ⟨hh, hy⟩
      have sT := same_new (o := .tup [x, .int y]) hT2
      have smT := sm.trans sT
      obtain ⟨ax, xx, rfl, hSx, hEx⟩ := hTh.on (Same.tups smT)
      have hbh := hb h (List.mem_of_getElem? hh)
      have iny := hin y (List.mem_of_getElem? hy)
      obtain ⟨a', e1, e2⟩ := ixRow hEx hbh hp
      have hrow := hbh.row hp
      have pr := hbh.perm _ hrow
      obtain ⟨v, hv⟩ : ∃ v, (h.getD p.toNat [])[y.toNat]? = some v := ⟨_, List.getElem?_eq_getElem (by have := perm_len pr; have := iny.1; have := iny.2; omega)⟩
      refine ⟨T, _, rfl, tupAt upd_same, rfl, _, _, rfl, _, _, rfl, rfl, rfl, _, rfl, _, rfl, ax, _, p, .ref a', rfl, rfl, hSx, e1, _, rfl, a', _, y, .int v, rfl, rfl, e2, at_int iny.1 (at_map hv), _, sT _ _ eD, ?_, ?_, ?_⟩
      · rw [List.length_map, List.length_map, List.length_take, List.length_zip]
        exact small1000 (by omega)
      · exact fun c o ec => by rw [upd_ne (ne_of_none ec hD)]; exact smT c o ec
      · rw [upd_same, List.take_add_one, hz2, List.map_append, List.map_append]
        show _ = some (HO.lst (_ ++ [V.int (mv h p y)]))
        unfold mv
        rw [List.getD_eq_getElem?_getD (l := h.getD p.toNat []), hv]
        rfl
    · obtain ⟨sm, eD⟩ := h'
      rw [List.take_of_length_le (by rw [List.length_zip]; omega)] at eD
      refine .inl ⟨D, _, rfl, lstAt eD, fun t' ht => q _ t' (sm.trans (same_new ht)) (none_of sm ht) (ks_flat (.inl upd_same))⟩
/-- all stands -/
def spAll (K : PySem.W.Frag) (T : List (Addr × Str)) : Sp := fun vs H Q _ => ∃ (hv : V) (b : Addr) (hs : List (List (List Int))) (n : Nat) (s : List Int) (C : List Int → Prop) (U : List (List Int)) (N : Nat), vs = [hv, .ref b] ∧ THs K H hv hs ∧ (∀ h ∈ hs, Hb n h) ∧ 2 ≤ n ∧ hs.length ≤ 3 ∧ 0 < hs.length ∧
  KS (kS n) H b s ∧ (∀ t, C t → CS n hs.length t) ∧ Sys N (stS n hs) (rg n) C U ∧ N ≤ 20000 ∧ C s ∧ Tabs T H ∧
  ∀ (H' : Hp) (l : Addr) (k : Nat) (bs : List Addr), ExtN H H' → Tabs T H' → H' l = some (.lst (bs.map V.ref)) → EN (kS n) H' (bs.map V.ref) ((fd (stS n hs) (rg n) s k).map Prod.fst) → lv (stS n hs) (rg n) s k = [] → Q (.ref l) H'
theorem ok_all {c P1 : Addr} {T : List (Addr × Str)} (hmT : (P1, lamQ "all_stands") ∈ T) (huT0 : ∀ p ∈ T, p.1 = P1 → p.2 = lamQ "all_stands") (F : DfC K mg "all_stands" st_all_stands ["habits", "stand"] c) (FD : Df K mg "depths" st_depths ["start", "touches", "step", "most"]) (B : Bu mg) (TB : TabB base mg c P1) (c20 : ∃ t, mg "MOST_STANDS" = some (.int 20000 t))
    (CP : Cal P w K mg base 1 "places_of_habit" (spPlacesOf K)) (CM : Cal P w K mg base 2 "move_stand" (spMStand K)) : Cal P w K mg base 6 "all_stands" (spAll K T) := by
  obtain ⟨fD, fdD, FunD, gD, bD⟩ := FD.ex
  refine mkCalK F sc_all_stands (fun vs H Q E h => ?_) (fun f A outer s H vs Q E hr h => ?_)
  · obtain ⟨hv, b, hs, n, s, C, U, N, rfl, _⟩ := h
    rfl
  · obtain ⟨hv, b, hs, n, st, C, U, N, rfl, hT, hb, n2, h3, h0, hk, hCS, sy, hN, hC, hTb, q⟩ := h
    have hfr : ∀ y ∈ (lamS lamA).names, y.2 = .free → (defScope st_all_stands).names.lookup y.1 = some .cell ∨ (defScope st_all_stands).names.lookup y.1 = some .free := by decide +kernel
    have hc2 : ∀ y ∈ (["habits"] : List Str), (y, NameKind.free) ∈ (lamS lamA).names := by decide +kernel
    let X : Cx := (cxOf CX0 P w K mg base ["habits", "stand", "touches", "found"] "all_stands" (defScope st_all_stands) f (.ref c) A outer s H E).nox
    have hf : ∀ y ∈ (lamS lamA).names, y.2 = .free → X.env.scope.names.lookup y.1 = some .cell ∨ X.env.scope.names.lookup y.1 = some .free := hfr
    let mk : Addr → LF := fun c' => ⟨X.env.qual ++ "<lambda>", lamP lamA, lamB lamA, lamS lamA, cloFrom X.env.cells (lamS lamA).names [], c'⟩
    let preS : GL → L2.St → Hp → Prop := fun g σ H => ∃ (c1 : Addr), σ[0]? = some (some hv) ∧ H g.f = some (FnL g.f (mk c1)) ∧ H c1 = some (CodeO c1 (mk c1).qual) ∧ g.live = (fun H' => liveL g.f (mk c1) H' ∧ THs K H' hv hs) ∧ g.κ = kS n ∧ g.st = stS n hs ∧ g.ts = rg n ∧ g.C = C
    have hP : ∀ (g : GL) (pins : List (Addr × Obj)) (σ : L2.St) (H : Hp) (s : Shared), Inv X pins σ H s → preS g σ H → preD P w K mg base g X.stack s H := by
      rintro g pins σ H s I ⟨c1, h0', h3', h4, h7, e1, e2, e3, e4⟩
      have C2 : CellsAt (mk c1).cl ["habits"] [some hv] s.heap H := by
        have := cells_of I (Caps.made (X := X) (fr := ["habits"]) (js := [0]) I.ok hf hc2 rfl)
        rw [show ([0].map (slotAt σ)) = [some hv] from by rw [List.map_cons, slotAt_of h0']; rfl] at this
        exact this
      have Fn := lokA (P := P) (w := w) (mg := mg) (base := base) CM (mk c1).qual (mk c1).cl c1 g.f
      refine ((callable_lam Fn C2 fun y c0 e => frs_free I (fun _ => rfl) (NdefX.clo_cm (fun y hy e => (hf y hy e).elim (fun z => I.ok.has _ (.inl z)) fun z => I.ok.has _ (.inr z)) e)).weak (by decide) fun _ _ _ _ h => h).imp (fun H' l => ?_) (fun vs H' Q E l hs => ?_)
      · rw [h7] at l
        exact l.1
      · rw [h7] at l
        obtain ⟨a, L, p, rfl, z1, z2, z3, z4⟩ := hs
        rw [e1] at z1 z4
        rw [e2] at z4
        rw [e3] at z3
        rw [e4] at z2
        exact ⟨hv, rfl, rfl, hv, a, _, n, L, p, rfl, l.2, hb, n2, z1, hCS L z2, rg_mem.mp z3, h3, z4⟩
    have huT : ∀ p ∈ T, p.1 = P1 → p.2 = X.env.qual ++ "<lambda>" := fun p hp e => huT0 p hp e
    refine ⟨_, pss_cons (ps_set (i := 2) sc_all_stands.nd rfl (.inl rfl) (pc CP hr (pa_cons (pe_ix (ixT K) (pv 0) pe_int (fun _ _ => rfl)) pa_nil)))
      (pss_cons (ps_set (i := 3) sc_all_stands.nd rfl (.inl rfl) (pe_callC (X := X) (preS := preS) (fun g => ok_depths FunD B g) hP hr (by decide) rfl gD FunD.kp bD pass0 (pa_cons (pv 1) (pa_cons (pv 2)
        (pa_cons (pe_lam (T := T) (params := lamP lamA) (body := lamB lamA) (scope := lamS lamA) (pos := lamO lamA) TB rfl (by exact hmT) huT rfl hf) (pa_cons (pk c20) pa_nil))))))
      (pss_cons (ps_if (pt_cmpR op_gt (pe_callB (call_lenN (κ := kS n)) (by rfl) B.len PySem.boot_len (pa_cons (pv 3) pa_nil)) (pk c20) (nomark _)) (pss_one ps_no) pss_nil)
      (pss_one (ps_ret (pe_callTy (call_listN (κ := kS n) rfl) (by rfl) B.list (by decide +kernel) (pa_cons (pv 3) pa_nil)))))), ?_⟩
    obtain ⟨ah, xs, rfl, hS, hE⟩ := id hT
    have lx := hE.len
    obtain ⟨x0, hx0⟩ : ∃ x, xs[0]? = some x := ⟨_, List.getElem?_eq_getElem (by omega)⟩
    obtain ⟨h, hh, hTh⟩ := hE.at hx0
    refine ⟨_, rfl, ah, xs, 0, x0, rfl, rfl, hS, atI_nat (j := 0) hx0, x0, h, n, rfl, hTh, hb h (List.mem_of_getElem? hh), fun t ht => ?_⟩
    have s1 := same_new (o := .tup ((rg n).map V.int)) ht
    refine ⟨_, rfl, _, rfl, tabs_same hTb s1, fun f1 c1 H1 ex nn T1 nf e1 e2 => ?_⟩
    have ex0 : ExtN H H1 := (extN_same s1).trans ex
    have hT1 := hT.on (extN_tups (K := K) ex0)
    refine ⟨⟨f1, fun H' => liveL f1 (mk c1) H' ∧ THs K H' (.ref ah) hs, stS n hs, rg n, C, U, 0, fun _ => True, fun _ => true, kS n, N, by omega⟩, ⟨c1, rfl, e1, e2, rfl, rfl, rfl, rfl, rfl⟩, b, t, st, 20000, rfl, hk.on (extN_tk ex0), .inl (extN_tk ex _ _ (.inl upd_same)),
      fun H' sm => ⟨⟨sm _ _ e1, sm _ _ e2⟩, hT1.on (Same.tups sm)⟩, sy, hC, hN, fun H2 d k bs s2 eD kb el => ?_⟩
    have few : (fd (stS n hs) (rg n) st k).length ≤ 20000 := Nat.le_trans (sy.fd_few hC k) hN
    refine ⟨_, rfl, d, _, bs, rfl, eD, kb, _, 20000, rfl, rfl, _, rfl, ifF ?_ ?_⟩
    · rw [List.length_map]
      exact decide_eq_false (fun z => by
        have few : (fd (stS n hs) (rg n) st k).length ≤ 20000 := few
        have z : (((fd (stS n hs) (rg n) st k).length : Nat) : Int) > 20000 := z
        omega)
    refine ⟨_, rfl, d, _, bs, rfl, eD, fun l hl => ?_⟩
    have s3 := same_new (o := .lst (bs.map V.ref)) hl
    have s23 := s2.trans s3
    refine q _ l k bs (ex0.trans (extN_same s23)) (tabs_same T1 s23) upd_same ?_ el
    have := (kb.on (TK.same s3)).en
    rw [valD_fst] at this
    exact this
/-- the least word behind which a name stands at one place -/
theorem rg_up {n : Nat} : (rg n).Pairwise (· < ·) := by
  unfold rg
  rw [List.pairwise_map]
  exact List.pairwise_lt_range.imp fun h => by omega
def spMW (K : PySem.W.Frag) (T : List (Addr × Str)) : Sp := fun vs H Q _ => ∃ (hv : V) (b : Addr) (hs : List (List (List Int))) (n : Nat) (s : List Int) (x : Int) (C : List Int → Prop) (U : List (List Int)) (N : Nat), vs = [hv, .ref b, .int x] ∧ THs K H hv hs ∧ (∀ h ∈ hs, Hb n h) ∧ 2 ≤ n ∧ hs.length ≤ 3 ∧ 0 < hs.length ∧
  KS (kS n) H b s ∧ CS n hs.length s ∧ InR n x ∧ (∀ t, C t → t.length = hs.length ∧ ∀ y ∈ t, InR n y) ∧ Sys N (stP hs) (rg n) C U ∧ N ≤ 20000 ∧ C ((chk n s).map fun L => L.getD x.toNat 0) ∧ Tabs T H ∧
  (∀ (H' : Hp) (q : Addr) (wd : List Int), ExtN H H' → Tabs T H' → Lex1 (stP hs) (rg n) ((chk n s).map fun L => L.getD x.toNat 0) tog wd → H' q = some (.tup (wd.map V.int)) → wd.length ≤ N → Q (.ref q) H') ∧
  (∀ H' : Hp, ExtN H H' → Tabs T H' → (∀ v, (∀ p ∈ v, p ∈ rg n) → tog (rn (stP hs) ((chk n s).map fun L => L.getD x.toNat 0) v) = false) → Q .non H')
theorem ok_mword {c P1 : Addr} {T : List (Addr × Str)} (hmT : (P1, lamQ "meeting_word") ∈ T) (huT0 : ∀ p ∈ T, p.1 = P1 → p.2 = lamQ "meeting_word") (F : DfC K mg "meeting_word" st_meeting_word ["habits", "stand", "name"] c) (FD : Df K mg "least_word" st_least_word ["start", "touches", "step", "is_goal"])
    (FT_ : Df K mg "is_together" st_is_together ["places"]) (B : Bu mg) (TB : TabB base mg c P1) (CT : Cal P w K mg base 1 "traced" (spTraced P w kF)) (CP : Cal P w K mg base 1 "places_of_habit" (spPlacesOf K)) (CN : Cal P w K mg base 1 "places_of_name" spPON) : Cal P w K mg base 6 "meeting_word" (spMW K T) := by
  obtain ⟨fD, fdD, FunD, gD, bD⟩ := FD.ex
  refine mkCalK F sc_meeting_word (fun vs H Q E h => ?_) (fun f A outer s H vs Q E hr h => ?_)
  · obtain ⟨hv, b, hs, n, s, x, C, U, N, rfl, _⟩ := h
    rfl
  · obtain ⟨hv, b, hs, n, st, x, C, U, N, rfl, hT, hb, n2, h3, h0, hk, hCS, hx, hC, sy, hN, hC0, hTb, q1, q2⟩ := h
    have hC1 : ∀ t, C t → 0 < t.length ∧ t.length ≤ 1000 := fun t ht => by
      have := (hC t ht).1
      omega
    obtain ⟨fT, VT⟩ := calV FT_ (ok_tog (P := P) (w := w) (K := K) (base := base) FT_ B C hC1)
    have hfr : ∀ y ∈ (lamS lamM).names, y.2 = .free → (defScope st_meeting_word).names.lookup y.1 = some .cell ∨ (defScope st_meeting_word).names.lookup y.1 = some .free := by decide +kernel
    have hc2 : ∀ y ∈ (["habits"] : List Str), (y, NameKind.free) ∈ (lamS lamM).names := by decide +kernel
    have hfo : ∀ y ∈ (lamS lamM).names, y.2 = .free → y.1 ∈ (["habits"] : List Str) := by decide +kernel
    let X : Cx := (cxOf CX0 P w K mg base ["habits", "stand", "name"] "meeting_word" (defScope st_meeting_word) f (.ref c) A outer s H E).nox
    have hf : ∀ y ∈ (lamS lamM).names, y.2 = .free → X.env.scope.names.lookup y.1 = some .cell ∨ X.env.scope.names.lookup y.1 = some .free := hfr
    let mk : Addr → LF := fun c' => ⟨X.env.qual ++ "<lambda>", lamP lamM, lamB lamM, lamS lamM, cloFrom X.env.cells (lamS lamM).names [], c'⟩
    let preS : { g : GL // g.κ = kF } → L2.St → Hp → Prop := fun g σ H => ∃ (c1 : Addr), σ[0]? = some (some hv) ∧ H g.1.f = some (FnL g.1.f (mk c1)) ∧ H c1 = some (CodeO c1 (mk c1).qual) ∧ g.1.live = (fun H' => liveL g.1.f (mk c1) H' ∧ THs K H' hv hs) ∧ g.1.κ = kF ∧ g.1.st = stP hs ∧ g.1.ts = rg n ∧ g.1.C = C ∧ g.1.f2 = fT ∧ g.1.live2 = (fun _ => True) ∧ g.1.gp = tog
    have hP : ∀ (g : { g : GL // g.κ = kF }) (pins : List (Addr × Obj)) (σ : L2.St) (H : Hp) (s : Shared), Inv X pins σ H s → preS g σ H → preL P w K mg base g.1 X.stack s H := by
      rintro g pins σ H s I ⟨c1, h0', h3', h4, h7, e1, e2, e3, e4, e5, e6, e7⟩
      have C2 : CellsAt (mk c1).cl ["habits"] [some hv] s.heap H := by
        have := cells_of I (Caps.made (X := X) (fr := ["habits"]) (js := [0]) I.ok hf hc2 rfl)
        rw [show ([0].map (slotAt σ)) = [some hv] from by rw [List.map_cons, slotAt_of h0']; rfl] at this
        exact this
      have hcl : ∀ y c, (mk c1).cl.lookup y = some c → y ∈ (["habits"] : List Str) := fun y c e => (clo_free e).elim (fun z => hfo _ z rfl) fun z => by cases z
      have Fn := lokM (P := P) (w := w) (K := K) (mg := mg) (base := base) B (mk c1).cl hcl (mk c1).qual c1 g.1.f
      refine ⟨((callable_lam Fn C2 fun y c0 e => frs_free I (fun _ => rfl) (NdefX.clo_cm (fun y hy e => (hf y hy e).elim (fun z => I.ok.has _ (.inl z)) fun z => I.ok.has _ (.inr z)) e)).weak (by decide) fun _ _ _ _ h => h).imp (fun H' l => ?_) (fun vs H' Q E l hs => ?_), ?_⟩
      · rw [h7] at l
        exact l.1
      · rw [h7] at l
        obtain ⟨a, L, p, rfl, z1, z2, z3, z4⟩ := hs
        rw [e1] at z1 z4
        rw [e2] at z4
        rw [e3] at z3
        rw [e4] at z2
        obtain ⟨w1, w2⟩ := hC L z2
        exact ⟨hv, a, _, n, L, p, rfl, rfl, l.2, hb, z1, w1, w2, rg_mem.mp z3, h3, z4⟩
      · rw [e1, e4, e5, e6, e7]
        exact (VT.can _ _ _).weak (by decide) fun _ _ _ _ h => h
    have huT : ∀ p ∈ T, p.1 = P1 → p.2 = X.env.qual ++ "<lambda>" := fun p hp e => huT0 p hp e
    refine ⟨_, pss_one (ps_ret (pe_callC (X := X) (preS := preS) (fun g => ok_least FunD B g.1 (by rw [g.2]; exact CT)) hP hr (by decide) rfl gD FunD.kp bD pass0 (pa_cons (pc CN hr (pa_cons (pv 1) (pa_cons (pv 2) pa_nil))) (pa_cons (pc CP hr (pa_cons (pe_ix (ixT K) (pv 0) pe_int (fun _ _ => rfl)) pa_nil))
        (pa_cons (pe_lam (T := T) (params := lamP lamM) (body := lamB lamM) (scope := lamS lamM) (pos := lamO lamM) TB rfl (by exact hmT) huT rfl hf) (pa_cons (pe_glob rfl VT.glob (show RelV (.ref _) _ from rfl)) pa_nil)))))), ?_⟩
    obtain ⟨ah, xs, rfl, hS, hE⟩ := id hT
    have lx := hE.len
    obtain ⟨x0, hx0⟩ : ∃ x, xs[0]? = some x := ⟨_, List.getElem?_eq_getElem (by omega)⟩
    obtain ⟨h, hh, hTh⟩ := hE.at hx0
    refine ⟨_, rfl, _, rfl, b, chk n st, x, rfl, hk.rows, fun L hL => ?_, by rw [hCS.1]; exact h3, fun H1 t0 s1 e0 => ?_⟩
    · have := perm_len (hCS.2 L hL)
      exact ⟨hx.1, by rw [this]; exact hx.2⟩
    refine ⟨_, rfl, ah, xs, 0, x0, rfl, rfl, onT s1 hS, atI_nat (j := 0) hx0, x0, h, n, rfl, hTh.on (Same.tups s1), hb h (List.mem_of_getElem? hh), fun t ht => ?_⟩
    have s2 := same_new (o := .tup ((rg n).map V.int)) ht
    have s12 := s1.trans s2
    refine ⟨tabs_same hTb s12, fun f1 c1 H3 ex nn T1 nf e1 e2 => ?_⟩
    have ex0 : ExtN H H3 := (extN_same s12).trans ex
    have hT1 := hT.on (extN_tups (K := K) ex0)
    refine ⟨⟨⟨f1, fun H' => liveL f1 (mk c1) H' ∧ THs K H' (.ref ah) hs, stP hs, rg n, C, U, fT, fun _ => True, tog, kF, N, by omega⟩, rfl⟩, ⟨c1, rfl, e1, e2, rfl, rfl, rfl, rfl, rfl, rfl, rfl, rfl⟩, t0, t, _, rfl, ks_flat (extN_tk ex _ _ (TK.same s2 _ _ (.inl e0))), .inl (extN_tk ex _ _ (.inl upd_same)),
      fun H' sm => ⟨⟨sm _ _ e1, sm _ _ e2⟩, hT1.on (Same.tups sm)⟩, fun _ _ => trivial, sy, hC0, rg_up, fun H' q' wd sm hl e lw => ?_, fun H' sm hn => ?_⟩
    · exact q1 H' q' wd (ex0.trans (extN_same sm)) (tabs_same T1 sm) hl e lw
    · exact q2 H' (ex0.trans (extN_same sm)) (tabs_same T1 sm) hn
end
end RH
set_option Elab.async false
set_option linter.all false
set_option maxRecDepth 100000
set_option maxHeartbeats 2000000
namespace RH
open PySem PySem.Spec PyProof.Rows L2
/-! ### rows: where the checks refuse -/
section
variable {P : Program} {w : World} {K : PySem.W.Frag} {mg : Str → Option Value} {base : Heap} {C : Addr}
/-- some habits: how many, and of how many places -/
def HV (K : PySem.W.Frag) (H : Hp) (hv : V) (m n : Nat) : Prop := ∃ (a : Addr) (xs : List V) (a0 : Addr) (ys : List V), hv = .ref a ∧ SqT K H a xs ∧ xs.length = m ∧ xs[0]? = some (.ref a0) ∧ SqT K H a0 ys ∧ ys.length = n
theorem HV.on {H H' : Hp} {hv : V} {m n : Nat} (e : Same H H') (h : HV K H hv m n) : HV K H' hv m n := let ⟨a, xs, a0, ys, h1, h2, h3, h4, h5, h6⟩ := h; ⟨a, xs, a0, ys, h1, onT e h2, h3, h4, onT e h5, h6⟩
def mH (ho : Option (List HO1)) : Nat := (ho.getD []).length
def nH (ho : Option (List HO1)) : Nat := lenH ((ho.getD []).headD none)
theorem hs_view {H : Hp} {v : V} {ho : Option (List HO1)} (h : Hs K H v ho) (hb : hsBad ho = none) : HV K H v (mH ho) (nH ho) ∧ 1 ≤ mH ho ∧ mH ho ≤ 3 ∧ 2 ≤ nH ho ∧ nH ho ≤ 5 := by
  cases h with
  | no h => cases hb
  | @tup a xs hos hS hE =>
    unfold hsBad at hb
    dsimp only at hb
    split at hb
    · rename_i hc
      rw [Bool.and_eq_true, decide_eq_true_iff, decide_eq_true_iff] at hc
      have lx := hE.len
      obtain ⟨x0, hx0⟩ : ∃ x, xs[0]? = some x := ⟨_, List.getElem?_eq_getElem (by omega)⟩
      obtain ⟨h0, e0, k0⟩ := hE.at hx0
      have eh : hos.headD none = h0 := by
        cases hos with
        | nil => simp at e0
        | cons y ys => exact Option.some.inj e0
      have hf : hos.findIdx? (badI (lenH (hos.headD none))) = none := by simpa using hb
      have b0 := List.findIdx?_eq_none_iff.mp hf h0 (List.mem_of_getElem? e0)
      have w0 : habW h0 = true := by
        unfold badI at b0
        rw [Bool.or_eq_false_iff] at b0
        simpa using b0.1
      obtain ⟨a0, ys, rfl, hS0, l0⟩ := hk_tup k0 w0
      have en : nH (some hos) = lenH h0 := congrArg lenH eh
      refine ⟨⟨a, xs, a0, ys, rfl, hS, lx, hx0, hS0, by rw [en]; exact l0⟩, hc.1, hc.2, ?_⟩
      rw [en]
      cases h0 with
      | none => cases w0
      | some wos =>
        unfold habW at w0
        simp only [Bool.and_eq_true, decide_eq_true_iff] at w0
        exact w0.1
    · cases hb
/-- the index that BadStand tells -/
def stBad (n m : Nat) : HO1 → Option V
  | none => some .non
  | some wos => if wos.length = m then (wos.findIdx? fun wo => !layW n wo).map (fun i => V.int (i : Nat)) else some .non
theorem stBad_pl {n m : Nat} (m3 : m ≤ 3) {so : HO1} {pl : V} (h : stBad n m so = some pl) : plV pl := by
  cases so with
  | none => exact .inl (Option.some.inj h).symm
  | some wos =>
    unfold stBad at h
    dsimp only at h
    split at h
    · obtain ⟨i, hi, e⟩ := Option.map_eq_some_iff.mp h
      have := (List.findIdx?_eq_some_iff_getElem.mp hi).1
      exact .inr ⟨i, by omega, e.symm⟩
    · exact .inl (Option.some.inj h).symm
def spCheckStandX (K : PySem.W.Frag) (C : Addr) : Sp := fun vs H Q E => ∃ (v hv : V) (so : HO1) (m n : Nat), vs = [v, hv] ∧ Hk K H v so ∧ HV K H hv m n ∧ 1 ≤ m ∧ m ≤ 3 ∧ n ≤ 5 ∧ (stBad n m so = none → ∀ H', Same H H' → Q .non H') ∧ (∀ pl, stBad n m so = some pl → bhE C "index" pl H E)
theorem ok_check_standX (F : Df K mg "check_stand" st_check_stand ["stand", "habits"]) (B : Bu mg) (T : BhX P w K mg base "BadStand" "index" C (spBI "index" C))
    (C1 : Cal P w K mg base 1 "is_row" (spIsRowW K)) (C5 : Cal P w K mg base 5 "is_layout" (spIsLayoutW K)) : CalX P w K mg base 6 "check_stand" (spCheckStandX K C) := by
  refine mkCalX F sc_check_stand (fun vs H Q E h => ?_) (fun f cdv A outer s H vs Q E hr h => ?_)
  · obtain ⟨v, hv, so, m, n, rfl, _⟩ := h
    rfl
  · obtain ⟨v, hv, so, m, n, rfl, hk, hV, m1, m3, n5, q1, q2⟩ := h
    obtain ⟨fI, fdI, FI, iC, tI, bI⟩ := T.f
    refine ⟨_, pss_cons (ps_if (pt_not (pt_val (pc C1 hr (pa_cons (pv 0) (pa_cons (pe_callB (cl_len K) (by rfl) B.len PySem.boot_len (pa_cons (pv 1) pa_nil)) (pa_cons (pe_callB (cl_len K) (by rfl) B.len PySem.boot_len (pa_cons (pv 1) pa_nil)) pa_nil)))))) (pss_one (ps_raise rfl takesE (pmk_oex T.t iC tI FI (hr.mono (by decide)) bI .nil pass0 rfl T.g (pa_cons pe_non pa_nil)))) pss_nil)
      (pss_one (ps_for (passes_of rfl) rfl (pi_enumT (by rfl) B.enumerate (pa_cons (pv 0) pa_nil)) (pg_tup rfl (pgs_cons (pg_name (i := 2) sc_check_stand.nd rfl (.inl rfl)) (pgs_cons (pg_name (i := 3) sc_check_stand.nd rfl (.inl rfl)) pgs_nil)))
        (pss_one (ps_if (pt_not (pt_val (pc C5 hr (pa_cons (pv 3) (pa_cons (pe_callB (cl_len K) (by rfl) B.len PySem.boot_len (pa_cons (pe_ix (ixT K) (pv 1) pe_int (fun _ _ => rfl)) pa_nil)) pa_nil))))) (pss_one (ps_raise rfl takesE (pmk_oex T.t iC tI FI (hr.mono (by decide)) bI .nil pass0 rfl T.g (pa_cons (pv 2) pa_nil)))) pss_nil)))), ?_⟩
    obtain ⟨ah, hx, a0, ys, rfl, hS, lh, h0, hS0, l0⟩ := hV
    have none_ : ∀ {H1 : Hp}, Same H H1 → stBad n m so = some .non → ∀ d, H1 d = none → E (.ref C) (some d) (upd H1 d (.xd [("index", .non)])) := fun {H1} s1 e d hd => q2 _ e d _ (s1.trans (same_new hd)) upd_same
    cases hk with
    | @no v ht => exact ⟨_, rfl, _, rfl, ah, hx, rfl, .inr hS, _, rfl, ah, hx, rfl, .inr hS, v, none, (hx.length : Int), (hx.length : Int), rfl, ht, _, rfl, ifT rfl (bh_made (.inl rfl) (none_ (Same.refl H) rfl))⟩
    | @tup a xs wos hSx hE =>
      have hlen := hE.len
      refine ⟨_, rfl, _, rfl, ah, hx, rfl, .inr hS, _, rfl, ah, hx, rfl, .inr hS, .ref a, some xs, (hx.length : Int), (hx.length : Int), rfl, .tup hSx, _, rfl, ?_⟩
      by_cases hc : wos.length = m
      · refine ifF ?_ ?_
        · show (!(decide ((hx.length : Int) ≤ (xs.length : Int)) && decide ((xs.length : Int) ≤ (hx.length : Int)))) = false
          rw [decide_eq_true (by omega), decide_eq_true (by omega)]
          rfl
        refine ⟨_, rfl, a, xs, rfl, hSx, ?_⟩
        refine for_enumT (xs := xs) (fun i σ H' => Same H H' ∧ (∀ j wo, j < i → wos[j]? = some wo → layW n wo = true) ∧ ∃ y1 y2, σ = [some (.ref a), some (.ref ah), y1, y2]) ⟨Same.refl H, fun j wo hj => absurd hj (Nat.not_lt_zero _), none, none, rfl⟩ (fun i σ H' h' => onT h'.1 hSx) (fun i x T σ H' hx' h' hT => ?_) (fun σ H' h' => q1 ?_ H' h'.1)
        · obtain ⟨sm, old, y1, y2, rfl⟩ := h'
          obtain ⟨wo, hwo, hTx⟩ := hE.at hx'
          have sT : Same H (upd H' T (.tup [.int (i : Nat), x])) := sm.trans (same_new hT)
          refine ⟨T, _, rfl, tupAt upd_same, rfl, _, _, rfl, _, _, rfl, rfl, _, rfl, _, rfl, ah, hx, 0, .ref a0, rfl, rfl, onT sT hS, atI_nat (j := 0) h0, a0, ys, rfl, .inr (onT sT hS0), x, wo, n, by rw [l0]; rfl, hTx.on sT, by omega, fun H3 sm3 => ⟨_, rfl, ?_⟩⟩
          cases hl : layW n wo with
          | true =>
            refine ifF rfl ⟨sT.trans sm3, fun j wo' hj e => ?_, _, _, rfl⟩
            rcases Nat.lt_succ_iff_lt_or_eq.mp hj with hj | rfl
            · exact old j wo' hj e
            · rw [hwo] at e
              cases e
              exact hl
          | false =>
            refine ifT rfl ⟨_, rfl, ?_⟩
            have hi : i < wos.length := (List.getElem?_eq_some_iff.mp hwo).1
            have e : stBad n m (some wos) = some (.int (i : Nat)) := by
              unfold stBad
              dsimp only
              rw [if_pos hc]
              have : (wos.findIdx? fun wo => !layW n wo) = some i := by
                rw [List.findIdx?_eq_some_iff_getElem]
                refine ⟨hi, ?_, fun j hj => ?_⟩
                · rw [(List.getElem?_eq_some_iff.mp hwo).2, hl]
                  rfl
                · rw [old j _ hj (List.getElem?_eq_getElem _)]
                  decide
              rw [this]
              rfl
            exact bh_made (stBad_pl m3 e) fun d hd => q2 _ e d _ ((sT.trans sm3).trans (same_new hd)) upd_same
        · unfold stBad
          dsimp only
          rw [if_pos hc]
          have : (wos.findIdx? fun wo => !layW n wo) = none := by
            rw [List.findIdx?_eq_none_iff]
            intro wo hm
            obtain ⟨j, hj⟩ := List.mem_iff_getElem?.mp hm
            rw [h'.2.1 j wo (by rw [hlen]; exact (List.getElem?_eq_some_iff.mp hj).1) hj]
            rfl
          rw [this]
          rfl
      · refine ifT ?_ (bh_made (.inl rfl) (none_ (Same.refl H) ?_))
        · show (!(decide ((hx.length : Int) ≤ (xs.length : Int)) && decide ((xs.length : Int) ≤ (hx.length : Int)))) = true
          by_cases z : (hx.length : Int) ≤ (xs.length : Int)
          · rw [decide_eq_false (p := (xs.length : Int) ≤ (hx.length : Int)) (by omega), Bool.and_false]
            rfl
          · rw [decide_eq_false z, Bool.false_and]
            rfl
        · unfold stBad
          dsimp only
          rw [if_neg hc]
end
end RH
set_option Elab.async false
set_option linter.all false
set_option maxRecDepth 100000
set_option maxHeartbeats 2000000
namespace RH
open PySem PySem.Spec PyProof.Rows L2
open NdefX (NScope CellsAt Caps slotAt slotAt_of cells_of startF ncx)
open LamX (Tabs TabS TabB ExtN CodeO codeO_ne)
/-! ### rows: the functions where they refuse -/
section
variable {P : Program} {w : World} {K : PySem.W.Frag} {mg : Str → Option Value} {base : Heap} {Ch Cs Cn Cg Cw : Addr}
/-- the first two arguments: habits, a stand; what is wanted of the rest where they are fine -/
def RefHS (K : PySem.W.Frag) (Ch Cs : Addr) (hv sv : V) (H : Hp) (E : XK) (cont : Nat → Nat → Prop) : Prop :=
  ∃ ho, Hs K H hv ho ∧ ((∃ pl, hsBad ho = some pl ∧ bhE Ch "index" pl H E) ∨ (hsBad ho = none ∧ ∃ so, Hk K H sv so ∧ ((∃ pl, stBad (nH ho) (mH ho) so = some pl ∧ bhE Cs "index" pl H E) ∨ (stBad (nH ho) (mH ho) so = none ∧ cont (nH ho) (mH ho)))))
theorem Hs.on {H H' : Hp} (e : Same H H') {v : V} {ho : Option (List HO1)} (h : Hs K H v ho) : Hs K H' v ho := by
  cases h with
  | tup h hx => exact .tup (onT e h) (hx.imp fun v d z => z.on e)
  | no h => exact .no (h.on e)
/-- the two checks ahead, and what follows them -/
theorem two_checks {D : Ends} {E : XK} {hv sv : V} {σ : L2.St} {H : Hp} (h1 : σ[0]? = some (some hv)) (h2 : σ[1]? = some (some sv)) {cont : Nat → Nat → Prop} (R : RefHS K Ch Cs hv sv H E cont) {t : TS}
    (q : ∀ H2 m n, Same H H2 → HV K H2 hv m n → 1 ≤ m → m ≤ 3 → 2 ≤ n → n ≤ 5 → cont n m → t D σ H2) :
    tSeq (tDrop (tCall (spCheckHabitsX K Ch) [.int 3] E (tCons (tVar 0) tNil))) (tSeq (tDrop (tCall (spCheckStandX K Cs) [] E (tCons (tVar 1) (tCons (tVar 0) tNil)))) t) D σ H := by
  obtain ⟨ho, hk, R⟩ := R
  refine ⟨_, h1, hv, ho, rfl, hk, fun e H1 s1 => ?_, fun pl e => ?_⟩
  · obtain ⟨hV, m1, m3, n2, n5⟩ := hs_view hk e
    rcases R with ⟨pl, e2, _⟩ | ⟨_, so, hso, R⟩
    · rw [e] at e2
      cases e2
    · refine ⟨_, h2, _, h1, sv, hv, so, mH ho, nH ho, rfl, hso.on s1, hV.on s1, m1, m3, n5, fun e2 H2 s2 => ?_, fun pl e2 => ?_⟩
      · rcases R with ⟨pl, e3, _⟩ | ⟨_, c⟩
        · rw [e2] at e3
          cases e3
        · exact q H2 _ _ (s1.trans s2) ((hV.on s1).on s2) m1 m3 n2 n5 c
      · rcases R with ⟨pl', e3, hE⟩ | ⟨e3, _⟩
        · rw [e2] at e3
          cases e3
          exact hE.on s1
        · rw [e2] at e3
          cases e3
  · rcases R with ⟨pl', e2, hE⟩ | ⟨e2, _⟩
    · rw [e] at e2
      cases e2
      exact hE
    · rw [e] at e2
      cases e2
end
end RH
set_option Elab.async false
set_option linter.all false
set_option maxRecDepth 100000
set_option maxHeartbeats 2000000
set_option Elab.async false
set_option linter.all false
set_option maxRecDepth 100000
set_option maxHeartbeats 2000000
namespace RH
open PySem PySem.Spec PyProof.Rows L2
/-! ### the law's own touches -/
section
variable {P : Program} {w : World} {K : PySem.W.Frag} {mg : Str → Option Value} {base : Heap}
theorem ok_ltouch (F : Df K mg "_law_touch" st__law_touch ["habit", "layout", "place"]) (B : Bu mg) : Cal P w K mg base 1 "_law_touch" (spMove K) := by
  refine mkCal F sc__law_touch (fun vs H Q E h => ?_) (fun f cdv A outer s H vs Q E hr h => ?_)
  · obtain ⟨v, h, n, a, L, p, rfl, _⟩ := h
    rfl
  · obtain ⟨v, h, n, a, L, p, rfl, ⟨ah, xs, rfl, hS, hE⟩, hb, hL, hin, hlen, hp, q⟩ := h
    refine ⟨_, pss_one (ps_ret (pe_tupleF (by rfl) B.tuple (pe_lc (own := [("spot", 3)]) (g := gName 3) (tt := tYes) rfl sc__law_touch.nd (pi_tup (pv 1)) (blkOk_by (N := ["habit", "layout", "place", "spot"]) (sc := defScope st__law_touch) (by decide +kernel))
        (fun _ _ _ _ _ => pg_name (i := 3) sc__law_touch.nd rfl (Or.inl rfl)) (fun _ _ _ _ _ => pts_nil) (fun _ _ _ _ _ => pe_ix (ixT K) (pe_ix (ixT K) (pv 0) (pv 2) (fun _ _ => rfl)) (pv 3) (fun _ _ => rfl))))), ?_⟩
    refine ⟨_, rfl, a, rfl, ⟨_, hL⟩, fun D hD => ?_⟩
    refine lc_tup (xs := L.map V.int) (fun i H' => Same H H' ∧ H' D = some (.lst (((L.take i).map (mv h p)).map V.int))) ⟨same_new hD, upd_same⟩ (fun i H' _ h' => onT h'.1 hL) (fun i x H' hx h' => ?_) (fun H' h' => ?_)
    · obtain ⟨st, hst, rfl⟩ := map_at hx
      obtain ⟨sm, eD⟩ := h'
      obtain ⟨a2, ns2, e2, s2, e3⟩ := ix2 hE hb hp (hin st (List.mem_of_getElem? hst))
      refine ⟨rfl, _, rfl, _, rfl, ah, xs, p, _, rfl, rfl, onT sm hS, e2, _, rfl, a2, _, st, _, rfl, rfl, onT sm s2, e3, _, eD, ?_, ?_, ?_⟩
      · rw [List.length_map, List.length_map, List.length_take]
        exact small1000 (by omega)
      · exact sameU sm hD
      · rw [upd_same, take_more hst, List.map_append, List.map_append]
        rfl
    · obtain ⟨sm, eD⟩ := h'
      rw [List.length_map, List.take_length] at eD
      exact ⟨D, _, rfl, lstAt eD, fun t ob ht hob => q _ t (sm.trans (same_new ht)) (none_of sm ht) ⟨ob, upd_same, hob⟩⟩
end
end RH
set_option Elab.async false
set_option linter.all false
set_option maxRecDepth 100000
set_option maxHeartbeats 2000000
namespace RH
open PySem PySem.Spec PyProof.Rows L2
/-! ### instructions, and what a machine does -/
inductive Ins where
  | say | ask | stop
  | put (c : Int) | zero (t : Nat) | go (t : Nat)
  | get (k : Nat) | set (k : Nat) | plus (k : Nat) | minus (k : Nat) | touch (k : Nat)
deriving DecidableEq
def Ins.word : Ins → Str
  | .say => "say" | .ask => "ask" | .stop => "stop" | .put _ => "put" | .zero _ => "zero" | .go _ => "go"
  | .get _ => "get" | .set _ => "set" | .plus _ => "plus" | .minus _ => "minus" | .touch _ => "touch"
def Ins.num : Ins → List Int
  | .say => [] | .ask => [] | .stop => [] | .put c => [c] | .zero t => [(t : Int)] | .go t => [(t : Int)]
  | .get k => [(k : Int)] | .set k => [(k : Int)] | .plus k => [(k : Int)] | .minus k => [(k : Int)] | .touch k => [(k : Int)]
def RIns (K : PySem.W.Frag) (H : Hp) (v : V) (i : Ins) : Prop := ∃ a, v = .ref a ∧ SqT K H a (.str i.word :: i.num.map V.int)
def RPg (K : PySem.W.Frag) (H : Hp) (v : V) (pg : List Ins) : Prop := ∃ a xs, v = .ref a ∧ SqT K H a xs ∧ Each (RIns K H) xs pg
/-- an instruction of so many places and instructions -/
def okIns (n cnt : Nat) : Ins → Prop
  | .zero t => t ≤ cnt
  | .go t => t ≤ cnt
  | .get k => k < n | .set k => k < n | .plus k => k < n | .minus k => k < n | .touch k => k < n
  | _ => True
/-- the books are moved -/
def bm (m held : List Int) : List Int := (List.range m.length).foldl (fun c i => c.set (m.getD i 0).toNat (held.getD i 0)) held
/-- an instruction's data -/
def Ins.data (i : Ins) : PyData := .tuple (.str i.word :: i.num.map PyData.int)
theorem word_ok (i : Ins) : PyData.strOk i.word = true := by
  have w : ∀ z ∈ (["say", "ask", "stop", "put", "zero", "go", "get", "set", "plus", "minus", "touch"] : List Str), PyData.strOk z = true := by decide +kernel
  cases i <;> exact w _ (by simp [Ins.word])
theorem Ins.shaped (i : Ins) : SeqAt.shaped i.data = true := by
  have h := word_ok i
  cases i <;> (unfold Ins.data; simp [Ins.num, SeqAt.shaped, PyData.canLay0, PyData.canLayAll0, PyData.depth, PyData.depthAll]; exact h)
theorem RIns.on {K : PySem.W.Frag} {H H' : Hp} (e : Tups K H H') {v : V} {i : Ins} (r : RIns K H v i) : RIns K H' v i := by
  obtain ⟨a, rfl, hS⟩ := r
  exact ⟨a, rfl, e _ _ hS⟩
theorem RPg.on {K : PySem.W.Frag} {H H' : Hp} (e : Tups K H H') {v : V} {pg : List Ins} (r : RPg K H v pg) : RPg K H' v pg := by
  obtain ⟨a, xs, rfl, hS, hE⟩ := r
  exact ⟨a, xs, rfl, e _ _ hS, hE.imp fun _ _ z => z.on e⟩
end RH
set_option Elab.async false
set_option linter.all false
set_option maxRecDepth 100000
set_option maxHeartbeats 2000000
namespace RH
open PySem PySem.Spec PyProof.Rows L2
/-! ### indexes that may come behind one -/
/-- the two, rising, each once -/
def two (a b : Nat) : List Nat := if a = b then [a] else if a < b then [a, b] else [b, a]
/-- two lists that rise and hold the same are the same -/
theorem up_eq : ∀ {xs ys : List Int}, xs.Pairwise (· < ·) → ys.Pairwise (· < ·) → (∀ k, k ∈ xs ↔ k ∈ ys) → xs = ys
  | [], [], _, _, _ => rfl
  | [], y :: ys, _, _, h => absurd ((h y).mpr List.mem_cons_self) List.not_mem_nil
  | x :: xs, [], _, _, h => absurd ((h x).mp List.mem_cons_self) List.not_mem_nil
  | x :: xs, y :: ys, hx, hy, h => by
    have hx := List.pairwise_cons.mp hx
    have hy := List.pairwise_cons.mp hy
    have e : x = y := by
      rcases List.mem_cons.mp ((h x).mp List.mem_cons_self) with e | m1
      · exact e
      · rcases List.mem_cons.mp ((h y).mpr List.mem_cons_self) with e | m2
        · exact e.symm
        · have := hx.1 _ m2
          have := hy.1 _ m1
          omega
    subst e
    rw [up_eq hx.2 hy.2 fun k => ?_]
    constructor
    · intro m
      rcases List.mem_cons.mp ((h k).mp (List.mem_cons_of_mem _ m)) with e | m'
      · subst e
        exact absurd (hx.1 _ m) (Int.lt_irrefl _)
      · exact m'
    · intro m
      rcases List.mem_cons.mp ((h k).mpr (List.mem_cons_of_mem _ m)) with e | m'
      · subst e
        exact absurd (hy.1 _ m) (Int.lt_irrefl _)
      · exact m'
/-- ints of indexes -/
def nI (l : List Nat) : List Int := l.map fun i : Nat => (i : Int)
theorem nI_up {l : List Nat} (h : l.Pairwise (· < ·)) : (nI l).Pairwise (· < ·) := by
  unfold nI
  rw [List.pairwise_map]
  exact h.imp fun r => by omega
theorem nI_mem {l : List Nat} {i : Nat} : (i : Int) ∈ nI l ↔ i ∈ l := by
  unfold nI
  rw [List.mem_map]
  exact ⟨fun ⟨j, m, e⟩ => (by omega : j = i) ▸ m, fun m => ⟨i, m, rfl⟩⟩
theorem nI_of {l : List Nat} {k : Int} (h : k ∈ nI l) : ∃ i, i ∈ l ∧ k = (i : Int) := by
  unfold nI at h
  obtain ⟨i, m, e⟩ := List.mem_map.mp h
  exact ⟨i, m, e.symm⟩
def nextsM (pg : List Ins) (p : Nat) : List Nat := match pg[p]? with
  | some .stop => []
  | some (.go t) => [t]
  | some (.zero t) => two (p + 1) t
  | _ => [p + 1]
end RH
set_option Elab.async false
set_option linter.all false
set_option maxRecDepth 100000
set_option maxHeartbeats 2000000
namespace RH
open PySem PySem.Spec PyProof.Rows L2
/-! ### the indexes that are reached -/
def goalM (n : Nat) (s : List Nat × List Nat) (g : Nat) : List Nat × List Nat := if g < n ∧ g ∉ s.1 then (s.1 ++ [g], s.2 ++ [g]) else s
def atM (pg : List Ins) (s : List Nat × List Nat) (p : Nat) : List Nat × List Nat := (nextsM pg p).foldl (goalM pg.length) s
def levelM (pg : List Ins) (s : List Nat × List Nat) : List Nat × List Nat := s.2.foldl (atM pg) (s.1, [])
def itM (pg : List Ins) : Nat → List Nat × List Nat
  | 0 => ([0], [0])
  | k + 1 => levelM pg (itM pg k)
structure GdM (n b : Nat) (s : List Nat × List Nat) : Prop where
  nd : s.1.Nodup
  lt : ∀ g ∈ s.1, g < n
  sub : ∀ g ∈ s.2, g ∈ s.1
  len : s.1.length = b + s.2.length
theorem ndl {α : Type} [DecidableEq α] : ∀ {l m : List α}, l.Nodup → (∀ x ∈ l, x ∈ m) → l.length ≤ m.length
  | [], _, _, _ => Nat.zero_le _
  | a :: l, m, nd, hs => by
    rw [List.nodup_cons] at nd
    have ha := hs a (List.mem_cons_self ..)
    have := ndl (l := l) (m := m.erase a) nd.2 fun x hx => (List.mem_erase_of_ne (fun e => nd.1 (by rw [← e]; exact hx))).mpr (hs x (List.mem_cons_of_mem _ hx))
    rw [List.length_erase_of_mem ha] at this
    have hm := List.length_pos_of_mem ha
    rw [List.length_cons]
    omega
theorem GdM.few {n b : Nat} {s : List Nat × List Nat} (h : GdM n b s) : s.1.length ≤ n := by
  have := ndl h.nd (m := List.range n) fun x hx => List.mem_range.mpr (h.lt x hx)
  rwa [List.length_range] at this
theorem GdM.goal {n b : Nat} {s : List Nat × List Nat} (h : GdM n b s) (g : Nat) : GdM n b (goalM n s g) := by
  unfold goalM
  split
  · rename_i c
    refine ⟨?_, fun x hx => ?_, fun x hx => ?_, ?_⟩
    · rw [List.nodup_append]
      exact ⟨h.nd, List.nodup_cons.mpr ⟨List.not_mem_nil, List.nodup_nil⟩, fun a ha b hb e => c.2 (List.mem_singleton.mp hb ▸ e ▸ ha)⟩
    · rcases List.mem_append.mp hx with m | m
      · exact h.lt x m
      · rw [List.mem_singleton.mp m]
        exact c.1
    · rcases List.mem_append.mp hx with m | m
      · exact List.mem_append_left _ (h.sub x m)
      · exact List.mem_append_right _ m
    · show (s.1 ++ [g]).length = b + (s.2 ++ [g]).length
      rw [List.length_append, List.length_append, h.len]
      simp only [List.length_singleton]
      omega
  · exact h
theorem GdM.goals {n b : Nat} : ∀ (gs : List Nat) {s : List Nat × List Nat}, GdM n b s → GdM n b (gs.foldl (goalM n) s)
  | [], _, h => h
  | g :: gs, _, h => GdM.goals gs (h.goal g)
theorem GdM.ats {pg : List Ins} {b : Nat} : ∀ (ps : List Nat) {s : List Nat × List Nat}, GdM pg.length b s → GdM pg.length b (ps.foldl (atM pg) s)
  | [], _, h => h
  | p :: ps, _, h => GdM.ats ps (GdM.goals (nextsM pg p) h)
theorem GdM.zero {n b : Nat} {s : List Nat × List Nat} (h : GdM n b s) : GdM n s.1.length (s.1, []) := ⟨h.nd, h.lt, fun _ z => absurd z List.not_mem_nil, rfl⟩
theorem it_ok {pg : List Ins} (h : 0 < pg.length) : ∀ k, ∃ b, GdM pg.length b (itM pg k)
  | 0 => ⟨0, List.nodup_cons.mpr ⟨List.not_mem_nil, List.nodup_nil⟩, fun g m => by rw [List.mem_singleton.mp m]; exact h, fun _ m => m, rfl⟩
  | k + 1 => by
    obtain ⟨b, F⟩ := it_ok h k
    exact ⟨_, GdM.ats _ F.zero⟩
theorem it_stop {pg : List Ins} {k : Nat} (e : (itM pg k).2 = []) : ∀ j, itM pg (k + j) = itM pg k
  | 0 => rfl
  | j + 1 => by
    show levelM pg (itM pg (k + j)) = _
    rw [it_stop e j]
    unfold levelM
    rw [e]
    show ((itM pg k).1, []) = itM pg k
    rw [← e]
theorem it_same {pg : List Ins} {k j : Nat} (e : (itM pg k).2 = []) (e2 : (itM pg j).2 = []) : (itM pg k).1 = (itM pg j).1 := by
  rcases Nat.le_total k j with h | h
  · obtain ⟨d, rfl⟩ := Nat.exists_eq_add_of_le h
    rw [it_stop e d]
  · obtain ⟨d, rfl⟩ := Nat.exists_eq_add_of_le h
    rw [it_stop e2 d]
/-- a dict of indexes -/
def dI (l : List Nat) : List (L2.Key × V) := l.map fun g : Nat => (.inl (g : Int), .bl true)
section
variable {P : Program} {w : World} {K : PySem.W.Frag} {mg : Str → Option Value} {base : Heap}
/-- a still program that is walked -/
structure WkP (K : PySem.W.Frag) (H : Hp) (v : V) (pg : List Ins) : Prop where
  rp : RPg K H v pg
  pos : 0 < pg.length
  few : pg.length ≤ 30
  ok : ∀ i ∈ pg, okIns 1000 pg.length i
theorem WkP.on {H H' : Hp} {v : V} {pg : List Ins} (s : Same H H') (h : WkP K H v pg) : WkP K H' v pg := ⟨h.rp.on (Same.tups s), h.pos, h.few, h.ok⟩
/-- within a level -/
structure LvM (H : Hp) (d l u : Addr) (lev : List Nat) (s : List Nat × List Nat) (H' : Hp) : Prop where
  sm : Same H H'
  ed : H' d = some (.dK (dI s.1))
  el : H' l = some (.lst ((nI lev).map V.int))
  eu : H' u = some (.lst ((nI s.2).map V.int))
theorem LvM.same {H H1 H2 : Hp} {d l u : Addr} {lev : List Nat} {s : List Nat × List Nat} (h : LvM H d l u lev s H1) (e : Same H1 H2) : LvM H d l u lev s H2 := ⟨h.sm.trans e, e _ _ h.ed, e _ _ h.el, e _ _ h.eu⟩
end
end RH
set_option Elab.async false
set_option linter.all false
set_option maxRecDepth 100000
set_option maxHeartbeats 2000000
set_option Elab.async false
set_option linter.all false
set_option maxRecDepth 100000
set_option maxHeartbeats 2000000
namespace RH
open PySem PySem.Spec PyProof.Rows L2
/-! ### is_access, reached_of, names_used -/
/-- the indexes that are reached, rising -/
def RcM (pg : List Ins) (rs : List Nat) : Prop := ∃ k, (itM pg k).2 = [] ∧ rs.Perm (itM pg k).1 ∧ rs.Pairwise (· < ·)
theorem up_eqN {xs ys : List Nat} (hx : xs.Pairwise (· < ·)) (hy : ys.Pairwise (· < ·)) (h : ∀ k, k ∈ xs ↔ k ∈ ys) : xs = ys := by
  have e : nI xs = nI ys := up_eq (nI_up hx) (nI_up hy) fun k => by
    constructor
    · intro m
      obtain ⟨i, m2, rfl⟩ := nI_of m
      exact nI_mem.mpr ((h i).mp m2)
    · intro m
      obtain ⟨i, m2, rfl⟩ := nI_of m
      exact nI_mem.mpr ((h i).mpr m2)
  unfold nI at e
  exact List.map_inj_right (fun a b z => by omega) |>.mp e
theorem RcM.same {pg : List Ins} {rs ss : List Nat} (h1 : RcM pg rs) (h2 : RcM pg ss) : rs = ss := by
  obtain ⟨k, e, p, u⟩ := h1
  obtain ⟨k2, e2, p2, u2⟩ := h2
  refine up_eqN u u2 fun x => ?_
  rw [p.mem_iff, p2.mem_iff, it_same e e2]
theorem RcM.lt {pg : List Ins} {rs : List Nat} (h : RcM pg rs) (pos : 0 < pg.length) : ∀ p ∈ rs, p < pg.length := fun p m => by
  obtain ⟨k, _, q, _⟩ := h
  obtain ⟨b, F⟩ := it_ok pos k
  exact F.lt p (q.mem_iff.mp m)
theorem RcM.few {pg : List Ins} {rs : List Nat} (h : RcM pg rs) (pos : 0 < pg.length) : rs.length ≤ pg.length := by
  obtain ⟨k, _, q, _⟩ := h
  obtain ⟨b, F⟩ := it_ok pos k
  rw [q.length_eq]
  exact F.few
end RH
set_option Elab.async false
set_option linter.all false
set_option maxRecDepth 100000
set_option maxHeartbeats 2000000
namespace RH
open PySem PySem.Spec PyProof.Rows L2
open NdefX (NScope CellsAt Caps slotAt slotAt_of cells_of startF ncx)
open LamX (Tabs TabS TabB ExtN CodeO codeO_ne)
/-! ### stands: the functions where they answer -/
theorem extN_upd2 {H H' : Hp} {p : Addr} {o : HO} (e : ExtN H H') (h : H p = none) : ExtN H (upd H' p o) := fun b u q n => by
  rw [upd_ne (ne_of_none q h)]
  exact e b u q n
/-- the places of a name on a stand -/
def atN (n : Nat) (s : List Int) (x : Int) : List Int := (chk n s).map fun L => L.getD x.toNat 0
/-- the search for a name's meeting is a search of few states -/
def MWok (n : Nat) (hs : List (List (List Int))) (s : List Int) (x : Int) : Prop := ∃ (C : List Int → Prop) (U : List (List Int)) (N : Nat), (∀ t, C t → t.length = hs.length ∧ ∀ y ∈ t, InR n y) ∧ Sys N (stP hs) (rg n) C U ∧ N ≤ 20000 ∧ C (atN n s x)
/-- so is that for stands -/
def STok (n : Nat) (hs : List (List (List Int))) (s : List Int) : Prop := ∃ (C : List Int → Prop) (U : List (List Int)) (N : Nat), (∀ t, C t → CS n hs.length t) ∧ Sys N (stS n hs) (rg n) C U ∧ N ≤ 20000 ∧ C s
/-- habits, a stand -/
structure SH (K : PySem.W.Frag) (H : Hp) (hv : V) (b : Addr) (hs : List (List (List Int))) (n : Nat) (s : List Int) : Prop where
  t : THs K H hv hs
  hb : ∀ h ∈ hs, Hb n h
  n2 : 2 ≤ n
  n5 : n ≤ 5
  m3 : hs.length ≤ 3
  m0 : 0 < hs.length
  k : KS (kS n) H b s
  c : CS n hs.length s
section
variable {P : Program} {w : World} {K : PySem.W.Frag} {mg : Str → Option Value} {base : Heap} {Ch Cs : Addr}
theorem SH.ext {H H' : Hp} {hv : V} {b : Addr} {hs : List (List (List Int))} {n : Nat} {s : List Int} (e : ExtN H H') (h : SH K H hv b hs n s) : SH K H' hv b hs n s := ⟨h.t.on (extN_tups e), h.hb, h.n2, h.n5, h.m3, h.m0, h.k.on (extN_tk e), h.c⟩
theorem SH.same {H H' : Hp} {hv : V} {b : Addr} {hs : List (List (List Int))} {n : Nat} {s : List Int} (e : Same H H') (h : SH K H hv b hs n s) : SH K H' hv b hs n s := h.ext (extN_same e)
/-- which names meet: f says -/
def Meets (n : Nat) (hs : List (List (List Int))) (s : List Int) (f : Int → Bool) : Prop := ∀ x ∈ rg n, f x = true ↔ ∃ v : List Int, (∀ p ∈ v, p ∈ rg n) ∧ tog (rn (stP hs) (atN n s x) v) = true
def spNTM (K : PySem.W.Frag) (T : List (Addr × Str)) : Sp := fun vs H Q _ => ∃ (hv : V) (b : Addr) (hs : List (List (List Int))) (n : Nat) (s : List Int) (f : Int → Bool), vs = [hv, .ref b] ∧ SH K H hv b hs n s ∧ (∀ x ∈ rg n, MWok n hs s x) ∧ Meets n hs s f ∧ Tabs T H ∧
  ∀ H' q, ExtN H H' → Tabs T H' → H' q = some (.tup (((rg n).filter f).map V.int)) → Q (.ref q) H'
theorem ok_ntm {T : List (Addr × Str)} (F : Df K mg "names_that_meet" st_names_that_meet ["habits", "stand"]) (B : Bu mg) (CP : Cal P w K mg base 1 "places_of_habit" (spPlacesOf K)) (CM : Cal P w K mg base 6 "meeting_word" (spMW K T)) : Cal P w K mg base 7 "names_that_meet" (spNTM K T) := by
  refine mkCal F sc_names_that_meet (fun vs H Q E h => ?_) (fun g cdv A outer s H vs Q E hr h => ?_)
  · obtain ⟨hv, b, hs, n, s, f, rfl, _⟩ := h
    rfl
  · obtain ⟨hv, b, hs, n, st, f, rfl, S, hM, hf, hTb, q⟩ := h
    refine ⟨_, pss_cons (ps_set (i := 2) sc_names_that_meet.nd rfl (.inl rfl) (pc CP hr (pa_cons (pe_ix (ixT K) (pv 0) pe_int (fun _ _ => rfl)) pa_nil)))
      (pss_one (ps_ret (pe_tupleOf (by rfl) B.tuple (pe_lc (own := [("name", 3)]) (g := gName 3) rfl sc_names_that_meet.nd (pi_tup (pv 2)) (blkOk_by (N := ["habits", "stand", "names", "name"]) (sc := defScope st_names_that_meet) (by decide +kernel))
        (fun _ _ _ _ _ => pg_name (i := 3) sc_names_that_meet.nd rfl (Or.inl rfl)) (fun _ _ _ _ _ => pts_one (pt_cmpR op_notN (pc CM hr (pa_cons (pv 0) (pa_cons (pv 1) (pa_cons (pv 3) pa_nil)))) pe_non (nomark _))) (fun _ _ _ _ _ => pv 3))))), ?_⟩
    obtain ⟨ah, xs, rfl, hS, hE⟩ := id S.t
    have lx := hE.len
    have m0 := S.m0
    have n5 := S.n5
    obtain ⟨x0, hx0⟩ : ∃ x, xs[0]? = some x := ⟨_, List.getElem?_eq_getElem (by omega)⟩
    obtain ⟨h, hh, hTh⟩ := hE.at hx0
    refine ⟨_, rfl, ah, xs, 0, x0, rfl, rfl, hS, atI_nat (j := 0) hx0, x0, h, n, rfl, hTh, S.hb h (List.mem_of_getElem? hh), fun t ht => ?_⟩
    have s1 := same_new (o := .tup ((rg n).map V.int)) ht
    have T1 := tabs_same hTb s1
    refine ⟨_, rfl, t, rfl, ⟨_, tupAt upd_same⟩, fun D hD => ?_⟩
    generalize eH1 : upd H t (.tup ((rg n).map V.int)) = H1 at *
    have et : SqT K H1 t ((rg n).map V.int) := by rw [← eH1]; exact tupAt upd_same
    refine lc_tup (xs := (rg n).map V.int) (fun i H' => ExtN H1 H' ∧ Tabs T H' ∧ H' D = some (.lst ((((rg n).take i).filter f).map V.int))) ⟨extN_same (same_new hD), tabs_same T1 (same_new hD), upd_same⟩ (fun i H' _ h' => extN_tups h'.1 _ _ et) (fun i v H' hv h' => ?_) (fun H' h' => ?_)
    · obtain ⟨x, hx, rfl⟩ := map_at hv
      obtain ⟨ex, T2, eD⟩ := h'
      have xin := List.mem_of_getElem? hx
      obtain ⟨C, U, N, c1, c2, c3, c4⟩ := hM x xin
      have S2 := S.ext ((extN_same s1).trans ex)
      have nx : (rg n).take (i + 1) = (rg n).take i ++ [x] := by rw [List.take_add_one, hx]; rfl
      refine ⟨rfl, _, rfl, _, rfl, _, rfl, _, b, hs, n, st, x, C, U, N, rfl, S2.t, S.hb, S.n2, S.m3, S.m0, S2.k, S.c, rg_mem.mp xin, c1, c2, c3, c4, T2, fun H3 q' wd ex3 T3 hl e _ => ?_, fun H3 ex3 T3 hn => ?_⟩
      · have fx : f x = true := (hf x xin).mpr ⟨wd, hl.s.wd, hl.s.at_⟩
        have eD3 := ex3 _ _ eD (fun ps z => nomatch z)
        refine ⟨rfl, _, rfl, ifT (by rfl) ?_⟩
        refine ⟨_, rfl, _, eD3, ?_, ?_, ?_, ?_⟩
        · rw [List.length_map]
          refine Nat.lt_of_le_of_lt (List.length_filter_le ..) ?_
          rw [List.length_take, rg_len]
          exact small1000 (by omega)
        · exact extN_upd2 (ex.trans ex3) hD
        · exact tabs_lst T3 eD3
        · rw [upd_same, nx, List.filter_append, List.filter_cons_of_pos fx, List.map_append]
          rfl
      · have fx : ¬ f x = true := fun z => by
          obtain ⟨v, h1, h2⟩ := (hf x xin).mp z
          have h3 : tog (rn (stP hs) (atN n st x) v) = false := hn v h1
          rw [h3] at h2
          cases h2
        refine ⟨rfl, _, rfl, ifF (by rfl) ⟨ex.trans ex3, T3, ?_⟩⟩
        rw [nx, List.filter_append, List.filter_cons_of_neg fx, List.filter_nil, List.append_nil]
        exact ex3 _ _ eD (fun ps z => nomatch z)
    · obtain ⟨ex, T2, eD⟩ := h'
      rw [List.length_map, List.take_length] at eD
      refine .inl ⟨D, _, rfl, lstAt eD, fun t' ht' => ?_⟩
      have s3 := same_new (o := .tup (((rg n).filter f).map V.int)) ht'
      exact q _ t' (((extN_same s1).trans ex).trans (extN_same s3)) (tabs_same T2 s3) upd_same
def spCkSt (K : PySem.W.Frag) (T : List (Addr × Str)) : Sp := fun vs H Q _ => ∃ (hv : V) (b : Addr) (hs : List (List (List Int))) (n : Nat) (s : List Int), vs = [hv, .ref b] ∧ SH K H hv b hs n s ∧ STok n hs s ∧ Tabs T H ∧ ∀ H', ExtN H H' → Tabs T H' → Q .non H'
theorem ok_ckst {T : List (Addr × Str)} (F : Df K mg "check_stands" st_check_stands ["habits", "stand"]) (CA : Cal P w K mg base 6 "all_stands" (spAll K T)) : Cal P w K mg base 7 "check_stands" (spCkSt K T) := by
  refine mkCal F sc_check_stands (fun vs H Q E h => ?_) (fun g cdv A outer s H vs Q E hr h => ?_)
  · obtain ⟨hv, b, hs, n, s, rfl, _⟩ := h
    rfl
  · obtain ⟨hv, b, hs, n, st, rfl, S, ⟨C, U, N, c1, c2, c3, c4⟩, hTb, q⟩ := h
    exact ⟨_, pss_one (ps_expr (pc CA hr (pa_cons (pv 0) (pa_cons (pv 1) pa_nil)))), _, rfl, _, rfl, hv, b, hs, n, st, C, U, N, rfl, S.t, S.hb, S.n2, S.m3, S.m0, S.k, c1, c2, c3, c4, hTb, fun H' l k bs ex T' _ _ _ => q H' ex T'⟩
/-- names_met: refused, or told -/
def spNMX (K : PySem.W.Frag) (T : List (Addr × Str)) (Ch Cs : Addr) : Sp := fun vs H Q E => ∃ hv sv, vs = [hv, sv] ∧ RefHS K Ch Cs hv sv H E fun _ _ => ∃ (b : Addr) (hs : List (List (List Int))) (n : Nat) (s : List Int) (f : Int → Bool), sv = .ref b ∧ SH K H hv b hs n s ∧ STok n hs s ∧ (∀ x ∈ rg n, MWok n hs s x) ∧ Meets n hs s f ∧ Tabs T H ∧
  ∀ H' q, ExtN H H' → Tabs T H' → H' q = some (.tup (((rg n).filter f).map V.int)) → Q (.ref q) H'
theorem ok_names_metX {T : List (Addr × Str)} (F : Df K mg "names_met" st_names_met ["habits", "stand"]) (CH : CalXD P w K mg base 7 "check_habits" [.int 3] (spCheckHabitsX K Ch)) (CS_ : CalX P w K mg base 6 "check_stand" (spCheckStandX K Cs)) (CK : Cal P w K mg base 7 "check_stands" (spCkSt K T)) (CN : Cal P w K mg base 7 "names_that_meet" (spNTM K T)) :
    CalX P w K mg base 8 "names_met" (spNMX K T Ch Cs) := by
  refine mkCalX F sc_names_met (fun vs H Q E h => ?_) (fun f cdv A outer s H vs Q E hr h => ?_)
  · obtain ⟨v, sv, rfl, _⟩ := h
    rfl
  · obtain ⟨v, sv, rfl, R⟩ := h
    refine ⟨_, pss_cons (ps_expr (pcXD CH passE hr (pa_cons (pv 0) pa_nil))) (pss_cons (ps_expr (pcX CS_ passE hr (pa_cons (pv 1) (pa_cons (pv 0) pa_nil)))) (pss_cons (ps_expr (pc CK hr (pa_cons (pv 0) (pa_cons (pv 1) pa_nil)))) (pss_one (ps_ret (pc CN hr (pa_cons (pv 0) (pa_cons (pv 1) pa_nil))))))), ?_⟩
    refine two_checks rfl rfl R fun H2 m n' s2 hV m1 m3 n2 n5 c => ?_
    obtain ⟨b, hs, n, st, g, rfl, S, h1, h2, h3, hTb, q⟩ := c
    refine ⟨_, rfl, _, rfl, v, b, hs, n, st, rfl, S.same s2, h1, tabs_same hTb s2, fun H3 ex T3 => ?_⟩
    exact ⟨_, rfl, _, rfl, v, b, hs, n, st, g, rfl, (S.same s2).ext ex, h2, h3, T3, fun H' q' ex' T' e => q H' q' (((extN_same s2).trans ex).trans ex') T' e⟩
end
end RH
set_option Elab.async false
set_option linter.all false
set_option maxRecDepth 100000
set_option maxHeartbeats 2000000
namespace RH
open PySem PySem.Spec PyProof.Rows L2
/-! ### few stands -/
def insE (a : Int) : List Int → List (List Int)
  | [] => [[a]]
  | b :: l => (a :: b :: l) :: (insE a l).map (b :: ·)
def prm : List Int → List (List Int)
  | [] => [[]]
  | a :: l => (prm l).flatMap (insE a)
theorem insE_perm {a : Int} : ∀ {l s : List Int}, s ∈ insE a l → s.Perm (a :: l)
  | [], s, h => by
    rw [List.mem_singleton.mp h]
  | b :: l, s, h => by
    rcases List.mem_cons.mp h with rfl | h
    · exact List.Perm.refl _
    · obtain ⟨t, ht, rfl⟩ := List.mem_map.mp h
      exact ((insE_perm ht).cons b).trans (List.Perm.swap ..)
theorem mem_insE {a : Int} : ∀ (s1 s2 : List Int), s1 ++ a :: s2 ∈ insE a (s1 ++ s2)
  | [], [] => List.mem_singleton.mpr rfl
  | [], b :: l => List.mem_cons_self ..
  | b :: s1, s2 => List.mem_cons_of_mem _ (List.mem_map.mpr ⟨_, mem_insE s1 s2, rfl⟩)
theorem mem_prm : ∀ {l s : List Int}, s ∈ prm l ↔ s.Perm l
  | [], s => by
    constructor
    · intro h
      rw [List.mem_singleton.mp h]
    · intro h
      rw [List.perm_nil.mp h]
      exact List.mem_singleton.mpr rfl
  | a :: l, s => by
    constructor
    · intro h
      obtain ⟨t, ht, hs⟩ := List.mem_flatMap.mp h
      exact (insE_perm hs).trans ((mem_prm.mp ht).cons a)
    · intro h
      have ha : a ∈ s := h.mem_iff.mpr (List.mem_cons_self ..)
      obtain ⟨s1, s2, rfl⟩ := List.append_of_mem ha
      have h2 : (s1 ++ s2).Perm l := (List.perm_middle.symm.trans h).cons_inv
      exact List.mem_flatMap.mpr ⟨_, mem_prm.mpr h2, mem_insE s1 s2⟩
theorem prm24 : ∀ n, n < 5 → (prm (rg n)).length ≤ 24 := by decide +kernel
def prodL (P : List (List Int)) : Nat → List (List Int)
  | 0 => [[]]
  | m + 1 => P.flatMap fun L => (prodL P m).map (L ++ ·)
theorem flatMap_len {α β : Type} {f : α → List β} {k : Nat} (h : ∀ a, (f a).length = k) : ∀ l : List α, (l.flatMap f).length = l.length * k
  | [] => by simp
  | a :: l => by rw [List.flatMap_cons, List.length_append, h a, flatMap_len h l, List.length_cons, Nat.succ_mul, Nat.add_comm]
theorem prodL_len (P : List (List Int)) : ∀ m, (prodL P m).length = P.length ^ m
  | 0 => rfl
  | m + 1 => by
    show (P.flatMap fun L => (prodL P m).map (L ++ ·)).length = _
    rw [flatMap_len (k := P.length ^ m) fun L => by rw [List.length_map, prodL_len P m], Nat.pow_succ, Nat.mul_comm]
theorem prodL_mem {P : List (List Int)} : ∀ {Ls : List (List Int)}, (∀ L ∈ Ls, L ∈ P) → Ls.flatten ∈ prodL P Ls.length
  | [], _ => List.mem_singleton.mpr rfl
  | L :: Ls, h => List.mem_flatMap.mpr ⟨L, h L (List.mem_cons_self ..), List.mem_map.mpr ⟨Ls.flatten, prodL_mem fun M hM => h M (List.mem_cons_of_mem _ hM), rfl⟩⟩
theorem flat_len {n : Nat} : ∀ {Ls : List (List Int)}, (∀ L ∈ Ls, L.length = n) → Ls.flatten.length = Ls.length * n
  | [], _ => by simp
  | L :: Ls, h => by rw [List.flatten_cons, List.length_append, h L (List.mem_cons_self ..), flat_len fun M hM => h M (List.mem_cons_of_mem _ hM), List.length_cons, Nat.succ_mul, Nat.add_comm]
theorem pow_le3 {b m c : Nat} (hb : b ≤ c) (c1 : 1 ≤ c) (hm : m ≤ 3) : b ^ m ≤ c ^ 3 := Nat.le_trans (Nat.pow_le_pow_left hb m) (Nat.pow_le_pow_right c1 hm)
section
variable {n : Nat} {hs : List (List (List Int))} {s : List Int}
theorem CS.flat {m : Nat} (h : CS n m s) : (chk n s).flatten = s := chk_flat n s.length s (Nat.le_refl _)
theorem CS.size {m : Nat} (h : CS n m s) : s.length = m * n := by
  have := flat_len (n := n) fun L hL => perm_len (h.2 L hL)
  rw [h.flat, h.1] at this
  exact this
theorem sysS (n2 : 2 ≤ n) (n4 : n ≤ 4) (hb : ∀ h ∈ hs, Hb n h) (m3 : hs.length ≤ 3) : Sys 13824 (stS n hs) (rg n) (CS n hs.length) (prodL (prm (rg n)) hs.length) := by
  refine ⟨fun s h p hp => CS.go (by omega) rfl hb (rg_mem.mp hp) h, fun s h => ?_, ?_, fun s h => ?_, by rw [rg_len]; omega⟩
  · have := prodL_mem (P := prm (rg n)) fun L hL => mem_prm.mpr (h.2 L hL)
    rw [h.flat, h.1] at this
    exact this
  · rw [prodL_len]
    exact pow_le3 (prm24 n (by omega)) (by decide) m3
  · rw [h.size]
    have : hs.length * n ≤ 3 * 4 := Nat.mul_le_mul m3 n4
    omega
theorem stOk (n2 : 2 ≤ n) (n4 : n ≤ 4) (hb : ∀ h ∈ hs, Hb n h) (m3 : hs.length ≤ 3) (hc : CS n hs.length s) : STok n hs s := ⟨CS n hs.length, _, 13824, fun _ h => h, sysS n2 n4 hb m3, by decide, hc⟩
/-- places, one of each shelf -/
def CP9 (n m : Nat) (t : List Int) : Prop := t.length = m ∧ ∀ y ∈ t, InR n y
theorem mv_in {h : List (List Int)} (q : Hb n h) {p s : Int} (hp : InR n p) (hs : InR n s) : InR n (mv h p s) := (q.at hp.1 hp.2 hs.1 hs.2).choose_spec.2.2
theorem stP_len {p : Int} {t : List Int} (h : t.length = hs.length) : (stP hs p t).length = hs.length := by
  unfold stP
  rw [List.length_map, List.length_zip, h, Nat.min_self]
theorem sysP9 (n2 : 2 ≤ n) (n4 : n ≤ 4) (hb : ∀ h ∈ hs, Hb n h) (m3 : hs.length ≤ 3) : Sys 64 (stP hs) (rg n) (CP9 n hs.length) (prodL ((rg n).map fun x => [x]) hs.length) := by
  refine ⟨fun t h p hp => ⟨stP_len h.1, fun y hy => ?_⟩, fun t h => ?_, ?_, fun t h => by rw [h.1]; omega, by rw [rg_len]; omega⟩
  · obtain ⟨q, hq, rfl⟩ := List.mem_map.mp hy
    have hm := List.of_mem_zip (a := q.1) (b := q.2) hq
    exact mv_in (hb _ hm.1) (rg_mem.mp hp) (h.2 _ hm.2)
  · have := prodL_mem (P := (rg n).map fun x => [x]) (Ls := t.map fun x => [x]) fun L hL => by
      obtain ⟨x, hx, rfl⟩ := List.mem_map.mp hL
      exact List.mem_map.mpr ⟨x, rg_mem.mpr (h.2 x hx), rfl⟩
    have e : (t.map fun x => [x]).flatten = t := by
      clear this h
      induction t with
      | nil => rfl
      | cons a t ih => rw [List.map_cons, List.flatten_cons, ih]; rfl
    rw [e, List.length_map, h.1] at this
    exact this
  · rw [prodL_len, List.length_map, rg_len]
    exact pow_le3 n4 (by decide) m3
theorem at_C {x : Int} (hc : CS n hs.length s) (hx : InR n x) : CP9 n hs.length (atN n s x) := by
  refine ⟨by unfold atN; rw [List.length_map, hc.1], fun y hy => ?_⟩
  obtain ⟨L, hL, rfl⟩ := List.mem_map.mp hy
  have pm := hc.2 L hL
  have hi : x.toNat < L.length := by rw [perm_len pm]; have := hx.1; have := hx.2; omega
  rw [List.getD_eq_getElem?_getD, List.getElem?_eq_getElem hi]
  exact rg_mem.mp (pm.mem_iff.mp (List.getElem_mem hi))
theorem mwOk (n2 : 2 ≤ n) (n4 : n ≤ 4) (hb : ∀ h ∈ hs, Hb n h) (m3 : hs.length ≤ 3) (hc : CS n hs.length s) : ∀ x ∈ rg n, MWok n hs s x := fun x hx => ⟨CP9 n hs.length, _, 64, fun _ h => h, sysP9 n2 n4 hb m3, by decide, at_C hc (rg_mem.mp hx)⟩
/-- the places of a name behind a touch of the stand -/
theorem at_go {x p : Int} (n0 : 0 < n) (hb : ∀ h ∈ hs, Hb n h) (hc : CS n hs.length s) (hp : InR n p) (hx : InR n x) : atN n (stS n hs p s) x = stP hs p (atN n s x) := by
  unfold atN stP
  rw [stS_rows n0 hb hp hc, List.map_map, List.zip_map_right, List.map_map]
  refine List.map_congr_left fun q hq => ?_
  have hm := List.of_mem_zip (a := q.1) (b := q.2) hq
  have hi : x.toNat < q.2.length := by rw [perm_len (hc.2 _ hm.2)]; have := hx.1; have := hx.2; omega
  show (stp q.1 p q.2).getD x.toNat 0 = mv q.1 p (q.2.getD x.toNat 0)
  unfold stp
  rw [List.getD_eq_getElem?_getD, List.getD_eq_getElem?_getD, List.getElem?_map, List.getElem?_eq_getElem hi]
  rfl
theorem at_rn {x : Int} (n2 : 2 ≤ n) (n4 : n ≤ 4) (hb : ∀ h ∈ hs, Hb n h) (m3 : hs.length ≤ 3) (hc : CS n hs.length s) (hx : InR n x) : ∀ v : List Int, (∀ p ∈ v, p ∈ rg n) → rn (stP hs) (atN n s x) v = atN n (rn (stS n hs) s v) x := by
  refine snoc_ind (fun _ => rfl) fun v p ih hv => ?_
  have h1 := fun r hr => hv r (List.mem_append_left _ hr)
  rw [rn_snoc, rn_snoc, ih h1, at_go (by omega) hb (rn_C (sysS n2 n4 hb m3) hc v h1) (rg_mem.mp (hv p (List.mem_append_right _ (List.mem_singleton.mpr rfl)))) hx]
theorem lex_at {x : Int} {w : List Int} (n2 : 2 ≤ n) (n4 : n ≤ 4) (hb : ∀ h ∈ hs, Hb n h) (m3 : hs.length ≤ 3) (hc : CS n hs.length s) (hx : InR n x) (h : Lex1 (stP hs) (rg n) (atN n s x) tog w) : Lex1 (stS n hs) (rg n) s (fun t => tog (atN n t x)) w := by
  have e := at_rn n2 n4 hb m3 hc hx
  exact ⟨⟨h.s.wd, by show tog _ = true; rw [← e w h.s.wd]; exact h.s.at_, fun v hv hg => h.s.min v hv (by rw [e v hv]; exact hg)⟩, fun v hv hg => h.lex v hv (by rw [e v hv]; exact hg)⟩
end
end RH
set_option Elab.async false
set_option linter.all false
set_option maxRecDepth 100000
set_option maxHeartbeats 2000000
namespace RH
open PySem PySem.Spec PyProof.Rows L2
open NdefX (NScope CellsAt Caps slotAt slotAt_of cells_of startF ncx)
open LamX (Tabs TabS TabB ExtN CodeO codeO_ne)
/-! ### stands, meeting: where they answer -/
section
variable {P : Program} {w : World} {K : PySem.W.Frag} {mg : Str → Option Value} {base : Heap} {Ch Cs : Addr}
def spNameG : Sp := fun vs H Q _ => ∃ (x : Int) (n : Nat), vs = [.int x, .int n] ∧ InR n x ∧ Q .non H
theorem ok_nameG {C : Addr} (F : Df K mg "check_name" st_check_name ["name", "places"]) (Xn : ExO K mg "BadNames" C) (C3 : Cal P w K mg base 3 "is_place" (spIsPlaceW K)) : CalX P w K mg base 4 "check_name" spNameG := by
  refine mkCalX F sc_check_name (fun vs H Q E h => ?_) (fun f cdv A outer s H vs Q E hr h => ?_)
  · obtain ⟨v, n, rfl, _⟩ := h
    rfl
  · obtain ⟨x, n, rfl, hx, q⟩ := h
    refine ⟨_, pss_one (ps_if (pt_not (pt_val (pc C3 hr (pa_cons (pv 0) (pa_cons (pv 1) pa_nil))))) (pss_one (ps_raise rfl takesE (SkE.pmk_own1 PySem.F.excBase_ValueError Xn.q Xn.g Xn.k (raises_own Xn.b Xn.t) rfl
      (pe_joined (.cons pe_str (.cons (pe_fmt (pv 1)) (.cons pe_str .nil))))))) pss_nil), ?_⟩
    have e : inV2 0 ((n : Int) - 1) (.int x) = true := by
      have := hx.1
      have := hx.2
      show (decide ((0 : Int) ≤ x) && decide (x ≤ (n : Int) - 1)) = true
      rw [decide_eq_true (p := (0 : Int) ≤ x) (by omega), decide_eq_true (p := x ≤ (n : Int) - 1) (by omega)]
      rfl
    exact ⟨_, rfl, _, rfl, .int x, n, rfl, .int x, _, rfl, ifF (by rw [e]; rfl) q⟩
def spMeetG (K : PySem.W.Frag) (T : List (Addr × Str)) (Ch Cs : Addr) : Sp := fun vs H Q E => ∃ hv sv v, vs = [hv, sv, v] ∧ RefHS K Ch Cs hv sv H E fun _ _ => ∃ (b : Addr) (hs : List (List (List Int))) (n : Nat) (s : List Int) (x : Int), sv = .ref b ∧ v = .int x ∧ SH K H hv b hs n s ∧ STok n hs s ∧ MWok n hs s x ∧ InR n x ∧ Tabs T H ∧
  (∀ (H' : Hp) (q : Addr) (wd : List Int), ExtN H H' → Tabs T H' → Lex1 (stP hs) (rg n) (atN n s x) tog wd → H' q = some (.tup (wd.map V.int)) → wd.length ≤ 20000 → Q (.ref q) H') ∧
  (∀ H' : Hp, ExtN H H' → Tabs T H' → (∀ v, (∀ p ∈ v, p ∈ rg n) → tog (rn (stP hs) (atN n s x) v) = false) → Q .non H')
theorem ok_meetingG {T : List (Addr × Str)} (F : Df K mg "meeting" st_meeting ["habits", "stand", "name"]) (B : Bu mg) (CH : CalXD P w K mg base 7 "check_habits" [.int 3] (spCheckHabitsX K Ch)) (CS_ : CalX P w K mg base 6 "check_stand" (spCheckStandX K Cs)) (CN : CalX P w K mg base 4 "check_name" spNameG) (CK : Cal P w K mg base 7 "check_stands" (spCkSt K T)) (CM : Cal P w K mg base 6 "meeting_word" (spMW K T)) :
    CalX P w K mg base 8 "meeting" (spMeetG K T Ch Cs) := by
  refine mkCalX F sc_meeting (fun vs H Q E h => ?_) (fun f cdv A outer s H vs Q E hr h => ?_)
  · obtain ⟨v, sv, u, rfl, _⟩ := h
    rfl
  · obtain ⟨v, sv, u, rfl, R⟩ := h
    refine ⟨_, pss_cons (ps_expr (pcXD CH passE hr (pa_cons (pv 0) pa_nil))) (pss_cons (ps_expr (pcX CS_ passE hr (pa_cons (pv 1) (pa_cons (pv 0) pa_nil)))) (pss_cons (ps_expr (pcX CN passE hr (pa_cons (pv 2) (pa_cons (pe_callB (cl_len K) (by rfl) B.len PySem.boot_len (pa_cons (pe_ix (ixT K) (pv 0) pe_int (fun _ _ => rfl)) pa_nil)) pa_nil)))) (pss_cons (ps_expr (pc CK hr (pa_cons (pv 0) (pa_cons (pv 1) pa_nil)))) (pss_one (ps_ret (pc CM hr (pa_cons (pv 0) (pa_cons (pv 1) (pa_cons (pv 2) pa_nil))))))))), ?_⟩
    refine two_checks rfl rfl R fun H2 m n' s2 hV m1 m3 n2 n5 c => ?_
    obtain ⟨b, hs, n, st, x, rfl, rfl, S, h1, h2, hx, hTb, q1, q2⟩ := c
    have S2 := S.same s2
    obtain ⟨a, xs, rfl, hS, hE⟩ := id S2.t
    have lx := hE.len
    have m0 := S.m0
    obtain ⟨x0, hx0⟩ : ∃ x, xs[0]? = some x := ⟨_, List.getElem?_eq_getElem (by omega)⟩
    obtain ⟨h, hh, a0, ys, rfl, hS0, hE0⟩ := hE.at hx0
    have l0 : ys.length = n := hE0.len.trans (S.hb h (List.mem_of_getElem? hh)).len
    refine ⟨_, rfl, _, rfl, a, xs, 0, .ref a0, rfl, rfl, hS, atI_nat (j := 0) hx0, a0, ys, rfl, .inr hS0, x, n, by rw [l0]; rfl, hx, ?_⟩
    refine ⟨_, rfl, _, rfl, _, b, hs, n, st, rfl, S2, h1, tabs_same hTb s2, fun H3 ex T3 => ?_⟩
    obtain ⟨C, U, N, c1, c2, c3, c4⟩ := h2
    have S3 := S2.ext ex
    have ex3 := (extN_same s2).trans ex
    exact ⟨_, rfl, _, rfl, _, rfl, _, b, hs, n, st, x, C, U, N, rfl, S3.t, S.hb, S.n2, S.m3, S.m0, S3.k, S.c, hx, c1, c2, c3, c4, T3, fun H4 q' wd ex4 T4 hl e lw => q1 H4 q' wd (ex3.trans ex4) T4 hl e (Nat.le_trans lw c3), fun H4 ex4 T4 hn => q2 H4 (ex3.trans ex4) T4 hn⟩
/-- stands told as rows -/
theorem EN.rows {n : Nat} {H : Hp} : ∀ {xs : List V} {ss : List (List Int)}, EN (kS n) H xs ss → ER H xs (ss.map (chk n))
  | _, _, .nil => .nil
  | _, _, .cons g t => .cons g t.rows
def spStandsG (K : PySem.W.Frag) (T : List (Addr × Str)) (Ch Cs : Addr) : Sp := fun vs H Q E => ∃ hv sv, vs = [hv, sv] ∧ RefHS K Ch Cs hv sv H E fun _ _ => ∃ (b : Addr) (hs : List (List (List Int))) (n : Nat) (s : List Int), sv = .ref b ∧ SH K H hv b hs n s ∧ STok n hs s ∧ Tabs T H ∧
  ∀ (H' : Hp) (q : Addr) (ys : List V) (k : Nat), ExtN H H' → Tabs T H' → H' q = some (.tup ys) → ER H' ys ((((fd (stS n hs) (rg n) s k).map Prod.fst).map (chk n)).mergeSort leR) → lv (stS n hs) (rg n) s k = [] → Q (.ref q) H'
theorem ok_standsG {T : List (Addr × Str)} (F : Df K mg "stands" st_stands ["habits", "stand"]) (B : Bu mg) (CH : CalXD P w K mg base 7 "check_habits" [.int 3] (spCheckHabitsX K Ch)) (CS_ : CalX P w K mg base 6 "check_stand" (spCheckStandX K Cs)) (CA : Cal P w K mg base 6 "all_stands" (spAll K T)) :
    CalX P w K mg base 8 "stands" (spStandsG K T Ch Cs) := by
  refine mkCalX F sc_stands (fun vs H Q E h => ?_) (fun f cdv A outer s H vs Q E hr h => ?_)
  · obtain ⟨v, sv, rfl, _⟩ := h
    rfl
  · obtain ⟨v, sv, rfl, R⟩ := h
    refine ⟨_, pss_cons (ps_expr (pcXD CH passE hr (pa_cons (pv 0) pa_nil))) (pss_cons (ps_expr (pcX CS_ passE hr (pa_cons (pv 1) (pa_cons (pv 0) pa_nil)))) (pss_one (ps_ret (pe_tupleOf (by rfl) B.tuple (pe_callB (call_sortR hr.units) (by rfl) B.sorted (by decide +kernel) (pa_cons (pc CA hr (pa_cons (pv 0) (pa_cons (pv 1) pa_nil))) pa_nil)))))), ?_⟩
    refine two_checks rfl rfl R fun H2 m n' s2 hV m1 m3 n2 n5 c => ?_
    obtain ⟨b, hs, n, st, rfl, S, ⟨C, U, N, c1, c2, c3, c4⟩, hTb, q⟩ := c
    have S2 := S.same s2
    refine ⟨_, rfl, _, rfl, _, b, hs, n, st, C, U, N, rfl, S2.t, S.hb, S.n2, S.m3, S.m0, S2.k, c1, c2, c3, c4, tabs_same hTb s2, fun H3 l k bs ex T3 el hE hk => ?_⟩
    have fC := c2.fd_C c4 k
    refine ⟨l, _, _, rfl, lstAt el, hE.rows, fun r hr0 => ?_, fun ys p hY ly hp => ?_⟩
    · obtain ⟨t, ht, rfl⟩ := List.mem_map.mp hr0
      obtain ⟨x, hx, rfl⟩ := List.mem_map.mp ht
      have := (c1 _ (fC x hx)).1
      have m0 := S.m0
      intro z
      rw [z] at this
      rw [List.length_nil] at this
      omega
    · refine .inl ⟨p, ys, rfl, lstAt upd_same, fun t ht => ?_⟩
      have s3 := same_new (o := .lst ys) hp
      have s4 := same_new (o := .tup ys) ht
      exact q _ t ys k (((extN_same s2).trans ex).trans (extN_same (s3.trans s4))) (tabs_same (tabs_same T3 s3) s4) upd_same (hY.imp fun b s z => NK.imp (TK.same (s3.trans s4)) z) hk
end
end RH
set_option Elab.async false
set_option linter.all false
set_option maxRecDepth 100000
set_option maxHeartbeats 2000000
namespace RH
open PySem PySem.Spec PyProof.Rows L2
open NdefX (NScope CellsAt Caps slotAt slotAt_of cells_of startF ncx)
open LamX (Tabs TabS TabB ExtN CodeO codeO_ne)
theorem cl_listOf {X : Cx} (K : PySem.W.Frag) (h : X.K = K := by rfl) : CallR X (.type "list") (fun xs H Q => ∃ p ys, xs = [.ref p] ∧ (SqL K H p ys ∨ SqT K H p ys) ∧ ∀ l, H l = none → Q (.ref l) (upd H l (.lst ys))) := by
  subst h
  exact call_list_of
theorem Each.take {α : Type} {R : V → α → Prop} : ∀ {xs : List V} {ds : List α} (k : Nat), Each R xs ds → Each R (xs.take k) (ds.take k)
  | _, _, 0, _ => .nil
  | _, _, _ + 1, .nil => .nil
  | _, _, k + 1, .cons h t => .cons h (t.take k)
theorem Each.drop {α : Type} {R : V → α → Prop} : ∀ {xs : List V} {ds : List α} (k : Nat), Each R xs ds → Each R (xs.drop k) (ds.drop k)
  | _, _, 0, h => h
  | _, _, _ + 1, .nil => .nil
  | _, _, k + 1, .cons _ t => t.drop k
theorem Fix.tabs {T : List (Addr × Str)} {H H' : Hp} (f : Fix H H') (t : Tabs T H) : Tabs T H' := fun p hp => by
  obtain ⟨ps, h1, h2, h3⟩ := t p hp
  refine ⟨ps, f _ _ h1 (fun xs z => nomatch z), h2, fun pos cv hc => ?_⟩
  obtain ⟨c, e1, e2⟩ := h3 pos cv hc
  exact ⟨c, e1, f _ _ e2 (fun xs z => by unfold CodeO at z; cases z)⟩
theorem same_ext {H H' : Hp} (e : Same H H') : ExtN H H' := fun b o q _ => e b o q
section
variable {K : PySem.W.Frag} {H H' : Hp} {n : Nat} {v v1 v2 pl : V}
theorem lst_but {p a : Addr} {xs : List V} (B : But p H H') (R' : Row K H' p) (h : SqL K H a xs) : ∃ ys, SqL K H' a ys := by
  by_cases e : a = p
  · subst e
    obtain ⟨rs, hrs⟩ := R'.lst
    exact ⟨rs, lstAt hrs⟩
  · rcases h with (h | ⟨o, h⟩) | h
    · exact ⟨xs, .inl (.inl (B _ _ h e))⟩
    · exact ⟨xs, .inl (.inr ⟨o, B _ _ h e⟩)⟩
    · exact ⟨xs, .inr h⟩
theorem Sw.but {p : Addr} (B : But p H H') (R : Row K H p) (R' : Row K H' p) (h : Sw K H v) : Sw K H' v := by
  cases h with
  | int i => exact .int i
  | bl bb => exact .bl bb
  | non => exact .non
  | str z => exact .str z
  | tup h => exact .tup ((R.fix B).tups _ _ h)
  | lst h =>
    obtain ⟨ys, h⟩ := lst_but B R' h
    exact .lst h
theorem Tk.but {p : Addr} {wo : Option (List V)} (B : But p H H') (R : Row K H p) (R' : Row K H' p) (h : Tk K H v wo) : Tk K H' v wo := by
  cases h with
  | int i => exact .int i
  | bl bb => exact .bl bb
  | non => exact .non
  | str z => exact .str z
  | tup h => exact .tup ((R.fix B).tups _ _ h)
  | lst h =>
    obtain ⟨ys, h⟩ := lst_but B R' h
    exact .lst h
  | dct h =>
    obtain ⟨rs, hrs⟩ := R.lst
    exact .dct (B _ _ h (ne_of h hrs (fun z => nomatch z)))
theorem Wd.but {p : Addr} {wo : Option (List V)} (B : But p H H') (R : Row K H p) (R' : Row K H' p) (h : Wd K H v wo) : Wd K H' v wo := ⟨h.t.but B R R', fun xs z x hm => (h.s xs z x hm).but B R R', h.l⟩
theorem Hk.but {p : Addr} {ho : Option (List (Option (List V)))} (B : But p H H') (R : Row K H p) (R' : Row K H' p) (h : Hk K H v ho) : Hk K H' v ho := by
  cases h with
  | tup h hx => exact .tup ((R.fix B).tups _ _ h) (hx.imp fun v d z => z.but B R R')
  | no h => exact .no (h.but B R R')
theorem Hs.but {p : Addr} {ho : Option (List HO1)} (B : But p H H') (R : Row K H p) (R' : Row K H' p) (h : Hs K H v ho) : Hs K H' v ho := by
  cases h with
  | tup h hx => exact .tup ((R.fix B).tups _ _ h) (hx.imp fun v d z => z.but B R R')
  | no h => exact .no (h.but B R R')
theorem wd_ints {a : Addr} {ns : List Int} (h : SqT K H a (ns.map V.int)) (hl : ns.length < 64) : Wd K H (.ref a) (some (ns.map V.int)) :=
  ⟨.tup h, fun xs z x hm => by cases z; obtain ⟨i, _, rfl⟩ := List.mem_map.mp hm; exact .int i, fun xs z => by cases z; rwa [List.length_map]⟩
theorem lay_ok {ns : List Int} (h : ns.Perm (rg n)) : layW n (some (ns.map V.int)) = true := by
  have e1 : ((ns.map V.int).map valI) = ns := by
    rw [List.map_map]
    exact List.map_id' ns
  show ((ns.map V.int).all _ && isLay n ((ns.map V.int).map valI)) = true
  rw [e1, lay_yes h, Bool.and_true, List.all_eq_true]
  intro v hv
  obtain ⟨i, hi, rfl⟩ := List.mem_map.mp hv
  have := rg_mem.mp (h.mem_iff.mp hi)
  exact inV2_yes0 this.1 this.2
theorem hk_of {h : List (List Int)} (hT : TII K H v h) (hb : Hb n h) : Hk K H v (some (h.map fun ns => some (ns.map V.int))) := by
  obtain ⟨a, xs, rfl, hS, hE⟩ := hT
  refine .tup hS ?_
  have hp := hb.perm
  have hi := hb.hi
  clear hS hb
  induction hE with
  | nil => exact .nil
  | @cons x ns xs h hx hE ih =>
    obtain ⟨b, rfl, hB⟩ := hx
    refine .cons (wd_ints hB ?_) (ih fun ns hm => hp ns (List.mem_cons_of_mem _ hm))
    rw [perm_len (hp ns (List.mem_cons_self ..))]
    omega
theorem Row.ext {p : Addr} (e : ExtN H H') (h : Row K H p) : Row K H' p := by
  obtain ⟨a, ns, i, r, c, h⟩ := h
  refine ⟨a, ns, i, r, c, e _ _ h.at_ (fun ps z => nomatch z), ?_, h.pos⟩
  rcases h.fz with ⟨o, z⟩ | z
  · exact .inl ⟨o, e _ _ z (fun ps z => nomatch z)⟩
  · exact .inr z
theorem Sw.ext (e : ExtN H H') (h : Sw K H v) : Sw K H' v := by
  cases h with
  | int i => exact .int i
  | bl bb => exact .bl bb
  | non => exact .non
  | str z => exact .str z
  | tup h => exact .tup (extN_tups e _ _ h)
  | @lst a xs h =>
    refine .lst (xs := xs) ?_
    rcases h with (h | ⟨o, h⟩) | h
    · exact .inl (.inl (e _ _ h (fun ps z => nomatch z)))
    · exact .inl (.inr ⟨o, e _ _ h (fun ps z => nomatch z)⟩)
    · exact .inr h
theorem Tk.ext {wo : Option (List V)} (e : ExtN H H') (h : Tk K H v wo) : Tk K H' v wo := by
  cases h with
  | int i => exact .int i
  | bl bb => exact .bl bb
  | non => exact .non
  | str z => exact .str z
  | tup h => exact .tup (extN_tups e _ _ h)
  | dct h => exact .dct (e _ _ h (fun ps z => nomatch z))
  | @lst a xs h =>
    refine .lst (xs := xs) ?_
    rcases h with (h | ⟨o, h⟩) | h
    · exact .inl (.inl (e _ _ h (fun ps z => nomatch z)))
    · exact .inl (.inr ⟨o, e _ _ h (fun ps z => nomatch z)⟩)
    · exact .inr h
theorem Wd.ext {wo : Option (List V)} (e : ExtN H H') (h : Wd K H v wo) : Wd K H' v wo := ⟨h.t.ext e, fun xs z x hm => (h.s xs z x hm).ext e, h.l⟩
theorem Hk.ext {ho : Option (List (Option (List V)))} (e : ExtN H H') (h : Hk K H v ho) : Hk K H' v ho := by
  cases h with
  | tup h hx => exact .tup (extN_tups e _ _ h) (hx.imp fun v d z => z.ext e)
  | no h => exact .no (h.ext e)
theorem Hs.ext {ho : Option (List HO1)} (e : ExtN H H') (h : Hs K H v ho) : Hs K H' v ho := by
  cases h with
  | tup h hx => exact .tup (extN_tups e _ _ h) (hx.imp fun v d z => z.ext e)
  | no h => exact .no (h.ext e)
theorem hab_ok {h : List (List Int)} (hb : Hb n h) : habW (some (h.map fun ns => some (ns.map V.int))) = true := by
  unfold habW
  dsimp only
  rw [List.length_map, hb.len, decide_eq_true hb.lo, decide_eq_true hb.hi]
  show (List.all _ _) = true
  rw [List.all_eq_true]
  · intro wo hm
    obtain ⟨ns, hn, rfl⟩ := List.mem_map.mp hm
    exact lay_ok (hb.perm ns hn)
theorem len_ok {h : List (List Int)} (hb : Hb n h) : lenH (some (h.map fun ns => some (ns.map V.int))) = n := by
  show (h.map _).length = n
  rw [List.length_map, hb.len]
end
section
variable {K : PySem.W.Frag} {H H' : Hp} {n : Nat} {v pl : V}
/-- no habit -/
def NoHb (K : PySem.W.Frag) (H : Hp) (v : V) : Prop := ∃ ho : HO1, Hk K H v ho ∧ habW ho = false
theorem NoHb.ext (e : ExtN H H') (h : NoHb K H v) : NoHb K H' v := by
  obtain ⟨ho, a, b⟩ := h
  exact ⟨ho, a.ext e, b⟩
theorem NoHb.on (e : Same H H') (h : NoHb K H v) : NoHb K H' v := h.ext (same_ext e)
theorem NoHb.but {p : Addr} (B : But p H H') (R : Row K H p) (R' : Row K H' p) (h : NoHb K H v) : NoHb K H' v := by
  obtain ⟨ho, a, b⟩ := h
  exact ⟨ho, a.but B R R', b⟩
theorem NoHb.no (h : Tk K H v none) : NoHb K H v := ⟨none, .no h, rfl⟩
end
theorem LamAt.ext {lam : Expr} {fr : List Str} {ws : List V} {l : CL} {f : Addr} {H H' : Hp} (L : LamAt lam fr ws l f H) (e : ExtN H H') : LamAt lam fr ws l f H' := by
  obtain ⟨q, cl, c, live, cap⟩ := L.ex
  exact ⟨q, cl, c, live.ext e, cap⟩
end RH
set_option Elab.async false
set_option linter.all false
set_option maxRecDepth 100000
set_option maxHeartbeats 2000000
namespace RH
open PySem PySem.Spec PyProof.Rows L2
/-! ### habits and a stand, drawn -/
theorem Fix.tk {H H' : Hp} (f : Fix H H') : TK H H' := fun b xs h => by
  rcases h with h | ⟨ob, h⟩
  · exact .inl (f _ _ h (fun xs z => nomatch z))
  · exact .inr ⟨ob, f _ _ h (fun xs z => nomatch z)⟩
theorem ps_cutM {X : Cx} {st : Stmt} {t : TS} (h : PS X st t) : PS X st (fun D σ H => ∃ G : L2.St → Hp → Prop, (∀ σ' H', G σ' H' → D.nx σ' H') ∧ t { D with nx := G } σ H) := by
  refine ⟨fun pins s σ H D I hw => ?_⟩
  obtain ⟨G, hG, hw⟩ := hw
  refine thn (h.run pins s σ H { D with nx := G } I hw) fun fl s1 q => ?_
  cases fl with
  | next =>
    obtain ⟨σ', H', I', q⟩ := q
    exact ⟨σ', H', I', hG _ _ q⟩
  | ret v => exact q
  | brk => exact q
  | cont => exact q
/-- things found so far -/
structure HJ {α : Type} (R : Hp → V → α → Prop) (ok : α → Prop) (K : PySem.W.Frag) (p g : Addr) (H : Hp) (i : Nat) (xs : List V) (hs : List α) (H' : Hp) : Prop where
  b : But p H H'
  r : Row K H' p
  e : H' g = some (.lst xs)
  a : Each (R H') xs hs
  l : hs.length = i
  o : ∀ h ∈ hs, ok h
theorem HJ.step {α : Type} {R : Hp → V → α → Prop} {ok : α → Prop} {K : PySem.W.Frag} {p g : Addr} {H H1 H5 : Hp} {i : Nat} {xs : List V} {hs : List α} (h : HJ R ok K p g H i xs hs H1) (hg : H g = none) (hpg : p ≠ g) (mono : ∀ Ha Hb v d, Fix Ha Hb → R Ha v d → R Hb v d) (b : But p H1 H5) (r : Row K H5 p) :
    H5 g = some (.lst xs) ∧ xs.length = i ∧ ∀ v d, R H5 v d → ok d → HJ R ok K p g H (i + 1) (xs ++ [v]) (hs ++ [d]) (upd H5 g (.lst (xs ++ [v]))) := by
  have e5 := b _ _ h.e (Ne.symm hpg)
  refine ⟨e5, h.a.len.trans h.l, fun v d hv hd => ⟨(h.b.trans b).fresh hg, r.lst_upd e5 hpg, upd_same, ?_, ?_, ?_⟩⟩
  · have f0 : Fix H1 H5 := h.r.fix b
    have f1 : Fix H5 (upd H5 g (.lst (xs ++ [v]))) := Fix.lst e5
    exact Each.snoc (mono _ _ _ _ f1 hv) (h.a.imp fun _ _ z => mono _ _ _ _ f1 (mono _ _ _ _ f0 z))
  · rw [List.length_append, h.l]
    rfl
  · intro d' hm
    rcases List.mem_append.mp hm with h1 | h1
    · exact h.o _ h1
    · rw [List.mem_singleton.mp h1]
      exact hd
theorem Each.setM {α : Type} {R : V → α → Prop} {x : V} {d : α} (h : R x d) : ∀ {xs : List V} {ds : List α} (i : Nat), Each R xs ds → Each R (xs.set i x) (ds.set i d)
  | _, _, _, .nil => .nil
  | _, _, 0, .cons _ t => .cons h t
  | _, _, i + 1, .cons a t => .cons a (t.setM h i)
theorem each_rep2 {α : Type} {R : V → α → Prop} {x : V} {d : α} (h : R x d) : ∀ k : Nat, Each R (List.replicate k x) (List.replicate k d)
  | 0 => .nil
  | k + 1 => .cons h (each_rep2 h k)
theorem flat_one {α : Type} (k : Nat) (v : α) : (List.replicate k [v]).flatten = List.replicate k v := by
  induction k with
  | zero => rfl
  | succ k ih =>
    rw [List.replicate_succ, List.flatten_cons, ih]
    rfl
theorem mem_setM {α : Type} {x y : α} : ∀ {l : List α} {i : Nat}, y ∈ l.set i x → y = x ∨ y ∈ l
  | [], _, h => .inr h
  | _ :: _, 0, h => by
    rcases List.mem_cons.mp h with rfl | h
    · exact .inl rfl
    · exact .inr (List.mem_cons_of_mem _ h)
  | a :: l, i + 1, h => by
    rcases List.mem_cons.mp h with rfl | h
    · exact .inr (List.mem_cons_self ..)
    · exact (mem_setM h).imp id (List.mem_cons_of_mem _)
section
variable {P : Program} {w : World} {K : PySem.W.Frag} {mg : Str → Option Value} {base : Heap}
/-- some habits and orders, as tuples -/
structure Svl (K : PySem.W.Frag) (H : Hp) (vH vS : V) (n : Nat) (hs : List (List (List Int))) (ss : List (List Int)) : Prop where
  h : THs K H vH hs
  hb : ∀ h ∈ hs, Hb n h
  s : ∃ b, vS = .ref b ∧ RS2 H b ss
  sp : ∀ s ∈ ss, s.Perm (rg n)
  l : ss.length = hs.length
  m0 : 1 ≤ hs.length
  m3 : hs.length ≤ 3
theorem Svl.on {H H' : Hp} {vH vS : V} {n : Nat} {hs : List (List (List Int))} {ss : List (List Int)} (t : Tups K H H') (tk : TK H H') (S : Svl K H vH vS n hs ss) : Svl K H' vH vS n hs ss := ⟨S.h.on t, S.hb, let ⟨b, e, r⟩ := S.s; ⟨b, e, r.on tk⟩, S.sp, S.l, S.m0, S.m3⟩
/-- the lists ahead of the tuples -/
structure Svm (K : PySem.W.Frag) (H : Hp) (p g g2 : Addr) (n m : Nat) (xs ys : List V) (hs : List (List (List Int))) (ss : List (List Int)) : Prop where
  r : Row K H p
  e : H g = some (.lst xs)
  a : Each (TII K H) xs hs
  hb : ∀ h ∈ hs, Hb n h
  e2 : H g2 = some (.lst ys)
  a2 : Each (RL H) ys ss
  sp : ∀ s ∈ ss, s.Perm (rg n)
  l : hs.length = m
  l2 : ss.length = m
  ne : p ≠ g
  ne2 : p ≠ g2
  d : g ≠ g2
theorem Svm.but {H H' : Hp} {p g g2 : Addr} {n m : Nat} {xs ys : List V} {hs : List (List (List Int))} {ss : List (List Int)} (S : Svm K H p g g2 n m xs ys hs ss) (B : But p H H') (R : Row K H' p) : Svm K H' p g g2 n m xs ys hs ss :=
  have t : Tups K H H' := (S.r.fix B).tups
  have tk : TK H H' := (S.r.fix B).tk
  ⟨R, B _ _ S.e (Ne.symm S.ne), S.a.imp fun _ _ z => z.on t, S.hb, B _ _ S.e2 (Ne.symm S.ne2), S.a2.imp fun _ _ z => z.on tk, S.sp, S.l, S.l2, S.ne, S.ne2, S.d⟩
theorem Svm.same {H H' : Hp} {p g g2 : Addr} {n m : Nat} {xs ys : List V} {hs : List (List (List Int))} {ss : List (List Int)} (S : Svm K H p g g2 n m xs ys hs ss) (B : Same H H') : Svm K H' p g g2 n m xs ys hs ss := S.but (But.same B) (S.r.same B)
/-- at a statement's end -/
def SvG (K : PySem.W.Frag) (H0 : Hp) (p : Addr) (n m : Nat) (σ : L2.St) (H : Hp) : Prop := ∃ (g g2 : Addr) (xs ys : List V) (hs : List (List (List Int))) (ss : List (List Int)) (y5 y6 y7 : Option V), σ = [some (.ref p), some (.int n), some (.int m), some (.ref g), some (.ref g2), y5, y6, y7] ∧ H0 g = none ∧ But p H0 H ∧ Svm K H p g g2 n m xs ys hs ss
theorem Each.first {α : Type} {R : V → α → Prop} {xs : List V} {ds : List α} (h : Each R xs ds) (l : 0 < ds.length) : ∃ x d, xs[0]? = some x ∧ ds[0]? = some d ∧ R x d := by
  cases h with
  | nil => exact absurd l (Nat.lt_irrefl 0)
  | cons a t => exact ⟨_, _, rfl, rfl, a⟩
def spSeveral (K : PySem.W.Frag) : Sp := fun vs H Q _ => ∃ (p : Addr) (n : Nat), vs = [.ref p, .int n] ∧ Row K H p ∧ 2 ≤ n ∧ n ≤ 5 ∧ ∀ (H' : Hp) (q : Addr) (vH vS : V) (hs : List (List (List Int))) (ss : List (List Int)), But p H H' → Row K H' p → SqT K H' q [vH, vS] → Svl K H' vH vS n hs ss → Q (.ref q) H'
theorem ok_several (F : Df K mg "_law_several" st__law_several ["row", "places"]) (B : Bu mg) (CT : Cal P w K mg base 1 "_law_taken" (spTaken K)) (CO : Cal P w K mg base 2 "_law_order" (spOrder K)) (CH : Cal P w K mg base 3 "_law_habit" (spHabit K)) : Cal P w K mg base 4 "_law_several" (spSeveral K) := by
  refine mkCal F sc__law_several (fun vs H Q E h => ?_) (fun f cdv A outer s H vs Q E hr h => ?_)
  · obtain ⟨p, n, rfl, _⟩ := h
    rfl
  · obtain ⟨p, n, rfl, hR, n2, n5, q⟩ := h
    refine ⟨_, pss_cons (ps_set (i := 2) sc__law_several.nd rfl (.inl rfl) (pe_op op_add pe_int (pc CT hr (pa_cons (pv 0) (pa_cons pe_int pa_nil)))))
      (pss_cons (ps_setLc (i := 3) (own := [("turn", 7)]) (g := gName 7) (tt := tYes) rfl sc__law_several.nd rfl rfl (sw_true rfl rfl rfl (by decide +kernel)) (pi_range1 (by rfl) B.range (pa_cons (pv 2) pa_nil)) (blkOk_by (N := ["row", "places", "many", "habits", "stand", "moved", "at", "turn"]) (sc := defScope st__law_several) (by decide +kernel)) (fun _ _ _ _ _ => pg_name (i := 7) sc__law_several.nd rfl (Or.inl rfl)) (fun _ _ _ _ _ => pts_nil) (fun _ _ _ _ _ => pc CH hr (pa_cons (pv 0) (pa_cons (pv 1) pa_nil))))
      (pss_cons (ps_setLc (i := 4) (own := [("turn", 7)]) (g := gName 7) (tt := tYes) rfl sc__law_several.nd rfl rfl (sw_true rfl rfl rfl (by decide +kernel)) (pi_range1 (by rfl) B.range (pa_cons (pv 2) pa_nil)) (blkOk_by (N := ["row", "places", "many", "habits", "stand", "moved", "at", "turn"]) (sc := defScope st__law_several) (by decide +kernel)) (fun _ _ _ _ _ => pg_name (i := 7) sc__law_several.nd rfl (Or.inl rfl)) (fun _ _ _ _ _ => pts_nil) (fun _ _ _ _ _ => pc CO hr (pa_cons (pv 0) (pa_cons (pv 1) pa_nil))))
      (pss_cons (ps_cutM (ps_if (pt_cmpR op_eq (pc CT hr (pa_cons (pv 0) (pa_cons pe_int pa_nil))) pe_int (nomark _)) (pss_one (ps_set (i := 4) sc__law_several.nd rfl (.inl rfl) (pe_op op_rep (pe_lst (pa_cons (pe_ix ix_list (pv 4) pe_int (fun _ _ => rfl)) pa_nil)) (pv 2)))) pss_nil))
      (pss_cons (ps_cutM (ps_if (PW.pt (pw_and (pt_cmpR op_gt (pv 2) pe_int (nomark _)) (pw_and1 (pt_cmpR op_eq (pc CT hr (pa_cons (pv 0) (pa_cons pe_int pa_nil))) pe_int (nomark _)))))
          (pss_cons (ps_set (i := 5) sc__law_several.nd rfl (.inl rfl) (pe_callTy (cl_listOf K) (by rfl) B.list (by decide +kernel) (pa_cons (pe_ix ix_list (pv 3) pe_int (fun _ _ => rfl)) pa_nil)))
          (pss_cons (ps_set (i := 6) sc__law_several.nd rfl (.inl rfl) (pc CT hr (pa_cons (pv 0) (pa_cons (pv 1) pa_nil))))
          (pss_cons (ps_asg (pe_ix (ixT K) (pe_ix ix_list (pv 3) pe_int (fun _ _ => rfl)) (pv 6) (fun _ _ => rfl)) (pg_sub (pv 5) (pv 6) set_list))
          (pss_one (ps_asg (pe_tupleOf (by rfl) B.tuple (pv 5)) (pg_sub (pv 3) pe_int set_list)))))) pss_nil))
      (pss_one (ps_ret (pe_tup (pa_cons (pe_tupleOf (by rfl) B.tuple (pv 3)) (pa_cons (pe_tupleOf (by rfl) B.tuple (pv 4)) pa_nil)))))))))
, ?_⟩
    refine ⟨_, rfl, p, 3, rfl, hR, by decide, by decide, fun wy H0 w0 w1 hB0 hR0 => ⟨1, wy, rfl, rfl, ?_⟩⟩
    obtain ⟨m, hm⟩ : ∃ m : Nat, 1 + wy = (m : Int) := ⟨(1 + wy).toNat, by omega⟩
    have m1 : 1 ≤ m := by omega
    have m3 : m ≤ 3 := by omega
    show gName 2 (V.int (1 + wy)) _ _ _
    rw [hm]
    refine ⟨_, rfl, m, rfl, by omega, by omega, fun g hg0 => ?_⟩
    rw [Int.toNat_natCast]
    have hpg : p ≠ g := hR0.ne hg0
    refine lc_range (lo := 0) (n := m) (fun j H' => ∃ xs hs, HJ (TII K) (Hb n) K p g H0 j xs hs H') ⟨[], [], (But.refl p H0).fresh hg0, hR0.new hg0, upd_same, .nil, rfl, fun _ hm => absurd hm (List.not_mem_nil)⟩ (fun j H' hj h' => ?_) (fun H1 h' => ?_)
    · obtain ⟨xs, hs, h⟩ := h'
      refine ⟨rfl, _, rfl, _, rfl, p, n, rfl, h.r, n2, n5, fun H5 v hh hb b r t => ?_⟩
      obtain ⟨e5, l5, st⟩ := h.step hg0 hpg (fun _ _ _ _ t z => z.on (Fix.tups t)) b r
      exact ⟨xs, e5, small1000 (by omega), _, _, st v hh t hb⟩
    obtain ⟨xs, hs, h1⟩ := h'
    refine ⟨_, rfl, m, rfl, by omega, by omega, fun g2 hg2 => ?_⟩
    rw [Int.toNat_natCast]
    have hpg2 : p ≠ g2 := h1.r.ne hg2
    have hgg : g ≠ g2 := ne_of_none h1.e hg2
    refine lc_range (lo := 0) (n := m) (fun j H' => ∃ ys ss, HJ RL (fun s => s.Perm (rg n)) K p g2 H1 j ys ss H') ⟨[], [], (But.refl p H1).fresh hg2, h1.r.new hg2, upd_same, .nil, rfl, fun _ hm => absurd hm (List.not_mem_nil)⟩ (fun j H' hj h' => ?_) (fun H2 h' => ?_)
    · obtain ⟨ys, ss, h⟩ := h'
      refine ⟨rfl, _, rfl, _, rfl, p, n, rfl, h.r, by omega, fun H5 v hh hb b r _ t => ?_⟩
      obtain ⟨e5, l5, st⟩ := h.step hg2 hpg2 (fun _ _ _ _ t z => z.on (Fix.tk t)) b r
      exact ⟨ys, e5, small1000 (by omega), _, _, st (.ref v) hh ⟨v, rfl, FT.kx t⟩ hb⟩
    obtain ⟨ys, ss, h2⟩ := h'
    have t12 : Tups K H1 H2 := (h1.r.fix h2.b).tups
    have S2 : Svm K H2 p g g2 n m xs ys hs ss := ⟨h2.r, h2.b _ _ h1.e (Ne.symm hpg), h1.a.imp fun _ _ z => z.on t12, h1.o, h2.e, h2.a, h2.o, h1.l, h2.l, hpg, hpg2, hgg⟩
    have B2 : But p H H2 := (hB0.trans h1.b).trans h2.b
    have hg : H g = none := by
      cases e : H g with
      | none => rfl
      | some o =>
        rw [hB0 _ _ e (Ne.symm hpg)] at hg0
        cases hg0
    clear h1 h2 t12 hR0 hB0 hR hg0 hg2
    refine ⟨SvG K H p n m, fun σ3 H3 g3 => ?_, ?_⟩
    case refine_2 =>
      refine ⟨_, rfl, p, 2, rfl, S2.r, by decide, by decide, fun k H3 k0 k1 b3 r3 => ⟨rfl, _, rfl, ite2 (fun _ => ?_) (fun _ => ?_)⟩⟩
      · have S3 := S2.but b3 r3
        obtain ⟨y0, s0, hy0, hs0, t0⟩ := S3.a2.first (by rw [S3.l2]; omega)
        refine ⟨_, rfl, g2, ys, 0, y0, rfl, rfl, lstAt S3.e2, atI_nat (j := 0) hy0, by show 1 ≤ sizeLine; decide, fun l1 hl1 => ⟨_, rfl, l1, m, [y0], rfl, rfl, upd_same, by omega, by omega, ?_, fun l2 hl2 => ?_⟩⟩
        · rw [sizeLine_eq]
          show 1 * ((m : Int)).toNat ≤ _
          omega
        have s1 := same_new (o := .lst [y0]) hl1
        have s2 := same_new (o := .lst (List.replicate ((m : Int)).toNat [y0]).flatten) hl2
        have S4 := S3.same s1
        have S5 := S4.same s2
        have er : (List.replicate ((m : Int)).toNat [y0]).flatten = List.replicate m y0 := by rw [Int.toNat_natCast]; exact flat_one m y0
        refine ⟨g, l2, xs, List.replicate m y0, hs, List.replicate m s0, none, none, none, rfl, hg, (B2.trans b3).trans (But.same (s1.trans s2)), S5.r, S5.e, S5.a, S5.hb, by rw [upd_same, er], each_rep2 ((t0.on (TK.same s1)).on (TK.same s2)) m, fun s hs => ?_, S5.l, List.length_replicate, S5.ne, S4.r.ne hl2, ne_of_none S4.e hl2⟩
        rw [List.eq_of_mem_replicate hs]
        exact S3.sp s0 (List.mem_of_getElem? hs0)
      · exact ⟨_, _, _, _, _, _, none, none, none, rfl, hg, B2.trans b3, S2.but b3 r3⟩
    clear S2 B2 hg hgg hpg2 hpg
    obtain ⟨g, g2, xs, ys, hs, ss, y5, y6, y7, rfl, hg, hB, S⟩ := g3
    refine ⟨SvG K H p n m, fun σ4 H4 g4 => ?_, ?_⟩
    case refine_2 =>
      refine ⟨_, rfl, _, _, rfl, rfl, _, rfl, ite2 (fun em => ?_) (fun _ => ?_)⟩
      · have m2 : 1 < m := by
          have := of_decide_eq_true em
          omega
        refine ⟨_, rfl, p, 3, rfl, S.r, by decide, by decide, fun k H5 k0 k1 b5 r5 => ⟨rfl, _, rfl, ite2 (fun _ => ?_) (fun _ => ?_)⟩⟩
        · have S5 := S.but b5 r5
          have lx : xs.length = m := S5.a.len.trans S5.l
          obtain ⟨x0, hx0⟩ : ∃ x, xs[0]? = some x := ⟨_, List.getElem?_eq_getElem (by omega)⟩
          obtain ⟨h0, e0, a0, z0, rfl, hS0, hE0⟩ := S5.a.at hx0
          have hb0 := S5.hb h0 (List.mem_of_getElem? e0)
          refine ⟨_, rfl, g, xs, 0, _, rfl, rfl, lstAt S5.e, atI_nat (j := 0) hx0, a0, z0, rfl, .inr hS0, fun l hl => ?_⟩
          have s6 := same_new (o := .lst z0) hl
          have S6 := S5.same s6
          have hpl : p ≠ l := S5.r.ne hl
          refine ⟨_, rfl, _, rfl, p, n, rfl, S6.r, by omega, by omega, fun kk H7 k0 k1 b7 r7 => ?_⟩
          obtain ⟨k, rfl⟩ : ∃ k : Nat, kk = (k : Int) := ⟨kk.toNat, by omega⟩
          have S7 := S6.but b7 r7
          have e7 := b7 _ _ (upd_same (H := H5) (a := l) (o := .lst z0)) (Ne.symm hpl)
          obtain ⟨x1, hx1⟩ : ∃ x, xs[1]? = some x := ⟨_, List.getElem?_eq_getElem (by omega)⟩
          obtain ⟨h1, e1, a1, z1, rfl, hS1, hE1⟩ := S7.a.at hx1
          have hb1 := S7.hb h1 (List.mem_of_getElem? e1)
          have l1 := hE1.len.trans hb1.len
          have l0 := hE0.len.trans hb0.len
          obtain ⟨w1, hw1⟩ : ∃ x, z1[k]? = some x := ⟨_, List.getElem?_eq_getElem (by omega)⟩
          obtain ⟨d1, ed1, t1⟩ := hE1.at hw1
          refine ⟨_, rfl, g, xs, 1, _, rfl, rfl, lstAt S7.e, atI_nat (j := 1) hx1, _, rfl, a1, z1, (k : Int), w1, rfl, rfl, hS1, atI_nat hw1, _, rfl, _, rfl, l, z0, (k : Int), k, rfl, rfl, e7, ?_, ?_⟩
          · exact ixN_int (n := z0.length) (k := (k : Int)) (by omega) (by omega)
          have hgl : g ≠ l := ne_of_none S5.e hl
          have hgl2 : g2 ≠ l := ne_of_none S5.e2 hl
          have f8 : Fix H7 (upd H7 l (.lst (z0.set k w1))) := Fix.lst e7
          refine ⟨_, rfl, .inl ⟨l, _, rfl, lstAt upd_same, fun t ht => ?_⟩⟩
          have s9 := same_new (o := .tup (z0.set k w1)) ht
          have e9 : upd (upd H7 l (.lst (z0.set k w1))) t (.tup (z0.set k w1)) g = some (.lst xs) := s9 _ _ (by rw [upd_ne hgl]; exact S7.e)
          refine ⟨_, rfl, g, xs, 1, 1, rfl, rfl, e9, ?_, ?_⟩
          · exact ixN_int (n := xs.length) (k := 1) (by decide) (by omega)
          have F10 : Fix H7 (upd (upd (upd H7 l (.lst (z0.set k w1))) t (.tup (z0.set k w1))) g (.lst (xs.set 1 (.ref t)))) := f8.trans ((Fix.same s9).trans (Fix.lst e9))
          have T10 : Tups K H7 _ := F10.tups
          have T57 : Tups K H5 H7 := fun a z h => (S6.r.fix b7).tups _ _ (onT s6 h)
          have ht0 : TII K (upd (upd (upd H7 l (.lst (z0.set k w1))) t (.tup (z0.set k w1))) g (.lst (xs.set 1 (.ref t)))) (.ref t) (h0.set k d1) := by
            refine ⟨t, z0.set k w1, rfl, (Fix.tups (Fix.lst e9)) _ _ (tupAt upd_same), Each.setM (t1.on T10) k (hE0.imp fun _ _ z => (z.on T57).on T10)⟩
          have hbn : Hb n (h0.set k d1) := ⟨by rw [List.length_set]; exact hb0.len, fun s hs => by
            rcases mem_setM hs with rfl | hs
            · exact hb1.perm _ (List.mem_of_getElem? ed1)
            · exact hb0.perm _ hs, n2, n5⟩
          have r10 : Row K (upd (upd (upd H7 l (.lst (z0.set k w1))) t (.tup (z0.set k w1))) g (.lst (xs.set 1 (.ref t)))) p := ((S7.r.lst_upd (o := .lst (z0.set k w1)) e7 hpl).same s9).lst_upd e9 S7.ne
          have none9 : upd H7 l (.lst (z0.set k w1)) t = none := ht
          have ng2 : g2 ≠ g := Ne.symm S7.d
          have hl0 : H l = none := by
            cases e : H l with
            | none => rfl
            | some o =>
              rw [b5 _ _ (hB _ _ e (Ne.symm hpl)) (Ne.symm hpl)] at hl
              cases hl
          have bb : But p H (upd (upd (upd H7 l (.lst (z0.set k w1))) t (.tup (z0.set k w1))) g (.lst (xs.set 1 (.ref t)))) := ((((hB.trans b5).trans ((But.same s6).trans b7)).fresh hl0).trans (But.same s9)).fresh hg
          refine ⟨g, g2, _, ys, hs.set 1 (h0.set k d1), ss, _, _, _, rfl, hg, bb, r10, upd_same, Each.setM ht0 1 (S7.a.imp fun _ _ z => z.on T10), fun h hm => ?_, ?_, S7.a2.imp fun _ _ z => z.on F10.tk, S7.sp, by rw [List.length_set]; exact S7.l, S7.l2, S7.ne, S7.ne2, S7.d⟩
          · rcases mem_setM hm with rfl | hm
            · exact hbn
            · exact S7.hb _ hm
          · rw [upd_ne ng2]
            exact s9 _ _ (by rw [upd_ne hgl2]; exact S7.e2)
        · exact ⟨_, _, _, _, _, _, _, _, _, rfl, hg, hB.trans b5, S.but b5 r5⟩
      · exact iteF ⟨_, _, _, _, _, _, _, _, _, rfl, hg, hB, S⟩
    clear S hg hB
    obtain ⟨g, g2, xs, ys, hs, ss, y5, y6, y7, rfl, hg, hB, S⟩ := g4
    refine ⟨_, rfl, .inl ⟨g, xs, rfl, lstAt S.e, fun t1 ht1 => ⟨_, rfl, .inl ⟨g2, ys, rfl, lstAt (upd_ne (ne_of_none S.e2 ht1) ▸ S.e2), fun t2 ht2 => ⟨by show 2 ≤ sizeLine; decide, fun t3 ht3 => ?_⟩⟩⟩⟩⟩
    have s1 := same_new (o := .tup xs) ht1
    have s2 := same_new (o := .tup ys) ht2
    have s3 := same_new (o := .tup [.ref t1, .ref t2]) ht3
    have sA := s1.trans (s2.trans s3)
    refine q _ t3 (.ref t1) (.ref t2) hs ss (hB.trans (But.same sA)) (S.r.same sA) (tupAt upd_same) ⟨⟨t1, xs, rfl, tupAt ((s2.trans s3) _ _ upd_same), S.a.imp fun _ _ z => z.on (Same.tups sA)⟩, S.hb, ⟨t2, rfl, ys, .inl (s3 _ _ upd_same), S.a2.imp fun _ _ z => z.on (TK.same sA)⟩, S.sp, by rw [S.l2, S.l], by rw [S.l]; exact m1, by rw [S.l]; exact m3⟩
end
end RH
set_option Elab.async false
set_option linter.all false
set_option maxRecDepth 100000
set_option maxHeartbeats 2000000
namespace RH
open PySem PySem.Spec PyProof.Rows L2
/-! ### stands as data -/
/-- rows as data -/
def rwsD (h : List (List Int)) : List PyData := h.map fun s => .tuple (s.map PyData.int)
theorem rws_can : ∀ h : List (List Int), PyData.canLayAll0 (rwsD h) = true ∧ PyData.depthAll (rwsD h) ≤ 1
  | [] => ⟨rfl, by show (0 : Nat) ≤ 1; decide⟩
  | s :: h => by
    have ih := rws_can h
    have d0 := PySem.W.ke_depthAll s
    show PyData.canLayAll0 (.tuple (s.map PyData.int) :: rwsD h) = true ∧ PyData.depthAll (.tuple (s.map PyData.int) :: rwsD h) ≤ 1
    simp only [PyData.canLayAll0, PyData.canLay0, PyData.depthAll, PyData.depth, PySem.W.ke_canLayAll0, ih.1, d0, Bool.and_self, true_and]
    have := ih.2
    omega
theorem rws_dp {K : PySem.W.Frag} {H : Hp} : ∀ {xs : List V} {h : List (List Int)}, Each (TI K H) xs h → DpAll K H xs (rwsD h)
  | _, _, .nil => .nil
  | _, _, .cons ⟨_, e, hS⟩ t => by
    subst e
    exact .cons (dp_tup hS) (rws_dp t)
theorem dp_rws {K : PySem.W.Frag} {H : Hp} {v : V} {h : List (List Int)} (q : TII K H v h) : Dp K H v (.tuple (rwsD h)) := by
  obtain ⟨a, xs, rfl, hS, hE⟩ := q
  exact .tup hS (rws_dp hE)
def stsD (l : List (List (List Int))) : List PyData := l.map fun h => .tuple (rwsD h)
theorem sts_can : ∀ l : List (List (List Int)), PyData.canLayAll0 (stsD l) = true ∧ PyData.depthAll (stsD l) ≤ 2
  | [] => ⟨rfl, by show (0 : Nat) ≤ 2; decide⟩
  | h :: l => by
    have ih := sts_can l
    have r := rws_can h
    show PyData.canLayAll0 (.tuple (rwsD h) :: stsD l) = true ∧ PyData.depthAll (.tuple (rwsD h) :: stsD l) ≤ 2
    simp only [PyData.canLayAll0, PyData.canLay0, PyData.depthAll, PyData.depth, ih.1, r.1, Bool.and_self, true_and]
    have := ih.2
    have := r.2
    omega
theorem shaped_sts (l : List (List (List Int))) : SeqAt.shaped (.list (stsD l)) = true := by
  have := sts_can l
  unfold SeqAt.shaped
  rw [Bool.and_eq_true, decide_eq_true_iff]
  refine ⟨by simp only [PyData.canLay0]; exact this.1, ?_⟩
  simp only [PyData.depth]
  omega
theorem shaped_rwsL (h : List (List Int)) : SeqAt.shaped (.list (rwsD h)) = true := by
  have := rws_can h
  unfold SeqAt.shaped
  rw [Bool.and_eq_true, decide_eq_true_iff]
  refine ⟨by simp only [PyData.canLay0]; exact this.1, ?_⟩
  simp only [PyData.depth]
  omega
theorem nk_ti {K : PySem.W.Frag} {H : Hp} {v : V} {L : List Int} (k : NK H v (.tup (L.map .num))) : TI K H v L := by
  cases k with
  | tup e t =>
    rw [nks_ints_row t] at e
    exact ⟨_, rfl, .inl e⟩
theorem nks_tii {K : PySem.W.Frag} {H : Hp} : ∀ {xs : List V} {Ls : List (List Int)}, NKs H xs (Ls.map fun L => .tup (L.map .num)) → Each (TI K H) xs Ls
  | _, [], k => by
    cases k
    exact .nil
  | _, L :: Ls, k => by
    cases k with
    | cons g t => exact .cons (nk_ti g) (nks_tii t)
theorem nk_tii {K : PySem.W.Frag} {H : Hp} {b : Addr} {Ls : List (List Int)} (k : NK H (.ref b) (keyR Ls)) : TII K H (.ref b) Ls := by
  cases k with
  | tup e t => exact ⟨b, _, rfl, .inl e, nks_tii t⟩
theorem er_dp {K : PySem.W.Frag} {H : Hp} : ∀ {xs : List V} {ls : List (List (List Int))}, ER H xs ls → DpAll K H xs (stsD ls)
  | _, _, .nil => .nil
  | _, _, .cons k t => .cons (dp_rws (nk_tii k)) (er_dp t)
theorem eqv_nil (ds : List PyData) : PyData.eqv (.list ds) (.list []) = ds.isEmpty := by
  rw [PyData.eqv]
  cases ds with
  | nil => rfl
  | cons d t => simp [PyData.eqvAll]
theorem okD_rows {h : List (List Int)} (l : h.length ≤ 20000) (r : ∀ s ∈ h, s.length ≤ 20000) : okD 2 (.tuple (rwsD h)) := by
  refine ⟨by unfold rwsD; rw [List.length_map]; exact l, fun d hd => ?_⟩
  obtain ⟨s, hs, rfl⟩ := List.mem_map.mp hd
  refine ⟨by rw [List.length_map]; exact r s hs, fun d hd => ?_⟩
  obtain ⟨i, _, rfl⟩ := List.mem_map.mp hd
  exact True.intro
theorem okD_sts {l : List (List (List Int))} (n : l.length ≤ 20000) (r : ∀ h ∈ l, h.length ≤ 20000 ∧ ∀ s ∈ h, s.length ≤ 20000) : okD 3 (.tuple (stsD l)) := by
  refine ⟨by unfold stsD; rw [List.length_map]; exact n, fun d hd => ?_⟩
  obtain ⟨h, hh, rfl⟩ := List.mem_map.mp hd
  exact okD_rows (r h hh).1 (r h hh).2
section
variable {P : Program} {w : World} {K : PySem.W.Frag} {mg : Str → Option Value} {base : Heap}
def spAgrees : Sp := fun vs H Q _ => ∃ (b : Addr) (Ls : List (List Int)) (x : Int), vs = [.ref b, .int x] ∧ RS2 H b Ls ∧ (∀ L ∈ Ls, 0 ≤ x ∧ x < L.length) ∧ 0 < Ls.length ∧ Ls.length ≤ 3 ∧ ∀ H', Same H H' → Q (.bl (tog (Ls.map fun L => L.getD x.toNat 0))) H'
theorem ok_agrees (F : Df K mg "_law_agrees" st__law_agrees ["stand", "name"]) (B : Bu mg) : Cal P w K mg base 1 "_law_agrees" spAgrees := by
  refine mkCal F sc__law_agrees (fun vs H Q E h => ?_) (fun f cdv A outer s H vs Q E hr h => ?_)
  · obtain ⟨b, Ls, x, rfl, _⟩ := h
    rfl
  · obtain ⟨b, Ls, x, rfl, ⟨xs, hb, hE⟩, hx, h0, h3, q⟩ := h
    refine ⟨_, pss_one (ps_ret (pe_cmpR (op_eqD hr.units) (pe_lc (own := [("layout", 2)]) (g := gName 2) rfl sc__law_agrees.nd (pi_tup (pv 0)) (blkOk_by (N := ["stand", "name", "layout"]) (sc := defScope st__law_agrees) (by decide +kernel))
        (fun _ _ _ _ _ => pg_name (i := 2) sc__law_agrees.nd rfl (Or.inl rfl)) (fun _ _ _ _ _ => pts_one (pt_cmpR op_ne (pe_ix (ixT K) (pv 2) (pv 1) (fun _ _ => rfl)) (pe_ix (ixT K) (pe_ix (ixT K) (pv 0) pe_int (fun _ _ => rfl)) (pv 1) (fun _ _ => rfl)) (nomark _))) (fun _ _ _ _ _ => pv 2)) (pe_lst pa_nil) (nomark _))), ?_⟩
    have lx := hE.len
    obtain ⟨x0, L0, hx0, hL0, a0, rfl, hA0⟩ := hE.first h0
    have m0 := List.mem_of_getElem? hL0
    have at0 := hx L0 m0
    refine ⟨_, rfl, b, rfl, ⟨_, .inl hb⟩, fun D hD => ?_⟩
    let g : List Int → Bool := fun L => decide (L.getD x.toNat 0 ≠ L0.getD x.toNat 0)
    refine lc_tup (xs := xs) (fun i H' => Same H H' ∧ ∃ ys, H' D = some (.lst ys) ∧ Each (RL H') ys ((Ls.take i).filter g)) ⟨same_new hD, [], upd_same, .nil⟩ (fun i H' _ h' => onT h'.1 (.inl hb)) (fun i v H' hv h' => ?_) (fun H' h' => ?_)
    · obtain ⟨sm, ys, eD, hY⟩ := h'
      obtain ⟨L, hL, a, rfl, hA⟩ := hE.at hv
      have atL := hx L (List.mem_of_getElem? hL)
      obtain ⟨y, hy⟩ : ∃ y, L[x.toNat]? = some y := ⟨_, List.getElem?_eq_getElem (by omega)⟩
      obtain ⟨y0, hy0⟩ : ∃ y, L0[x.toNat]? = some y := ⟨_, List.getElem?_eq_getElem (by omega)⟩
      have ex : (x : Int) = (x.toNat : Int) := by omega
      have gy : L.getD x.toNat 0 = y := by rw [List.getD_eq_getElem?_getD, hy]; rfl
      have gy0 : L0.getD x.toNat 0 = y0 := by rw [List.getD_eq_getElem?_getD, hy0]; rfl
      refine ⟨rfl, _, rfl, _, rfl, a, _, x, .int y, rfl, rfl, .inl (TK.same sm _ _ hA), ?_, _, rfl, b, xs, 0, _, rfl, rfl, .inl (TK.same sm _ _ hb), atI_nat (j := 0) hx0, _, rfl, a0, _, x, .int y0, rfl, rfl, .inl (TK.same sm _ _ hA0), ?_, rfl, _, rfl, ?_⟩
      · rw [ex]
        exact atI_nat (by rw [List.getElem?_map, hy]; rfl)
      · rw [ex]
        exact atI_nat (by rw [List.getElem?_map, hy0]; rfl)
      have nx : Ls.take (i + 1) = Ls.take i ++ [L] := by rw [List.take_add_one, hL]; rfl
      have eg : (!decide (V.int y = V.int y0)) = g L := by
        show _ = decide (L.getD x.toNat 0 ≠ L0.getD x.toNat 0)
        rw [gy, gy0]
        by_cases e : y = y0
        · subst e; simp
        · rw [decide_eq_true (p := y ≠ y0) e, decide_eq_false (fun z => e (by cases z; rfl))]
          rfl
      refine ite2 (fun e => ?_) (fun e => ?_)
      · have lz := hY.len
        have := List.length_filter_le g (Ls.take i)
        rw [List.length_take] at this
        have tk : TK H' (upd H' D (.lst (ys ++ [V.ref a]))) := TK.upd eD not_tup_l
        refine ⟨_, rfl, _, eD, small1000 (by omega), sameU sm hD, ys ++ [.ref a], upd_same, ?_⟩
        have e : g L = true := by rw [← eg]; exact e
        rw [nx, List.filter_append, List.filter_cons_of_pos e]
        exact Each.snoc2 ⟨a, rfl, tk _ _ (TK.same sm _ _ hA)⟩ (hY.imp fun _ _ z => z.on tk)
      · have e : ¬ g L = true := by rw [← eg]; exact e
        refine ⟨sm, ys, eD, ?_⟩
        rw [nx, List.filter_append, List.filter_cons_of_neg e, List.filter_nil, List.append_nil]
        exact hY
    · obtain ⟨sm, ys, eD, hY⟩ := h'
      rw [lx, List.take_length] at hY
      refine ⟨Nat.zero_le _, fun z hz => ?_⟩
      have sz := same_new (o := .lst []) hz
      refine ⟨.list (rwsD (Ls.filter g)), .list [], .lst (lstAt (sz _ _ eD)) (rws_dp (hY.imp fun _ _ z => (z.on (TK.same sz)).ti)), .lst (lstAt upd_same) .nil, shaped_rwsL _, by decide +kernel, ?_⟩
      rw [eqv_nil]
      have e : (rwsD (Ls.filter g)).isEmpty = tog (Ls.map fun L => L.getD x.toNat 0) := by
        unfold rwsD tog
        rw [Bool.eq_iff_iff, List.all_eq_true, List.isEmpty_iff, List.map_eq_nil_iff, List.filter_eq_nil_iff]
        have h00 : (Ls.map fun L => L.getD x.toNat 0).getD 0 0 = L0.getD x.toNat 0 := by
          rw [List.getD_eq_getElem?_getD, List.getElem?_map, hL0]
          rfl
        rw [h00]
        constructor
        · intro h p hp
          obtain ⟨L, hL, rfl⟩ := List.mem_map.mp hp
          have := h L hL
          simpa [g] using this
        · intro h L hL
          have := h _ (List.mem_map.mpr ⟨L, hL, rfl⟩)
          simpa [g] using this
      rw [e]
      exact q _ (sm.trans sz)
end
end RH
set_option Elab.async false
set_option linter.all false
set_option maxRecDepth 100000
set_option maxHeartbeats 2000000
namespace RH
open PySem PySem.Spec PyProof.Rows L2
/-! ### the law's own search of stands -/
section
variable {P : Program} {w : World} {K : PySem.W.Frag} {mg : Str → Option Value} {base : Heap}
def spLSt (P : Program) (w : World) (K : PySem.W.Frag) : Sp := fun vs H Q _ => ∃ (hv : V) (b : Addr) (hs : List (List (List Int))) (n : Nat) (s : List Int) (most : Nat), vs = [hv, .ref b, .int (most : Nat)] ∧ SH K H hv b hs n s ∧ n ≤ 4 ∧
  (∀ H', Same H H' → Q .non H') ∧
  ∀ (H' : Hp) (d : Addr) (k : Nat) (bs : List Addr), Same H H' → H' d = some (DN P w (kS n) ((fd (stS n hs) (rg n) s k).map valD) bs d) → KBN (kS n) H' ((fd (stS n hs) (rg n) s k).map valD) bs → lv (stS n hs) (rg n) s k = [] → Q (.ref d) H'
theorem ok_lstands (F : Df K mg "_law_stands" st__law_stands ["habits", "stand", "most"]) (B : Bu mg) (CLT : Cal P w K mg base 1 "_law_touch" (spMove K)) : Cal P w K mg base 2 "_law_stands" (spLSt P w K) := by
  refine mkCal F sc__law_stands (fun vs H Q E h => ?_) (fun f cdv A outer s H vs Q E hr h => ?_)
  · obtain ⟨hv, b, hs, n, s, most, rfl, _⟩ := h
    rfl
  · obtain ⟨hv, a, hs, n, L, most, rfl, S, n4, qn0, q⟩ := h
    refine ⟨_, pss_cons (ps_par3 (i := 3) (j := 4) (l := 5) rfl sc__law_stands.nd rfl rfl rfl (by decide) (by decide) (by decide) rfl rfl rfl (pa_cons (pe_disp1N (κ := kS n) hr.units (pv 1) pe_int) (pa_cons (pe_lst (pa_cons (pv 1) pa_nil)) (pa_cons pe_int pa_nil))) rfl)
      (pss_cons (ps_while PassesOwn.never (pt_cmpR (op_neD hr.units) (pv 4) (pe_lst pa_nil) (nomark _))
        (pss_cons (ps_par (i := 6) (j := 5) rfl sc__law_stands.nd rfl rfl (by decide) rfl rfl (pa_cons (pe_lst pa_nil) (pa_cons (pe_op op_add (pv 5) pe_int) pa_nil)) rfl)
        (pss_cons (ps_for PassesOwn.never rfl (pi_list (pv 4)) (pg_name (i := 7) sc__law_stands.nd rfl (Or.inl rfl))
          (pss_one (ps_for PassesOwn.never rfl (pi_range1 (by rfl) B.range (pa_cons (pe_callB (cl_len K) (by rfl) B.len PySem.boot_len (pa_cons (pe_ix (ixT K) (pv 0) pe_int (fun _ _ => rfl)) pa_nil)) pa_nil)) (pg_name (i := 8) sc__law_stands.nd rfl (Or.inr rfl))
            (pss_cons (ps_set (i := 9) sc__law_stands.nd rfl (.inl rfl) (pe_tupleOf (by rfl) B.tuple (pe_lc (own := [("habit", 10), ("layout", 11)]) (g := gTup K 2 (gCons (gName 10) (gCons (gName 11) gNil))) (tt := tYes) rfl sc__law_stands.nd
                (RZ.pi_zipA (by rfl) B.zip (pa_cons (pv 0) (pa_cons (pv 7) pa_nil))) (blkOk_by (N := ["habits", "stand", "most", "found", "last", "far", "longer", "one", "place", "other", "habit", "layout"]) (sc := defScope st__law_stands) (by decide +kernel))
                (fun _ _ _ _ _ => pg_tup rfl (pgs_cons (pg_name (i := 10) sc__law_stands.nd rfl (Or.inl rfl)) (pgs_cons (pg_name (i := 11) sc__law_stands.nd rfl (Or.inl rfl)) pgs_nil))) (fun _ _ _ _ _ => pts_nil)
                (fun _ _ _ _ _ => pc CLT hr (pa_cons (pv 10) (pa_cons (pv 11) (pa_cons (pv 8) pa_nil)))))))
            (pss_one (ps_if (pt_cmp (pc_dnotinN (κ := kS n) hr.units (pv 9) (pv 3)))
              (pss_cons (ps_dputN (κ := kS n) hr.units (pv 3) (pv 9) (pv 5) rfl)
              (pss_one (ps_expr (pe_bm PySem.F.plainAttrs_list PySem.F.slot_list_append PySem.F.type_list_append mt_append (pv 6) (pa_cons (pv 9) pa_nil))))) pss_nil))))))
        (pss_cons (ps_if (pt_cmpR op_gt (pe_callB (call_lenN (κ := kS n)) (by rfl) B.len PySem.boot_len (pa_cons (pv 3) pa_nil)) (pv 2) (nomark _)) (pss_one (ps_ret pe_non)) pss_nil)
        (pss_one (ps_set (i := 4) sc__law_stands.nd rfl (.inl rfl) (pv 6))))))) 
      (pss_one (ps_ret (pv 3)))), ?_⟩
    obtain ⟨ah, hxs, rfl, hS, hHE⟩ := id S.t
    have hxl := hHE.len
    have m0 := S.m0
    have m3 := S.m3
    have n2 := S.n2
    have sy := sysS (hs := hs) n2 n4 S.hb m3
    have hL := S.c
    have ha := S.k
    obtain ⟨x00, hx00⟩ : ∃ x, hxs[0]? = some x := ⟨_, List.getElem?_eq_getElem (by omega)⟩
    obtain ⟨h00, e00, a00, z00, rfl, hS00, hE00⟩ := hHE.at hx00
    have l00 : z00.length = n := hE00.len.trans (S.hb h00 (List.mem_of_getElem? e00)).len
    have rgat : ∀ {j : Nat}, j < n → (rg n)[j]? = some (j : Int) := fun {j} hj => by
      unfold rg
      rw [List.getElem?_map, List.getElem?_range hj]
      rfl
    intro d hd
    refine ⟨_, rfl, upd_same, a, L, rfl, ha.on (TK.same (same_new hd)), ?_⟩
    have hd1 : Same H (upd (upd H d (DN P w (kS n) [] [] d)) d (DN P w (kS n) [(L, .int 0)] [a] d)) := Same.upd (same_new hd) hd
    refine ⟨_, rfl, by show 1 ≤ sizeLine; decide, fun l hl => ⟨_, _, _, rfl, ?_⟩⟩
    refine ⟨fun m σ H' => ∃ (k : Nat) (ks : List Addr) (xs : List V) (l : Addr), m = mea 13824 (stS n hs) (rg n) L k ∧ (∃ y6 y7 y8 y9 y10 y11, σ = [some (.ref ah), some (.ref a), some (.int (most : Nat)), some (.ref d), some (.ref l), some (.int (k : Nat)), y6, y7, y8, y9, y10, y11]) ∧
      Same H H' ∧ H' d = some (DN P w (kS n) ((fd (stS n hs) (rg n) L k).map valD) ks d) ∧ KBN (kS n) H' ((fd (stS n hs) (rg n) L k).map valD) ks ∧ H' l = some (.lst xs) ∧ EN (kS n) H' xs ((lv (stS n hs) (rg n) L k).map Prod.fst), ⟨mea 13824 (stS n hs) (rg n) L 0, 0, [a], [.ref a], l, rfl, ⟨none, none, none, none, none, none, rfl⟩, hd1.trans (same_new hl), same_new hl _ _ upd_same, ?_, upd_same, ?_⟩, ?_⟩
    · exact .cons (ha.on (TK.same (hd1.trans (same_new hl)))) .nil
    · exact .cons (ha.on (TK.same (hd1.trans (same_new hl)))) .nil
    rintro m σ H1' ⟨k, ks, xs, l, rfl, ⟨y6, y7, y8, y9, y10, y11, rfl⟩, sm', eD', kb', eL', hE'⟩
    refine ⟨_, rfl, Nat.zero_le _, fun z hz => ?_⟩
    have sz := same_new (o := .lst []) hz
    have sm := sm'.trans sz
    have eD := sz _ _ eD'
    have kb := kb'.on (TK.same sz)
    have eL := sz _ _ eL'
    have hE := hE'.on (TK.same sz)
    refine ⟨.list (stsD (((lv (stS n hs) (rg n) L k).map Prod.fst).map (chk n))), .list [], .lst (lstAt eL) (er_dp hE.rows), .lst (lstAt upd_same) .nil, shaped_sts _, by decide +kernel, _, rfl, ?_⟩
    generalize upd H1' z (.lst []) = H1 at sm eD kb eL hE ⊢
    clear sz sm' eD' kb' eL' hE' hz
    rw [eqv_nil]
    have lx : xs.length = (lv (stS n hs) (rg n) L k).length := hE.len.trans (List.length_map ..)
    have hlen := sy.fd_few hL k
    refine ite2 (fun ex => ?_) (fun ex => ?_)
    · have hne : lv (stS n hs) (rg n) L k ≠ [] := by
        intro z
        rw [z] at ex
        cases ex
      refine ⟨fun σ' H' => ∃ m', m' < mea 13824 (stS n hs) (rg n) L k ∧ ∃ (k : Nat) (ks : List Addr) (xs : List V) (l : Addr), m' = mea 13824 (stS n hs) (rg n) L k ∧ (∃ y6 y7 y8 y9 y10 y11, σ' = [some (.ref ah), some (.ref a), some (.int (most : Nat)), some (.ref d), some (.ref l), some (.int (k : Nat)), y6, y7, y8, y9, y10, y11]) ∧
      Same H H' ∧ H' d = some (DN P w (kS n) ((fd (stS n hs) (rg n) L k).map valD) ks d) ∧ KBN (kS n) H' ((fd (stS n hs) (rg n) L k).map valD) ks ∧ H' l = some (.lst xs) ∧ EN (kS n) H' xs ((lv (stS n hs) (rg n) L k).map Prod.fst), fun _ _ h => h, ?_⟩
      refine ⟨Nat.zero_le _, fun u hu => ⟨_, rfl, (k : Nat), 1, rfl, rfl, _, _, rfl, ?_⟩⟩
      have su := same_new (o := .lst []) hu
      have hlu : l ≠ u := ne_of_none eL hu
      have huH := none_of sm hu
      refine ⟨_, rfl, l, rfl, ⟨_, lstAt (su _ _ eL)⟩, ?_⟩
      refine for_list (xs := xs) (fun i σ H' => MidB P w (kS n) H (stS n hs) (rg n) L (fun _ l as => as = l.map valD) k d l u xs i 0 H' ∧ ∃ y7 y8 y9 y10 y11, σ = [some (.ref ah), some (.ref a), some (.int (most : Nat)), some (.ref d), some (.ref l), some (.int ((k : Nat) + 1 : Int)), some (.ref u), y7, y8, y9, y10, y11])
        ⟨⟨_, ks, [], sm.trans su, su _ _ eD, kb.on (TK.same su), ?_, ?_, su _ _ eL, hE.on (TK.same su), upd_same, ?_⟩, _, _, _, _, _, rfl⟩ (fun i σ H' _ h' => ?_) (fun i x σ H2 hx h' => ?_) (fun σ H2 h' => ?_)
      · rw [Nat.zero_mul, prt_zero, List.append_nil, valD_fst]
      · rw [Nat.zero_mul, prt_zero, List.append_nil]
      · rw [Nat.zero_mul, prt_zero]
        exact .nil
      · obtain ⟨⟨_, _, _, _, _, _, _, _, e, _⟩, _⟩ := h'
        exact lstAt e
      · obtain ⟨hM, z7, z8, z9, z10, z11, rfl⟩ := h'
        obtain ⟨q0, b, hq0, rfl, _⟩ := lv_row hE hx
        have hp0 := sy.lv_C hL k q0 (List.mem_of_getElem? hq0)
        obtain ⟨_, _, _, smM, _⟩ := id hM
        refine ⟨_, rfl, ah, hxs, 0, _, rfl, rfl, onT smM hS, atI_nat (j := 0) hx00, a00, z00, rfl, .inr (onT smM hS00), (z00.length : Nat), rfl, by omega, by omega, ?_⟩
        rw [l00, Int.toNat_natCast]
        refine for_range (lo := 0) (n := n) (fun j σ H' => MidB P w (kS n) H (stS n hs) (rg n) L (fun _ l as => as = l.map valD) k d l u xs i j H' ∧ ∃ y8 y9 y10 y11, σ = [some (.ref ah), some (.ref a), some (.int (most : Nat)), some (.ref d), some (.ref l), some (.int ((k : Nat) + 1 : Int)), some (.ref u), some (.ref b), y8, y9, y10, y11])
          ⟨hM, _, _, _, _, rfl⟩ (fun j σ H3 hj h' => ?_) (fun σ H3 h' => ?_)
        · obtain ⟨⟨bs, ks, us, sm3, eD3, kb3, hf3, hv3, eL3, hE3, eU3, hF3⟩, w8, w9, w10, w11, rfl⟩ := h'
          have hpj := rgat hj
          rw [Int.zero_add]
          obtain ⟨q0', b', hq0', eb', hb3⟩ := lv_row hE3 hx
          cases eb'
          rw [hq0] at hq0'
          cases hq0'
          have hfew := sy.prt_few hL k (i * (rg n).length + j)
          have blen : bs.length ≤ 13824 := by
            have := congrArg List.length hf3
            rw [List.length_map, List.length_map] at this
            omega
          have ulen : us.length ≤ 13824 := by
            have h1 := hF3.len
            rw [List.length_map] at h1
            rw [List.length_append] at hfew
            omega
          obtain ⟨ys, hY, hLr⟩ := hb3.rows
          have ly := hLr.len
          rw [hp0.1] at ly
          have hS3 := onT sm3 hS
          have hHE3 : Each (TII K H3) hxs hs := hHE.imp fun _ _ z => z.on (Same.tups sm3)
          have hin : InR n (j : Int) := ⟨by omega, by omega⟩
          refine ⟨_, rfl, _, rfl, ah, b, _, _, rfl, .inr ⟨hS3, .inl hY, fun D hD => ?_⟩⟩
          refine lc_zipT (xs := hxs) (ys := ys) hs.length (by omega) (fun i H' => Same H3 H' ∧ ∃ zs, H' D = some (.lst zs) ∧ Each (RL H') zs (((hs.zip (chk n q0.1)).take i).map fun q => stp q.1 (j : Int) q.2)) ⟨same_new hD, [], upd_same, .nil⟩ (fun i H' h' => ⟨onT h'.1 hS3, .inl (TK.same h'.1 _ _ hY)⟩) (fun i x z T H' hx hz h' hT => ?_) (fun H' h' => ?_)
          · obtain ⟨smz, zs, eDz, hZ⟩ := h'
            obtain ⟨h, Lr, hz2, hTh, ar, rfl, hA⟩ := each_zip hHE3 hLr hx hz
            have hm := List.of_mem_zip (List.mem_of_getElem? hz2)
            have sT := same_new (o := .tup [x, .ref ar]) hT
            have smT := smz.trans sT
            have pL := hp0.2 Lr hm.2
            refine ⟨T, _, rfl, tupAt upd_same, rfl, _, _, rfl, _, _, rfl, rfl, rfl, _, rfl, _, rfl, _, rfl, x, h, n, ar, Lr, (j : Int), rfl, hTh.on (Same.tups smT), S.hb h hm.1, .inl (TK.same smT _ _ hA), fun u hu => perm_in pL hu, by have := perm_len pL; omega, hin, fun H4 r s4 nr er => ?_⟩
            have eD4 := s4 _ _ (sT _ _ eDz)
            have s44 := sT.trans s4
            have lz := hZ.len
            rw [List.length_map, List.length_take, List.length_zip] at lz
            refine ⟨zs, eD4, small1000 (by omega), ?_, zs ++ [.ref r], upd_same, ?_⟩
            · exact fun c o ec => by rw [upd_ne (ne_of_none ec hD)]; exact (smz.trans s44) c o ec
            · rw [List.take_add_one, hz2, List.map_append]
              have tk : TK H4 (upd H4 D (.lst (zs ++ [V.ref r]))) := TK.upd eD4 not_tup_l
              exact Each.snoc2 ⟨r, rfl, tk _ _ er.kx⟩ (hZ.imp fun _ _ z => (z.on (TK.same s44)).on tk)
          obtain ⟨smz, zs, eDz, hZ⟩ := h'
          rw [List.take_of_length_le (by rw [List.length_zip]; omega)] at hZ
          refine .inl ⟨D, _, rfl, lstAt eDz, fun qn hqn => ?_⟩
          have s4 : Same H3 (upd H' qn (.tup zs)) := smz.trans (same_new hqn)
          have eq4 : KS (kS n) (upd H' qn (.tup zs)) qn (stS n hs (j : Int) q0.1) := by
            refine ks_rows ?_
            rw [stS_rows (by omega) S.hb hin hp0]
            exact ⟨zs, .inl upd_same, hZ.imp fun _ _ z => z.on (TK.same (same_new hqn))⟩
          generalize upd H' qn (.tup zs) = H4 at s4 eq4 ⊢
          clear hZ eDz smz hqn
          have sm4 := sm3.trans s4
          have eD4 := s4 _ _ eD3
          have eU4 := s4 _ _ eU3
          have kb4 := kb3.on (TK.same s4)
          refine ⟨_, rfl, _, rfl, d, qn, bs, ks, stS n hs (j : Int) q0.1, rfl, rfl, eD4, kb4, eq4, _, rfl, ?_⟩
          by_cases hm : stS n hs (j : Int) q0.1 ∈ bs.map Prod.fst
          · have hm2 := hm
            rw [hf3] at hm2
            have ep := prt_old hq0 hpj hm2
            refine ifF (by rw [decide_eq_true hm]; rfl) ⟨⟨bs, ks, us, sm4, eD4, kb4, ?_, ?_, s4 _ _ eL3, hE3.on (TK.same s4), eU4, ?_⟩, _, _, _, _, rfl⟩
            · rw [show i * (rg n).length + (j + 1) = i * (rg n).length + j + 1 from rfl, ep]
              exact hf3
            · rw [show i * (rg n).length + (j + 1) = i * (rg n).length + j + 1 from rfl, ep]
              exact hv3
            · rw [show i * (rg n).length + (j + 1) = i * (rg n).length + j + 1 from rfl, ep]
              exact hF3.on (TK.same s4)
          · have hm2 := hm
            rw [hf3] at hm2
            have ep := prt_new hq0 hpj hm2
            refine ifT (by rw [decide_eq_false hm]; rfl) ?_
            refine ⟨_, rfl, _, rfl, _, rfl, d, qn, bs, ks, stS n hs (j : Int) q0.1, rfl, rfl, eD4, kb4, eq4, hm, (by rw [sizeLine_eq]; omega), ?_⟩
            have tk5 : TK H4 (upd H4 d (DN P w (kS n) (bs ++ [(stS n hs (j : Int) q0.1, V.int ((k : Nat) + 1 : Int))]) (ks ++ [qn]) d)) := TK.upd eD4 not_tup_d
            have eU5 : (upd H4 d (DN P w (kS n) (bs ++ [(stS n hs (j : Int) q0.1, V.int ((k : Nat) + 1 : Int))]) (ks ++ [qn]) d)) u = some (.lst us) := by
              rw [upd_ne (ne_of eU4 eD4 (fun z => nomatch z))]
              exact eU4
            have eL5 : (upd H4 d (DN P w (kS n) (bs ++ [(stS n hs (j : Int) q0.1, V.int ((k : Nat) + 1 : Int))]) (ks ++ [qn]) d)) l = some (.lst xs) := by
              rw [upd_ne (ne_of (s4 _ _ eL3) eD4 (fun z => nomatch z))]
              exact s4 _ _ eL3
            have sm5 : Same H (upd H4 d (DN P w (kS n) (bs ++ [(stS n hs (j : Int) q0.1, V.int ((k : Nat) + 1 : Int))]) (ks ++ [qn]) d)) := Same.upd sm4 hd
            have eD5 : (upd H4 d (DN P w (kS n) (bs ++ [(stS n hs (j : Int) q0.1, V.int ((k : Nat) + 1 : Int))]) (ks ++ [qn]) d)) d = some (DN P w (kS n) (bs ++ [(stS n hs (j : Int) q0.1, V.int ((k : Nat) + 1 : Int))]) (ks ++ [qn]) d) := upd_same
            have kb5 : KBN (kS n) (upd H4 d (DN P w (kS n) (bs ++ [(stS n hs (j : Int) q0.1, V.int ((k : Nat) + 1 : Int))]) (ks ++ [qn]) d)) (bs ++ [(stS n hs (j : Int) q0.1, V.int ((k : Nat) + 1 : Int))]) (ks ++ [qn]) := (kb4.on tk5).snoc (q := (stS n hs (j : Int) q0.1, V.int ((k : Nat) + 1 : Int))) (b := qn) (eq4.on tk5)
            have hq5 := eq4.on tk5
            refine ⟨_, rfl, .inl ⟨rfl, _, lstAt eU5⟩, _, rfl, u, us, .ref qn, rfl, rfl, eU5, (by rw [sizeLine_eq]; omega), ?_⟩
            have tk6 : TK (upd H4 d (DN P w (kS n) (bs ++ [(stS n hs (j : Int) q0.1, V.int ((k : Nat) + 1 : Int))]) (ks ++ [qn]) d)) (upd (upd H4 d (DN P w (kS n) (bs ++ [(stS n hs (j : Int) q0.1, V.int ((k : Nat) + 1 : Int))]) (ks ++ [qn]) d)) u (.lst (us ++ [.ref qn]))) := TK.upd eU5 not_tup_l
            have tk46 := (TK.same s4).trans (tk5.trans tk6)
            refine ⟨⟨bs ++ [(stS n hs (j : Int) q0.1, V.int ((k : Nat) + 1 : Int))], ks ++ [qn], us ++ [.ref qn], Same.upd sm5 huH, ?_, kb5.on tk6, ?_, ?_, ?_, hE3.on tk46, upd_same, ?_⟩, _, _, _, _, rfl⟩
            · rw [upd_ne (ne_of eD5 eU5 (fun z => nomatch z))]
              exact eD5
            · rw [show i * (rg n).length + (j + 1) = i * (rg n).length + j + 1 from rfl, ep, ← List.append_assoc]
              exact fst_snoc hf3 rfl
            · rw [show i * (rg n).length + (j + 1) = i * (rg n).length + j + 1 from rfl, ep, ← List.append_assoc]
              show bs ++ _ = List.map valD _
              rw [List.map_append, ← hv3]
              congr 1
              show [(stS n hs (j : Int) q0.1, V.int ((k : Nat) + 1 : Int))] = [valD (stS n hs (j : Int) q0.1, q0.2 ++ [(j : Int)])]
              unfold valD
              rw [List.length_append, lv_len k q0 (List.mem_of_getElem? hq0)]
              rfl
            · rw [upd_ne hlu]
              exact eL5
            · rw [show i * (rg n).length + (j + 1) = i * (rg n).length + j + 1 from rfl, ep, List.map_append]
              exact EN.snoc (hq5.on tk6) (hF3.on tk46)
        · obtain ⟨hM3, w8, w9, w10, w11, rfl⟩ := h'
          exact ⟨MidB.row (by rw [rg_len]; exact hM3), _, _, _, _, _, rfl⟩
      · obtain ⟨⟨bs, ks, us, sm3, eD3, kb3, hf3, hv3, eL3, hE3, eU3, hF3⟩, w7, w8, w9, w10, w11, rfl⟩ := h'
        rw [lx, Nat.add_zero, prt_all] at hv3 hF3
        subst hv3
        refine ⟨_, rfl, d, _, ks, rfl, eD3, kb3, _, rfl, _, (most : Int), rfl, rfl, _, rfl, ite2 (fun _ => qn0 _ sm3) (fun _ => ?_)⟩
        exact ⟨_, rfl, mea 13824 (stS n hs) (rg n) L (k + 1), sy.mea_less hL hne, k + 1, ks, us, u, rfl, ⟨_, _, _, _, _, _, rfl⟩, sm3, eD3, kb3, eU3, hF3⟩
    · have hnil : lv (stS n hs) (rg n) L k = [] := by
        cases e : lv (stS n hs) (rg n) L k with
        | nil => rfl
        | cons x r =>
          rw [e] at ex
          exact absurd rfl ex
      exact ⟨_, rfl, q H1 d k ks sm eD kb hnil⟩
end
end RH
set_option Elab.async false
set_option linter.all false
set_option maxRecDepth 100000
set_option maxHeartbeats 2000000
namespace RH
open PySem PySem.Spec PyProof.Rows L2
/-! ### rules for any kind of keys -/
theorem PE.ex {X : Cx} {e : Expr} {t : KyF → TE} (h : ∀ κ, PE X e (t κ)) : PE X e (fun σ H Q => ∃ κ, t κ σ H Q) := ⟨fun pins s σ H Q I ⟨κ, hk⟩ => (h κ).run pins s σ H Q I hk⟩
theorem CallR.ex {X : Cx} {f : Value} {r : KyF → List V → Hp → VK → Prop} (h : ∀ κ, CallR X f (r κ)) : CallR X f (fun vs H Q => ∃ κ, r κ vs H Q) := fun pins s σ H vs us Q I rl ⟨κ, hk⟩ => h κ pins s σ H vs us Q I rl hk
theorem PS.ex {X : Cx} {st : Stmt} {t : KyF → TS} (h : ∀ κ, PS X st (t κ)) : PS X st (fun D σ H => ∃ κ, t κ D σ H) := ⟨fun pins s σ H D I ⟨κ, hk⟩ => (h κ).run pins s σ H D I hk⟩
/-! ### the levels of the law's inner search -/
def prtA (st : Int → List Int → List Int) (ts L : List Int) (t m : Nat) : List SW := dd [] ((exl st ts (lvA st ts L t)).take m)
section
variable {st : Int → List Int → List Int} {ts L : List Int} {N : Nat} {C : List Int → Prop} {U : List (List Int)}
theorem prtA_zero (t : Nat) : prtA st ts L t 0 = [] := by
  unfold prtA
  rw [List.take_zero]
  rfl
theorem prtA_all (t : Nat) : prtA st ts L t ((lvA st ts L t).length * ts.length) = lvA st ts L (t + 1) := by
  unfold prtA
  rw [← exl_length, List.take_length]
  rfl
theorem prtA_old {t i j : Nat} {q : SW} {p : Int} (hq : (lvA st ts L t)[i]? = some q) (hj : ts[j]? = some p) (hk : st p q.1 ∈ (prtA st ts L t (i * ts.length + j)).map Prod.fst) : prtA st ts L t (i * ts.length + j + 1) = prtA st ts L t (i * ts.length + j) := by
  unfold prtA at hk ⊢
  rw [take_more (exl_at hq hj), dd_snoc, ddS_in (.inr hk)]
theorem prtA_new {t i j : Nat} {q : SW} {p : Int} (hq : (lvA st ts L t)[i]? = some q) (hj : ts[j]? = some p) (hk : st p q.1 ∉ (prtA st ts L t (i * ts.length + j)).map Prod.fst) : prtA st ts L t (i * ts.length + j + 1) = prtA st ts L t (i * ts.length + j) ++ [(st p q.1, q.2 ++ [p])] := by
  unfold prtA at hk ⊢
  rw [take_more (exl_at hq hj), dd_snoc, ddS_new]
  rintro (h | h)
  · cases h
  · exact hk h
theorem Sys.lvA_C (sy : Sys N st ts C U) (hL : C L) {t : Nat} {q : SW} (hq : q ∈ lvA st ts L t) : C q.1 := by
  obtain ⟨h1, h2, _⟩ := lvA_ok t q hq
  rw [← h1]
  exact rn_C sy hL _ h2
theorem prtA_sub {t m : Nat} {q : SW} (hq : q ∈ prtA st ts L t m) : q ∈ lvA st ts L (t + 1) := by
  show q ∈ dd [] (exl st ts (lvA st ts L t))
  rw [← List.take_append_drop m (exl st ts (lvA st ts L t)), dd_app]
  exact dd_mono hq
theorem Sys.prtA_few (sy : Sys N st ts C U) (hL : C L) (t m : Nat) : (prtA st ts L t m).length ≤ N := sy.cnt (dd_ok _ _).nd fun q hq => sy.lvA_C hL (prtA_sub hq)
theorem Sys.lvA_few (sy : Sys N st ts C U) (hL : C L) : ∀ t, (lvA st ts L t).length ≤ N
  | 0 => sy.cnt (nd_one _) fun q hq => sy.lvA_C hL (t := 0) hq
  | t + 1 => sy.cnt (dd_ok _ _).nd fun q hq => sy.lvA_C hL (t := t + 1) hq
end
/-- a stand and its word -/
def PWd (κ : KyF) (H : Hp) (v : V) (q : SW) : Prop := ∃ t b w, v = .ref t ∧ Rd H t (.tup [.ref b, .ref w]) ∧ KS κ H b q.1 ∧ Rd H w (.tup (q.2.map V.int))
theorem PWd.on {κ : KyF} {H H' : Hp} (e : TK H H') {v : V} {q : SW} (h : PWd κ H v q) : PWd κ H' v q := let ⟨t, b, w, e1, h1, h2, h3⟩ := h; ⟨t, b, w, e1, e _ _ h1, h2.on e, e _ _ h3⟩
/-- can the name be met? -/
def fA (n : Nat) (F : List SW) (x : Int) : Bool := F.any fun q => tog (atN n q.1 x)
theorem meetsA {n : Nat} {hs : List (List (List Int))} {s : List Int} {k : Nat} (n2 : 2 ≤ n) (n4 : n ≤ 4) (hb : ∀ h ∈ hs, Hb n h) (m3 : hs.length ≤ 3) (hc : CS n hs.length s) (hk : lv (stS n hs) (rg n) s k = []) : Meets n hs s (fA n (fd (stS n hs) (rg n) s k)) := fun x hx => by
  have e := at_rn n2 n4 hb m3 hc (rg_mem.mp hx)
  unfold fA
  rw [List.any_eq_true]
  constructor
  · rintro ⟨q, hq, hg⟩
    obtain ⟨h1, h2⟩ := fd_rn k q hq
    exact ⟨q.2, h2, by rw [e q.2 h2, h1]; exact hg⟩
  · rintro ⟨v, hv, hg⟩
    obtain ⟨q, hq, h1⟩ := rn_all (st := stS n hs) (L := s) hk hv
    exact ⟨q, hq, by rw [h1, ← e v hv]; exact hg⟩
theorem catT_big {K : PySem.W.Frag} {H : Hp} {a b : Addr} {xs ys : List V} {Q : VK} (ha : SqT K H a xs) (hb : SqT K H b ys) (hl : xs.length + ys.length ≤ 100000) (q : ∀ r H', Same H H' → (H' r = some (.tup (xs ++ ys)) ∨ (ys = [] ∧ r = a) ∨ (xs = [] ∧ r = b)) → SqT K H' r (xs ++ ys) → Q (.ref r) H') : rCatA K (.ref a) (.ref b) H Q := by
  refine ⟨a, b, xs, ys, rfl, rfl, ha, hb, by rw [sizeLine_eq]; omega, fun e => ?_, fun _ e => ?_, fun _ _ p hp => q p _ (same_new hp) (.inl upd_same) (tupAt upd_same)⟩
  · subst e
    exact q b H (Same.refl H) (.inr (.inr ⟨rfl, rfl⟩)) hb
  · subst e
    exact q a H (Same.refl H) (.inr (.inl ⟨rfl, rfl⟩)) (by rw [List.append_nil]; exact ha)
open LamX (Tabs TabS TabB ExtN CodeO codeO_ne)
/-- what the law holds behind its search of stands -/
structure Nr (P : Program) (w : World) (K : PySem.W.Frag) (T : List (Addr × Str)) (H : Hp) (hv : V) (b : Addr) (hs : List (List (List Int))) (n : Nat) (s : List Int) (d : Addr) (k : Nat) (ks : List Addr) : Prop where
  S : SH K H hv b hs n s
  tb : Tabs T H
  e : H d = some (DN P w (kS n) ((fd (stS n hs) (rg n) s k).map valD) ks d)
  kb : KBN (kS n) H ((fd (stS n hs) (rg n) s k).map valD) ks
section
variable {P : Program} {w : World} {K : PySem.W.Frag} {T : List (Addr × Str)} {H H' : Hp} {hv : V} {b : Addr} {hs : List (List (List Int))} {n : Nat} {s : List Int} {d : Addr} {k : Nat} {ks : List Addr}
theorem Nr.ext (N : Nr P w K T H hv b hs n s d k ks) (e : ExtN H H') (t : Tabs T H') : Nr P w K T H' hv b hs n s d k ks := ⟨N.S.ext e, t, e _ _ N.e (fun ps z => nomatch z), N.kb.on (extN_tk e)⟩
theorem Nr.same (N : Nr P w K T H hv b hs n s d k ks) (e : Same H H') : Nr P w K T H' hv b hs n s d k ks := N.ext (extN_same e) (tabs_same N.tb e)
theorem Nr.lst {l : Addr} {xs ys : List V} (N : Nr P w K T H hv b hs n s d k ks) (e : H l = some (.lst xs)) : Nr P w K T (upd H l (.lst ys)) hv b hs n s d k ks := by
  have tk : TK H (upd H l (.lst ys)) := TK.upd e not_tup_l
  refine ⟨⟨N.S.t.on (Fix.tups (Fix.lst e)), N.S.hb, N.S.n2, N.S.n5, N.S.m3, N.S.m0, N.S.k.on tk, N.S.c⟩, tabs_lst N.tb e, ?_, N.kb.on tk⟩
  rw [upd_ne (ne_of N.e e (fun z => nomatch z))]
  exact N.e
end
theorem Each.back {α : Type} {R : V → α → Prop} : ∀ {xs : List V} {ds : List α} {i : Nat} {d : α}, Each R xs ds → ds[i]? = some d → ∃ x, xs[i]? = some x ∧ R x d
  | _, _, _, _, .nil, e => by simp at e
  | _, _, 0, _, .cons h _, e => by
    cases Option.some.inj e
    exact ⟨_, rfl, h⟩
  | _, _, i + 1, _, .cons _ t, e => t.back (i := i) e
theorem shaped_ints (ns : List Int) : SeqAt.shaped (.tuple (ns.map PyData.int)) = true := by
  simp [SeqAt.shaped, PyData.canLay0, PyData.depth, PySem.W.ke_canLayAll0, PySem.W.ke_depthAll]
theorem eqv_tupI (ns ms : List Int) : PyData.eqv (.tuple (ns.map PyData.int)) (.tuple (ms.map PyData.int)) = decide (ns = ms) := by
  rw [PyData.eqv]
  exact PySem.W.ked_eqvAll ns ms
end RH
set_option Elab.async false
set_option linter.all false
set_option maxRecDepth 100000
set_option maxHeartbeats 2000000
namespace RH
open PySem PySem.Spec PyProof.Rows L2
/-! ### what is refused -/
def hW (h : List (List Int)) : HO1 := some (h.map fun ns => some (ns.map V.int))
section
variable {K : PySem.W.Frag} {H H' : Hp} {n : Nat} {v vH vS pl : V} {hs : List (List (List Int))} {ss : List (List Int)}
theorem each_hk {xs : List V} (hE : Each (TII K H) xs hs) (hb : ∀ h ∈ hs, Hb n h) : Each (Hk K H) xs (hs.map hW) := by
  induction hE with
  | nil => exact .nil
  | @cons x h xs hs hx hE ih => exact .cons (hk_of hx (hb h (List.mem_cons_self ..))) (ih fun h hm => hb h (List.mem_cons_of_mem _ hm))
theorem each_st {xs : List V} (hE : Each (TI K H) xs ss) (sp : ∀ s ∈ ss, s.Perm (rg n)) (n5 : n ≤ 5) : Each (Wd K H) xs (ss.map fun ns => some (ns.map V.int)) := by
  induction hE with
  | nil => exact .nil
  | @cons x ns xs h hx hE ih =>
    obtain ⟨b, rfl, hB⟩ := hx
    refine .cons (wd_ints hB ?_) (ih fun ns hm => sp ns (List.mem_cons_of_mem _ hm))
    rw [perm_len (sp ns (List.mem_cons_self ..))]
    omega
theorem hw_good (hb : ∀ h ∈ hs, Hb n h) : ∀ x ∈ hs.map hW, habW x = true ∧ lenH x = n := fun x hx => by
  obtain ⟨h, hm, rfl⟩ := List.mem_map.mp hx
  exact ⟨hab_ok (hb h hm), len_ok (hb h hm)⟩
theorem badI_no {x : HO1} (h1 : habW x = true) (h2 : lenH x = n) : badI n x = false := by
  unfold badI
  rw [h1, decide_eq_true h2]
  rfl
theorem SH.good {b : Addr} {s : List Int} (S : SH K H vH b hs n s) : ∃ ho so, Hs K H vH ho ∧ hsBad ho = none ∧ nH ho = n ∧ mH ho = hs.length ∧ Hk K H (.ref b) so ∧ stBad n hs.length so = none := by
  have n2 := S.n2
  have n5 := S.n5
  obtain ⟨a, xs, rfl, hS, hE⟩ := S.t
  obtain ⟨b, ys, eb, hT, hF⟩ := S.k.rows.tii (K := K)
  obtain rfl := V.ref.inj eb
  have sl : (chk n s).length = hs.length := S.c.1
  have hg := hw_good S.hb
  have hd : lenH ((hs.map hW).headD none) = n := by
    cases e : hs with
    | nil => have := S.m0; rw [e] at this; exact absurd this (by decide)
    | cons h t => exact (hg (hW h) (by rw [e]; exact List.mem_cons_self ..)).2
  refine ⟨some (hs.map hW), some ((chk n s).map fun ns => some (ns.map V.int)), .tup hS (each_hk hE S.hb), ?_, hd, List.length_map .., .tup hT (each_st hF S.c.2 n5), ?_⟩
  · unfold hsBad
    dsimp only
    rw [List.length_map, decide_eq_true (p := 1 ≤ hs.length) S.m0, decide_eq_true S.m3, if_pos (by rfl), hd]
    have : (hs.map hW).findIdx? (badI n) = none := by
      rw [List.findIdx?_eq_none_iff]
      exact fun x hx => badI_no (hg x hx).1 (hg x hx).2
    rw [this]
    rfl
  · unfold stBad
    dsimp only
    rw [List.length_map, if_pos sl]
    have : (((chk n s).map fun ns => some (ns.map V.int)).findIdx? fun wo => !layW n wo) = none := by
      rw [List.findIdx?_eq_none_iff]
      intro x hx
      obtain ⟨s', hm, rfl⟩ := List.mem_map.mp hx
      rw [lay_ok (S.c.2 s' hm)]
      rfl
    rw [this]
    rfl
theorem SH.refC {Ch Cs b : Addr} {s : List Int} {E : XK} {cont : Nat → Nat → Prop} (S : SH K H vH b hs n s) (c : cont n hs.length) : RefHS K Ch Cs vH (.ref b) H E cont := by
  obtain ⟨ho, so, h1, h2, h3, h4, h5, h6⟩ := S.good
  exact ⟨ho, h1, .inr ⟨h2, so, h5, .inr ⟨by rw [h3, h4]; exact h6, by rw [h3, h4]; exact c⟩⟩⟩
end
end RH
set_option Elab.async false
set_option linter.all false
set_option maxRecDepth 100000
set_option maxHeartbeats 2000000
namespace RH
open PySem PySem.Spec PyProof.Rows L2
open NdefX (NScope CellsAt Caps slotAt slotAt_of cells_of startF ncx)
open LamX (Tabs TabS TabB ExtN CodeO codeO_ne)
section
variable {P : Program} {w : World} {K : PySem.W.Frag} {mg : Str → Option Value} {base : Heap} {Ch Cs : Addr} {T : List (Addr × Str)}
abbrev NLaw : List Str := ["script", "row", "places", "habits", "stand", "near", "met", "name", "far", "found", "last", "turn", "longer", "seen", "one", "word", "place", "other", "habit", "layout"]
theorem PC.ex {X : Cx} {op : CmpOp} {a b : Expr} {t : KyF → TE} (h : ∀ κ, PC X op a b (t κ)) : PC X op a b (fun σ H Q => ∃ κ, t κ σ H Q) := ⟨fun pins s σ H Q I ⟨κ, hk⟩ => (h κ).run pins s σ H Q I hk⟩
theorem PE.exD {X : Cx} {o i : Expr} {pos : Pos} {td ty : TE} (P : Program) (w : World) (hu : X.A.units + 64 < cLine) (ho : PE X o td) (hi : PE X i ty) (hs : NoSl i) (h1 : X.prog = P := by rfl) (h2 : X.w = w := by rfl) : PE X (.Subscript o i pos) (fun σ H Q => ∃ κ, tDGetN P w κ td ty σ H Q) := by
  subst h1 h2
  exact PE.ex fun κ => pe_dgetN (κ := κ) hu ho hi hs
def spLaw (K : PySem.W.Frag) (T : List (Addr × Str)) : Sp := fun vs H Q _ => ∃ (a : Addr) (ns : List Int), vs = [.ref a] ∧ Fz K H a (ns.map V.int) ∧ Tabs T H ∧ ∀ H', Q (.bl true) H'
theorem ok_law {f : Addr} {fd_ : FuncData} (F : Fun K "law" "law" st_law f fd_) (B : Bu mg) (nmin : mg "min" = none) (CT : Cal P w K mg base 1 "_law_taken" (spTaken K)) (CS : Cal P w K mg base 4 "_law_several" (spSeveral K)) (CLT : Cal P w K mg base 1 "_law_touch" (spMove K)) (CLS : Cal P w K mg base 2 "_law_stands" (spLSt P w K))
    (CAg : Cal P w K mg base 1 "_law_agrees" spAgrees) (CA : Cal P w K mg base 4 "_law_alike" (spAlike K 3)) (A1 : CalX P w K mg base 8 "stands" (spStandsG K T Ch Cs)) (A2 : CalX P w K mg base 8 "names_met" (spNMX K T Ch Cs)) (A3 : CalX P w K mg base 8 "meeting" (spMeetG K T Ch Cs)) :
    FnOk P w K mg base CX0 9 f fd_ ["script"] (spLaw K T) := by
  refine F.ok sc_law (fun vs H Q E h => ?_) (fun cdv A outer s H vs Q E hr h => ?_)
  · obtain ⟨a, ns, rfl, _⟩ := h
    rfl
  · obtain ⟨a, scr, rfl, hZ, hTb, q⟩ := h
    refine ⟨_, PSs.nox (pss_cons (ps_set (i := 1) sc_law.nd rfl (.inl rfl) (pe_lst (pa_cons (pv 0) (pa_cons pe_int (pa_cons pe_int (pa_cons pe_int pa_nil))))))
      (pss_cons (ps_set (i := 2) sc_law.nd rfl (.inl rfl) (pe_op op_add pe_int (pc CT hr (pa_cons (pv 1) (pa_cons pe_int pa_nil)))))
      (pss_cons (ps_asg (pc CS hr (pa_cons (pv 1) (pa_cons (pv 2) pa_nil))) (pg_tup rfl (pgs_cons (pg_name (i := 3) sc_law.nd rfl (.inl rfl)) (pgs_cons (pg_name (i := 4) sc_law.nd rfl (.inl rfl)) pgs_nil))))
      (pss_cons (ps_cutM (ps_set (i := 5) sc_law.nd rfl (.inr rfl) (pc CLS hr (pa_cons (pv 3) (pa_cons (pv 4) (pa_cons pe_int pa_nil))))))
      (pss_cons (ps_cutM (ps_if (pt_cmp (pc_isN (pv 5))) (pss_one (ps_ret pe_bl)) pss_nil))
      (pss_cons (ps_cutM (ps_if (pt_not (pt_val (pc CA hr (pa_cons (pcX A1 passL hr (pa_cons (pv 3) (pa_cons (pv 4) pa_nil))) (pa_cons (pe_tupleOf (by rfl) B.tuple (pe_callB (call_sortR hr.units) (by rfl) B.sorted (by decide +kernel) (pa_cons (pe_callTy (CallR.ex fun κ => call_listN (κ := κ) rfl) (by rfl) B.list (by decide +kernel) (pa_cons (pv 5) pa_nil)) pa_nil))) pa_nil))))) (pss_one (ps_ret pe_bl)) pss_nil))
      (pss_cons (ps_cutM (ps_set (i := 6) sc_law.nd rfl (.inl rfl) (pe_lst pa_nil)))
      (pss_cons (ps_cutM (ps_for PassesOwn.never rfl (pi_range1 (by rfl) B.range (pa_cons (pv 2) pa_nil)) (pg_name (i := 7) sc_law.nd rfl (.inr rfl)) (pss_cons (ps_cutM (ps_setLc (i := 8) (own := [("one", 14)]) (g := gName 14) rfl sc_law.nd rfl rfl (sw_true rfl rfl rfl (by decide +kernel)) (pi_list (pe_callTy (CallR.ex fun κ => call_listN (κ := κ) rfl) (by rfl) B.list (by decide +kernel) (pa_cons (pv 5) pa_nil))) (blkOk_by (N := NLaw) (sc := defScope st_law) (by decide +kernel)) (fun _ _ _ _ _ => (pg_name (i := 14) sc_law.nd rfl (.inl rfl))) (fun _ _ _ _ _ => pts_one (pt_val (pc CAg hr (pa_cons (pv 14) (pa_cons (pv 7) pa_nil))))) (fun _ _ _ _ _ => PE.exD P w (hr.units) (pv 5) (pv 14) (fun _ _ => rfl))))
      (pss_cons (ps_cutM (ps_set (i := 9) sc_law.nd rfl (.inl rfl) (pcX A3 passL hr (pa_cons (pv 3) (pa_cons (pv 4) (pa_cons (pv 7) pa_nil))))))
      (pss_one (ps_if (PW.pt (pw_or (pt_cmpR (op_eqD hr.units) (pv 8) (pe_lst pa_nil) (nomark _)) (pw_or1 (pt_cmp (pc_isN (pv 9)))))) (pss_one (ps_if (PW.pt (pw_or (pt_cmpR (op_neD hr.units) (pv 8) (pe_lst pa_nil) (nomark _)) (pw_or1 (pt_cmp (pc_notN (pv 9)))))) (pss_one (ps_ret pe_bl)) pss_nil))
      (pss_cons (ps_cutM (ps_expr (pe_bm PySem.F.plainAttrs_list PySem.F.slot_list_append PySem.F.type_list_append mt_append (pv 6) (pa_cons (pv 7) pa_nil))))
      (pss_cons (ps_cutM (ps_set (i := 10) sc_law.nd rfl (.inl rfl) (pe_lst (pa_cons (pe_tup (pa_cons (pv 4) (pa_cons (pe_tup pa_nil) pa_nil))) pa_nil))))
      (pss_cons (ps_cutM (ps_for PassesOwn.never rfl (pi_range1 (by rfl) B.range (pa_cons (pe_callB (cr_min rfl) (by rfl) nmin (by decide +kernel) (pa_cons (pv 8) pa_nil)) pa_nil)) (pg_name (i := 11) sc_law.nd rfl (.inl rfl)) (pss_cons (ps_par (i := 12) (j := 13) rfl sc_law.nd rfl rfl (by decide) rfl rfl (pa_cons (pe_lst pa_nil) (pa_cons (PE.ex fun κ => pe_dnewN (κ := κ)) pa_nil)) rfl)
      (pss_cons (ps_for PassesOwn.never rfl (pi_list (pv 10)) (pg_tup rfl (pgs_cons (pg_name (i := 14) sc_law.nd rfl (.inl rfl)) (pgs_cons (pg_name (i := 15) sc_law.nd rfl (.inl rfl)) pgs_nil))) (pss_one (ps_for PassesOwn.never rfl (pi_range1 (by rfl) B.range (pa_cons (pv 2) pa_nil)) (pg_name (i := 16) sc_law.nd rfl (.inr rfl)) (pss_cons (ps_set (i := 17) sc_law.nd rfl (.inl rfl) (pe_tupleOf (by rfl) B.tuple (pe_lc (own := [("habit", 18), ("layout", 19)]) (g := gTup K 2 (gCons (gName 18) (gCons (gName 19) gNil))) (tt := tYes) rfl sc_law.nd (RZ.pi_zipA (by rfl) B.zip (pa_cons (pv 3) (pa_cons (pv 14) pa_nil))) (blkOk_by (N := NLaw) (sc := defScope st_law) (by decide +kernel)) (fun _ _ _ _ _ => pg_tup rfl (pgs_cons (pg_name (i := 18) sc_law.nd rfl (.inl rfl)) (pgs_cons (pg_name (i := 19) sc_law.nd rfl (.inl rfl)) pgs_nil))) (fun _ _ _ _ _ => pts_nil) (fun _ _ _ _ _ => (pc CLT hr (pa_cons (pv 18) (pa_cons (pv 19) (pa_cons (pv 16) pa_nil))))))))
      (pss_one (ps_if (pt_cmp (PC.ex fun κ => pc_dnotinN (κ := κ) hr.units (pv 17) (pv 13))) (pss_cons (PS.ex fun κ => ps_dputN (κ := κ) hr.units (pv 13) (pv 17) pe_bl rfl)
      (pss_one (ps_expr (pe_bm PySem.F.plainAttrs_list PySem.F.slot_list_append PySem.F.type_list_append mt_append (pv 12) (pa_cons (pe_tup (pa_cons (pv 17) (pa_cons (pe_op op_catA (pv 15) (pe_tup (pa_cons (pv 16) pa_nil))) pa_nil))) pa_nil))))) pss_nil))))))
      (pss_one (ps_set (i := 10) sc_law.nd rfl (.inl rfl) (pv 12)))))))
      (pss_one (ps_if (pt_cmpR (op_neD hr.units) (pv 9) (pe_ix ix_list (pe_lc (own := [("one", 14), ("word", 15)]) (g := gTup K 2 (gCons (gName 14) (gCons (gName 15) gNil))) rfl sc_law.nd (pi_list (pv 10)) (blkOk_by (N := NLaw) (sc := defScope st_law) (by decide +kernel)) (fun _ _ _ _ _ => pg_tup rfl (pgs_cons (pg_name (i := 14) sc_law.nd rfl (.inl rfl)) (pgs_cons (pg_name (i := 15) sc_law.nd rfl (.inl rfl)) pgs_nil))) (fun _ _ _ _ _ => pts_one (pt_val (pc CAg hr (pa_cons (pv 14) (pa_cons (pv 7) pa_nil))))) (fun _ _ _ _ _ => pv 15)) pe_int (fun _ _ => rfl)) (nomark _)) (pss_one (ps_ret pe_bl)) pss_nil)))))))))))
      (pss_one (ps_ret (pc CA hr (pa_cons (pcX A2 passL hr (pa_cons (pv 3) (pa_cons (pv 4) pa_nil))) (pa_cons (pe_tupleOf (by rfl) B.tuple (pv 6)) pa_nil))))))))))))), ?_⟩
    refine ⟨_, rfl, by show 4 ≤ sizeLine; decide, fun p hp => ?_⟩
    have hR1 : Row K (upd H p (.lst [.ref a, .int 0, .int 5009, .int 0])) p := ⟨a, scr, 0, 5009, 0, upd_same, hZ.on (Fix.same (same_new hp)), Int.le_refl _⟩
    have tb1 : Tabs T (upd H p (.lst [.ref a, .int 0, .int 5009, .int 0])) := hTb.ext fun b o e => same_new hp b o e
    generalize upd H p (.lst [.ref a, .int 0, .int 5009, .int 0]) = H1 at hR1 tb1 ⊢
    refine ⟨_, rfl, p, 3, rfl, hR1, by decide, by decide, fun k H5 k0 k1 hB5 hR5 => ⟨2, k, rfl, rfl, ?_⟩⟩
    obtain ⟨n, hn⟩ : ∃ n : Nat, 2 + k = (n : Int) := ⟨(2 + k).toNat, by omega⟩
    show gName 2 (V.int (2 + k)) _ _ _
    rw [hn]
    have n2 : 2 ≤ n := by omega
    have n4 : n ≤ 4 := by omega
    have tb5 := (hR1.fix hB5).tabs tb1
    refine ⟨_, rfl, _, rfl, p, n, rfl, hR5, n2, by omega, fun H6 q6 hv vS hs ss hB6 hR6 hq6 sv => ⟨q6, _, rfl, hq6, rfl, _, _, rfl, _, _, rfl, rfl, ?_⟩⟩
    have tb6 := (hR5.fix hB6).tabs tb5
    obtain ⟨b, rfl, hRS⟩ := sv.s
    obtain ⟨s, hcs⟩ : ∃ s, chk n s = ss := ⟨ss.flatten, chk_of (by omega) fun L hL => perm_len (sv.sp L hL)⟩
    have S6 : SH K H6 hv b hs n s := ⟨sv.h, sv.hb, n2, by omega, sv.m3, sv.m0, ks_rows (by rw [hcs]; exact hRS), ⟨by rw [hcs]; exact sv.l, by rw [hcs]; exact sv.sp⟩⟩
    clear hR1 tb1 hB5 hR5 tb5 hB6 hR6 hq6 hn k0 k1 sv hRS hcs
    -- near
    refine ⟨fun σ H => ∃ y5 : V, σ = [some (.ref a), some (.ref p), some (.int (n : Nat)), some hv, some (.ref b), some y5, none, none, none, none, none, none, none, none, none, none, none, none, none, none] ∧ (y5 = .non ∨ ∃ d k ks, y5 = .ref d ∧ Nr P w K T H hv b hs n s d k ks ∧ lv (stS n hs) (rg n) s k = []), fun σ7 H7 g7 => ?_, ?_⟩
    case refine_2 =>
      exact ⟨_, rfl, _, rfl, hv, b, hs, n, s, 3000, rfl, S6, n4, fun H' sm => ⟨_, rfl, .inl rfl⟩, fun H' d k ks sm e kb hk => ⟨_, rfl, .inr ⟨d, k, ks, rfl, ⟨S6.same sm, tabs_same tb6 sm, e, kb⟩, hk⟩⟩⟩
    clear S6 tb6
    obtain ⟨y5, rfl, hy⟩ := g7
    refine ⟨fun σ H => ∃ (d : Addr) (k : Nat) (ks : List Addr), σ = [some (.ref a), some (.ref p), some (.int (n : Nat)), some hv, some (.ref b), some (.ref d), none, none, none, none, none, none, none, none, none, none, none, none, none, none] ∧ Nr P w K T H hv b hs n s d k ks ∧ lv (stS n hs) (rg n) s k = [], fun σ8 H8 g8 => ?_, ?_⟩
    case refine_2 =>
      rcases hy with rfl | ⟨d, k, ks, rfl, N, hk⟩
      · exact ⟨_, rfl, _, rfl, ifT (by rfl) (q _)⟩
      · exact ⟨_, rfl, _, rfl, ifF (by rfl) ⟨d, k, ks, rfl, N, hk⟩⟩
    clear hy
    obtain ⟨d, k, ks, rfl, N8, hk⟩ := g8
    have S0 := N8.S
    have hb := S0.hb
    have m3 := S0.m3
    have m0 := S0.m0
    have hc := S0.c
    clear S0
    have sy := sysS (hs := hs) n2 n4 hb m3
    have hfew := sy.fd_few hc k
    have klen : ∀ {H}, Nr P w K T H hv b hs n s d k ks → ks.length = (fd (stS n hs) (rg n) s k).length := fun {H} N => by
      have := N.kb.en.len
      rw [List.length_map, List.length_map, List.length_map] at this
      exact this
    -- stands
    refine ⟨fun σ H => σ = [some (.ref a), some (.ref p), some (.int (n : Nat)), some hv, some (.ref b), some (.ref d), none, none, none, none, none, none, none, none, none, none, none, none, none, none] ∧ Nr P w K T H hv b hs n s d k ks, fun σ9 H9 g9 => ?_, ?_⟩
    case refine_2 =>
      refine ⟨_, rfl, _, rfl, hv, .ref b, rfl, N8.S.refC ⟨b, hs, n, s, rfl, N8.S, stOk n2 n4 hb m3 hc, N8.tb, fun H9 q9 ys k9 ex T9 e9 hY hk9 => ?_⟩⟩
      have N9 := N8.ext ex T9
      refine ⟨_, rfl, kS n, d, _, ks, rfl, N9.e, fun l hl => ?_⟩
      have s1 := same_new (o := .lst (ks.map V.ref)) hl
      refine ⟨l, _, _, rfl, lstAt upd_same, ((N9.kb.on (TK.same s1)).en).rows, fun r hr0 => ?_, fun zs p2 hZ lz hp2 => ?_⟩
      · obtain ⟨t, ht, rfl⟩ := List.mem_map.mp hr0
        rw [valD_fst] at ht
        obtain ⟨x, hx, rfl⟩ := List.mem_map.mp ht
        have := (sy.fd_C hc k x hx).1
        intro z
        rw [z, List.length_nil] at this
        omega
      · have s2 := same_new (o := .lst zs) hp2
        refine .inl ⟨p2, zs, rfl, lstAt upd_same, fun t ht => ?_⟩
        have s3 := same_new (o := .tup zs) ht
        have sA := s1.trans (s2.trans s3)
        rw [valD_fst] at hZ
        rw [fd_one hk9 hk] at hY
        refine ⟨_, _, _, rfl, .tup (tupAt (sA _ _ e9)) (er_dp (hY.imp fun b s z => NK.imp (TK.same sA) z)), .tup (tupAt upd_same) (er_dp (hZ.imp fun b s z => NK.imp (TK.same (s2.trans s3)) z)), okD_sts ?_ ?_, fun H' s4 => ⟨_, rfl, ifF (by rfl) ⟨rfl, N9.same (sA.trans s4)⟩⟩⟩
        · rw [List.length_mergeSort, List.length_map, List.length_map]
          omega
        · intro h hh
          rw [List.mem_mergeSort] at hh
          obtain ⟨t, ht, rfl⟩ := List.mem_map.mp hh
          obtain ⟨x, hx, rfl⟩ := List.mem_map.mp ht
          have cs := sy.fd_C hc k x hx
          refine ⟨by rw [cs.1]; omega, fun L hL => ?_⟩
          rw [perm_len (cs.2 L hL)]
          omega
    clear N8
    obtain ⟨rfl, N9⟩ := g9
    -- met
    refine ⟨fun σ H => ∃ mA, σ = [some (.ref a), some (.ref p), some (.int (n : Nat)), some hv, some (.ref b), some (.ref d), some (.ref mA), none, none, none, none, none, none, none, none, none, none, none, none, none] ∧ H mA = some (.lst []) ∧ Nr P w K T H hv b hs n s d k ks, fun σ10 H10 g10 => ?_, ?_⟩
    case refine_2 =>
      refine ⟨Nat.zero_le _, fun mA hmA => ?_⟩
      exact ⟨mA, rfl, upd_same, N9.same (same_new hmA)⟩
    clear N9
    obtain ⟨mA, rfl, eM, N10⟩ := g10
    generalize hff : fA n (fd (stS n hs) (rg n) s k) = ff
    generalize hgg : (fun (x : Int) (q : SW) => tog (atN n q.1 x)) = gg
    have hgv : ∀ x q, gg x q = tog (atN n q.1 x) := fun x q => by rw [← hgg]
    have ffv : ∀ x, ff x = (fd (stS n hs) (rg n) s k).any (gg x) := fun x => by rw [← hff, ← hgg]; rfl
    refine ⟨fun σ H => ∃ (z7 z8 z9 z10 z11 z12 z13 z14 z15 z16 z17 z18 z19 : Option V), σ = [some (.ref a), some (.ref p), some (.int (n : Nat)), some hv, some (.ref b), some (.ref d), some (.ref mA), z7, z8, z9, z10, z11, z12, z13, z14, z15, z16, z17, z18, z19] ∧ H mA = some (.lst (((rg n).filter ff).map V.int)) ∧ Nr P w K T H hv b hs n s d k ks, fun σ11 H11 g11 => ?_, ?_⟩
    case refine_2 =>
      refine ⟨_, rfl, n, rfl, by omega, by omega, ?_⟩
      rw [Int.toNat_natCast]
      refine for_range (lo := 0) (n := n) (fun i σ H => ∃ (z7 z8 z9 z10 z11 z12 z13 z14 z15 z16 z17 z18 z19 : Option V), σ = [some (.ref a), some (.ref p), some (.int (n : Nat)), some hv, some (.ref b), some (.ref d), some (.ref mA), z7, z8, z9, z10, z11, z12, z13, z14, z15, z16, z17, z18, z19] ∧ H mA = some (.lst ((((rg n).take i).filter ff).map V.int)) ∧ Nr P w K T H hv b hs n s d k ks) ⟨none, none, none, none, none, none, none, none, none, none, none, none, none, rfl, eM, N10⟩ (fun i σ H1 hi h' => ?_) (fun σ H1 h' => ?fin)
      case fin =>
        obtain ⟨z7, z8, z9, z10, z11, z12, z13, z14, z15, z16, z17, z18, z19, rfl, eM, N⟩ := h'
        rw [List.take_of_length_le (by rw [rg_len]; omega)] at eM
        exact ⟨z7, z8, z9, z10, z11, z12, z13, z14, z15, z16, z17, z18, z19, rfl, eM, N⟩
      obtain ⟨z7, z8, z9, z10, z11, z12, z13, z14, z15, z16, z17, z18, z19, rfl, eM1, N1⟩ := h'
      rw [Int.zero_add]
      have hin : InR n (i : Int) := ⟨by omega, by omega⟩
      have hat : (rg n)[i]? = some (i : Int) := by
        unfold rg
        rw [List.getElem?_map, List.getElem?_range hi]
        rfl
      have htk : (rg n).take (i + 1) = (rg n).take i ++ [(i : Int)] := by rw [List.take_add_one, hat]; rfl
      -- far
      refine ⟨fun σ H => ∃ (l : Addr) (z9 z10 z11 z12 z13 z14 z15 z16 z17 z18 z19 : Option V), σ = [some (.ref a), some (.ref p), some (.int (n : Nat)), some hv, some (.ref b), some (.ref d), some (.ref mA), some (.int (i : Int)), some (.ref l), z9, z10, z11, z12, z13, z14, z15, z16, z17, z18, z19] ∧ l ≠ mA ∧ H l = some (.lst ((((fd (stS n hs) (rg n) s k).filter (gg (i : Int))).map fun q => (q.2.length : Int)).map V.int)) ∧ H mA = some (.lst ((((rg n).take i).filter ff).map V.int)) ∧ Nr P w K T H hv b hs n s d k ks, fun σ12 H12 g12 => ?_, ?_⟩
      case refine_2 =>
        rw [show ([some (.ref a), some (.ref p), some (.int (n : Nat)), some hv, some (.ref b), some (.ref d), some (.ref mA), z7, z8, z9, z10, z11, z12, z13, z14, z15, z16, z17, z18, z19] : List (Option V)).set 7 (some (V.int (i : Int))) = [some (.ref a), some (.ref p), some (.int (n : Nat)), some hv, some (.ref b), some (.ref d), some (.ref mA), some (.int (i : Int)), z8, z9, z10, z11, z12, z13, z14, z15, z16, z17, z18, z19] from rfl]
        refine ⟨_, rfl, kS n, d, _, ks, rfl, N1.e, fun l0 hl0 => ⟨l0, rfl, ⟨_, lstAt upd_same⟩, fun D hD => ?_⟩⟩
        have s0 := same_new (o := .lst (ks.map V.ref)) hl0
        have kl := klen N1
        refine lc_list (te := fun σ H Q => ∃ κ, tDGetN P w κ (tVar 5) (tVar 14) σ H Q) (xs := ks.map V.ref) (fun j H' => Same (upd H1 l0 (.lst (ks.map V.ref))) H' ∧ H' D = some (.lst (((((fd (stS n hs) (rg n) s k).take j).filter (gg (i : Int))).map fun q => (q.2.length : Int)).map V.int))) ⟨same_new hD, upd_same⟩ (fun j H' _ h' => lstAt (h'.1 _ _ upd_same)) (fun j x H' hx h' => ?_) (fun H' h' => ?_)
        · obtain ⟨sm2, eY⟩ := h'
          have smA := s0.trans sm2
          have hj : j < (fd (stS n hs) (rg n) s k).length := by
            have := (List.getElem?_eq_some_iff.mp hx).1
            rw [List.length_map, kl] at this
            exact this
          have hq : (fd (stS n hs) (rg n) s k)[j]? = some (fd (stS n hs) (rg n) s k)[j] := List.getElem?_eq_getElem hj
          generalize (fd (stS n hs) (rg n) s k)[j] = qi at hq
          have hmq := List.mem_of_getElem? hq
          have NA := N1.same smA
          obtain ⟨bq, hxb, hkb⟩ := (NA.kb.en).at (i := j) (s := qi.1) (by rw [valD_fst, List.getElem?_map, hq]; rfl)
          rw [hx] at hxb
          cases Option.some.inj hxb
          have cs := sy.fd_C hc k qi hmq
          have hmem : qi.1 ∈ ((fd (stS n hs) (rg n) s k).map valD).map Prod.fst := by
            rw [valD_fst]
            exact List.mem_map.mpr ⟨qi, hmq, rfl⟩
          refine ⟨rfl, _, rfl, _, rfl, bq, chk n qi.1, (i : Int), rfl, hkb.rows, fun L hL => by rw [perm_len (cs.2 L hL)]; exact hin, by rw [cs.1]; exact m0, by rw [cs.1]; exact m3, fun H3 s3 => ⟨_, rfl, ?_⟩⟩
          have eg : tog ((chk n qi.1).map fun L => L.getD (i : Int).toNat 0) = gg (i : Int) qi := by rw [hgv]; rfl
          rw [eg]
          have N3 := NA.same s3
          have tm : (fd (stS n hs) (rg n) s k).take (j + 1) = (fd (stS n hs) (rg n) s k).take j ++ [qi] := take_more hq
          refine ite2 (fun e => ?_) (fun e => ?_)
          · refine ⟨kS n, _, rfl, _, rfl, d, bq, _, ks, qi.1, rfl, rfl, N3.e, N3.kb, hkb.on (TK.same s3), hmem, fun v hv => ?_⟩
            have ev : v = .int (qi.2.length : Nat) := by
              obtain ⟨y, hy, ey⟩ := List.mem_map.mp hv
              have ey2 : (y.1, V.int (y.2.length : Nat)) = (qi.1, v) := ey
              have e1 : y.1 = qi.1 := (Prod.mk.inj ey2).1
              have e2 : V.int (y.2.length : Nat) = v := (Prod.mk.inj ey2).2
              have e3 := fd_val (s := qi.1) (w := y.2) (w' := qi.2) (by rw [← e1]; exact hy) hmq
              rw [← e2, e3]
            subst ev
            refine ⟨_, s3 _ _ eY, ?_, sameU (sm2.trans s3) hD, ?_⟩
            · rw [List.length_map, List.length_map, sizeLine_eq]
              have := List.length_filter_le (gg (i : Int)) ((fd (stS n hs) (rg n) s k).take j)
              rw [List.length_take] at this
              omega
            · rw [upd_same, tm, List.filter_append, List.filter_cons_of_pos e, List.map_append, List.map_append]
              rfl
          · refine ⟨sm2.trans s3, ?_⟩
            rw [tm, List.filter_append, List.filter_cons_of_neg e, List.filter_nil, List.append_nil]
            exact s3 _ _ eY
        · obtain ⟨sm2, eY⟩ := h'
          rw [List.length_map, kl, List.take_length] at eY
          have smA := s0.trans sm2
          exact ⟨D, z9, z10, z11, z12, z13, z14, z15, z16, z17, z18, z19, rfl, Ne.symm (ne_of_none (s0 _ _ eM1) hD), eY, smA _ _ eM1, N1.same smA⟩
      clear N1 eM1
      obtain ⟨l, z9, z10, z11, z12, z13, z14, z15, z16, z17, z18, z19, rfl, nlm, eF, eM1, N1⟩ := g12
      generalize hFL : ((fd (stS n hs) (rg n) s k).filter (gg (i : Int))).map (fun q => (q.2.length : Int)) = FL at eF
      -- found
      refine ⟨fun σ H => ∃ (y9 : V) (z10 z11 z12 z13 z14 z15 z16 z17 z18 z19 : Option V), σ = [some (.ref a), some (.ref p), some (.int (n : Nat)), some hv, some (.ref b), some (.ref d), some (.ref mA), some (.int (i : Int)), some (.ref l), some y9, z10, z11, z12, z13, z14, z15, z16, z17, z18, z19] ∧ H l = some (.lst (FL.map V.int)) ∧ H mA = some (.lst ((((rg n).take i).filter ff).map V.int)) ∧ Nr P w K T H hv b hs n s d k ks ∧
        ((y9 = .non ∧ ∀ v, (∀ p ∈ v, p ∈ rg n) → tog (rn (stP hs) (atN n s (i : Int)) v) = false) ∨ ∃ qf wd, y9 = .ref qf ∧ H qf = some (.tup (wd.map V.int)) ∧ Lex1 (stP hs) (rg n) (atN n s (i : Int)) tog wd ∧ wd.length ≤ 20000), fun σ13 H13 g13 => ?_, ?_⟩
      case refine_2 =>
        refine ⟨_, rfl, _, rfl, _, rfl, hv, .ref b, .int (i : Int), rfl, N1.S.refC ⟨b, hs, n, s, (i : Int), rfl, rfl, N1.S, stOk n2 n4 hb m3 hc, mwOk n2 n4 hb m3 hc _ (rg_mem.mpr hin), hin, N1.tb, fun H' qf wd ex T' hl e lw => ?_, fun H' ex T' hn => ?_⟩⟩
        · exact ⟨.ref qf, z10, z11, z12, z13, z14, z15, z16, z17, z18, z19, rfl, ex _ _ eF (fun ps z => nomatch z), ex _ _ eM1 (fun ps z => nomatch z), N1.ext ex T', .inr ⟨qf, wd, rfl, e, hl, lw⟩⟩
        · exact ⟨.non, z10, z11, z12, z13, z14, z15, z16, z17, z18, z19, rfl, ex _ _ eF (fun ps z => nomatch z), ex _ _ eM1 (fun ps z => nomatch z), N1.ext ex T', .inl ⟨rfl, hn⟩⟩
      clear N1 eM1 eF
      obtain ⟨y9, z10, z11, z12, z13, z14, z15, z16, z17, z18, z19, rfl, eF, eM1, N1, hfo⟩ := g13
      have er := at_rn n2 n4 hb m3 hc hin
      refine ⟨_, rfl, Nat.zero_le _, fun z hz => ?_⟩
      have sz := same_new (o := .lst []) hz
      refine ⟨.list (FL.map PyData.int), .list [], dp_lst (lstAt (sz _ _ eF)), .lst (lstAt upd_same) .nil, PySem.W.ke_shaped_ints _, by decide +kernel, _, rfl, ?_⟩
      rw [eqv_nil]
      have N2 := N1.same sz
      have eF2 := sz _ _ eF
      have eM2 := sz _ _ eM1
      have hfo2 : (y9 = .non ∧ ∀ v, (∀ p ∈ v, p ∈ rg n) → tog (rn (stP hs) (atN n s (i : Int)) v) = false) ∨ ∃ qf wd, y9 = .ref qf ∧ upd H13 z (.lst []) qf = some (.tup (wd.map V.int)) ∧ Lex1 (stP hs) (rg n) (atN n s (i : Int)) tog wd ∧ wd.length ≤ 20000 := hfo.imp id fun ⟨qf, wd, e1, e2, e3⟩ => ⟨qf, wd, e1, sz _ _ e2, e3⟩
      clear N1 eF eM1 hfo
      generalize upd H13 z (.lst []) = H2 at N2 eF2 eM2 hfo2 ⊢
      rcases hfo2 with ⟨rfl, hn⟩ | ⟨qf, wd, rfl, eq, hl, lw⟩
      · have hall : ∀ q ∈ fd (stS n hs) (rg n) s k, gg (i : Int) q = false := fun q hq => by
          obtain ⟨h1, h2⟩ := fd_rn k q hq
          rw [hgv, ← h1, ← er q.2 h2]
          exact hn q.2 h2
        have hnil : FL = [] := by
          rw [← hFL, List.map_eq_nil_iff, List.filter_eq_nil_iff]
          intro q hq
          rw [hall q hq]
          decide
        subst hnil
        refine ifT (by rfl) ?_
        refine ⟨_, rfl, Nat.zero_le _, fun z2 hz2 => ?_⟩
        have s2 := same_new (o := .lst []) hz2
        refine ⟨.list [], .list [], .lst (lstAt (s2 _ _ eF2)) .nil, .lst (lstAt upd_same) .nil, by decide +kernel, by decide +kernel, _, rfl, ifF (by decide +kernel) ⟨_, rfl, _, rfl, ifF (by rfl) ?_⟩⟩
        have e0 : ff (i : Int) = false := by
          rw [ffv, List.any_eq_false]
          intro q hq
          rw [hall q hq]
          decide
        refine ⟨_, _, _, z10, z11, z12, z13, z14, z15, z16, z17, z18, z19, rfl, ?_, N2.same s2⟩
        rw [htk, List.filter_append, List.filter_cons_of_neg (by rw [e0]; decide), List.filter_nil, List.append_nil]
        exact s2 _ _ eM2
      · have hx := lex_at n2 n4 hb m3 hc hin hl
        have hgg1 : ∀ q : SW, gg (i : Int) q = tog (atN n q.1 (i : Int)) := hgv (i : Int)
        obtain ⟨qw, hqw, eqw⟩ := List.mem_map.mp (rn_fd (st := stS n hs) (L := s) wd hl.s.wd)
        have hqk : qw ∈ fd (stS n hs) (rg n) s k := fd_all hk hqw
        have hqg : gg (i : Int) qw = true := by
          rw [hgg1, eqw]
          exact hx.s.at_
        have hqF : (qw.2.length : Int) ∈ FL := by
          rw [← hFL]
          exact List.mem_map.mpr ⟨qw, List.mem_filter.mpr ⟨hqk, hqg⟩, rfl⟩
        have hql : qw.2.length ≤ wd.length := fd_len _ _ hqw
        have e1 : ff (i : Int) = true := by
          rw [ffv, List.any_eq_true]
          exact ⟨qw, hqk, hqg⟩
        have pos : 0 < FL.length := List.length_pos_of_mem hqF
        refine ifF (by cases FL with | nil => cases hqF | cons a t => rfl) ⟨_, rfl, _, rfl, ifF (by rfl) ?_⟩
        -- met.append
        refine ⟨fun σ H => σ = [some (.ref a), some (.ref p), some (.int (n : Nat)), some hv, some (.ref b), some (.ref d), some (.ref mA), some (.int (i : Int)), some (.ref l), some (.ref qf), z10, z11, z12, z13, z14, z15, z16, z17, z18, z19] ∧ H l = some (.lst (FL.map V.int)) ∧ H mA = some (.lst ((((rg n).take (i + 1)).filter ff).map V.int)) ∧ H qf = some (.tup (wd.map V.int)) ∧ Nr P w K T H hv b hs n s d k ks, fun σ14 H14 g14 => ?_, ?_⟩
        case refine_2 =>
          refine ⟨_, rfl, .inl ⟨rfl, _, lstAt eM2⟩, _, rfl, mA, _, .int (i : Int), rfl, rfl, eM2, ?_, rfl, ?_, ?_, ?_, N2.lst eM2⟩
          · rw [List.length_map, sizeLine_eq]
            have := List.length_filter_le ff ((rg n).take i)
            rw [List.length_take, rg_len] at this
            omega
          · rw [upd_ne nlm]
            exact eF2
          · rw [upd_same, htk, List.filter_append, List.filter_cons_of_pos e1, List.map_append]
            rfl
          · rw [upd_ne (ne_of eq eM2 (fun z => nomatch z))]
            exact eq
        clear N2 eF2 eM2 eq
        obtain ⟨rfl, eF2, eM2, eq, N2⟩ := g14
        -- last
        refine ⟨fun σ H => ∃ (la : Addr) (xs : List V), σ = [some (.ref a), some (.ref p), some (.int (n : Nat)), some hv, some (.ref b), some (.ref d), some (.ref mA), some (.int (i : Int)), some (.ref l), some (.ref qf), some (.ref la), z11, z12, z13, z14, z15, z16, z17, z18, z19] ∧ la ≠ mA ∧ H la = some (.lst xs) ∧ Each (PWd (kS n) H) xs (lvA (stS n hs) (rg n) s 0) ∧ H l = some (.lst (FL.map V.int)) ∧ H mA = some (.lst ((((rg n).take (i + 1)).filter ff).map V.int)) ∧ H qf = some (.tup (wd.map V.int)) ∧ Nr P w K T H hv b hs n s d k ks, fun σ15 H15 g15 => ?_, ?_⟩
        case refine_2 =>
          refine ⟨_, rfl, Nat.zero_le _, fun t0 ht0 => ⟨by show 2 ≤ sizeLine; decide, fun t1 ht1 => ⟨by show 1 ≤ sizeLine; decide, fun la hla => ?_⟩⟩⟩
          have s0 := same_new (o := .tup []) ht0
          have s1 := same_new (o := .tup [.ref b, .ref t0]) ht1
          have s2 := same_new (o := .lst [.ref t1]) hla
          have sA := s0.trans (s1.trans s2)
          have NA := N2.same sA
          exact ⟨la, _, rfl, Ne.symm (ne_of_none ((s0.trans s1) _ _ eM2) hla), upd_same, .cons ⟨t1, b, t0, rfl, .inl (s2 _ _ upd_same), NA.S.k, .inl ((s1.trans s2) _ _ upd_same)⟩ .nil, sA _ _ eF2, sA _ _ eM2, sA _ _ eq, NA⟩
        clear N2 eF2 eM2 eq
        obtain ⟨la, xs, rfl, nla, eLa, hLa, eF2, eM2, eq, N2⟩ := g15
        -- the turns
        refine ⟨fun σ H => ∃ (la : Addr) (xs : List V) (z11 z12 z13 z14 z15 z16 z17 z18 z19 : Option V), σ = [some (.ref a), some (.ref p), some (.int (n : Nat)), some hv, some (.ref b), some (.ref d), some (.ref mA), some (.int (i : Int)), some (.ref l), some (.ref qf), some (.ref la), z11, z12, z13, z14, z15, z16, z17, z18, z19] ∧ H la = some (.lst xs) ∧ Each (PWd (kS n) H) xs (lvA (stS n hs) (rg n) s wd.length) ∧ H mA = some (.lst ((((rg n).take (i + 1)).filter ff).map V.int)) ∧ H qf = some (.tup (wd.map V.int)) ∧ Nr P w K T H hv b hs n s d k ks, fun σ16 H16 g16 => ?_, ?_⟩
        case refine_2 =>
          refine ⟨_, rfl, l, FL, rfl, lstAt eF2, pos, fun mm hmm hmin => ?_⟩
          obtain rfl : mm = (wd.length : Int) := by
            have h1 := hmin _ hqF
            rw [← hFL] at hmm
            obtain ⟨q2, hq2, e2⟩ := List.mem_map.mp hmm
            obtain ⟨hq3, hq4⟩ := List.mem_filter.mp hq2
            obtain ⟨r1, r2⟩ := fd_rn k q2 hq3
            have := hx.s.min q2.2 r2 (by show tog (atN n (rn (stS n hs) s q2.2) (i : Int)) = true; rw [r1, ← hgg1]; exact hq4)
            omega
          refine ⟨wd.length, rfl, by omega, by omega, ?_⟩
          rw [Int.toNat_natCast]
          refine for_range (lo := 0) (n := wd.length) (fun t σ H => ∃ (la : Addr) (xs : List V) (z11 z12 z13 z14 z15 z16 z17 z18 z19 : Option V), σ = [some (.ref a), some (.ref p), some (.int (n : Nat)), some hv, some (.ref b), some (.ref d), some (.ref mA), some (.int (i : Int)), some (.ref l), some (.ref qf), some (.ref la), z11, z12, z13, z14, z15, z16, z17, z18, z19] ∧ la ≠ mA ∧ H la = some (.lst xs) ∧ Each (PWd (kS n) H) xs (lvA (stS n hs) (rg n) s t) ∧ H mA = some (.lst ((((rg n).take (i + 1)).filter ff).map V.int)) ∧ H qf = some (.tup (wd.map V.int)) ∧ Nr P w K T H hv b hs n s d k ks) ⟨la, xs, z11, z12, z13, z14, z15, z16, z17, z18, z19, rfl, nla, eLa, hLa, eM2, eq, N2⟩ (fun t σ H3 ht h' => ?_) (fun σ H3 h' => ?fin2)
          case fin2 =>
            obtain ⟨la, xs, z11, z12, z13, z14, z15, z16, z17, z18, z19, rfl, _, eLa, hLa, eM2, eq, N2⟩ := h'
            exact ⟨la, xs, z11, z12, z13, z14, z15, z16, z17, z18, z19, rfl, eLa, hLa, eM2, eq, N2⟩
          clear nla eLa hLa eM2 eq N2
          obtain ⟨la, xs, z11, z12, z13, z14, z15, z16, z17, z18, z19, rfl, nla, eLa, hLa, eM2, eq, N2⟩ := h'
          have lx : xs.length = (lvA (stS n hs) (rg n) s t).length := hLa.len
          refine ⟨Nat.zero_le _, fun u hu => ⟨kS n, fun sd hsd => ⟨_, _, rfl, ?_⟩⟩⟩
          have s1 := same_new (o := .lst []) hu
          have s2 := same_new (o := DN P w (kS n) [] [] sd) hsd
          have sA := s1.trans s2
          have nul : la ≠ u := ne_of_none eLa hu
          have num : mA ≠ u := ne_of_none eM2 hu
          refine ⟨_, rfl, la, rfl, ⟨_, lstAt (sA _ _ eLa)⟩, ?_⟩
          refine for_list (xs := xs) (fun i2 σ H' => (∃ (bs : List (List Int × V)) (ks2 : List Addr) (us : List V), Same H3 H' ∧ H' sd = some (DN P w (kS n) bs ks2 sd) ∧ KBN (kS n) H' bs ks2 ∧ bs.map Prod.fst = (prtA (stS n hs) (rg n) s t (i2 * (rg n).length + 0)).map Prod.fst ∧ H' u = some (.lst us) ∧ Each (PWd (kS n) H') us (prtA (stS n hs) (rg n) s t (i2 * (rg n).length + 0))) ∧ ∃ (z14 z15 z16 z17 z18 z19 : Option V), σ = [some (.ref a), some (.ref p), some (.int (n : Nat)), some hv, some (.ref b), some (.ref d), some (.ref mA), some (.int (i : Int)), some (.ref l), some (.ref qf), some (.ref la), some (.int (t : Int)), some (.ref u), some (.ref sd), z14, z15, z16, z17, z18, z19])
            ⟨⟨[], [], [], sA, upd_same, .nil, ?_, s2 _ _ upd_same, ?_⟩, _, _, _, _, _, _, by rw [Int.zero_add]; rfl⟩ (fun i2 σ H' _ h' => ?_) (fun i2 x σ H4 hx2 h' => ?_) (fun σ H4 h' => ?_)
          · rw [Nat.zero_mul, prtA_zero]
            rfl
          · rw [Nat.zero_mul, prtA_zero]
            exact .nil
          · obtain ⟨⟨_, _, _, sm4, _⟩, _⟩ := h'
            exact lstAt (sm4 _ _ eLa)
          · obtain ⟨hM, z14, z15, z16, z17, z18, z19, rfl⟩ := h'
            obtain ⟨_, _, _, sm4, _⟩ := id hM
            obtain ⟨q0, hq0, tq, b', w', rfl, hRt, hKb, hRw⟩ := hLa.at hx2
            have hp0 : RH.CS n hs.length q0.1 := sy.lvA_C hc (List.mem_of_getElem? hq0)
            have hw0 : q0.2.length = t := (lvA_ok t q0 (List.mem_of_getElem? hq0)).2.2
            refine ⟨tq, _, rfl, .inl (TK.same sm4 _ _ hRt), rfl, _, _, rfl, _, _, rfl, rfl, ?_⟩
            refine ⟨_, rfl, n, rfl, by omega, by omega, ?_⟩
            rw [Int.toNat_natCast]
            refine for_range (lo := 0) (n := n) (fun j σ H' => (∃ (bs : List (List Int × V)) (ks2 : List Addr) (us : List V), Same H3 H' ∧ H' sd = some (DN P w (kS n) bs ks2 sd) ∧ KBN (kS n) H' bs ks2 ∧ bs.map Prod.fst = (prtA (stS n hs) (rg n) s t (i2 * (rg n).length + j)).map Prod.fst ∧ H' u = some (.lst us) ∧ Each (PWd (kS n) H') us (prtA (stS n hs) (rg n) s t (i2 * (rg n).length + j))) ∧ ∃ (z16 z17 z18 z19 : Option V), σ = [some (.ref a), some (.ref p), some (.int (n : Nat)), some hv, some (.ref b), some (.ref d), some (.ref mA), some (.int (i : Int)), some (.ref l), some (.ref qf), some (.ref la), some (.int (t : Int)), some (.ref u), some (.ref sd), some (.ref b'), some (.ref w'), z16, z17, z18, z19])
              ⟨hM, _, _, _, _, rfl⟩ (fun j σ H5 hj h' => ?_) (fun σ H5 h' => ?_)
            · obtain ⟨⟨bs, ks2, us, sm5, eS5, kb5, hf5, eU5, hU5⟩, z16, z17, z18, z19, rfl⟩ := h'
              rw [Int.zero_add]
              have hpj : (rg n)[j]? = some (j : Int) := by
                unfold rg
                rw [List.getElem?_map, List.getElem?_range hj]
                rfl
              have hin2 : InR n (j : Int) := ⟨by omega, by omega⟩
              have hfew2 := sy.prtA_few hc t (i2 * (rg n).length + j)
              have blen : bs.length ≤ 13824 := by
                have := congrArg List.length hf5
                rw [List.length_map, List.length_map] at this
                omega
              have ulen : us.length ≤ 13824 := by
                have h1 := hU5.len
                omega
              obtain ⟨ah, hxs, ehv, hS, hHE⟩ := id (N2.same sm5).S.t
              have hxl := hHE.len
              have hKb5 := hKb.on (TK.same sm5)
              obtain ⟨ys, hY, hLr⟩ := hKb5.rows
              have ly := hLr.len
              rw [hp0.1] at ly
              refine ⟨_, rfl, _, rfl, ah, b', _, _, by rw [ehv], .inr ⟨hS, .inl hY, fun D hD => ?_⟩⟩
              refine lc_zipT (xs := hxs) (ys := ys) hs.length (by omega) (fun i H' => Same H5 H' ∧ ∃ zs, H' D = some (.lst zs) ∧ Each (RL H') zs (((hs.zip (chk n q0.1)).take i).map fun q => stp q.1 (j : Int) q.2)) ⟨same_new hD, [], upd_same, .nil⟩ (fun i H' h' => ⟨onT h'.1 hS, .inl (TK.same h'.1 _ _ hY)⟩) (fun i x z T H' hx hz h' hT => ?_) (fun H' h' => ?_)
              · obtain ⟨smz, zs, eDz, hZ⟩ := h'
                obtain ⟨h, Lr, hz2, hTh, ar, rfl, hA⟩ := each_zip hHE hLr hx hz
                have hm := List.of_mem_zip (List.mem_of_getElem? hz2)
                have sT := same_new (o := .tup [x, .ref ar]) hT
                have smT := smz.trans sT
                have pL := hp0.2 Lr hm.2
                refine ⟨T, _, rfl, tupAt upd_same, rfl, _, _, rfl, _, _, rfl, rfl, rfl, _, rfl, _, rfl, _, rfl, x, h, n, ar, Lr, (j : Int), rfl, hTh.on (Same.tups smT), hb h hm.1, .inl (TK.same smT _ _ hA), fun u hu => perm_in pL hu, by have := perm_len pL; omega, hin2, fun H4 r s4 nr er => ?_⟩
                have eD4 := s4 _ _ (sT _ _ eDz)
                have s44 := sT.trans s4
                have lz := hZ.len
                rw [List.length_map, List.length_take, List.length_zip] at lz
                refine ⟨zs, eD4, small1000 (by omega), ?_, zs ++ [.ref r], upd_same, ?_⟩
                · exact fun c o ec => by rw [upd_ne (ne_of_none ec hD)]; exact (smz.trans s44) c o ec
                · rw [List.take_add_one, hz2, List.map_append]
                  have tk : TK H4 (upd H4 D (.lst (zs ++ [V.ref r]))) := TK.upd eD4 not_tup_l
                  exact Each.snoc2 ⟨r, rfl, tk _ _ er.kx⟩ (hZ.imp fun _ _ z => (z.on (TK.same s44)).on tk)
              obtain ⟨smz, zs, eDz, hZ⟩ := h'
              rw [List.take_of_length_le (by rw [List.length_zip]; omega)] at hZ
              refine .inl ⟨D, _, rfl, lstAt eDz, fun qn hqn => ?_⟩
              have s4 : Same H5 (upd H' qn (.tup zs)) := smz.trans (same_new hqn)
              have eqk : KS (kS n) (upd H' qn (.tup zs)) qn (stS n hs (j : Int) q0.1) := by
                refine ks_rows ?_
                rw [stS_rows (by omega) hb hin2 hp0]
                exact ⟨zs, .inl upd_same, hZ.imp fun _ _ z => z.on (TK.same (same_new hqn))⟩
              generalize upd H' qn (.tup zs) = H6 at s4 eqk ⊢
              clear hZ eDz smz hqn hS hHE hY hLr
              have sm6 := sm5.trans s4
              have eS6 := s4 _ _ eS5
              have kb6 := kb5.on (TK.same s4)
              have eU6 := s4 _ _ eU5
              have hU6 : Each (PWd (kS n) H6) us _ := hU5.imp fun _ _ z => z.on (TK.same s4)
              refine ⟨kS n, _, rfl, _, rfl, sd, qn, bs, ks2, stS n hs (j : Int) q0.1, rfl, rfl, eS6, kb6, eqk, _, rfl, ?_⟩
              by_cases hm : stS n hs (j : Int) q0.1 ∈ bs.map Prod.fst
              · have hm2 := hm
                rw [hf5] at hm2
                have ep := prtA_old hq0 hpj hm2
                refine ifF (by rw [decide_eq_true hm]; rfl) ⟨⟨bs, ks2, us, sm6, eS6, kb6, ?_, eU6, ?_⟩, _, _, _, _, rfl⟩
                · rw [show i2 * (rg n).length + (j + 1) = i2 * (rg n).length + j + 1 from rfl, ep]
                  exact hf5
                · rw [show i2 * (rg n).length + (j + 1) = i2 * (rg n).length + j + 1 from rfl, ep]
                  exact hU6
              · have hm2 := hm
                rw [hf5] at hm2
                have ep := prtA_new hq0 hpj hm2
                refine ifT (by rw [decide_eq_false hm]; rfl) ?_
                refine ⟨kS n, _, rfl, _, rfl, sd, qn, bs, ks2, stS n hs (j : Int) q0.1, rfl, rfl, eS6, kb6, eqk, hm, (by rw [sizeLine_eq]; omega), ?_⟩
                have tk7 : TK H6 (upd H6 sd (DN P w (kS n) (bs ++ [(stS n hs (j : Int) q0.1, V.bl true)]) (ks2 ++ [qn]) sd)) := TK.upd eS6 not_tup_d
                have hsd3 : H3 sd = none := none_of s1 hsd
                have sm7 : Same H3 (upd H6 sd (DN P w (kS n) (bs ++ [(stS n hs (j : Int) q0.1, V.bl true)]) (ks2 ++ [qn]) sd)) := Same.upd sm6 hsd3
                have eU7 : (upd H6 sd (DN P w (kS n) (bs ++ [(stS n hs (j : Int) q0.1, V.bl true)]) (ks2 ++ [qn]) sd)) u = some (.lst us) := by
                  rw [upd_ne (ne_of eU6 eS6 (fun z => nomatch z))]
                  exact eU6
                have eS7 : (upd H6 sd (DN P w (kS n) (bs ++ [(stS n hs (j : Int) q0.1, V.bl true)]) (ks2 ++ [qn]) sd)) sd = some (DN P w (kS n) (bs ++ [(stS n hs (j : Int) q0.1, V.bl true)]) (ks2 ++ [qn]) sd) := upd_same
                have kb7 : KBN (kS n) (upd H6 sd (DN P w (kS n) (bs ++ [(stS n hs (j : Int) q0.1, V.bl true)]) (ks2 ++ [qn]) sd)) (bs ++ [(stS n hs (j : Int) q0.1, V.bl true)]) (ks2 ++ [qn]) := (kb6.on tk7).snoc (q := (stS n hs (j : Int) q0.1, V.bl true)) (b := qn) (eqk.on tk7)
                have eqk7 := eqk.on tk7
                have hU7 : Each (PWd (kS n) (upd H6 sd (DN P w (kS n) (bs ++ [(stS n hs (j : Int) q0.1, V.bl true)]) (ks2 ++ [qn]) sd))) us _ := hU6.imp fun _ _ z => z.on tk7
                refine ⟨_, rfl, .inl ⟨rfl, _, lstAt eU7⟩, _, rfl, _, rfl, _, rfl, by show 1 ≤ sizeLine; decide, fun tp htp => ?_⟩
                have s8 := same_new (o := .tup [.int (j : Int)]) htp
                refine catT_big (.inl (TK.same (sm7.trans s8) _ _ hRw)) (tupAt upd_same) (by rw [List.length_map, List.length_singleton, hw0]; omega) fun r H8 s9 hr8 hS8 => ⟨by show 2 ≤ sizeLine; decide, fun tt htt => ?_⟩
                have s10 := same_new (o := .tup [.ref qn, .ref r]) htt
                have sB := s8.trans (s9.trans s10)
                have hRr : Rd H8 r (.tup ((q0.2 ++ [(j : Int)]).map V.int)) := by
                  rw [List.map_append]
                  rcases hr8 with h | ⟨h, _⟩ | ⟨h, h2⟩
                  · exact .inl h
                  · cases h
                  · rw [h2, h]
                    exact .inl (s9 _ _ upd_same)
                have eU9 := sB _ _ eU7
                have huH : H3 u = none := hu
                refine ⟨u, us, .ref tt, rfl, rfl, eU9, (by rw [sizeLine_eq]; omega), ?_⟩
                have tk9 : TK _ (upd _ u (.lst (us ++ [V.ref tt]))) := TK.upd eU9 not_tup_l
                refine ⟨⟨bs ++ [(stS n hs (j : Int) q0.1, V.bl true)], ks2 ++ [qn], us ++ [.ref tt], Same.upd (sm7.trans sB) huH, ?_, (kb7.on (TK.same sB)).on tk9, ?_, upd_same, ?_⟩, _, _, _, _, rfl⟩
                · rw [upd_ne (ne_of (sB _ _ eS7) eU9 (fun z => nomatch z))]
                  exact sB _ _ eS7
                · rw [show i2 * (rg n).length + (j + 1) = i2 * (rg n).length + j + 1 from rfl, ep, List.map_append, List.map_append, hf5]
                  rfl
                · rw [show i2 * (rg n).length + (j + 1) = i2 * (rg n).length + j + 1 from rfl, ep]
                  refine Each.snoc2 ⟨tt, qn, r, rfl, tk9 _ _ (.inl upd_same), (eqk7.on (TK.same sB)).on tk9, tk9 _ _ (TK.same s10 _ _ hRr)⟩ (hU7.imp fun _ _ z => (z.on (TK.same sB)).on tk9)
            · obtain ⟨hM3, z16, z17, z18, z19, rfl⟩ := h'
              refine ⟨?_, _, _, _, _, _, _, rfl⟩
              rw [show (i2 + 1) * (rg n).length + 0 = i2 * (rg n).length + n by rw [Nat.succ_mul, rg_len]; rfl]
              exact hM3
          · obtain ⟨⟨bs, ks2, us, sm4, _, _, _, eU, hU⟩, z14, z15, z16, z17, z18, z19, rfl⟩ := h'
            rw [lx, Nat.add_zero, prtA_all] at hU
            exact ⟨_, rfl, u, us, some (.int (t : Int)), some (.ref u), some (.ref sd), z14, z15, z16, z17, z18, z19, rfl, Ne.symm num, eU, hU, sm4 _ _ eM2, sm4 _ _ eq, N2.same sm4⟩
        clear nla eLa hLa eF2 eM2 eq N2
        obtain ⟨la, xs, z11, z12, z13, z14, z15, z16, z17, z18, z19, rfl, eLa, hLa, eM2, eq, N2⟩ := g16
        refine ⟨_, rfl, _, rfl, la, rfl, ⟨_, lstAt eLa⟩, fun D hD => ?_⟩
        let gA : SW → Bool := fun q => tog (atN n q.1 (i : Int))
        refine lc_list (xs := xs) (fun j H' => Same H16 H' ∧ ∃ ys, H' D = some (.lst ys) ∧ Each (RL H') ys ((((lvA (stS n hs) (rg n) s wd.length).take j).filter gA).map Prod.snd)) ⟨same_new hD, [], upd_same, .nil⟩ (fun j H' _ h' => lstAt (h'.1 _ _ eLa)) (fun j x H' hx3 h' => ?_) (fun H' h' => ?_)
        · obtain ⟨sm, ys, eY, hY⟩ := h'
          obtain ⟨q0, hq0, tq, b', w', rfl, hRt, hKb, hRw⟩ := hLa.at hx3
          have hp0 : RH.CS n hs.length q0.1 := sy.lvA_C hc (List.mem_of_getElem? hq0)
          refine ⟨tq, _, rfl, .inl (TK.same sm _ _ hRt), rfl, _, _, rfl, _, _, rfl, rfl, rfl, ?_⟩
          refine ⟨_, rfl, _, rfl, b', chk n q0.1, (i : Int), rfl, (hKb.on (TK.same sm)).rows, fun L hL => by rw [perm_len (hp0.2 L hL)]; exact hin, by rw [hp0.1]; exact m0, by rw [hp0.1]; exact m3, fun H3 s3 => ⟨_, rfl, ?_⟩⟩
          have eg : tog ((chk n q0.1).map fun L => L.getD (i : Int).toNat 0) = gA q0 := rfl
          rw [eg]
          have tm : (lvA (stS n hs) (rg n) s wd.length).take (j + 1) = (lvA (stS n hs) (rg n) s wd.length).take j ++ [q0] := take_more hq0
          refine ite2 (fun e => ?_) (fun e => ?_)
          · have tk : TK H3 (upd H3 D (.lst (ys ++ [V.ref w']))) := TK.upd (s3 _ _ eY) not_tup_l
            refine ⟨_, rfl, _, s3 _ _ eY, ?_, sameU (sm.trans s3) hD, ys ++ [.ref w'], upd_same, ?_⟩
            · have h1 := hY.len
              rw [List.length_map] at h1
              have := List.length_filter_le gA ((lvA (stS n hs) (rg n) s wd.length).take j)
              rw [List.length_take] at this
              have := sy.lvA_few hc wd.length
              rw [sizeLine_eq]
              omega
            · rw [tm, List.filter_append, List.filter_cons_of_pos e, List.map_append]
              exact Each.snoc2 ⟨w', rfl, tk _ _ (TK.same (sm.trans s3) _ _ hRw)⟩ (hY.imp fun _ _ z => (z.on (TK.same s3)).on tk)
          · refine ⟨sm.trans s3, ys, s3 _ _ eY, ?_⟩
            rw [tm, List.filter_append, List.filter_cons_of_neg e, List.filter_nil, List.append_nil]
            exact hY.imp fun _ _ z => z.on (TK.same s3)
        · obtain ⟨sm, ys, eY, hY⟩ := h'
          rw [hLa.len, List.take_length] at hY
          obtain ⟨q1, hq1⟩ := lvA_some (st := stS n hs) (L := s) (gp := fun t => tog (atN n t (i : Int))) rg_up hx.s
          have hlex := lex1_A rg_up hx.s hq1
          have ew : wd = q1.2 := hx.one hlex
          have hat : (((lvA (stS n hs) (rg n) s wd.length).filter gA).map Prod.snd)[0]? = some q1.2 := by
            rw [List.getElem?_map]
            show Option.map Prod.snd (((lvA (stS n hs) (rg n) s wd.length).filter fun x => tog (atN n x.1 (i : Int)))[0]?) = _
            rw [hq1]
            rfl
          obtain ⟨y0, hy0, ar, rfl, hRa⟩ := hY.back hat
          refine ⟨D, ys, 0, .ref ar, rfl, rfl, lstAt eY, atI_nat (j := 0) hy0, ?_⟩
          refine ⟨_, _, dp_tup (ns := wd) (tupAt (sm _ _ eq)), dp_tup (ns := q1.2) (.inl hRa), shaped_ints _, shaped_ints _, _, rfl, ifF (by rw [eqv_tupI, decide_eq_true ew]; rfl) ?_⟩
          exact ⟨_, _, _, _, _, _, _, _, _, _, _, _, _, rfl, sm _ _ eM2, N2.same sm⟩
    obtain ⟨z7, z8, z9, z10, z11, z12, z13, z14, z15, z16, z17, z18, z19, rfl, eM, N11⟩ := g11
    refine ⟨_, rfl, _, rfl, hv, .ref b, rfl, N11.S.refC ⟨b, hs, n, s, ff, rfl, N11.S, stOk n2 n4 hb m3 hc, mwOk n2 n4 hb m3 hc, by rw [← hff]; exact meetsA n2 n4 hb m3 hc hk, N11.tb, fun H' q' ex T' e => ?_⟩⟩
    refine ⟨_, rfl, .inl ⟨mA, _, rfl, lstAt (ex _ _ eM (fun ps z => nomatch z)), fun t ht => ?_⟩⟩
    have s1 := same_new (o := .tup (((rg n).filter ff).map V.int)) ht
    refine ⟨_, _, _, rfl, dp_tup (tupAt (s1 _ _ e)), dp_tup (tupAt upd_same), ⟨?_, fun d hd => ?_⟩, fun _ _ => q _⟩
    · rw [List.length_map]
      have := List.length_filter_le ff (rg n)
      rw [rg_len] at this
      omega
    · obtain ⟨x, _, rfl⟩ := List.mem_map.mp hd
      exact True.intro
end
end RH
set_option Elab.async false
set_option linter.all false
set_option maxRecDepth 100000
set_option maxHeartbeats 2000000
namespace RH
open PySem PySem.Spec PyProof.Rows L2
open LamX (Tabs TabS TabB ExtN CodeO codeO_ne)
/-! ### what the top has left -/
theorem df_mk {K : PySem.W.Frag} {h : Heap} {mg : Str → Option Value} (X : K.In h) (G : h.Ns mainGlobals mg) {x : Str} {st : Stmt} {ps : List Str} {f : Addr} {od an : Option Addr} {sl : Array (Option Value)} {oc kV dc pm cd ct : Value}
    (a : PySem.W.nsIn K mainGlobals x = some (some (.ref f))) (l : K.lookup f = some ⟨oc, od, .func (PySem.W.fnOf x x (defArgs st) (defBody st) (defScope st) .none kV dc pm an cd ct), sl⟩) (c : PySem.W.codeIn K cd x = true) (k : PySem.W.keepIn K (.ref f) = true)
    (b : ∀ (kV doc pm : Value) (an : Option Addr) (cdv ct : Value) (us : List Value), us.length = ps.length → bindArgs (PySem.W.fnOf x x (defArgs st) (defBody st) (defScope st) .none kV doc pm an cdv ct) ⟨us, []⟩ = pure (ps.zip us)) : Df K mg x st ps := by
  have F := fun_mk (st := st) l c k
  exact ⟨f, _, F, PySem.W.mg_of X G a, F.binds b⟩
theorem dfc_mk {K : PySem.W.Frag} {h : Heap} {mg : Str → Option Value} (X : K.In h) (G : h.Ns mainGlobals mg) {x : Str} {st : Stmt} {ps : List Str} {f c : Addr} {od an : Option Addr} {sl : Array (Option Value)} {oc kV dc pm ct : Value}
    (a : PySem.W.nsIn K mainGlobals x = some (some (.ref f))) (l : K.lookup f = some ⟨oc, od, .func (PySem.W.fnOf x x (defArgs st) (defBody st) (defScope st) .none kV dc pm an (.ref c) ct), sl⟩) (cc : PySem.W.codeIn K (.ref c) x = true) (k : PySem.W.keepIn K (.ref f) = true)
    (b : ∀ (kV doc pm : Value) (an : Option Addr) (cdv ct : Value) (us : List Value), us.length = ps.length → bindArgs (PySem.W.fnOf x x (defArgs st) (defBody st) (defScope st) .none kV doc pm an cdv ct) ⟨us, []⟩ = pure (ps.zip us)) : DfC K mg x st ps c := by
  have F := fun_mk (st := st) l cc k
  exact ⟨f, oc, od, kV, dc, pm, an, ct, sl, l, cc, k, PySem.W.mg_of X G a, F.binds b⟩
/-- where a code object's table stands -/
def tabOf (o : Obj) : Option Value := match o.data with
  | .fields vs => vs.toList[11]?
  | _ => none
/-- a maker: its code object, its table -/
structure Mkr (K : PySem.W.Frag) (h : Heap) (mg : Str → Option Value) (x : Str) (st : Stmt) (ps : List Str) (c p : Addr) : Prop where
  df : DfC K mg x st ps c
  hd : PySem.W.CodeHd h c p
  no : K.lookup p = none
  tab : h.get? p = some (PySem.W.tabObj #[])
theorem mkr {K : PySem.W.Frag} {h : Heap} {mg : Str → Option Value} (X : K.In h) (G : h.Ns mainGlobals mg) {x : Str} {st : Stmt} {ps : List Str} {f c p : Addr} {od an : Option Addr} {sl : Array (Option Value)} {oc kV dc pm ct : Value} {o : Obj}
    (a : PySem.W.nsIn K mainGlobals x = some (some (.ref f))) (l : K.lookup f = some ⟨oc, od, .func (PySem.W.fnOf x x (defArgs st) (defBody st) (defScope st) .none kV dc pm an (.ref c) ct), sl⟩) (cc : PySem.W.codeIn K (.ref c) x = true) (k : PySem.W.keepIn K (.ref f) = true)
    (lc : K.lookup c = some o) (t : tabOf o = some (.ref p)) (d : ∀ K' : PySem.W.Frag, K'.lookup c = some o → PySem.W.codeHdIn K' c p = true) (e : K.lookup p = none) (g : h.get? p = some (PySem.W.tabObj #[]))
    (b : ∀ (kV doc pm : Value) (an : Option Addr) (cdv ct : Value) (us : List Value), us.length = ps.length → bindArgs (PySem.W.fnOf x x (defArgs st) (defBody st) (defScope st) .none kV doc pm an cdv ct) ⟨us, []⟩ = pure (ps.zip us)) :
    Mkr K h mg x st ps c p := ⟨dfc_mk X G a l cc k b, PySem.W.codeHd_of_K X (d K lc), e, g⟩
theorem many2 {A1 A2 : Addr → Addr → Prop} {c1 p1 c2 p2 : Addr} (a1 : A1 c1 p1) (a2 : A2 c2 p2) (n12 : (p1 != p2) = true) : ∃ c1 p1 c2 p2, A1 c1 p1 ∧ A2 c2 p2 ∧ p1 ≠ p2 := ⟨c1, p1, c2, p2, a1, a2, fun z => by rw [z] at n12; simp at n12⟩
theorem dfD_mk {K : PySem.W.Frag} {h : Heap} {mg : Str → Option Value} (X : K.In h) (G : h.Ns mainGlobals mg) {x : Str} {st : Stmt} {ps : List Str} {f T : Addr} {od an : Option Addr} {sl : Array (Option Value)} {oc kV dc pm cd ct : Value} {o : Obj} {its : List Value} {m n0 : Nat} {dvs : List V}
    (a : PySem.W.nsIn K mainGlobals x = some (some (.ref f))) (l : K.lookup f = some ⟨oc, od, .func (PySem.W.fnOf x x (defArgs st) (defBody st) (defScope st) (.ref T) kV dc pm an cd ct), sl⟩) (c : PySem.W.codeIn K cd x = true) (k : PySem.W.keepIn K (.ref f) = true)
    (lT : K.lookup T = some o) (oT : o.data = .seq its.toArray m) (hv : Vals dvs its) (hne : dvs ≠ []) (hn : n0 + (dvs.length - 0) = ps.length)
    (b : ∀ (T : Addr) (kV doc pm : Value) (an : Option Addr) (cdv ct : Value) (us its : List Value), us.length = n0 → its.length = dvs.length →
      ∃ k, bindArgs (PySem.W.fnOf x x (defArgs st) (defBody st) (defScope st) (.ref T) kV doc pm an cdv ct) ⟨us, []⟩ = seqItems? (.ref T) >>= k ∧ k (some its.toArray) = pure (ps.zip (us ++ its.drop 0))) : DfD K mg x st ps dvs := by
  have F : FunD K x x (defArgs st) (defBody st) (defScope st) dvs [] f _ := ⟨⟨oc, od, .ref T, kV, dc, pm, an, cd, ct, sl, rfl, l, c, .inr ⟨hne, T, o, its, m, rfl, lT, oT, hv⟩, .inl rfl⟩, k⟩
  obtain ⟨ds, h1, h2⟩ := F.binds1 n0 0 hne hn b
  exact ⟨f, _, F, PySem.W.mg_of X G a, ds, h1, h2⟩
/-- the written part that is meant -/
abbrev kOf {K : PySem.W.Frag} {h : Heap} (_ : K.In h) : PySem.W.Frag := K
theorem const_mk {K : PySem.W.Frag} {h : Heap} {mg : Str → Option Value} (X : K.In h) (G : h.Ns mainGlobals mg) {x : Str} {i : Int} {t : Tok} (a : PySem.W.nsIn K mainGlobals x = some (some (.int i t))) : ∃ t, mg x = some (.int i t) := ⟨t, PySem.W.mg_of X G a⟩
/-- what the end asks of the law -/
def spTopE (K : PySem.W.Frag) (T : List (Addr × Str)) : Sp := fun vs H Q _ => ∃ (a : Addr) (ns : List Int), vs = [.ref a] ∧ SqL K H a (ns.map V.int) ∧ Tabs T H ∧ ∀ H', Q (.bl true) H'
/-- a list that no one writes may be told by its very object -/
theorem frozen {P : Program} {w : World} {K : PySem.W.Frag} {mg : Str → Option Value} {base : Heap} {k : Nat} {f : Addr} {fd : FuncData} {T : List (Addr × Str)} (F : FnOk P w K mg base CX0 k f fd ["script"] (spLaw K T)) : FnOk P w K mg base CX0 k f fd ["script"] (spTopE K T) := by
  refine ⟨fun vs H Q E h => ?_, fun A outer s H args us vs Q E hr e0 hb r h => ?_⟩
  · obtain ⟨a, ns, rfl, _⟩ := h
    rfl
  obtain ⟨a, ns, rfl, hS, hT, q⟩ := h
  rcases hS with (hS | ⟨o, hS⟩) | hS
  · obtain ⟨z, its, n, rv, ho⟩ := (show ObjOk P w H s.heap a (.lst (ns.map V.int)) from e0.hok a _ hS)
    have hne : ∀ b, H b = none ↔ upd H a (.frz { cls := .type "list", data := .seq its.toArray n } (.lst (ns.map V.int))) b = none := fun b => by
      by_cases e : b = a
      · subst e
        rw [hS, upd_same]
        exact ⟨fun z => (nomatch z), fun z => (nomatch z)⟩
      · rw [upd_ne e]
    have ext : ∀ b u, H b = some u → (∀ xs, u ≠ .lst xs) → upd H a (.frz { cls := .type "list", data := .seq its.toArray n } (.lst (ns.map V.int))) b = some u := fun b u e nu => by
      rw [upd_ne (fun z => by subst z; rw [hS] at e; exact nu _ (Option.some.inj e).symm)]
      exact e
    have hok : HOk P w (upd H a (.frz { cls := .type "list", data := .seq its.toArray n } (.lst (ns.map V.int)))) s.heap := fun b u e => by
      by_cases eb : b = a
      · subst eb
        rw [upd_same] at e
        cases e
        exact ⟨ho, z, its, n, rv, ho⟩
      · rw [upd_ne eb] at e
        exact (e0.hok b u e).stay (fun c v _ h => h) (fun c h => ext _ _ h (fun xs z => nomatch z)) (fun c xs h => ext _ _ h (fun xs z => nomatch z))
    have e1 : Env0 P w K mg base A outer s (upd H a (.frz { cls := .type "list", data := .seq its.toArray n } (.lst (ns.map V.int)))) :=
      ⟨e0.frames, e0.mod, fun b o e => ⟨(e0.bs b o e).1, (hne b).mp (e0.bs b o e).2⟩, e0.bsz, e0.funs, fun b h => (hne b).mp (e0.frf b h), hok, e0.bare⟩
    have hT1 : Tabs T (upd H a (.frz { cls := .type "list", data := .seq its.toArray n } (.lst (ns.map V.int)))) := Fix.tabs (fun b u e nu => ext b u e nu) hT
    refine codeAny_mono (F.run A outer s _ args us [.ref a] Q E hr e1 hb r ⟨a, ns, rfl, .inl ⟨_, upd_same⟩, hT1, q⟩) fun rr s' h => ?_
    cases rr with
    | error e => exact h
    | ok fl =>
      cases fl with
      | ret u =>
        obtain ⟨v, H', os, bare, un, hok', r', q'⟩ := h
        refine ⟨v, H', os, bare, ⟨fun b o e n => un.keep b o e ((hne b).mp n), fun b o e n => un.slot b o e ((hne b).mp n), fun b o e n => un.free b o e ((hne b).mp n), un.there, fun b xs e => un.tups b xs (ext b _ e (fun ys z => nomatch z)), fun b o u e => un.frzs b o u (ext b _ e (fun ys z => nomatch z)), fun b ps e => un.tbls b ps (ext b _ e (fun ys z => nomatch z))⟩, hok', r', q'⟩
      | next => exact h
      | brk => exact h
      | cont => exact h
  · exact F.run A outer s H args us [.ref a] Q E hr e0 hb r ⟨a, ns, rfl, .inl ⟨o, hS⟩, hT, q⟩
  · exact F.run A outer s H args us [.ref a] Q E hr e0 hb r ⟨a, ns, rfl, .inr fun H' => .inr hS, hT, q⟩
/-- the code object's file is the law's -/
def fileV (P : Program) : Option Value → Bool
  | some (Value.str file _) => (P.main.file : Str) == file
  | _ => false
def fileOk (P : Program) (o : Obj) : Bool := match o.data with
  | Data.fields vs => fileV P vs[2]?
  | _ => false
theorem fileOk_ex {P : Program} {K : PySem.W.Frag} {c : Addr} {o : Obj} (l : K.lookup c = some o) (h : fileOk P o = true) : ∃ (ccl : Value) (cdd : Option Addr) (vs : Array Value) (ccs : Array (Option Value)) (file : Str) (tf : Tok), K.lookup c = some ⟨ccl, cdd, .fields vs, ccs⟩ ∧ vs[2]? = some (.str file tf) ∧ ((P.main.file : Str) == file) = true := by
  obtain ⟨a, b, d, e⟩ := o
  unfold fileOk at h
  dsimp only at h
  split at h
  · rename_i vs0 vs
    cases hv : vs[2]? with
    | none =>
      rw [hv] at h
      cases h
    | some u =>
      rw [hv] at h
      cases u <;> first | (cases h; done) | skip
      rename_i file tf
      exact ⟨a, b, vs, e, file, tf, l, hv, h⟩
  · cases h
/-- the errors, as the top has left them -/
theorem errs_mk {K : PySem.W.Frag} {h : Heap} {mg : Str → Option Value} (P : Program) (X : K.In h) (G : h.Ns mainGlobals mg) {S c0 c1 c2 : Addr} (aS : PySem.W.nsIn K mainGlobals "ShelfError" = some (some (.ref S)))
    (a0 : PySem.W.nsIn K mainGlobals "BadHabits" = some (some (.ref c0)))
    (a1 : PySem.W.nsIn K mainGlobals "BadStand" = some (some (.ref c1)))
    (a2 : PySem.W.nsIn K mainGlobals "BadNames" = some (some (.ref c2)))
    (kp0 : PySem.W.keepIn K (.ref c0) = true) (b0 : PySem.W.subIn K (.ref c0) (.type "BaseException") = some true) (t0 : PySem.W.typeIn K (.ref c0) = some (.type "type"))
    (xg0 : PySem.W.findIn K (.ref c0) "__getattribute__" = some (some (.builtin "BaseException.__getattribute__"))) (xk0 : PySem.W.findIn K (.ref c0) "__getattr__" = some none) (xd0 : PySem.W.hasDictIn K c0 = true) (xa0 : PySem.W.findIn K (.ref c0) "__class__" = some (some (.builtin "object.__class__"))) (xm0 : PySem.W.mroIn K c0 (.type "object") = some true) (es0 : PySem.W.exmOne K (.ref c0) (.ref S) = some true)
    (kp1 : PySem.W.keepIn K (.ref c1) = true) (b1 : PySem.W.subIn K (.ref c1) (.type "BaseException") = some true) (t1 : PySem.W.typeIn K (.ref c1) = some (.type "type"))
    (xg1 : PySem.W.findIn K (.ref c1) "__getattribute__" = some (some (.builtin "BaseException.__getattribute__"))) (xk1 : PySem.W.findIn K (.ref c1) "__getattr__" = some none) (xd1 : PySem.W.hasDictIn K c1 = true) (xa1 : PySem.W.findIn K (.ref c1) "__class__" = some (some (.builtin "object.__class__"))) (xm1 : PySem.W.mroIn K c1 (.type "object") = some true) (es1 : PySem.W.exmOne K (.ref c1) (.ref S) = some true)
    (q2 : PySem.W.excIn K c2 [.type "ValueError", .type "Exception", .type "BaseException", .type "object"] "ValueError.__new__" = true)
    (kp2 : PySem.W.keepIn K (.ref c2) = true) (b2 : PySem.W.subIn K (.ref c2) (.type "BaseException") = some true) (t2 : PySem.W.typeIn K (.ref c2) = some (.type "type"))
    (xg2 : PySem.W.findIn K (.ref c2) "__getattribute__" = some (some (.builtin "BaseException.__getattribute__"))) (xk2 : PySem.W.findIn K (.ref c2) "__getattr__" = some none) (xd2 : PySem.W.hasDictIn K c2 = true) (xa2 : PySem.W.findIn K (.ref c2) "__class__" = some (some (.builtin "object.__class__"))) (xm2 : PySem.W.mroIn K c2 (.type "object") = some true) (es2 : PySem.W.exmOne K (.ref c2) (.ref S) = some true)
    (xn : PySem.W.specialIn K (.builtin "object.__class__") "__get__" = some (some (.builtin "getset_descriptor.__get__"))) (xt : PySem.W.takesIn K (.builtin "object.__class__") = some true)
    {nm0 q0 : Str} {N0 : Addr} {bs0 bm0 : List Value} {sn0 : List Str} {sub0 : List Value} {ab0 : Bool} {col0 : Option Bool} {dd0 : Option Addr} {m0_0 m1_0 m2_0 m3_0 m5_0 : Option Value} {f0 cc0 cda0 : Addr} {oc0 kV0 dc0 pm0 ct0 ccl0 : Value} {od0 an0 cdd0 : Option Addr} {sl0 csl0 : Array (Option Value)} {oo0 : Obj}
    (yL0 : K.lookup c0 = some (excClassObj nm0 q0 c0 N0 bs0 bm0 true sn0 sub0 ab0 col0 dd0 m0_0 m1_0 m2_0 m3_0 m5_0 "ValueError.__new__")) (yR0 : PySem.HandSPX.refsVE bm0 = true) (ysa0 : PySem.W.findIn K (.ref c0) "__setattr__" = some (some (.builtin "object.__setattr__"))) (yno0 : PySem.W.findIn K (.ref c0) "index" = some none)
    (yi0 : PySem.W.findIn K (.ref c0) "__init__" = some (some (.ref f0))) (yt0 : PySem.W.typeIn K (.ref f0) = some (.type "function")) (yl0 : K.lookup f0 = some ⟨oc0, od0, .func (PySem.W.fnX "__init__" "BadHabits.__init__" (defArgs st_e_BadHabits) (defBody st_e_BadHabits) (defScope st_e_BadHabits) [("__class__", cc0)] .none kV0 dc0 pm0 an0 (.ref cda0) ct0), sl0⟩) (yc0 : PySem.W.codeIn K (.ref cda0) "BadHabits.__init__" = true)
    (yo0 : K.lookup cda0 = some oo0) (yf0 : fileOk P oo0 = true) (yk0 : K.lookup cc0 = some ⟨ccl0, cdd0, .cell (some (.ref c0)), csl0⟩) (ym0 : PySem.W.mroIn K c0 (.ref c0) = some true)
    (ys0 : PySem.W.ks_superIn K c0 c0 "__init__" = some (some (.builtin "ValueError.__init__"))) (yv0 : PySem.W.subIn K (.ref c0) (.type "ValueError") = some true)
    {nm1 q1 : Str} {N1 : Addr} {bs1 bm1 : List Value} {sn1 : List Str} {sub1 : List Value} {ab1 : Bool} {col1 : Option Bool} {dd1 : Option Addr} {m0_1 m1_1 m2_1 m3_1 m5_1 : Option Value} {f1 cc1 cda1 : Addr} {oc1 kV1 dc1 pm1 ct1 ccl1 : Value} {od1 an1 cdd1 : Option Addr} {sl1 csl1 : Array (Option Value)} {oo1 : Obj}
    (yL1 : K.lookup c1 = some (excClassObj nm1 q1 c1 N1 bs1 bm1 true sn1 sub1 ab1 col1 dd1 m0_1 m1_1 m2_1 m3_1 m5_1 "ValueError.__new__")) (yR1 : PySem.HandSPX.refsVE bm1 = true) (ysa1 : PySem.W.findIn K (.ref c1) "__setattr__" = some (some (.builtin "object.__setattr__"))) (yno1 : PySem.W.findIn K (.ref c1) "index" = some none)
    (yi1 : PySem.W.findIn K (.ref c1) "__init__" = some (some (.ref f1))) (yt1 : PySem.W.typeIn K (.ref f1) = some (.type "function")) (yl1 : K.lookup f1 = some ⟨oc1, od1, .func (PySem.W.fnX "__init__" "BadStand.__init__" (defArgs st_e_BadStand) (defBody st_e_BadStand) (defScope st_e_BadStand) [("__class__", cc1)] .none kV1 dc1 pm1 an1 (.ref cda1) ct1), sl1⟩) (yc1 : PySem.W.codeIn K (.ref cda1) "BadStand.__init__" = true)
    (yo1 : K.lookup cda1 = some oo1) (yf1 : fileOk P oo1 = true) (yk1 : K.lookup cc1 = some ⟨ccl1, cdd1, .cell (some (.ref c1)), csl1⟩) (ym1 : PySem.W.mroIn K c1 (.ref c1) = some true)
    (ys1 : PySem.W.ks_superIn K c1 c1 "__init__" = some (some (.builtin "ValueError.__init__"))) (yv1 : PySem.W.subIn K (.ref c1) (.type "ValueError") = some true)
    (ya : PySem.W.nsIn K cStatics "thirdparty.any" = some none) (yg : PySem.W.nsIn K mainGlobals "super" = some none) (yp : (P.main.scope.names.lookup ("super" : Str)).isSome = false)
    : ∃ (S c0 c1 c2 : Addr), (∀ w base, BhX P w K mg base "BadHabits" "index" c0 (spBI "index" c0)) ∧ (∀ w base, BhX P w K mg base "BadStand" "index" c1 (spBI "index" c1)) ∧ (ExO K mg "BadNames" c2) := by
  have mS := PySem.W.mg_of X G aS
  have m0 := PySem.W.mg_of X G a0
  have m1 := PySem.W.mg_of X G a1
  have m2 := PySem.W.mg_of X G a2
  have x0 : ExcC K c0 := ⟨xg0, xk0, b0, xd0, xa0, xn, xt, xm0⟩
  have x1 : ExcC K c1 := ⟨xg1, xk1, b1, xd1, xa1, xn, xt, xm1⟩
  have x2 : ExcC K c2 := ⟨xg2, xk2, b2, xd2, xa2, xn, xt, xm2⟩
  have ox0 : OexC K c0 := ⟨⟨_, _, _, _, _, _, _, _, _, _, _, _, _, _, _, yL0, yR0⟩, ysa0, b0, t0, kp0⟩
  have M0 : SupC P K mg c0 "BadHabits.__init__" st_e_BadHabits f0 _ cc0 cda0 := ⟨ox0, ⟨_, _, _, _, _, _, _, _, rfl, yl0⟩, yc0, fileOk_ex yo0 yf0, ⟨_, _, _, yk0⟩, ym0, ya, ys0, yv0, PySem.W.mg_none_of X G yg, yp⟩
  have bh0 : ∀ w base, BhX P w K mg base "BadHabits" "index" c0 (spBI "index" c0) := fun w base => ⟨ox0, m0, f0, _, ok_BadHabits M0 yno0, yi0, yt0, .all fun us hl => match us, hl with | [_, _], _ => rfl⟩
  have ox1 : OexC K c1 := ⟨⟨_, _, _, _, _, _, _, _, _, _, _, _, _, _, _, yL1, yR1⟩, ysa1, b1, t1, kp1⟩
  have M1 : SupC P K mg c1 "BadStand.__init__" st_e_BadStand f1 _ cc1 cda1 := ⟨ox1, ⟨_, _, _, _, _, _, _, _, rfl, yl1⟩, yc1, fileOk_ex yo1 yf1, ⟨_, _, _, yk1⟩, ym1, ya, ys1, yv1, PySem.W.mg_none_of X G yg, yp⟩
  have bh1 : ∀ w base, BhX P w K mg base "BadStand" "index" c1 (spBI "index" c1) := fun w base => ⟨ox1, m1, f1, _, ok_BadStand M1 yno1, yi1, yt1, .all fun us hl => match us, hl with | [_, _], _ => rfl⟩
  have X2 : ExO K mg "BadNames" c2 := ⟨q2, m2, kp2, b2, t2⟩
  exact ⟨S, c0, c1, c2, bh0, bh1, X2⟩
def tabs9 (P1 P2 : Addr) : List (Addr × Str) := [(P1, lamQ "all_stands"), (P2, lamQ "meeting_word")]
theorem top {P : Program} {w : World} {K : PySem.W.Frag} {mg : Str → Option Value} {fa : Addr} (hfa : mg "law" = some (.ref fa)) (B : Bu mg) (c_FEWEST_PLACES : ∃ t, mg "FEWEST_PLACES" = some (.int 2 t)) (c_MOST_PLACES : ∃ t, mg "MOST_PLACES" = some (.int 5 t)) (c_MOST_STANDS : ∃ t, mg "MOST_STANDS" = some (.int 20000 t)) (n_min : mg "min" = none)
    {k1 p1 k2 p2 : Addr} (hpp : p1 ≠ p2)
    {S c0 c1 c2 : Addr} (b0 : ∀ base, BhX P w K mg base "BadHabits" "index" c0 (spBI "index" c0)) (b1 : ∀ base, BhX P w K mg base "BadStand" "index" c1 (spBI "index" c1)) (X2 : ExO K mg "BadNames" c2)
    (F_is_integer : Df K mg "is_integer" st_is_integer ["value"])
    (F_is_number : Df K mg "is_number" st_is_number ["value", "low", "high"])
    (F_is_row : Df K mg "is_row" st_is_row ["value", "low", "high"])
    (F_is_place : Df K mg "is_place" st_is_place ["value", "places"])
    (F_are_places : Df K mg "are_places" st_are_places ["value", "places"])
    (F_is_layout : Df K mg "is_layout" st_is_layout ["value", "places"])
    (F_is_habit : Df K mg "is_habit" st_is_habit ["value"])
    (F_check_habits : DfD K mg "check_habits" st_check_habits ["habits", "most"] [.int 3])
    (F_check_stand : Df K mg "check_stand" st_check_stand ["stand", "habits"])
    (F_check_name : Df K mg "check_name" st_check_name ["name", "places"])
    (F_places_of_habit : Df K mg "places_of_habit" st_places_of_habit ["habit"])
    (F_move : Df K mg "move" st_move ["habit", "layout", "place"])
    (F_depths : Df K mg "depths" st_depths ["start", "touches", "step", "most"])
    (F_traced : Df K mg "traced" st_traced ["came", "state"])
    (F_least_word : Df K mg "least_word" st_least_word ["start", "touches", "step", "is_goal"])
    (F_move_stand : Df K mg "move_stand" st_move_stand ["habits", "stand", "place"])
    (F_stands : Df K mg "stands" st_stands ["habits", "stand"])
    (F_meeting : Df K mg "meeting" st_meeting ["habits", "stand", "name"])
    (F_names_met : Df K mg "names_met" st_names_met ["habits", "stand"])
    (F_check_stands : Df K mg "check_stands" st_check_stands ["habits", "stand"])
    (F_all_stands : DfC K mg "all_stands" st_all_stands ["habits", "stand"] k1)
    (F_places_of_name : Df K mg "places_of_name" st_places_of_name ["stand", "name"])
    (F_is_together : Df K mg "is_together" st_is_together ["places"])
    (F_meeting_word : DfC K mg "meeting_word" st_meeting_word ["habits", "stand", "name"] k2)
    (F_names_that_meet : Df K mg "names_that_meet" st_names_that_meet ["habits", "stand"])
    (F__law_taken : Df K mg "_law_taken" st__law_taken ["row", "many"])
    (F__law_order : Df K mg "_law_order" st__law_order ["row", "many"])
    (F__law_habit : Df K mg "_law_habit" st__law_habit ["row", "places"])
    (F__law_several : Df K mg "_law_several" st__law_several ["row", "places"])
    (F__law_touch : Df K mg "_law_touch" st__law_touch ["habit", "layout", "place"])
    (F__law_stands : Df K mg "_law_stands" st__law_stands ["habits", "stand", "most"])
    (F__law_alike : Df K mg "_law_alike" st__law_alike ["found", "due"])
    (F__law_agrees : Df K mg "_law_agrees" st__law_agrees ["stand", "name"])
    (F_law : Df K mg "law" st_law ["script"])
    : ∃ fd : FuncData, (∀ (s : Shared) (v : Value), BindsTo s fd ⟨[v], []⟩ [("script", v)]) ∧ ∀ base : Heap, TabB base mg k1 p1 → TabB base mg k2 p2 → FnOk P w K mg base CX0 9 fa fd ["script"] (spTopE K (tabs9 p1 p2)) := by
  obtain ⟨f, fd, F, g, b⟩ := F_law.ex
  have e := hfa.symm.trans g
  cases e
  refine ⟨fd, fun s v => ?_, fun base T1 T2 => ?_⟩
  · obtain ⟨oc, od, kV, doc, pm, an, cdv, ct, osl, rfl, _⟩ := F.ex
    exact .of_eq rfl
  · have C1 := ok_is_integerW (P := P) (w := w) (K := K) (base := base) F_is_integer B
    have C2 := ok_is_numberW F_is_number C1
    have CR := ok_is_rowW (P := P) (w := w) (K := K) (base := base) F_is_row B
    have C3 := ok_is_placeW F_is_place C2
    have C4 := ok_are_placesW F_are_places B C3
    have C5 := ok_is_layoutW F_is_layout B C4
    have C6 := ok_is_habitW F_is_habit B c_FEWEST_PLACES c_MOST_PLACES CR C5
    have CH := ok_check_habitsX F_check_habits B (b0 base) CR C6
    have CS_ := ok_check_standX F_check_stand B (b1 base) CR C5
    have CN := ok_nameG F_check_name X2 C3
    have CO := ok_places_of (P := P) (w := w) (K := K) (base := base) F_places_of_habit B
    have CM := ok_move (P := P) (w := w) (K := K) (base := base) F_move B
    have CMS := ok_move_stand F_move_stand B CM
    have CTr := ok_traced (P := P) (w := w) (K := K) (base := base) kF F_traced B
    have CPn := ok_pon (P := P) (w := w) (K := K) (base := base) F_places_of_name B
    have u1 : ∀ p ∈ tabs9 p1 p2, p.1 = p1 → p.2 = lamQ "all_stands" := fun p hp e => by
      rcases List.mem_cons.mp hp with z | hp
      · rw [z]
      · rw [List.mem_singleton.mp hp] at e; exact absurd e (Ne.symm hpp)
    have u2 : ∀ p ∈ tabs9 p1 p2, p.1 = p2 → p.2 = lamQ "meeting_word" := fun p hp e => by
      rcases List.mem_cons.mp hp with z | hp
      · rw [z] at e; exact absurd e hpp
      · rw [List.mem_singleton.mp hp]
    have CAll := ok_all (P := P) (w := w) (T := tabs9 p1 p2) (List.Mem.head _) u1 F_all_stands F_depths B T1 c_MOST_STANDS CO CMS
    have CMW := ok_mword (P := P) (w := w) (T := tabs9 p1 p2) (List.Mem.tail _ (List.Mem.head _)) u2 F_meeting_word F_least_word F_is_together B T2 CTr CO CPn
    have CNM := ok_ntm F_names_that_meet B CO CMW
    have CCk := ok_ckst F_check_stands CAll
    have CT := ok_taken (P := P) (w := w) (K := K) (base := base) F__law_taken B
    have COd := ok_order F__law_order B CT
    have CHb := ok_habit F__law_habit B CT COd
    have CLT := ok_ltouch (P := P) (w := w) (K := K) (base := base) F__law_touch B
    have CA0 := ok_alike0 (P := P) (w := w) (K := K) (base := base) F__law_alike B
    exact frozen (ok_law F B n_min CT (ok_several F__law_several B CT COd CHb) CLT (ok_lstands F__law_stands B CLT) (ok_agrees F__law_agrees B) (ok_alikeS 2 F__law_alike B (ok_alikeS 1 F__law_alike B (ok_alikeS 0 F__law_alike B CA0)))
      (ok_standsG F_stands B CH CS_ CAll) (ok_names_metX F_names_met CH CS_ CCk CNM) (ok_meetingG F_meeting B CH CS_ CN CCk CMW))
end RH
set_option Elab.async false
set_option linter.all false
open PySem PySem.W PyProof.Rows
set_option maxRecDepth 100000 in
set_option maxHeartbeats 0 in
theorem PySem.Challenge.cw_restlesshelf_k09_whole_stands_holds : PySem.Challenge.rw_restlesshelf_k09_whole_stands.Holds := by
  w_on; o_law; k_head; (case hw => w_witness2)
  k_fill
  refine LamX.walk_ofTs (l := PySem.Challenge.rw_restlesshelf_k09_whole_stands) (n := 63) (k := 9) (x := "script") (CX := fun _ => L2.CX0) rfl (by decide) rfl ⟨rfl, by decide, by decide⟩ (fun w h Y => PySem.W.km_in_of Y) ?F (fun _ _ _ _ _ h => h)
  case F =>
    intro w mg fa h Y KX G hmg
    have TT := PySem.W.km_tabs_of Y
    have B : RH.Bu mg := by
      refine' RH.Bu.mk (PySem.W.mg_none_of KX G ?z0) (PySem.W.mg_none_of KX G ?z1) (PySem.W.mg_none_of KX G ?z2) (PySem.W.mg_none_of KX G ?z3) (PySem.W.mg_none_of KX G ?z4) (PySem.W.mg_none_of KX G ?z5) (PySem.W.mg_none_of KX G ?z6) (PySem.W.mg_none_of KX G ?z7) (PySem.W.mg_none_of KX G ?z8) (PySem.W.mg_none_of KX G ?z9) (PySem.W.mg_none_of KX G ?z10) (PySem.W.mg_none_of KX G ?z11) (PySem.W.mg_none_of KX G ?z12)
      (case z0 => k_is); (case z1 => k_is); (case z2 => k_is); (case z3 => k_is); (case z4 => k_is); (case z5 => k_is); (case z6 => k_is); (case z7 => k_is); (case z8 => k_is); (case z9 => k_is); (case z10 => k_is); (case z11 => k_is); (case z12 => k_is)
    have c_FEWEST_PLACES : ∃ t, mg "FEWEST_PLACES" = some (.int 2 t) := by
      refine' RH.const_mk KX G ?a
      (case a => k_is)
    have c_MOST_PLACES : ∃ t, mg "MOST_PLACES" = some (.int 5 t) := by
      refine' RH.const_mk KX G ?a
      (case a => k_is)
    have c_MOST_STANDS : ∃ t, mg "MOST_STANDS" = some (.int 20000 t) := by
      refine' RH.const_mk KX G ?a
      (case a => k_is)
    have n_min : mg "min" = none := by
      refine' PySem.W.mg_none_of KX G ?a
      (case a => k_is)
    have F_is_integer : RH.Df (RH.kOf KX) mg "is_integer" RH.st_is_integer ["value"] := by
      refine' RH.df_mk KX G ?a ?l ?c ?k (fun _ _ _ _ _ _ us hl => match us, hl with | [_], _ => rfl)
      (case a => k_is); (case l => k_is); (case c => k_is); (case k => k_is)
    have F_is_number : RH.Df (RH.kOf KX) mg "is_number" RH.st_is_number ["value", "low", "high"] := by
      refine' RH.df_mk KX G ?a ?l ?c ?k (fun _ _ _ _ _ _ us hl => match us, hl with | [_, _, _], _ => rfl)
      (case a => k_is); (case l => k_is); (case c => k_is); (case k => k_is)
    have F_is_row : RH.Df (RH.kOf KX) mg "is_row" RH.st_is_row ["value", "low", "high"] := by
      refine' RH.df_mk KX G ?a ?l ?c ?k (fun _ _ _ _ _ _ us hl => match us, hl with | [_, _, _], _ => rfl)
      (case a => k_is); (case l => k_is); (case c => k_is); (case k => k_is)
    have F_is_place : RH.Df (RH.kOf KX) mg "is_place" RH.st_is_place ["value", "places"] := by
      refine' RH.df_mk KX G ?a ?l ?c ?k (fun _ _ _ _ _ _ us hl => match us, hl with | [_, _], _ => rfl)
      (case a => k_is); (case l => k_is); (case c => k_is); (case k => k_is)
    have F_are_places : RH.Df (RH.kOf KX) mg "are_places" RH.st_are_places ["value", "places"] := by
      refine' RH.df_mk KX G ?a ?l ?c ?k (fun _ _ _ _ _ _ us hl => match us, hl with | [_, _], _ => rfl)
      (case a => k_is); (case l => k_is); (case c => k_is); (case k => k_is)
    have F_is_layout : RH.Df (RH.kOf KX) mg "is_layout" RH.st_is_layout ["value", "places"] := by
      refine' RH.df_mk KX G ?a ?l ?c ?k (fun _ _ _ _ _ _ us hl => match us, hl with | [_, _], _ => rfl)
      (case a => k_is); (case l => k_is); (case c => k_is); (case k => k_is)
    have F_is_habit : RH.Df (RH.kOf KX) mg "is_habit" RH.st_is_habit ["value"] := by
      refine' RH.df_mk KX G ?a ?l ?c ?k (fun _ _ _ _ _ _ us hl => match us, hl with | [_], _ => rfl)
      (case a => k_is); (case l => k_is); (case c => k_is); (case k => k_is)
    have F_check_habits : RH.DfD (RH.kOf KX) mg "check_habits" RH.st_check_habits ["habits", "most"] [.int 3] := by
      refine' RH.dfD_mk (n0 := 1) KX G ?a ?l ?c ?k ?lT ?oT ?hv (by simp) rfl (fun _ _ _ _ _ _ _ us its hl h2 => match us, its, hl, h2 with | [_], [_], _, _ => ⟨_, rfl, rfl⟩)
      (case a => k_is); (case l => k_is); (case c => k_is); (case k => k_is); (case lT => k_is); (case oT => exact rfl); (case hv => exact .cons ⟨_, rfl⟩ .nil)
    have F_check_stand : RH.Df (RH.kOf KX) mg "check_stand" RH.st_check_stand ["stand", "habits"] := by
      refine' RH.df_mk KX G ?a ?l ?c ?k (fun _ _ _ _ _ _ us hl => match us, hl with | [_, _], _ => rfl)
      (case a => k_is); (case l => k_is); (case c => k_is); (case k => k_is)
    have F_check_name : RH.Df (RH.kOf KX) mg "check_name" RH.st_check_name ["name", "places"] := by
      refine' RH.df_mk KX G ?a ?l ?c ?k (fun _ _ _ _ _ _ us hl => match us, hl with | [_, _], _ => rfl)
      (case a => k_is); (case l => k_is); (case c => k_is); (case k => k_is)
    have F_places_of_habit : RH.Df (RH.kOf KX) mg "places_of_habit" RH.st_places_of_habit ["habit"] := by
      refine' RH.df_mk KX G ?a ?l ?c ?k (fun _ _ _ _ _ _ us hl => match us, hl with | [_], _ => rfl)
      (case a => k_is); (case l => k_is); (case c => k_is); (case k => k_is)
    have F_move : RH.Df (RH.kOf KX) mg "move" RH.st_move ["habit", "layout", "place"] := by
      refine' RH.df_mk KX G ?a ?l ?c ?k (fun _ _ _ _ _ _ us hl => match us, hl with | [_, _, _], _ => rfl)
      (case a => k_is); (case l => k_is); (case c => k_is); (case k => k_is)
    have F_depths : RH.Df (RH.kOf KX) mg "depths" RH.st_depths ["start", "touches", "step", "most"] := by
      refine' RH.df_mk KX G ?a ?l ?c ?k (fun _ _ _ _ _ _ us hl => match us, hl with | [_, _, _, _], _ => rfl)
      (case a => k_is); (case l => k_is); (case c => k_is); (case k => k_is)
    have F_traced : RH.Df (RH.kOf KX) mg "traced" RH.st_traced ["came", "state"] := by
      refine' RH.df_mk KX G ?a ?l ?c ?k (fun _ _ _ _ _ _ us hl => match us, hl with | [_, _], _ => rfl)
      (case a => k_is); (case l => k_is); (case c => k_is); (case k => k_is)
    have F_least_word : RH.Df (RH.kOf KX) mg "least_word" RH.st_least_word ["start", "touches", "step", "is_goal"] := by
      refine' RH.df_mk KX G ?a ?l ?c ?k (fun _ _ _ _ _ _ us hl => match us, hl with | [_, _, _, _], _ => rfl)
      (case a => k_is); (case l => k_is); (case c => k_is); (case k => k_is)
    have F_move_stand : RH.Df (RH.kOf KX) mg "move_stand" RH.st_move_stand ["habits", "stand", "place"] := by
      refine' RH.df_mk KX G ?a ?l ?c ?k (fun _ _ _ _ _ _ us hl => match us, hl with | [_, _, _], _ => rfl)
      (case a => k_is); (case l => k_is); (case c => k_is); (case k => k_is)
    have F_stands : RH.Df (RH.kOf KX) mg "stands" RH.st_stands ["habits", "stand"] := by
      refine' RH.df_mk KX G ?a ?l ?c ?k (fun _ _ _ _ _ _ us hl => match us, hl with | [_, _], _ => rfl)
      (case a => k_is); (case l => k_is); (case c => k_is); (case k => k_is)
    have F_meeting : RH.Df (RH.kOf KX) mg "meeting" RH.st_meeting ["habits", "stand", "name"] := by
      refine' RH.df_mk KX G ?a ?l ?c ?k (fun _ _ _ _ _ _ us hl => match us, hl with | [_, _, _], _ => rfl)
      (case a => k_is); (case l => k_is); (case c => k_is); (case k => k_is)
    have F_names_met : RH.Df (RH.kOf KX) mg "names_met" RH.st_names_met ["habits", "stand"] := by
      refine' RH.df_mk KX G ?a ?l ?c ?k (fun _ _ _ _ _ _ us hl => match us, hl with | [_, _], _ => rfl)
      (case a => k_is); (case l => k_is); (case c => k_is); (case k => k_is)
    have F_check_stands : RH.Df (RH.kOf KX) mg "check_stands" RH.st_check_stands ["habits", "stand"] := by
      refine' RH.df_mk KX G ?a ?l ?c ?k (fun _ _ _ _ _ _ us hl => match us, hl with | [_, _], _ => rfl)
      (case a => k_is); (case l => k_is); (case c => k_is); (case k => k_is)
    have F_places_of_name : RH.Df (RH.kOf KX) mg "places_of_name" RH.st_places_of_name ["stand", "name"] := by
      refine' RH.df_mk KX G ?a ?l ?c ?k (fun _ _ _ _ _ _ us hl => match us, hl with | [_, _], _ => rfl)
      (case a => k_is); (case l => k_is); (case c => k_is); (case k => k_is)
    have F_is_together : RH.Df (RH.kOf KX) mg "is_together" RH.st_is_together ["places"] := by
      refine' RH.df_mk KX G ?a ?l ?c ?k (fun _ _ _ _ _ _ us hl => match us, hl with | [_], _ => rfl)
      (case a => k_is); (case l => k_is); (case c => k_is); (case k => k_is)
    have F_names_that_meet : RH.Df (RH.kOf KX) mg "names_that_meet" RH.st_names_that_meet ["habits", "stand"] := by
      refine' RH.df_mk KX G ?a ?l ?c ?k (fun _ _ _ _ _ _ us hl => match us, hl with | [_, _], _ => rfl)
      (case a => k_is); (case l => k_is); (case c => k_is); (case k => k_is)
    have F__law_taken : RH.Df (RH.kOf KX) mg "_law_taken" RH.st__law_taken ["row", "many"] := by
      refine' RH.df_mk KX G ?a ?l ?c ?k (fun _ _ _ _ _ _ us hl => match us, hl with | [_, _], _ => rfl)
      (case a => k_is); (case l => k_is); (case c => k_is); (case k => k_is)
    have F__law_order : RH.Df (RH.kOf KX) mg "_law_order" RH.st__law_order ["row", "many"] := by
      refine' RH.df_mk KX G ?a ?l ?c ?k (fun _ _ _ _ _ _ us hl => match us, hl with | [_, _], _ => rfl)
      (case a => k_is); (case l => k_is); (case c => k_is); (case k => k_is)
    have F__law_habit : RH.Df (RH.kOf KX) mg "_law_habit" RH.st__law_habit ["row", "places"] := by
      refine' RH.df_mk KX G ?a ?l ?c ?k (fun _ _ _ _ _ _ us hl => match us, hl with | [_, _], _ => rfl)
      (case a => k_is); (case l => k_is); (case c => k_is); (case k => k_is)
    have F__law_several : RH.Df (RH.kOf KX) mg "_law_several" RH.st__law_several ["row", "places"] := by
      refine' RH.df_mk KX G ?a ?l ?c ?k (fun _ _ _ _ _ _ us hl => match us, hl with | [_, _], _ => rfl)
      (case a => k_is); (case l => k_is); (case c => k_is); (case k => k_is)
    have F__law_touch : RH.Df (RH.kOf KX) mg "_law_touch" RH.st__law_touch ["habit", "layout", "place"] := by
      refine' RH.df_mk KX G ?a ?l ?c ?k (fun _ _ _ _ _ _ us hl => match us, hl with | [_, _, _], _ => rfl)
      (case a => k_is); (case l => k_is); (case c => k_is); (case k => k_is)
    have F__law_stands : RH.Df (RH.kOf KX) mg "_law_stands" RH.st__law_stands ["habits", "stand", "most"] := by
      refine' RH.df_mk KX G ?a ?l ?c ?k (fun _ _ _ _ _ _ us hl => match us, hl with | [_, _, _], _ => rfl)
      (case a => k_is); (case l => k_is); (case c => k_is); (case k => k_is)
    have F__law_alike : RH.Df (RH.kOf KX) mg "_law_alike" RH.st__law_alike ["found", "due"] := by
      refine' RH.df_mk KX G ?a ?l ?c ?k (fun _ _ _ _ _ _ us hl => match us, hl with | [_, _], _ => rfl)
      (case a => k_is); (case l => k_is); (case c => k_is); (case k => k_is)
    have F__law_agrees : RH.Df (RH.kOf KX) mg "_law_agrees" RH.st__law_agrees ["stand", "name"] := by
      refine' RH.df_mk KX G ?a ?l ?c ?k (fun _ _ _ _ _ _ us hl => match us, hl with | [_, _], _ => rfl)
      (case a => k_is); (case l => k_is); (case c => k_is); (case k => k_is)
    have F_law : RH.Df (RH.kOf KX) mg "law" RH.st_law ["script"] := by
      refine' RH.df_mk KX G ?a ?l ?c ?k (fun _ _ _ _ _ _ us hl => match us, hl with | [_], _ => rfl)
      (case a => k_is); (case l => k_is); (case c => k_is); (case k => k_is)
    obtain ⟨S, c0, c1, c2, b0, b1, X2⟩ : ∃ (S c0 c1 c2 : PySem.Addr), (∀ w base, RH.BhX (PySem.Challenge.rw_restlesshelf_k09_whole_stands).prog w (RH.kOf KX) mg base "BadHabits" "index" c0 (RH.spBI "index" c0)) ∧ (∀ w base, RH.BhX (PySem.Challenge.rw_restlesshelf_k09_whole_stands).prog w (RH.kOf KX) mg base "BadStand" "index" c1 (RH.spBI "index" c1)) ∧ (RH.ExO (RH.kOf KX) mg "BadNames" c2) := by
      refine' Exists.elim (RH.errs_mk (PySem.Challenge.rw_restlesshelf_k09_whole_stands).prog KX G ?aS ?a0 ?a1 ?a2 ?kp0 ?b0 ?t0 ?xg0 ?xk0 ?xd0 ?xa0 ?xm0 ?es0 ?kp1 ?b1 ?t1 ?xg1 ?xk1 ?xd1 ?xa1 ?xm1 ?es1 ?q2 ?kp2 ?b2 ?t2 ?xg2 ?xk2 ?xd2 ?xa2 ?xm2 ?es2 ?xn ?xt ?yL0 ?yR0 ?ysa0 ?yno0 ?yi0 ?yt0 ?yl0 ?yc0 ?yo0 ?yf0 ?yk0 ?ym0 ?ys0 ?yv0 ?yL1 ?yR1 ?ysa1 ?yno1 ?yi1 ?yt1 ?yl1 ?yc1 ?yo1 ?yf1 ?yk1 ?ym1 ?ys1 ?yv1 ?ya ?yg ?yp) (fun C hC => ⟨C, hC⟩)
      (case aS => k_is); (case a0 => k_is); (case a1 => k_is); (case a2 => k_is); (case kp0 => k_is); (case b0 => k_is); (case t0 => k_is); (case xg0 => k_is)
      (case xk0 => k_is); (case xd0 => k_is); (case xa0 => k_is); (case xm0 => k_is); (case es0 => kts_exm); (case kp1 => k_is); (case b1 => k_is); (case t1 => k_is)
      (case xg1 => k_is); (case xk1 => k_is); (case xd1 => k_is); (case xa1 => k_is); (case xm1 => k_is); (case es1 => kts_exm); (case q2 => k_exc); (case kp2 => k_is)
      (case b2 => k_is); (case t2 => k_is); (case xg2 => k_is); (case xk2 => k_is); (case xd2 => k_is); (case xa2 => k_is); (case xm2 => k_is); (case es2 => kts_exm)
      (case xn => k_is); (case xt => k_is); (case yL0 => k_is); (case yR0 => first | rfl | decide +kernel | kernel_rfl); (case ysa0 => k_is); (case yno0 => k_is); (case yi0 => k_is); (case yt0 => k_is)
      (case yl0 => k_is); (case yc0 => k_is); (case yo0 => k_is); (case yf0 => first | rfl | decide +kernel | kernel_rfl); (case yk0 => k_is); (case ym0 => k_is); (case ys0 => ks_is); (case yv0 => k_is)
      (case yL1 => k_is); (case yR1 => first | rfl | decide +kernel | kernel_rfl); (case ysa1 => k_is); (case yno1 => k_is); (case yi1 => k_is); (case yt1 => k_is); (case yl1 => k_is); (case yc1 => k_is)
      (case yo1 => k_is); (case yf1 => first | rfl | decide +kernel | kernel_rfl); (case yk1 => k_is); (case ym1 => k_is); (case ys1 => ks_is); (case yv1 => k_is); (case ya => k_is); (case yg => k_is)
      (case yp => first | rfl | decide +kernel | kernel_rfl)
    obtain ⟨k1, p1, k2, p2, M1, M2, hpp⟩ : ∃ k1 p1 k2 p2, RH.Mkr (RH.kOf KX) h mg "all_stands" RH.st_all_stands ["habits", "stand"] k1 p1 ∧ RH.Mkr (RH.kOf KX) h mg "meeting_word" RH.st_meeting_word ["habits", "stand", "name"] k2 p2 ∧ p1 ≠ p2 := by
      refine' RH.many2 (RH.mkr KX G ?a ?l ?c ?k ?lc ?t ?d ?e ?g (fun _ _ _ _ _ _ us hl => match us, hl with | [_, _], _ => rfl)) (RH.mkr KX G ?a2 ?l2 ?c2 ?k2 ?lc2 ?t2 ?d2 ?e2 ?g2 (fun _ _ _ _ _ _ us hl => match us, hl with | [_, _, _], _ => rfl)) ?n12
      (case a => k_is); (case l => k_is); (case c => k_is); (case k => k_is); (case lc => k_is); (case t => rfl); (case e => first | rfl | kernel_rfl | (with_unfolding_all rfl)); (case g => exact TT _ (by decide)); (case d => exact fun K' e => by unfold PySem.W.codeHdIn; rw [e]; rfl)
      (case a2 => k_is); (case l2 => k_is); (case c2 => k_is); (case k2 => k_is); (case lc2 => k_is); (case t2 => rfl); (case e2 => first | rfl | kernel_rfl | (with_unfolding_all rfl)); (case g2 => exact TT _ (by decide)); (case d2 => exact fun K' e => by unfold PySem.W.codeHdIn; rw [e]; rfl)
      (case n12 => decide)
    obtain ⟨F_all_stands, hk1, hl1, hm1⟩ := M1
    obtain ⟨F_meeting_word, hk2, hl2, hm2⟩ := M2
    obtain ⟨fd, hb, hF⟩ := RH.top (P := (PySem.Challenge.rw_restlesshelf_k09_whole_stands).prog) (w := w) (S := S) hmg B c_FEWEST_PLACES c_MOST_PLACES c_MOST_STANDS n_min hpp (b0 w) (b1 w) X2 F_is_integer F_is_number F_is_row F_is_place F_are_places F_is_layout F_is_habit F_check_habits F_check_stand F_check_name F_places_of_habit F_move F_depths F_traced F_least_word F_move_stand F_stands F_meeting F_names_met F_check_stands F_all_stands F_places_of_name F_is_together F_meeting_word F_names_that_meet F__law_taken F__law_order F__law_habit F__law_several F__law_touch F__law_stands F__law_alike F__law_agrees F_law
    refine ⟨fd, [(k1, p1), (k2, p2)], RH.spTopE (RH.kOf KX) (RH.tabs9 p1 p2), ?_, ?_, ?_, hb, ?_, ?_⟩
    · intro p hp
      rcases List.mem_cons.mp hp with e | hp
      · rw [e]; exact hm1
      rw [List.mem_singleton.mp hp]; exact hm2
    · intro p hp
      rcases List.mem_cons.mp hp with e | hp
      · rw [e]; exact hl1
      rw [List.mem_singleton.mp hp]; exact hl2
    · intro p hp
      rcases List.mem_cons.mp hp with e | hp
      · rw [e]; exact hk1
      rw [List.mem_singleton.mp hp]; exact hk2
    · intro H a ns _ _ hH hS
      refine ⟨a, ns, rfl, hS, fun p hp => ?_, fun _ => rfl⟩
      rcases List.mem_cons.mp hp with e | hp
      · rw [e]; exact LamX.TabS.nil (hH (k1, p1) (List.mem_cons_self ..))
      rw [List.mem_singleton.mp hp]; exact LamX.TabS.nil (hH (k2, p2) (List.mem_cons_of_mem _ (List.mem_singleton.mpr rfl)))
    · intro base _ _ TB
      exact hF base (TB (k1, p1) (List.mem_cons_self ..)) (TB (k2, p2) (List.mem_cons_of_mem _ (List.mem_singleton.mpr rfl)))
