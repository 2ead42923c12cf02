import PyProof.Rows.All
import Wide.All
import OpenK.AllK
import Wide.FinOn
import HandS.ForMost
import HandS.Exc
import HandS.TryOnly
import HandS.ExcOwn
import HandS.WordsExc
import HandS.IsInst
import HandS.Conv
import HandS.Sort
import HandS.SortInts
import HandS.Zip
import HandS.Zip0
import HandS.Wide
import HandS.Deep
import HandS.Flow
import HandS.Style
import HandS.TupAny
import KE.GoesEnum
import KE.KEqSeq
import KE.KEqDeep
import PyProof.TupleOfSeq
import HandS.Lambda
import HandS.Nested
import HandS.EndTab
import KE.KDictDisplayH
import KE.KDictCopyH
import KE.KIndexOf
import HandS.Dict
import HandS.DictTup
import HandS.TupLen
import HandS.Defaults
import HandS.SortRule
import KE.GoesZip
import HandS.ExcIs
import HandS.RaiseMore
import HandS.FStr
import HandS.Property
import KE.KExcSuper
import HandS.ExcInit
import HandS.ExcField
import HandS.TupMul
import PyProof.FString2
import HandS.Strs
import HandS.SetFor
import HandS.SetBool
import HandS.SetIn
import HandS.More
import KE.KDictSum
import KE.KDflt
import HandS.TryMany
import KE.SortKeyHeap
import HandS.SortKw
import HandS.ExcValue
import KE.DataFind
import HandS.Iter
import PySem.Challenge.RW_restlesshelf_k82_whole_kinds
set_option Elab.async false
set_option linter.all false
set_option maxRecDepth 100000
set_option maxHeartbeats 2000000
/-! Two rules more: a walk over enumerate of a tuple, sorted of a tuple of ints. -/
namespace RH
open PySem PySem.Spec PyProof.Rows L2
theorem made_enumB {v : Value} {o : Obj} {H : Heap → Prop} (B : Begins v o H) :
    Meets (Builtin.«enumerate.__new__» ⟨[.type "enumerate", v], []⟩) (fun _ R s => H s.heap ∧
      R (.ok (.ret (.ref (s.heap.push o).objs.size))) { s with heap := (s.heap.push o).push { cls := .type "enumerate", data := .fields #[.none, .bool false, .ref s.heap.objs.size, rawInt 0, .none, .none] } }) :=
  .of_wp fun prog w A R s h => by
    obtain ⟨hp, g, d, tz, oz⟩ := s; obtain ⟨h1, h⟩ := h
    have hsub := sub_enumerate
    have q1 : ∀ {A' : Around} {E : Value → Shared → Prop} {Q : Value → Shared → Prop}, Q (.ref hp.objs.size) ⟨hp.push o, g, d, tz, oz⟩ → wpAny (model prog w) A' (pyIter v) Q E ⟨hp, g, d, tz, oz⟩ :=
      fun q => B.iter prog w _ _ ⟨hp, g, d, tz, oz⟩ _ h1 q
    wp_walk using q1
    refine wpAny_stack_any fun st => wpAny_pure ?_
    split
    · rename_i c _ _ _ _ _
      cases (c == Value.type "enumerate")
      · wp_walk using q1
        exact ⟨_, rfl, h⟩
      · wp_walk using q1
        exact ⟨_, rfl, h⟩
    · wp_walk using q1
      exact ⟨_, rfl, h⟩
section
variable {prog : Program} {w : World} {A : Around} {E : Value → Shared → Prop} {s : Shared}
theorem enum_one {v : Value} {o : Obj} {H : Heap → Prop} {Q : Value → Shared → Prop} (B : Begins v o H) (h1 : H s.heap)
    (h : ∀ h', IsEnum h' (s.heap.objs.size + 1) s.heap.objs.size 0 .none → h'.get? s.heap.objs.size = some o → h'.objs.size = s.heap.objs.size + 2 →
      (∀ b o, s.heap.get? b = some o → h'.get? b = some o) → Q (.ref (s.heap.objs.size + 1)) { s with heap := h' }) :
    wpAny (model prog w) A (call (.type "enumerate") [v]) Q E s := by
  refine callType_new F.called_enumerate (by decide) (F.typeCall_enumerate_1 _) (F.newCall_enumerate_1 _) (fun obj => F.args_object_init_2 obj _) F.entry_enumerate_new
    (made_enumB B) ⟨h1, ?_⟩
  have hZ : (s.heap.push o).objs.size = s.heap.objs.size + 1 := Heap.size_push ..
  show _ ∧ _
  rw [hZ]
  have he : IsEnum ((s.heap.push o).push { cls := .type "enumerate", data := .fields #[.none, .bool false, .ref s.heap.objs.size, rawInt 0, .none, .none] }) (s.heap.objs.size + 1) s.heap.objs.size 0 .none := by
    have := Heap.get?_push_size (s.heap.push o) (o := { cls := .type "enumerate", data := .fields #[.none, .bool false, .ref s.heap.objs.size, rawInt 0, .none, .none] }) rfl
    rw [hZ] at this; exact this
  refine ⟨⟨_, he, rfl⟩, h _ he (Heap.get?_push_of_some _ (Heap.get?_push_size _ B.free)) (by rw [Heap.size_push, hZ]) fun b o x => Heap.get?_push_of_some _ (Heap.get?_push_of_some _ x)⟩
end
/-- the tuple at a, each item with vz number in a new pair -/
def IteT (K : PySem.W.Frag) (a : Addr) : It :=
  ⟨fun i H => ∃ (xs : List V) (x : V), SqT K H a xs ∧ xs[i]? = some x, fun i H v H' => ∃ T x, v = .ref T ∧ H T = none ∧ H' = upd H T (.tup [.int (i : Nat), x]) ∧ ∀ xs, SqT K H a xs → xs[i]? = some x, fun i H => ∃ xs : List V, SqT K H a xs ∧ xs.length ≤ i⟩
theorem ne_enum {h : Heap} {e it a : Addr} {i : Int} {old : Value} {vz : Array Value} (he : IsEnum h e it i old) (p : IsTup h a vz) : e ≠ a := fun z => by
  obtain ⟨o, hO, hC, _⟩ := p
  rw [← z, he] at hO
  cases hO
  exact absurd (Value.type.inj hC) (by decide)
theorem turn_enumT {P : Program} {w : World} {K : PySem.W.Frag} {elts : List Expr} {kk : Nat} {tpos : Pos} (a e it : Addr) :
    Turn P w K (.Tuple elts kk tpos) (IteT K a) [e, it] e (fun i h => (∃ old, IsEnum h e it ((i : Nat) : Int) old) ∧ h.IsTupleIter it a i ∧ e ≠ it ∧ a ≠ it) where
  mem := by simp
  obj := fun i h st b hb => by
    obtain ⟨⟨old, he⟩, ⟨o, hO, hC, hD⟩, _⟩ := st
    have e' : b = e ∨ b = it := by simpa using hb
    rcases e' with z | z
    · rw [z]; exact ⟨_, he, fun v q => nomatch q⟩
    · rw [z]; exact ⟨o, hO, fun v q => by rw [hD] at q; cases q⟩
  keep := fun i h h' st k => let ⟨⟨old, he⟩, hi, nEI⟩ := st; ⟨⟨old, k e (by simp) _ he⟩, hi.at fun o q => k it (by simp) o q, nEI⟩
  item := by
    intro X hP hw hK hC i pins s σ H E I hf st hg
    subst hP hw hK
    obtain ⟨⟨old, he⟩, hIt, nEI, nAI⟩ := st
    obtain ⟨xs, x, hSq, hx⟩ := hg
    obtain ⟨vz, rz, p, hZ⟩ := I.tuple hSq
    obtain ⟨u, hu, ru⟩ := rz.get hx
    have ltE : e < s.heap.objs.size := Heap.lt_size he
    have ltI : it < s.heap.objs.size := by obtain ⟨_, q, _⟩ := hIt; exact Heap.lt_size q
    have hlt : i < vz.toArray.size := by
      have := (List.getElem?_eq_some_iff.mp hu).1
      simpa using this
    refine wpAny_pyNext_enum_itemD (Draws.tuple (show X.A.in1.handled = none from I.ok.hd hC) it a nAI vz.toArray) he ⟨hIt, p⟩ hlt nEI (by
      intro hm
      have e' : e = it ∨ e = a := by simpa using hm
      rcases e' with z | z
      · exact nEI z
      · exact ne_enum he p z) fun x' h' tz hP' hO hit' hT hSz kp => ?_
    have ex : x' = u := by
      have h2 : vz.toArray[i]? = some u := by simpa using hu
      rw [h2] at hP'
      exact (Option.some.inj hP').symm
    subst ex
    refine ⟨_, rfl, wpAny_letOwnedTupleGo_enum (s := { s with heap := h', toks := tz + 1 }) hO fun h'' he' sbu => ?_⟩
    have hT2 : h''.get? s.heap.objs.size = some { cls := .type "tuple", data := .seq #[.int i tz, x'] } := (sbu.2 _ (Nat.ne_of_gt ltE)).trans hT
    have new : ObjOk X.prog X.w (upd H s.heap.objs.size (.tup [.int (i : Nat), x])) h'' s.heap.objs.size (.tup [.int (i : Nat), x]) :=
      ⟨by show 2 ≤ sizeLine; decide, [.int i tz, x'], .cons ⟨_, rfl⟩ (.cons ru .nil), ⟨_, hT2, rfl, _, rfl⟩⟩
    have I1 : Inv X pins σ (upd H s.heap.objs.size (.tup [.int (i : Nat), x])) { s with heap := h'', toks := tz + 1 } :=
      I.turnedNew (ch := [e, it]) (fun b ob hb q => (sbu.2 b (fun z => hb (by simp [z]))).trans (kp b ob (fun z => hb (by simp [z])) (fun z => hb (by simp [z])) q)) hf (Nat.le_refl _) new
    refine ⟨.ref s.heap.objs.size, _, I1, rfl, ⟨_, x, rfl, I.hok.fresh (Nat.le_refl _), rfl, fun ys hy => by rw [I.tuple_inj hy hSq]; exact hx⟩, ⟨⟨x', ?_⟩, hit'.1.at fun o q => (sbu.2 it (Ne.symm nEI)).trans q, nEI, nAI⟩, fun b hb => ?_⟩
    · have e1 : ((i + 1 : Nat) : Int) = (i : Int) + 1 := by omega
      rw [e1]; exact he'
    · have hb' : b < s.heap.objs.size := by
        have e' : b = e ∨ b = it := by simpa using hb
        rcases e' with z | z
        · rw [z]; exact ltE
        · rw [z]; exact ltI
      rw [upd_ne (Nat.ne_of_lt hb')]
      exact (hf b hb).1
  done := by
    intro X hP hw hK hC i pins s σ H E I hf st hg
    subst hP hw hK
    obtain ⟨⟨old, he⟩, hIt, nEI, nAI⟩ := st
    obtain ⟨xs, hSq, hx⟩ := hg
    obtain ⟨vz, rz, p, hZ⟩ := I.tuple hSq
    obtain ⟨f0, f1, f2, f3, f4, f5⟩ := hf it (by simp)
    have hl := rz.length
    have hT : s.TypeIs (.ref e) "enumerate" := ⟨_, he, rfl⟩
    unfold pyNext
    refine wpAny_bind (wpAny_attempt (wpAny_callSpecial?_slot (name := Str.ofString "__next__") hT F.slot_enumerate_next
      (wpAny_call_entry F.slot_enumerate_next hT F.entry_enumerate_next ?_ (F.args_enumerate_next_1 _))))
    show wpAny _ _ (field (.ref e) 2 >>= _) _ _ _
    refine wpAny_bind (wpAny_field he rfl (x := .ref it) rfl ?_)
    refine wpAny_bind (wpAny_nextOf_tuple_end (show X.A.in1.handled = none from I.ok.hd hC) hIt p (by simp; omega) fun h' x he' hx' => ?_)
    obtain ⟨o, hO, hc'⟩ := hx'
    refine wpAny_bind (wpAny_isInstance (T := "StopIteration") (b := true) ⟨o, hO, hc'⟩ isSubtype_stop ?_)
    exact wpAny_pure ⟨rfl, I.turned (t' := s.toks) (fun b o hb q => he' b o hb q) f0 f1 f3 f4 f5⟩
  self := fun A i s Q E st h => let ⟨⟨_, he⟩, _⟩ := st; wpAny_pyIter_enum he h
def iEnumT (K : PySem.W.Frag) (ta : TA) : TI := fun σ H R => ta σ H fun vs H1 => ∃ a xs, vs = [.ref a] ∧ SqT K H1 a xs ∧ R (IteT K a) H1
theorem pi_enumT {X : Cx} {e : Expr} {ta : TA} {p pos tpos : Pos} {elts : List Expr} {kk : Nat} (hg : Gl X "enumerate") (hm : X.mg "enumerate" = none) (ha : PA X [e] ta) (hs : starEach [e] X.env = [(false, eval e X.env)] := by rfl) :
    PI X (.Tuple elts kk tpos) (.Call (.Name "enumerate" p) [e] [] pos) (iEnumT X.K ta) := by
  refine ⟨fun pins s σ H R I h => ?_⟩
  refine Call_ (ld_blt I hg hm boot_enumerate (PyProof.Rows.callWith_type1 (thn (ha.run pos pins s σ H _ I h) fun us s1 ⟨vs, H1, I1, r1, q1⟩ => ?_) hs rfl))
  obtain ⟨a, xs, ex, hSq, q⟩ := q1
  subst ex
  cases r1 with
  | cons r rr =>
    cases rr
    cases r
    obtain ⟨vz, rz, p', hZ⟩ := I1.tuple hSq
    have hal : a < s1.heap.objs.size := by obtain ⟨_, q', _⟩ := id p'; exact Heap.lt_size q'
    refine enum_one (begins_tuple a vz.toArray) p' fun h' he hIt hSz kp => wpAny_pyIter_enum he ?_
    have I2 : Inv X pins σ H1 { s1 with heap := h' } := I1.kept (t' := s1.toks) kp
    refine ⟨s1.heap.objs.size + 1, [s1.heap.objs.size + 1, s1.heap.objs.size], _, _, H1, rfl, I2, turn_enumT a (s1.heap.objs.size + 1) s1.heap.objs.size, ⟨⟨.none, he⟩, ⟨_, hIt, rfl, rfl⟩, Nat.succ_ne_self _, Nat.ne_of_lt hal⟩, fun b hb => ?_, q⟩
    have e' : b = s1.heap.objs.size + 1 ∨ b = s1.heap.objs.size := by simpa using hb
    have hle : s1.heap.objs.size ≤ b := by
      rcases e' with z | z
      · rw [z]; exact Nat.le_add_right _ _
      · rw [z]; exact Nat.le_refl _
    exact I1.fpOk hle (I1.hok.fresh hle)
/-! ### sorted(a tuple of ints) -/
def rSortedTup (K : PySem.W.Frag) : List V → Hp → VK → Prop := fun vs H Q => ∃ (a : Addr) (ns : List Int), vs = [V.ref a] ∧ SqT K H a (ns.map V.int) ∧ ns.length < 64 ∧
  ∀ (ns' : List Int) (p : Addr), ns'.Perm ns → ns'.Pairwise (· ≤ ·) → H p = none → Q (.ref p) (upd H p (.lst (ns'.map V.int)))
section
variable {prog : Program} {w : World} {A : Around} {E : Value → Shared → Prop} {s : Shared}
theorem collect_tup {l : Addr} {vs : List Value} {Q : List Value → Shared → Prop} (hl : IsTup s.heap l vs.toArray)
    (h : Q vs { s with heap := (s.heap.push (seqObj "list" #[] 0)).update s.heap.objs.size (Obj.mapSeq (· ++ vs.toArray)) }) (hSz : vs.length ≤ sizeLine := by size_fits) :
    wpAny (model prog w) A (collect (.ref l)) Q E s := by
  obtain ⟨o, hO, hC, n, hD⟩ := id hl
  unfold collect
  refine wpAny_bind (wpAny_runValue (codeAny_builtin F.entry_proto_collect ?_))
  rw [Around.under_plainId F.plain_proto_collect _]
  show wpAny _ A.in1 (newList [] >>= fun l' => again (.builtin "list.__iadd__" ⟨[l', .ref l], []⟩)) _ _ s
  refine wpAny_bind (wpAny_newList (wpAny_pure ⟨plainId_quiet F.plain_list_iadd _, codeAny_builtin F.entry_list_iadd ?_⟩))
  rw [Around.under_plainId F.plain_list_iadd _]
  show wpAny _ _ (Builtin.List.listExtendWith (.ref s.heap.objs.size) (.ref l) (.ref s.heap.objs.size)) _ _ { s with heap := s.heap.push (seqObj "list" #[] 0) }
  unfold Builtin.List.listExtendWith
  have ho' : (s.heap.push (seqObj "list" #[] 0)).get? l = some o := Heap.get?_push_of_some _ hO
  refine wpAny_bind (wpAny_typeOf (T := "tuple") ⟨o, ho', hC⟩ ?_)
  have hT0 : (Value.type "tuple" == Value.type "tuple") = true := by rfl
  rw [if_pos (by rw [hT0]; simp)]
  refine wpAny_bind (listItems_at ho' hD ?_)
  refine wpAny_bind (listItems_at (xs := #[]) (n := 0) (Heap.get?_push_size _ rfl) rfl ?_)
  rw [if_neg (by simp)]
  refine wpAny_bind (listUpdate_at (xs := #[]) (n := 0) (Heap.get?_push_size _ rfl) rfl ?_ (Nat.zero_le _) (by show (#[] ++ vs.toArray).size ≤ sizeLine + 1; simp only [Array.size_append, List.size_toArray, List.length_nil]; omega))
  refine wpAny_pure ?_
  show wpAny (model prog w) A (do
      let o ← load s.heap.objs.size
      match o.data with
      | .seq xs _ => pure xs.toList
      | _ => unsupported "internal:collect") Q E { s with heap := (s.heap.push (seqObj "list" #[] 0)).update s.heap.objs.size (Obj.mapSeq (· ++ vs.toArray)) }
  refine wpAny_bind (wpAny_load (get?_update_seq (Heap.get?_push_size _ rfl) _) ?_)
  show wpAny _ _ (pure ((#[] : Array Value) ++ vs.toArray).toList) Q E _
  rw [show ((#[] : Array Value) ++ vs.toArray).toList = vs by simp]
  exact wpAny_pure h
theorem sorted_intsT {l : Addr} {vs : List Value} {ns : List Int} {Q : Value → Shared → Prop} (hl : IsTup s.heap l vs.toArray) (hI : IntsAre vs ns) (h64 : vs.length < 64)
    (h : ∀ (out : Array Value) (ns' : List Int), IntsAre out.toList ns' → ns'.Perm ns → ns'.Pairwise (· ≤ ·) → Q (.ref (s.heap.objs.size + 1)) { s with heap := sortedAll s.heap vs out }) :
    wpAny (model prog w) A (call (.builtin "sorted") [.ref l]) Q E s := by
  refine Calls.call_function_entry kind_sorted plain_sorted entry_sorted (args_sorted1 _) ?_
  unfold Builtin.«sorted»
  refine wpAny_bind (m := checkCount "sorted" 1 1 _) (wpAny_pure ?_)
  have hsz0 : vs.length ≤ sizeLine := by
    rw [sizeLine_eq]
    omega
  refine wpAny_bind (collect_tup (hSz := hsz0) hl ?_)
  refine wpAny_bind (wpAny_newList ?_)
  have hSz : ((s.heap.push (seqObj "list" #[] 0)).update s.heap.objs.size (Obj.mapSeq (· ++ vs.toArray))).objs.size = s.heap.objs.size + 1 := by
    rw [Heap.size_update, size_push']
  have hOL : (((s.heap.push (seqObj "list" #[] 0)).update s.heap.objs.size (Obj.mapSeq (· ++ vs.toArray))).push (seqObj "list" vs.toArray 0)).get? (s.heap.objs.size + 1) = some (seqObj "list" vs.toArray 0) := by
    rw [← hSz]; exact Heap.get?_push_size _ rfl
  show wpAny _ _ _ _ _ { s with heap := ((s.heap.push (seqObj "list" #[] 0)).update s.heap.objs.size (Obj.mapSeq (· ++ vs.toArray))).push (seqObj "list" vs.toArray 0) }
  rw [hSz]
  refine wpAny_bind (wpAny_holding (wpAny_call_entry slot_list_sort ⟨_, hOL, rfl⟩ entry_list_sort (list_sort_tree hOL hI h64 fun out ns' a1 a2 a3 => ⟨_, rfl, ?_⟩) (args_list_sort _)))
  exact wpAny_pure ⟨_, rfl, h out ns' a1 a2 a3⟩
end
theorem cr_sortedTup {X : Cx} : CallR X (.builtin "sorted") (rSortedTup X.K) := by
  intro pins s σ H vs us Q I r h
  obtain ⟨a, ns, rfl, hs, h64, q⟩ := h
  obtain ⟨vz, rz, hl, _⟩ := I.tuple hs
  rw [Vals.ref1 r]
  have hi := rz.ints
  refine sorted_intsT hl hi (by rw [hi.length]; exact h64) fun out ns' h1 h2 h3 => ?_
  obtain ⟨ep, he'⟩ := PyProof.Rows.sortedAll_at s.heap vz out
  have hLn : (ns'.map V.int).length ≤ sizeLine := by rw [List.length_map, h2.length_eq]; exact small64 h64
  exact ⟨.ref _, upd H (s.heap.objs.size + 1) (.lst (ns'.map V.int)), I.laid (t' := s.toks) (fun _ _ => PyProof.Rows.sortedAll_old) (Nat.le_succ _) ⟨hLn, out.toList, ep, vals_of_ints h1, he'⟩, rfl, q ns' _ h2 h3 (I.hok.fresh (Nat.le_succ _))⟩
end RH
set_option Elab.async false
set_option linter.all false
set_option maxRecDepth 100000
set_option maxHeartbeats 2000000
/-! Lambdas with parameters and captured names, as values: made, handed to a def of the text, called there. -/
namespace RH
open PySem PySem.Spec PyProof.Rows L2
open LamX (Tabs TabS TabB ExtN CodeO codeO_ne inv_table among_app)
open NdefX (NF CellsAt NScope startF ncx inv_startN codeO_at slotAt Caps cells_of upd_none)
/-- a lambda's words, what it captured, its code object -/
structure LF where
  qual : Str
  params : Arguments
  body : Expr
  scope : Scope
  cl : List (Str × Addr)
  c : Addr
abbrev LF.fd (F : LF) (pm ctv : Value) : FuncData := PySem.W.kla_fn "<lambda>" F.qual F.params F.body F.scope F.cl pm (.ref F.c) ctv
abbrev LF.nf (F : LF) : NF := ⟨"<lambda>", F.qual, F.params, [], F.scope, F.cl, F.c⟩
/-- the object at f is this lambda -/
def FnL (f : Addr) (F : LF) : HO := .ext fun h => ∃ (od : Option Addr) (sl : Array (Option Value)) (pm ctv : Value), h.get? f = some (⟨.type "function", od, .func (F.fd pm ctv), sl⟩ : Obj)
theorem fnL_ne {f : Addr} {F : LF} (ps : Array Value) : FnL f F ≠ .tbl ps := fun z => by
  unfold FnL at z
  cases z
theorem fnL_at {P : Program} {w : World} {H : Hp} {h : Heap} {f : Addr} {F : LF} (hok : HOk P w H h) (e : H f = some (FnL f F)) : ∃ (od : Option Addr) (sl : Array (Option Value)) (pm ctv : Value), h.get? f = some (⟨.type "function", od, .func (F.fd pm ctv), sl⟩ : Obj) := (hok f _ e).1
section
variable {X : Cx} {pins : List (Addr × Obj)} {σ : L2.St} {H : Hp} {s : Shared}
theorem inv_lam {F : LF} {h' : Heap} {t' : Nat} {pm ctv : Value} (I : Inv X pins σ H { s with heap := h', toks := t' }) :
    Inv X pins σ (upd H h'.objs.size (FnL h'.objs.size F)) { s with heap := h'.push { cls := .type "function", data := .func (F.fd pm ctv) }, toks := t' } := by
  refine I.laid (t' := t') (a := h'.objs.size) (fun b u e => Heap.get?_push_of_some _ e) (Nat.le_refl _) ?_
  have e : (h'.push ({ cls := .type "function", data := .func (F.fd pm ctv) } : Obj)).get? h'.objs.size = some ({ cls := .type "function", data := .func (F.fd pm ctv) } : Obj) := Heap.get?_push_size _ rfl
  exact ⟨⟨_, _, pm, ctv, e⟩, ⟨_, e⟩, fun h1 h2 ⟨od, sl, p, t, z⟩ st => ⟨od, sl, p, t, st _ z⟩⟩
/-- the lambda is made -/
theorem lam_made {T : List (Addr × Str)} {c P : Addr} {params : Arguments} {body : Expr} {scope : Scope} {pos : Pos} {E : Value → Shared → Prop} {Q : Value → Shared → Prop} (I : Inv X pins σ H s) (TB : TabB X.base X.mg c P) (hcode : X.env.code = .ref c)
    (hm : (P, X.env.qual ++ "<lambda>") ∈ T) (hu : ∀ p ∈ T, p.1 = P → p.2 = X.env.qual ++ "<lambda>") (hT : Tabs T H) (hdef : defaultsOf params X.env = ([], [])) (hfree : ∀ y ∈ scope.names, y.2 = .free → ∃ c, X.env.cells.lookup y.1 = some c)
    (h : ∀ (f c' : Addr) (H1 : Hp) (s' : Shared), Inv X pins σ H1 s' → ExtN H H1 → (∀ b, H1 b = none → H b = none) → Tabs T H1 → H f = none →
      H1 f = some (FnL f ⟨X.env.qual ++ "<lambda>", params, body, scope, cloFrom X.env.cells scope.names [], c'⟩) → H1 c' = some (CodeO c' (X.env.qual ++ "<lambda>")) → Q (.ref f) s') :
    wpAny (model X.prog X.w) X.A (eval (.Lambda params body scope pos) X.env) Q E s := by
  obtain ⟨ps, hP, ht, ha⟩ := hT _ hm
  refine PySem.W.kla_eval hdef ?_
  have bP : s.heap.BuiltinsAt X.mg P := TB.bm.keeps I.bk
  have hP' : s.heap.get? P = some { cls := .none, data := .fields ps } := I.hok P _ hP
  cases hc : codeAmong pos ps.toList with
  | none =>
    refine PySem.W.kla_makeFunction (mg := X.mg) (c := c) (P := P) (ps := ps) (closure_ok hfree) I.ok.glob (I.mod.glob.keeps I.bk) hcode (TB.code.keeps I.bk) hP' ht hc TB.gP bP fun c' ctv h' tk hx hge hlt hrec htb => ?_
    obtain ⟨c2, oc, vs, t, e2, hoc, hd, hv⟩ := hrec
    cases e2
    have nC : H c' = none := I.hok.fresh hge
    have I1 := inv_table (t' := tk) (more := #[rawInt pos.line, rawInt pos.col, .ref c']) (h' := h') I hP (fun b o hb e => hx b o hb e) htb hge ⟨oc, vs, t, hoc, hd, hv⟩
    generalize hG : upd (upd H P (.tbl (ps ++ #[rawInt pos.line, rawInt pos.col, .ref c']))) c' (CodeO c' (X.env.qual ++ "<lambda>")) = G at I1
    have hE : ExtN H G := fun b o e n => by
      rw [← hG, upd_ne (ne_of_none e nC), upd_ne (fun z => n ps (Option.some.inj (e.symm.trans (by rw [z]; exact hP))))]
      exact e
    have gP : G P = some (.tbl (ps ++ #[rawInt pos.line, rawInt pos.col, .ref c'])) := by rw [← hG, upd_ne (ne_of_none hP nC), upd_same]
    have gC : G c' = some (CodeO c' (X.env.qual ++ "<lambda>")) := by rw [← hG, upd_same]
    have gO : ∀ b ps', b ≠ P → H b = some (.tbl ps') → G b = some (.tbl ps') := fun b ps' nb e => by
      rw [← hG, upd_ne (ne_of_none e nC), upd_ne nb]
      exact e
    have gN : ∀ b, G b = none → H b = none := fun b e => by
      rw [← hG] at e
      exact upd_none (upd_none e)
    have eL : (ps ++ #[rawInt pos.line, rawInt pos.col, .ref c']).toList = ps.toList ++ [rawInt pos.line, rawInt pos.col, .ref c'] := by simp
    have T1 : Tabs T G := fun p hp => by
      by_cases hb : p.1 = P
      · rw [hu p hp hb, hb]
        refine ⟨_, gP, by rw [eL]; exact PySem.TriplesOk_snoc _ _ _ _ ht, fun p' cv hcv => ?_⟩
        rw [eL] at hcv
        rcases among_app _ ht hcv with z | z
        · obtain ⟨c0, e1, e2⟩ := ha p' cv z
          exact ⟨c0, e1, hE _ _ e2 codeO_ne⟩
        · exact ⟨c', z, gC⟩
      · obtain ⟨ps', a1, a2, a3⟩ := hT p hp
        refine ⟨ps', gO _ _ hb a1, a2, fun p' cv hcv => ?_⟩
        obtain ⟨c0, e1, e2⟩ := a3 p' cv hcv
        exact ⟨c0, e1, hE _ _ e2 codeO_ne⟩
    have nF : G h'.objs.size = none := I1.hok.fresh (Nat.le_refl _)
    have I2 := inv_lam (F := ⟨X.env.qual ++ "<lambda>", params, body, scope, cloFrom X.env.cells scope.names [], c'⟩) (pm := (X.mg "__name__").getD .none) (ctv := ctv) I1
    refine h h'.objs.size c' _ _ I2 (fun b o e n => ?_) (fun b e => gN b (upd_none e)) (T1.ext fun b o e => ?_) (gN _ nF) upd_same ?_
    · have e1 := hE b o e n
      exact (upd_ne (ne_of_none e1 nF)).trans e1
    · exact (upd_ne (ne_of_none e nF)).trans e
    · exact (upd_ne (ne_of_none gC nF)).trans gC
  | some cv =>
    obtain ⟨c', e, hco⟩ := ha pos cv hc
    subst e
    refine PySem.W.kla_makeFunctionHit (mg := X.mg) (c := c) (P := P) (ps := ps) (closure_ok hfree) I.ok.glob (I.mod.glob.keeps I.bk) hcode (TB.code.keeps I.bk) hP' ht hc bP fun ctv h' tk hx hsz => ?_
    have I1 : Inv X pins σ H { s with heap := h', toks := tk } := I.kept hx
    have nF : H h'.objs.size = none := I1.hok.fresh (Nat.le_refl _)
    have I2 := inv_lam (F := ⟨X.env.qual ++ "<lambda>", params, body, scope, cloFrom X.env.cells scope.names [], c'⟩) (pm := (X.mg "__name__").getD .none) (ctv := ctv) I1
    refine h h'.objs.size c' _ _ I2 (fun b o e n => ?_) (fun b e => upd_none e) (hT.ext fun b o e => ?_) nF upd_same ?_
    · exact (upd_ne (ne_of_none e nF)).trans e
    · exact (upd_ne (ne_of_none e nF)).trans e
    · exact (upd_ne (ne_of_none hco nF)).trans hco
end
/-- lambda a, b: .. as a value -/
def tLamE (T : List (Addr × Str)) (mk : Addr → LF) : TE := fun _ H Q => Tabs T H ∧ ∀ (f c' : Addr) (H1 : Hp), ExtN H H1 → (∀ b, H1 b = none → H b = none) → Tabs T H1 → H f = none → H1 f = some (FnL f (mk c')) → H1 c' = some (CodeO c' (mk c').qual) → Q (.ref f) H1
theorem pe_lam {X : Cx} {T : List (Addr × Str)} {c P : Addr} {params : Arguments} {body : Expr} {scope : Scope} {pos : Pos} (TB : TabB X.base X.mg c P) (hcode : X.env.code = .ref c)
    (hm : (P, X.env.qual ++ "<lambda>") ∈ T) (hu : ∀ p ∈ T, p.1 = P → p.2 = X.env.qual ++ "<lambda>") (hdef : defaultsOf params X.env = ([], []))
    (hfree : ∀ y ∈ scope.names, y.2 = .free → X.env.scope.names.lookup y.1 = some .cell ∨ X.env.scope.names.lookup y.1 = some .free) :
    PE X (.Lambda params body scope pos) (tLamE T fun c' => ⟨X.env.qual ++ "<lambda>", params, body, scope, cloFrom X.env.cells scope.names [], c'⟩) := by
  refine ⟨fun pins s σ H Q I h => ?_⟩
  obtain ⟨hT, q⟩ := h
  refine lam_made I TB hcode hm hu hT hdef (fun y hy e => (hfree y hy e).elim (fun z => I.ok.has _ (.inl z)) fun z => I.ok.has _ (.inr z)) fun f c' H1 s' I' e n T' hf h1 h2 => ?_
  exact ⟨.ref f, H1, I', rfl, q f c' H1 e n T' hf h1 h2⟩
/-! ### what a lambda promises -/
structure LOk (P : Program) (w : World) (K : PySem.W.Frag) (mg : Str → Option Value) (base : Heap) (CX : CXT) (k : Nat) (f : Addr) (F : LF) (ps fr : List Str) (sp : List (Option V) → Sp) : Prop where
  len : ∀ ws vs H Q E, sp ws vs H Q E → vs.length = ps.length
  run : ∀ (A : Around) (outer : List Env) (s : Shared) (H : Hp) (us : List Value) (vs : List V) (ws : List (Option V)) (Q : VK) (E : XK), Room k A → Env0 P w K mg base A outer s H → H f = some (FnL f F) → H F.c = some (CodeO F.c F.qual) →
    CellsAt F.cl fr ws s.heap H → Vals vs us → sp ws vs H Q E → codeAny (model P w) A (.call (.ref f) ⟨us, []⟩) (CR CX outer P w H s Q E) s
section
variable {CX : CXT} {P : Program} {w : World} {K : PySem.W.Frag} {mg : Str → Option Value} {base : Heap} {N ps fr : List Str} {F : LF} {f : Addr} {k j : Nat} {sp : List (Option V) → Sp}
/-- a lambda by its body -/
theorem lok_of (S : NScope N ps fr F.scope) (hb : ∀ (pm ctv : Value) (us : List Value), us.length = ps.length → bindArgs (F.fd pm ctv) ⟨us, []⟩ = pure (ps.zip us)) (len : ∀ ws vs H Q E, sp ws vs H Q E → vs.length = ps.length)
    (hbody : ∀ (A : Around) (outer : List Env) (s : Shared) (H : Hp) (vs : List V) (ws : List (Option V)) (Q : VK) (E : XK), Room k (A.deeper (NdefX.envF F.nf f s.heap.objs.size)) → ws.length = fr.length → sp ws vs H Q E →
      ∃ t, PE (ncx CX P w K mg base N F.nf f A outer s H E) F.body t ∧ t (startF N vs ws) H Q) :
    LOk P w K mg base CX (k + 1) f F ps fr sp := by
  refine ⟨len, fun A outer s H us vs ws Q E hr e0 hf hc C r hsp => ?_⟩
  have hl := len _ _ _ _ _ hsp
  have lim : s.heap.NoLimit := e0.mod.nolimit.keeps fun b o e => (e0.bs b o e).1
  obtain ⟨od, sl, pm, ctv, ho⟩ := fnL_at e0.hok hf
  refine PySem.W.kla_callFunE hr.depth ho rfl S.co S.gen rfl (codeO_at e0.hok hc) ?_
  rw [hb pm ctv us (by rw [← r.length]; exact hl)]
  refine wpAny_pure (wpAny_newFunctionEnv S.nocell (fun ⟨n, _⟩ hy => S.par n (List.of_mem_zip hy).1) (fun h₁ hns hsb => ⟨lim.fresh _ hsb, ?_⟩) S.kind)
  show codeAny _ _ (.expr F.body (NdefX.envF F.nf f s.heap.objs.size)) _ _
  have kp : ∀ b o, s.heap.get? b = some o → h₁.get? b = some o := fun b o e => hsb.extBut b o (Nat.ne_of_lt (Heap.lt_size e)) (Heap.get?_push_of_some _ e)
  obtain ⟨t, ht, hq⟩ := hbody A outer s H vs ws Q E (hr.deeper _) C.len hsp
  have I : Inv (ncx CX P w K mg base N F.nf f A outer s H E) [] (startF N vs ws) H { s with heap := h₁, toks := s.toks + (ps.zip us).length } := inv_startN (F := F.nf) S hr.hd e0 hl r C hns kp
  refine PySem.W.kla_codeExpr (wpAny_mono (ht.run [] _ (startF N vs ws) H Q I hq) (fun v s' hs => ?_) fun e s' hs => hs)
  obtain ⟨v', H', J, rv, q⟩ := hs
  exact ⟨v', H', J.os, J.bare, J.base, J.hok, rv, q⟩
end
/-! ### a def that is handed things that can be called -/
/-- f may be called, from any frame that began at s, H below outer, while live holds -/
structure Callable (P : Program) (w : World) (K : PySem.W.Frag) (mg : Str → Option Value) (base : Heap) (CX : CXT) (k : Nat) (f : Addr) (live : Hp → Prop) (sp : Sp) (outer : List Env) (s : Shared) (H : Hp) : Prop where
  at_ : ∀ (X : Cx), X.prog = P → X.w = w → X.K = K → X.base = base → X.s_0 = s → X.H_0 = H → ∀ pins σ H' s', Inv X pins σ H' s' → live H' → PySem.W.FnAt f s'.heap
  run : ∀ (X : Cx), X.prog = P → X.w = w → X.K = K → X.mg = mg → X.base = base → X.s_0 = s → X.H_0 = H → X.outer = outer → X.ex = [] → Room k X.A → ∀ pins σ H' s' us vs Q E, Inv X pins σ H' s' → live H' → Vals vs us → Passes CX X E → sp vs H' Q E →
    wpAny (model P w) X.A (call (.ref f) us) (EP X pins σ Q) X.xe s'
section
variable {CX : CXT} {P : Program} {w : World} {K : PySem.W.Frag} {mg : Str → Option Value} {base : Heap} {ps fr : List Str} {k : Nat} {f : Addr} {ws : List (Option V)} {outer : List Env} {s : Shared} {H : Hp}
/-- a lambda is alive while its object and its code stand -/
def liveL (f : Addr) (F : LF) : Hp → Prop := fun H => H f = some (FnL f F) ∧ H F.c = some (CodeO F.c F.qual)
theorem callable_lam {F : LF} {sp : List (Option V) → Sp} (Fn : LOk P w K mg base CX k f F ps fr sp) (C : CellsAt F.cl fr ws s.heap H) (nf : ∀ y c, F.cl.lookup y = some c → c ∉ frs outer) :
    Callable P w K mg base CX k f (liveL f F) (sp ws) outer s H := by
  refine ⟨fun X _ _ _ _ _ _ pins σ H' s' I l => ?_, fun X e1 e2 e3 e4 e5 e6 e7 e8 e9 hr pins σ H' s' us vs Q E I l r hx q => ?_⟩
  · obtain ⟨od, sl, pm, ctv, ho⟩ := fnL_at I.hok l.1
    exact ⟨_, od, _, sl, ho⟩
  · subst e1 e2 e3 e4 e5 e6 e7 e8
    have C2 := NdefX.CellsAt.later (X := X) C nf (fun y c _ z => by rw [e9] at z; exact absurd z (by simp)) I
    refine wpAny_call (codeAny_mono (Fn.run X.A X.stack s' H' us vs ws Q E hr I.env0 l.1 l.2 C2 r q) fun r s' hq => ?_)
    cases r with
    | error e => exact hx pins σ H' _ e s' I hq
    | ok fl =>
      cases fl with
      | ret u => exact I.after hq
      | next => exact False.elim hq
      | brk => exact False.elim hq
      | cont => exact False.elim hq
end
def tCan (f : Addr) (live : Hp → Prop) (i : Nat) (sp : Sp) (E : XK) (t : TA) : TE := fun σ H Q => σ[i]? = some (some (.ref f)) ∧ live H ∧ t σ H fun vs H1 => live H1 ∧ sp vs H1 Q E
section
variable {X : Cx} {CX : CXT} {f : Addr} {live : Hp → Prop} {i j k : Nat} {x : Str} {sp : Sp} {E : XK} {t : TA} {e : Expr} {es : List Expr} {p pos : Pos}
theorem pe_can (Cb : Callable X.prog X.w X.K X.mg X.base CX k f live sp X.outer X.s_0 X.H_0) (nx : X.ex = []) (hr : Room j X.A) (hk : k ≤ j) (hx : Passes CX X E)
    (hN : X.N[i]? = some x) (hv : Vis X.env.scope x) (ha : PA X (e :: es) t) (hd : (x == ("__debug__" : Str)) = false := by decide) (hcd : (x == ("__classdict__" : Str)) = false := by decide)
    (he : starEach (e :: es) X.env = (false, eval e X.env) :: starEach es X.env := by rfl) (hpl : (backTo pos (starEach es X.env)).any (·.1) = false := by rfl) :
    PE X (.Call (.Name x p) (e :: es) [] pos) (tCan f live i sp E t) := by
  refine ⟨fun pins s σ H Q I h => ?_⟩
  obtain ⟨hs, hl, ht⟩ := h
  refine wpAny_Call_Name_kw (thn ((pe_var (pos := p) hN hv hd hcd).run pins s σ H (fun v H1 => v = .ref f ∧ H1 = H) I ⟨.ref f, hs, rfl, rfl⟩) fun u s1 ⟨v, H1, I1, r1, q1⟩ => ?_)
  obtain ⟨ev, eH⟩ := q1
  subst ev
  rw [eH] at I1
  obtain rfl : u = Value.ref f := r1
  refine PySem.W.callWith_F (first := []) (Cb.at_ X rfl rfl rfl rfl rfl rfl pins σ H s1 I1 hl) (thn (ha.run pos pins s1 σ H _ I1 ht) fun us s2 ⟨vs, H2, I2, r, h1, q⟩ => ⟨Cb.at_ X rfl rfl rfl rfl rfl rfl pins σ H2 s2 I2 h1, ?_⟩) he hpl
  exact Cb.run X rfl rfl rfl rfl rfl rfl rfl rfl nx (hr.mono hk) pins σ H2 s2 us vs Q E I2 h1 r hx q
end
/-- a def's promise that leans on what it is handed -/
structure FnC (P : Program) (w : World) (K : PySem.W.Frag) (mg : Str → Option Value) (base : Heap) (CX : CXT) (k : Nat) (f : Addr) (fd : FuncData) (ps : List Str) (Pre : List Env → Shared → Hp → Prop) (sp : Sp) : Prop where
  len : ∀ vs H Q E, sp vs H Q E → vs.length = ps.length
  run : ∀ (A : Around) (outer : List Env) (s : Shared) (H : Hp) (args : Args) (us : List Value) (vs : List V) (Q : VK) (E : XK), Room k A → Env0 P w K mg base A outer s H → BindsTo s fd args (ps.zip us) → Vals vs us → Pre outer s H → sp vs H Q E →
    codeAny (model P w) A (.call (.ref f) args) (CR CX outer P w H s Q E) s
section
variable {P : Program} {w : World} {K : PySem.W.Frag} {mg : Str → Option Value} {base : Heap}
theorem fnC_of {x qual : Str} {st : Stmt} {f : Addr} {fd : FuncData} {N ps : List Str} {k : Nat} {sp : Sp} {Pre : List Env → Shared → Hp → Prop} (F : Fun K x qual st f fd) (S : FnScope N ps (defScope st)) (len : ∀ vs H Q E, sp vs H Q E → vs.length = ps.length)
    (hbody : ∀ (cdv : Value) (A : Around) (outer : List Env) (s : Shared) (H : Hp) (vs : List V) (Q : VK) (E : XK), Room k (A.deeper (envOfC qual (defScope st) s.heap.objs.size f cdv)) → Pre outer s H → sp vs H Q E →
      ∃ t, PSs (cxOf CX0 P w K mg base N qual (defScope st) f cdv A outer s H E).nox (defBody st) t ∧ t { nx := fun _ H' => Q .non H', rt := Q } (start N vs) H) : FnC P w K mg base CX0 (k + 1) f fd ps Pre sp := by
  obtain ⟨oc, od, kV, doc, pm, an, cdv, ct, osl, rfl, lk, hcd⟩ := F.ex
  refine ⟨len, fun A outer s H args us vs Q E hr e0 hb r hP hsp => ?_⟩
  have hl := len _ _ _ _ hsp
  have KX : K.In s.heap := e0.mod.kin.keeps fun b o e => (e0.bs b o e).1
  have lim : s.heap.NoLimit := e0.mod.nolimit.keeps fun b o e => (e0.bs b o e).1
  have hkind : ∀ y ∈ ps.zip us, (defScope st).names.lookup y.1 = some .local ∨ ((defScope st).names.lookup y.1 = some .cell ∧ ((cellsFrom (s.heap.objs.size + 1) (defScope st).names []).lookup y.1).isSome = true) := fun y hy =>
    (S.par y.1 (List.of_mem_zip (a := y.1) (b := y.2) hy).1).elim .inl fun q => .inr ⟨q, PySem.W.cellsFrom_some _ _ _ (.inl q)⟩
  refine codeAny_call_function hr.depth (KX _ _ lk) rfl S.co S.gen rfl (PySem.W.codeRec_of KX hcd) (hb _ _ _ _ ?_)
  refine wpAny_newFunctionEnv_cells S.kind hkind fun env he s1 y => ?_
  subst he
  refine ⟨lim.keeps y.toInCall.keep, codeAny_func ?_⟩
  obtain ⟨t, ht, hq⟩ := hbody cdv A outer s H vs Q E (hr.deeper _) hP hsp
  have I : Inv (cxOf CX0 P w K mg base N qual (defScope st) f cdv A outer s H E) [] (L2.start N vs) H s1 := inv_start S hr.hd e0 hl r y
  refine wpAny_mono (ht.nox.run [] s1 (L2.start N vs) H _ I hq) (fun fl s' hs => ?_) fun e s' hs => hs
  cases fl with
  | ret u =>
    obtain ⟨v, σ', H', J, rv, q⟩ := hs
    exact ⟨v, H', J.os, J.bare, J.base, J.hok, rv, q⟩
  | next =>
    obtain ⟨σ', H', J, q⟩ := hs
    exact ⟨V.non, H', J.os, J.bare, J.base, J.hok, rfl, q⟩
  | brk => exact hs.choose_spec.choose_spec.2.elim
  | cont => exact hs.choose_spec.choose_spec.2.elim
end
/-- such a def called: g says with what -/
def tCallC {G : Type} (preS : G → L2.St → Hp → Prop) (sp : G → Sp) (E : XK) (t : TA) : TE := fun σ H Q => t σ H fun vs H1 => ∃ g, preS g σ H1 ∧ sp g vs H1 Q E
theorem pe_callC {G : Type} {X : Cx} {CX : CXT} {k j : Nat} {f : Addr} {fd : FuncData} {ps : List Str} {Pre : G → List Env → Shared → Hp → Prop} {preS : G → L2.St → Hp → Prop} {sp : G → Sp} {E : XK} {x : Str} {p pos : Pos} {e : Expr} {es : List Expr} {t : TA}
    (F : ∀ g, FnC X.prog X.w X.K X.mg X.base CX k f fd ps (Pre g) (sp g)) (hP : ∀ g pins σ H s, Inv X pins σ H s → preS g σ H → Pre g X.stack s H) (hr : Room j X.A) (hk : k ≤ j) (hg : Gl X x) (hm : X.mg x = some (.ref f)) (kp : PySem.W.keepIn X.K (.ref f) = true) (hb : Binds X.K fd ps []) (hx : Passes CX X E)
    (ha : PA X (e :: es) t) (hdb : (x == ("__debug__" : Str)) = false := by decide) (he : starEach (e :: es) X.env = (false, eval e X.env) :: starEach es X.env := by rfl) (hpl : (backTo pos (starEach es X.env)).any (·.1) = false := by rfl) :
    PE X (.Call (.Name x p) (e :: es) [] pos) (tCallC preS sp E t) := by
  refine ⟨fun pins s σ H Q I h => ?_⟩
  refine wpAny_Call_Name_kw (ld_glob I hg hm ?_ hdb)
  refine PySem.W.callWith_K (h₀ := X.base) I.ok.mod.kin kp (thn (ha.run pos pins s σ H _ I h) fun us s1 ⟨vs, H1, I1, r, g, pg, q⟩ => ⟨I1.kIn, ?_⟩) he hpl
  have hl : us.length = ps.length := by rw [← r.length]; exact (F g).len _ _ _ _ q
  have hb' := hb s1 us I1.kIn (by rw [List.append_nil]; exact hl)
  rw [List.append_nil] at hb'
  refine wpAny_call (codeAny_mono ((F g).run X.A X.stack s1 H1 ⟨us, []⟩ us vs Q E (hr.mono hk) I1.env0 hb' r (hP g pins σ H1 s1 I1 pg) q) fun r s' hq => ?_)
  cases r with
  | error e => exact hx pins σ H1 s1 e s' I1 hq
  | ok fl =>
    cases fl with
    | ret u => exact I1.after hq
    | next => exact False.elim hq
    | brk => exact False.elim hq
    | cont => exact False.elim hq
end RH
set_option Elab.async false
set_option linter.all false
set_option maxRecDepth 100000
set_option maxHeartbeats 2000000
/-! Dicts with tuples for keys: one pair written out, their values; where an int stands in a tuple. -/
namespace RH
open PySem PySem.Spec PyProof.Rows L2
theorem one_shape {X : Cx} {k v : Expr} {pos : Pos} : (evalEachOpt [some k] X.env).zip ((evalEach [v] X.env).map fun z => do let x ← z; standAt pos; pure x) = [(eval k X.env, (do let x ← eval v X.env; standAt pos; pure x : Sem Value))].map fun p => (some p.1, p.2) := rfl
end RH
set_option Elab.async false
set_option linter.all false
set_option maxRecDepth 100000
set_option maxHeartbeats 2000000
/-! Tuples told by their very object, and dicts whose keys are such tuples of ints. -/
namespace RH
open PySem PySem.Spec PyProof.Rows L2
def keyOf (s : List Int) : List L2.Key := s.map Sum.inl
theorem keyOf_kV (s : List Int) : (keyOf s).map kV = s.map V.int := by
  unfold keyOf
  rw [List.map_map]
  rfl
theorem mapInt_inj : ∀ {s t : List Int}, s.map V.int = t.map V.int → s = t
  | [], [], _ => rfl
  | [], _ :: _, e => by simp at e
  | _ :: _, [], e => by simp at e
  | a :: s, b :: t, e => by
    rw [List.map_cons, List.map_cons] at e
    injection e with e1 e2
    rw [V.int.inj e1, mapInt_inj e2]
theorem keyOf_inj {s t : List Int} (h : keyOf s = keyOf t) : s = t := by
  have e : (keyOf s).map kV = (keyOf t).map kV := by rw [h]
  rw [keyOf_kV, keyOf_kV] at e
  exact mapInt_inj e
/-- b is a tuple of these ints -/
def KX (H : Hp) (b : Addr) (s : List Int) : Prop := Rd H b (.tup (s.map V.int))
/-- the same, and its very object is known, one without a dict -/
def FT (H : Hp) (b : Addr) (s : List Int) : Prop := ∃ ob, H b = some (.frz ob (.tup (s.map V.int))) ∧ ob.dict = none
theorem FT.kx {H : Hp} {b : Addr} {s : List Int} (h : FT H b s) : KX H b s := let ⟨ob, h, _⟩ := h; .inr ⟨ob, h⟩
inductive XS : List (List Int × V) → List Addr → List (List L2.Key × Addr × Value) → Prop
  | nil : XS [] [] []
  | cons {q : List Int × V} {b : Addr} {u : Value} {as : List (List Int × V)} {bs : List Addr} {xs : List (List L2.Key × Addr × Value)} : RelV q.2 u → XS as bs xs → XS (q :: as) (b :: bs) ((keyOf q.1, b, u) :: xs)
inductive KB (H : Hp) : List (List Int × V) → List Addr → Prop
  | nil : KB H [] []
  | cons {q : List Int × V} {b : Addr} {as : List (List Int × V)} {bs : List Addr} : KX H b q.1 → KB H as bs → KB H (q :: as) (b :: bs)
theorem KB.snoc {H : Hp} {q : List Int × V} {b : Addr} (h : KX H b q.1) : ∀ {as : List (List Int × V)} {bs : List Addr}, KB H as bs → KB H (as ++ [q]) (bs ++ [b])
  | _, _, .nil => .cons h .nil
  | _, _, .cons g t => .cons g (t.snoc h)
theorem KB.imp {H H' : Hp} (f : ∀ b s, KX H b s → KX H' b s) : ∀ {as : List (List Int × V)} {bs : List Addr}, KB H as bs → KB H' as bs
  | _, _, .nil => .nil
  | _, _, .cons g t => .cons (f _ _ g) (t.imp f)
theorem XS.len : ∀ {as : List (List Int × V)} {bs : List Addr} {xs : List (List L2.Key × Addr × Value)}, XS as bs xs → xs.length = as.length
  | _, _, _, .nil => rfl
  | _, _, _, .cons _ t => congrArg (· + 1) t.len
theorem XS.snoc {q : List Int × V} {b : Addr} {u : Value} (h : RelV q.2 u) : ∀ {as : List (List Int × V)} {bs : List Addr} {xs : List (List L2.Key × Addr × Value)}, XS as bs xs → XS (as ++ [q]) (bs ++ [b]) (xs ++ [(keyOf q.1, b, u)])
  | _, _, _, .nil => .cons h .nil
  | _, _, _, .cons g t => .cons g (t.snoc h)
theorem atKey_pos {x : List L2.Key × Addr × Value} {xs : List (List L2.Key × Addr × Value)} {k : List L2.Key} (e : x.1 = k) : atKey (x :: xs) k = some x.2 := by simp [atKey, List.find?_cons, e]
theorem atKey_neg {x : List L2.Key × Addr × Value} {xs : List (List L2.Key × Addr × Value)} {k : List L2.Key} (e : ¬ x.1 = k) : atKey (x :: xs) k = atKey xs k := by simp [atKey, List.find?_cons, e]
theorem XS.no {s : List Int} : ∀ {as : List (List Int × V)} {bs : List Addr} {xs : List (List L2.Key × Addr × Value)}, XS as bs xs → s ∉ as.map Prod.fst → atKey xs (keyOf s) = none
  | _, _, _, .nil, _ => rfl
  | _, _, _, .cons g t, h => (atKey_neg fun e => h (by rw [← keyOf_inj e]; exact List.mem_cons_self ..)).trans (t.no fun z => h (List.mem_cons_of_mem _ z))
theorem XS.yes {s : List Int} : ∀ {as : List (List Int × V)} {bs : List Addr} {xs : List (List L2.Key × Addr × Value)}, XS as bs xs → s ∈ as.map Prod.fst → ∃ v p, atKey xs (keyOf s) = some p ∧ (s, v) ∈ as ∧ RelV v p.2
  | _, _, _, .nil, h => by simp at h
  | q :: as, _, _, .cons (u := u) g t, h => by
    by_cases e : q.1 = s
    · subst e
      exact ⟨q.2, _, atKey_pos rfl, List.mem_cons_self .., g⟩
    · rcases List.mem_cons.mp h with z | z
      · exact absurd z.symm e
      · obtain ⟨v, p, h1, h2, h3⟩ := t.yes z
        exact ⟨v, p, (atKey_neg fun z => e (keyOf_inj z)).trans h1, List.mem_cons_of_mem _ h2, h3⟩
theorem key_ofR {P : Program} {w : World} {H : Hp} {h : Heap} {a : Addr} {s : List Int} (ok : HOk P w H h) (e : KX H a s) : (tupleKind (mixKind P w)).is h (keyOf s) a := by
  obtain ⟨_, its, r, o, h1, h2, n, h3⟩ := (show ObjOk P w H h a (.tup (s.map V.int)) from e.ok ok)
  rw [← keyOf_kV] at r
  exact ⟨o, its.toArray, n, h1, h2, h3, by simpa using items_are r⟩
theorem XS.keys {P : Program} {w : World} {H : Hp} {h : Heap} (ok : HOk P w H h) : ∀ {as : List (List Int × V)} {bs : List Addr} {xs : List (List L2.Key × Addr × Value)}, XS as bs xs → KB H as bs → ∀ x ∈ xs, (tupleKind (mixKind P w)).is h x.1 x.2.1
  | _, _, _, .nil, _, x, hx => nomatch hx
  | _, _, _, .cons g t, .cons k r, x, hx => by
    rcases List.mem_cons.mp hx with e | hx
    · subst e
      exact key_ofR ok k
    · exact t.keys ok r x hx
/-- the dict at d: as with its values, bs its keys' tuples -/
abbrev DE (P : Program) (w : World) (as : List (List Int × V)) (bs : List Addr) (d : Addr) : HO := .ext fun h => (d == sysModules) = false ∧ as.length ≤ sizeLine ∧ ∃ xs : List (List L2.Key × Addr × Value), XS as bs xs ∧
  ∃ o es ep, h.get? d = some o ∧ o.ExactDict ∧ o.data = .dict es ep ∧ es.toList = xs.map (entryOfKey (tupleKind (mixKind P w))) ∧ (xs.map (·.1)).Nodup
theorem DE.ok {P : Program} {w : World} {H : Hp} {h : Heap} {as : List (List Int × V)} {bs : List Addr} {d : Addr} {xs : List (List L2.Key × Addr × Value)} (hd : (d == sysModules) = false) (hl : as.length ≤ sizeLine) (hx : XS as bs xs) (dd : h.DictOfH (tupleKind (mixKind P w)) d xs) : ObjOk P w H h d (DE P w as bs d) := by
  obtain ⟨o, es, ep, h1, h2, h3, h4, _, h5⟩ := dd
  refine ⟨⟨hd, hl, xs, hx, o, es, ep, h1, h2, h3, h4, h5⟩, ⟨o, h1⟩, fun h1 h2 ⟨a1, a2, xs, a3, o, es, ep, b1, b2⟩ k => ⟨a1, a2, xs, a3, o, es, ep, k _ b1, b2⟩⟩
section
variable {X : Cx} {pins : List (Addr × Obj)} {σ : L2.St} {H : Hp} {s : Shared} {a : Addr} {as : List (List Int × V)} {bs : List Addr}
theorem de_of (I : Inv X pins σ H s) (e : H a = some (DE X.prog X.w as bs a)) (k : KB H as bs) : (a == sysModules) = false ∧ as.length ≤ sizeLine ∧ ∃ xs, XS as bs xs ∧ s.heap.DictOfH (tupleKind (mixKind X.prog X.w)) a xs := by
  obtain ⟨h1, h2, xs, h3, o, es, ep, b1, b2, b3, b4, b5⟩ := (show ObjOk X.prog X.w H s.heap a (DE X.prog X.w as bs a) from I.hok a _ e).1
  exact ⟨h1, h2, xs, h3, o, es, ep, b1, b2, b3, b4, h3.keys I.hok k, b5⟩
end
/-! ### the rules -/
def tDisp1E (P : Program) (w : World) (tk tv : TE) : TE := fun σ H Q => ∀ p, H p = none → tk σ (upd H p (DE P w [] [] p)) fun x H1 => tv σ H1 fun y H2 => H2 p = some (DE P w [] [] p) ∧ ∃ (b : Addr) (s : List Int), x = .ref b ∧ KX H2 b s ∧ Q (.ref p) (upd H2 p (DE P w [(s, y)] [b] p))
def tDGetE (P : Program) (w : World) (td ty : TE) : TE := fun σ H Q => td σ H fun x H1 => ty σ H1 fun y H2 => ∃ (a b : Addr) (as : List (List Int × V)) (bs : List Addr) (s : List Int), x = .ref a ∧ y = .ref b ∧ H2 a = some (DE P w as bs a) ∧ KB H2 as bs ∧ KX H2 b s ∧ s ∈ as.map Prod.fst ∧ ∀ v, (s, v) ∈ as → Q v H2
def tDNotInE (P : Program) (w : World) (ty td : TE) : TE := fun σ H Q => ty σ H fun y H1 => td σ H1 fun x H2 => ∃ (a b : Addr) (as : List (List Int × V)) (bs : List Addr) (s : List Int), x = .ref a ∧ y = .ref b ∧ H2 a = some (DE P w as bs a) ∧ KB H2 as bs ∧ KX H2 b s ∧ Q (.bl (!decide (s ∈ as.map Prod.fst))) H2
def sDPutE (P : Program) (w : World) (td ty tv : TE) : TS := fun D σ H => tv σ H fun v H1 => td σ H1 fun x H2 => ty σ H2 fun y H3 => ∃ (a b : Addr) (as : List (List Int × V)) (bs : List Addr) (s : List Int), x = .ref a ∧ y = .ref b ∧ H3 a = some (DE P w as bs a) ∧ KB H3 as bs ∧ KX H3 b s ∧
  s ∉ as.map Prod.fst ∧ as.length < sizeLine ∧ D.nx σ (upd H3 a (DE P w (as ++ [(s, v)]) (bs ++ [b]) a))
section
variable {X : Cx} {o i k v value : Expr} {pos pos' tpos : Pos} {td ty tk tv : TE}
theorem de_typeIs {pins : List (Addr × Obj)} {σ : L2.St} {H : Hp} {s : Shared} {a : Addr} {as : List (List Int × V)} {bs : List Addr} (I : Inv X pins σ H s) (e : H a = some (DE X.prog X.w as bs a)) : s.TypeIs (.ref a) "dict" ∧ ∃ ob, s.heap.get? a = some ob ∧ ob.dict = none := by
  obtain ⟨_, _, xs, _, o, es, ep, b1, b2, _⟩ := (show ObjOk X.prog X.w H s.heap a (DE X.prog X.w as bs a) from I.hok a _ e).1
  exact ⟨⟨o, b1, b2.1⟩, o, b1, b2.2.1⟩
theorem pe_disp1E (hu : X.A.units < cLine) (hk : PE X k tk) (hv : PE X v tv) : PE X (.Dict [some k] [v] pos) (tDisp1E X.prog X.w tk tv) := by
  refine ⟨fun pins s σ H Q I q => ?_⟩
  have hn := I.hok.fresh (Nat.le_refl s.heap.objs.size)
  have hsys : (s.heap.objs.size == sysModules) = false := beq_eq_false_iff_ne.mpr (Ne.symm (Nat.ne_of_lt I.big))
  have I1 := I.laid (a := s.heap.objs.size) (o := DE X.prog X.w [] [] s.heap.objs.size) (h' := s.heap.push { cls := .type "dict", data := .dict #[] }) (t' := s.toks) (fun _ _ q => Heap.get?_push_of_some _ q) (Nat.le_refl _)
    (DE.ok hsys (Nat.zero_le _) .nil (Heap.DictOfH.new s.heap))
  rw [arm_eval_Dict, one_shape, dictDisplay_pairs _ (by simp) (by simp)]
  have ru : (tupleKind (mixKind X.prog X.w)).room X.A := hu
  refine wpAny_bind (wpAny_standAt (wpAny_bind (PySem.wpAny_subDictH (knd := tupleKind (mixKind X.prog X.w)) (Q := fun d s' => wpAny (model X.prog X.w) X.A (pure (Value.ref d)) (EP X pins σ Q) X.xe s') ru (by simp) ?_)))
  show wpAny _ _ (evalPairs (pairTrees [some k] [v] X.env pos)) _ _ _
  refine pairTrees_cons_walk (thn (hk.run pins _ σ _ _ I1 (q _ hn)) fun u s1 ⟨x, H1, I3, rx, q1⟩ => thn (hv.run pins s1 σ H1 _ I3 q1) fun w2 s2 ⟨y, H2, I2, ry, e, b, st, ex, eb, q2⟩ => pairTrees_nil_walk ?_)
  subst ex
  obtain rfl : u = Value.ref b := rx
  obtain ⟨hd, z, xs, rl, dd⟩ := de_of I2 e .nil
  cases rl
  refine ⟨[(keyOf st, b, w2)], ⟨rfl, rfl, key_ofR I2.hok eb, trivial⟩, dd, fun h' tk dd' hs => wpAny_pure ?_⟩
  have hq : ∃ q, h'.get? s.heap.objs.size = some q := let ⟨o, _, _, hq, _⟩ := dd'; ⟨o, hq⟩
  have I4 : Inv X pins σ (upd H2 s.heap.objs.size (DE X.prog X.w [(st, y)] [b] s.heap.objs.size)) { s2 with heap := h', toks := tk } :=
    d_write I2 (by rw [e]; exact True.intro) hs hq (DE.ok hd (by show 1 ≤ sizeLine; decide) (.cons (q := (st, y)) ry .nil) dd')
  exact ⟨.ref s.heap.objs.size, _, I4, rfl, q2⟩
theorem pe_dgetE (hu : X.A.units + 1 < cLine) (ho : PE X o td) (hi : PE X i ty) (hs : NoSl i) : PE X (.Subscript o i pos) (tDGetE X.prog X.w td ty) := by
  refine ⟨fun pins s σ H Q I h => ?_⟩
  refine subD_of PySem.F.slot_dict_getitem.lookup hs (thn (ho.run pins s σ H _ I h) fun u s1 ⟨x, H1, I1, rx, q1⟩ => thn (hi.run pins s1 σ H1 _ I1 q1) fun iv s2 ⟨y, H2, I2, ry, a, b, as, bs, st, ex, ey, e, kb, eb, hm, q2⟩ => ?_)
  subst ex ey
  obtain rfl : u = Value.ref a := rx
  obtain rfl : iv = Value.ref b := ry
  obtain ⟨hd, z, xs, hx, dd⟩ := de_of I2 e kb
  obtain ⟨v, p, h1, h2, h3⟩ := hx.yes hm
  exact ⟨(de_typeIs I2 e).1, wpAny_getItem_heap (tupleKind_room_in1 hu) (key_ofR I2.hok eb) dd h1 ⟨v, H2, I2.tok _, h3, q2 v h2⟩⟩
theorem pc_dnotinE (hu : X.A.units + 1 < cLine) (hi : PE X i ty) (ho : PE X o td) : PC X .NotIn i o (tDNotInE X.prog X.w ty td) := by
  refine ⟨fun pins s σ H Q I h => ?_⟩
  refine thn (hi.run pins s σ H _ I h) fun iv s1 ⟨y, H1, I1, ry, q1⟩ => thn (ho.run pins s1 σ H1 _ I1 q1) fun u s2 ⟨x, H2, I2, rx, a, b, as, bs, st, ex, ey, e, kb, eb, q2⟩ => ?_
  subst ex ey
  obtain rfl : u = Value.ref a := rx
  obtain rfl : iv = Value.ref b := ry
  obtain ⟨hd, z, xs, hx, dd⟩ := de_of I2 e kb
  refine wpAny_notIn_heap (tupleKind_room_in1 hu) (key_ofR I2.hok eb) hd dd ⟨_, H2, I2.tok _, ?_, q2⟩
  by_cases hm : st ∈ as.map Prod.fst
  · obtain ⟨v, p, h1, _⟩ := hx.yes hm
    rw [h1, decide_eq_true hm]
    rfl
  · rw [hx.no hm, decide_eq_false hm]
    rfl
theorem ps_dputE (hu : X.A.units + 1 < cLine) (ho : PE X o td) (hi : PE X i ty) (hv : PE X value tv) (hs : swapsWith value (some (.Subscript o i pos')) pos.line X.env = pure false) : PS X (.Assign [.Subscript o i pos'] value pos) (sDPutE X.prog X.w td ty tv) := by
  refine ⟨fun pins s σ H D I h => ?_⟩
  refine wpAny_Assign_Subscript (thn (hv.run pins s σ H _ I h) fun r s1 ⟨v, H1, I1, rv, q1⟩ => thn (ho.run pins s1 σ H1 _ I1 q1) fun u s2 ⟨x, H2, I2, rx, q2⟩ => thn (hi.run pins s2 σ H2 _ I2 q2) fun iv s3 ⟨y, H3, I3, ry, a, b, as, bs, st, ex, ey, e, kb, eb, hn, hl, q3⟩ => ?_) hs
  subst ex ey
  obtain rfl : u = Value.ref a := rx
  obtain rfl : iv = Value.ref b := ry
  obtain ⟨hd, z, xs, hx, dd⟩ := de_of I3 e kb
  refine wpAny_setItem_heap (hsz := by rw [hx.len]; exact z) (tupleKind_room_in1 hu) (key_ofR I3.hok eb) dd fun h' dd' hs => ?_
  rw [storedH_new (hx.no hn)] at dd'
  have hq : ∃ q, h'.get? a = some q := let ⟨o, _, _, hq, _⟩ := dd'; ⟨o, hq⟩
  exact ⟨σ, _, d_write I3 (by rw [e]; exact True.intro) hs hq (DE.ok hd (by rw [List.length_append]; exact hl) (hx.snoc (q := (st, v)) rv) dd'), q3⟩
/-- tuple(xs) of a list, told by its very object -/
def kTupF (K : PySem.W.Frag) (x : V) (H : Hp) (Q : VK) : Prop := ∃ p xs, x = .ref p ∧ SqL K H p xs ∧ ∀ q ob, H q = none → ob.dict = none → Q (.ref q) (upd H q (.frz ob (.tup xs)))
theorem pe_tupleF {a : Expr} {ta : TE} {p : Pos} (hg : Gl X "tuple") (hm : X.mg "tuple" = none) (ha : PE X a ta) (na : starEach [a] X.env = (false, eval a X.env) :: starEach [] X.env := by rfl) : PE X (.Call (.Name "tuple" p) [a] [] pos) (tThen ta (kTupF X.K)) := by
  refine ⟨fun pins s σ H Q I h => ?_⟩
  refine Call_ (ld_blt I hg hm boot_tuple (PyProof.Rows.callWith_type1 (one_arg ha I h (fun v s2 x H2 I2 r q => ?_) na) na))
  obtain ⟨p, xs, rfl, hs, q⟩ := q
  obtain rfl : v = .ref p := r
  obtain ⟨its, rv, pl, hz⟩ := I2.list hs
  refine call_tuple_list pl.isList (fun h' hk => ?_) (by rw [List.size_toArray, ← rv.length]; exact hz)
  have I3 : Inv X pins σ H2 { s2 with heap := h' } := I2.kept (t' := s2.toks) hk
  have e : (h'.push { cls := .type "tuple", data := .seq its.toArray }).get? h'.objs.size = some { cls := .type "tuple", data := .seq its.toArray } := Heap.get?_push_size _ rfl
  have I4 : Inv X pins σ (upd H2 h'.objs.size (.frz { cls := .type "tuple", data := .seq its.toArray } (.tup xs))) { s2 with heap := h'.push { cls := .type "tuple", data := .seq its.toArray } } :=
    I3.laid (t' := s2.toks) (fun b o e => Heap.get?_push_of_some _ e) (Nat.le_refl _) ⟨e, hz, its, rv, IsTup.new _ _⟩
  exact ⟨.ref h'.objs.size, _, I4, rfl, q _ _ (I3.hok.fresh (Nat.le_refl _)) rfl⟩
/-- t.index(k) -/
def tTIdxF (to te : TE) : TE := fun σ H Q => to σ H fun x H1 => ∃ (p : Addr) (ns : List Int), x = .ref p ∧ FT H1 p ns ∧ te σ H1 fun y H2 => ∃ k : Int, y = .int k ∧ FT H2 p ns ∧ k ∈ ns ∧ Q (.int (ns.idxOf k : Nat)) H2
theorem pe_tidxF {e : Expr} {to te : TE} {apos cpos : Pos} (ho : PE X o to) (he : PE X e te)
    (hbase : attributeBase o "index" X.env (eval o X.env) = eval o X.env := by rfl) (hline : (apos.endLine == cpos.line) = true := by rfl) (htrees : backTo cpos (starEach [e] X.env) = [(false, eval e X.env)] := by rfl) :
    PE X (.Call (.Attribute o "index" apos) [e] [] cpos) (tTIdxF to te) := by
  refine ⟨fun pins s σ H Q I h => ?_⟩
  refine wpAny_Call_method1_late hbase hline htrees (thn (ho.run pins s σ H _ I h) fun v s1 ⟨x, H1, I1, r1, p, ns, ex, ⟨ob, hp, hdn⟩, q1⟩ => ?_)
  subst ex
  obtain rfl : v = Value.ref p := r1
  obtain ⟨g, z, its, rv, hl⟩ := (show ObjOk X.prog X.w H1 s1.heap p (.frz ob (.tup (ns.map V.int))) from I1.hok p _ hp)
  have tI : s1.TypeIs (.ref p) "tuple" := let ⟨o, ho, hc, _⟩ := hl; ⟨o, ho, hc⟩
  refine ⟨"tuple", "tuple.index", PySem.F.plainAttrs_tuple, PySem.F.slot_tuple_index, PySem.F.type_tuple_index, tI, fun b eb => by cases eb; exact ⟨ob, g, hdn⟩, ?_⟩
  refine Calls.callWith_builtin rfl (Calls.evalArgs_plain (Calls.spliced_cons (thn (he.run pins s1 σ H1 _ I1 q1) fun iv s2 ⟨y, H2, I2, ry, k, ey, ⟨ob2, hp2, _⟩, hk, q2⟩ => Calls.spliced_nil ?_)))
  subst ey
  obtain ⟨t, rfl⟩ := (show ∃ t, iv = Value.int k t from ry)
  obtain ⟨_, _, its2, rv2, hl2⟩ := (show ObjOk X.prog X.w H2 s2.heap p (.frz ob2 (.tup (ns.map V.int))) from I2.hok p _ hp2)
  exact PySem.SeqAt.tuple_index_ints hl2 rv2.ints hk ⟨.int (ns.idxOf k : Nat), H2, I2.tok _, ⟨_, rfl⟩, q2⟩
end
end RH
set_option Elab.async false
set_option linter.all false
set_option maxRecDepth 100000
set_option maxHeartbeats 2000000
/-! Sorted lists of tuples of ints, of any length; more rules for dicts whose keys are such tuples. -/
namespace RH
open PySem PySem.Spec PyProof.Rows L2
open SrtO (Swo Srtd Stb SortableO Cmp lt2)
open TS (TupInts intsOf code Bd lex_ints firsts_of)
/-- below 10, by the digits -/
def ltL (s t : List Int) : Bool := decide (code 10 s < code 10 t)
theorem swo_by {α : Type} (f : α → Int) : Swo fun x y : α => decide (f x < f y) := by
  refine ⟨fun x y h => ?_, fun x y z h1 h2 => ?_⟩
  · simp only [decide_eq_true_eq] at h
    simp only [decide_eq_false_iff_not]
    omega
  · simp only [decide_eq_false_iff_not] at *
    omega
theorem ltL_swo : Swo ltL := swo_by (code 10)
/-- each of xs is a tuple of the ints -/
inductive EX (H : Hp) : List V → List (List Int) → Prop
  | nil : EX H [] []
  | cons {b : Addr} {s : List Int} {xs : List V} {ls : List (List Int)} : KX H b s → EX H xs ls → EX H (.ref b :: xs) (s :: ls)
theorem EX.len {H : Hp} : ∀ {xs : List V} {ls : List (List Int)}, EX H xs ls → xs.length = ls.length
  | _, _, .nil => rfl
  | _, _, .cons _ t => congrArg (· + 1) t.len
theorem EX.imp {H H' : Hp} (f : ∀ b s, KX H b s → KX H' b s) : ∀ {xs : List V} {ls : List (List Int)}, EX H xs ls → EX H' xs ls
  | _, _, .nil => .nil
  | _, _, .cons g t => .cons (f _ _ g) (t.imp f)
theorem EX.snoc {H : Hp} {b : Addr} {s : List Int} (h : KX H b s) : ∀ {xs : List V} {ls : List (List Int)}, EX H xs ls → EX H (xs ++ [.ref b]) (ls ++ [s])
  | _, _, .nil => .cons h .nil
  | _, _, .cons g t => .cons g (t.snoc h)
theorem EX.at {H : Hp} : ∀ {xs : List V} {ls : List (List Int)} {i : Nat} {s : List Int}, EX H xs ls → ls[i]? = some s → ∃ b, xs[i]? = some (V.ref b) ∧ KX H b s
  | _, _, _, _, .nil, e => by simp at e
  | _, _, 0, _, .cons h _, e => by
    cases Option.some.inj e
    exact ⟨_, rfl, h⟩
  | _, _, i + 1, _, .cons _ t, e => t.at (i := i) e
theorem EX.of {P : Program} {w : World} {H : Hp} {h : Heap} : ∀ {out : List Value}, (∀ v ∈ out, ∃ b, v = Value.ref b ∧ KX H b (intsOf h v)) → Vals (out.map backV) out ∧ EX H (out.map backV) (out.map (intsOf h))
  | [], _ => ⟨.nil, .nil⟩
  | v :: out, hv => by
    obtain ⟨r, e⟩ := EX.of (P := P) (w := w) (H := H) (h := h) (out := out) fun u hu => hv u (List.mem_cons_of_mem _ hu)
    obtain ⟨b, rfl, k⟩ := hv v (List.mem_cons_self ..)
    exact ⟨.cons rfl r, .cons k e⟩
/-- what sorted makes of tuples of the ints ls -/
def SoT (H : Hp) (ls : List (List Int)) (ys : List V) (ls' : List (List Int)) : Prop := Srtd ltL ls' ∧ Stb ltL ls' ls ∧ EX H ys ls' ∧ ls'.length = ls.length
theorem SoT.one {H H' : Hp} {ls a b : List (List Int)} {ys zs : List V} (h1 : SoT H ls ys a) (h2 : SoT H' ls zs b) : a = b :=
  SrtO.stb_uniq ltL_swo h1.1 h2.1 ⟨h1.2.1.perm.trans h2.2.1.perm.symm, fun x => (h1.2.1.cls x).trans (h2.2.1.cls x).symm⟩
end RH
set_option Elab.async false
set_option linter.all false
set_option maxRecDepth 100000
set_option maxHeartbeats 2000000
namespace RH
open PySem PySem.Spec PyProof.Rows L2
open SrtO (Swo Srtd Stb SortableO Cmp lt2)
open TS (TupInts intsOf code Bd lex_ints firsts_of)
theorem KB.ex {H : Hp} : ∀ {as : List (List Int × V)} {bs : List Addr}, KB H as bs → EX H (bs.map V.ref) (as.map Prod.fst)
  | _, _, .nil => .nil
  | _, _, .cons g t => .cons g t.ex
/-! ### get, in, a new one, [..] = -/
end RH
set_option Elab.async false
set_option linter.all false
set_option maxRecDepth 100000
set_option maxHeartbeats 2000000
/-! Lambdas that a def hands back: the cells that they caught are tracked from then on. -/
namespace RH
open PySem PySem.Spec PyProof.Rows L2
open LamX (Tabs TabS TabB ExtN CodeO codeO_ne)
open NdefX (NF CellsAt NScope startF ncx codeO_at slotAt Caps cells_of)
/-- the cell at c holds v -/
def CellO (c : Addr) (v : V) : HO := .ext fun h => ∃ u, L2.RelV v u ∧ h.IsCell c (some u)
theorem cellO_ne {c : Addr} {v : V} : (∀ y, CellO c v ≠ .own y) ∧ (∀ xs, CellO c v ≠ .tup xs) ∧ (∀ o u, CellO c v ≠ .frz o u) ∧ (∀ ps, CellO c v ≠ .tbl ps) := by
  unfold CellO
  exact ⟨fun _ z => (nomatch z), fun _ z => (nomatch z), fun _ _ z => (nomatch z), fun _ z => (nomatch z)⟩
abbrev CL := List (Addr × V)
/-- without the cells, with them -/
def era (l : CL) (H : Hp) : Hp := fun b => match l.lookup b with
  | some _ => none
  | none => H b
def lay (l : CL) (H : Hp) : Hp := fun b => match l.lookup b with
  | some v => some (CellO b v)
  | none => H b
theorem era_in {l : CL} {H : Hp} {b : Addr} {v : V} (e : l.lookup b = some v) : era l H b = none := by
  unfold era
  rw [e]
theorem era_no {l : CL} {H : Hp} {b : Addr} (e : l.lookup b = none) : era l H b = H b := by
  unfold era
  rw [e]
theorem lay_in {l : CL} {H : Hp} {b : Addr} {v : V} (e : l.lookup b = some v) : lay l H b = some (CellO b v) := by
  unfold lay
  rw [e]
theorem lay_no {l : CL} {H : Hp} {b : Addr} (e : l.lookup b = none) : lay l H b = H b := by
  unfold lay
  rw [e]
/-- the cells stand -/
def Stand (l : CL) (H : Hp) : Prop := ∀ b v, l.lookup b = some v → H b = some (CellO b v)
theorem Stand.ext {l : CL} {H H' : Hp} (s : Stand l H) (e : ExtN H H') : Stand l H' := fun b v q => e b _ (s b v q) cellO_ne.2.2.2
theorem Stand.same {l : CL} {H H' : Hp} (s : Stand l H) (e : Same H H') : Stand l H' := fun b v q => e b _ (s b v q)
theorem Stand.cases {l : CL} {H : Hp} (s : Stand l H) {b : Addr} {o : HO} (e : H b = some o) : (∃ v, l.lookup b = some v ∧ o = CellO b v) ∨ (l.lookup b = none ∧ era l H b = some o) := by
  cases q : l.lookup b with
  | some v => exact .inl ⟨v, rfl, Option.some.inj (e.symm.trans (s b v q))⟩
  | none => exact .inr ⟨rfl, (era_no q).trans e⟩
theorem Stand.tup {l : CL} {H : Hp} (s : Stand l H) {b : Addr} {xs : List V} (e : H b = some (.tup xs)) : era l H b = some (.tup xs) := by
  rcases s.cases e with ⟨v, _, z⟩ | ⟨_, z⟩
  · exact absurd z.symm (cellO_ne.2.1 xs)
  · exact z
theorem Stand.frz {l : CL} {H : Hp} (s : Stand l H) {b : Addr} {o : Obj} {u : HO} (e : H b = some (.frz o u)) : era l H b = some (.frz o u) := by
  rcases s.cases e with ⟨v, _, z⟩ | ⟨_, z⟩
  · exact absurd z.symm (cellO_ne.2.2.1 o u)
  · exact z
/-- the heap with the cells goes on as the one without them does -/
theorem Stand.on {l : CL} {H H2 : Hp} (s : Stand l H) (e : Same (era l H) H2) : Same H (RH.lay l H2) := fun b o q => by
  rcases s.cases q with ⟨v, z, rfl⟩ | ⟨z, y⟩
  · exact lay_in z
  · exact (lay_no z).trans (e b o y)
theorem Stand.hok {P : Program} {w : World} {l : CL} {H : Hp} {h : Heap} (s : Stand l H) (k : HOk P w H h) : HOk P w (era l H) h := fun a o e => by
  cases q : l.lookup a with
  | some v =>
    rw [era_in q] at e
    cases e
  | none =>
    rw [era_no q] at e
    refine (k a o e).stay (fun _ _ _ z => z) (fun b z => ?_) fun b xs z => s.tup z
    rcases s.cases z with ⟨v, _, y⟩ | ⟨_, y⟩
    · exact absurd y.symm (cellO_ne.1 a)
    · exact y
/-- the lambda at f stands, with its code and its cells -/
structure LiveK (f : Addr) (F : LF) (l : CL) (H : Hp) : Prop where
  fn : H f = some (FnL f F)
  code : H F.c = some (CodeO F.c F.qual)
  st : Stand l H
theorem LiveK.same {f : Addr} {F : LF} {l : CL} {H H' : Hp} (k : LiveK f F l H) (e : Same H H') : LiveK f F l H' := ⟨e _ _ k.fn, e _ _ k.code, k.st.same e⟩
theorem LiveK.ext {f : Addr} {F : LF} {l : CL} {H H' : Hp} (k : LiveK f F l H) (e : ExtN H H') : LiveK f F l H' := ⟨e _ _ k.fn (fun ps => fnL_ne ps), e _ _ k.code (fun ps => codeO_ne ps), k.st.ext e⟩
/-- f(..), f a name that holds a thing that may be called: g says which -/
def tCanK {G : Type} (fa : G → Addr) (live : G → Hp → Prop) (i : Nat) (sp : G → Sp) (E : XK) (t : TA) : TE := fun σ H Q => ∃ g, σ[i]? = some (some (.ref (fa g))) ∧ live g H ∧ t σ H fun vs H1 => live g H1 ∧ sp g vs H1 Q E
theorem pe_canK {G : Type} {X : Cx} {CX : CXT} {fa : G → Addr} {live : G → Hp → Prop} {i j k : Nat} {x : Str} {sp : G → Sp} {E : XK} {t : TA} {e : Expr} {es : List Expr} {p pos : Pos} (Cb : ∀ g, Callable X.prog X.w X.K X.mg X.base CX k (fa g) (live g) (sp g) X.outer X.s_0 X.H_0) (nx : X.ex = []) (hr : Room j X.A) (hk : k ≤ j) (hx : Passes CX X E)
    (hN : X.N[i]? = some x) (hv : Vis X.env.scope x) (ha : PA X (e :: es) t) (hd : (x == ("__debug__" : Str)) = false := by decide) (hcd : (x == ("__classdict__" : Str)) = false := by decide)
    (he : starEach (e :: es) X.env = (false, eval e X.env) :: starEach es X.env := by rfl) (hpl : (backTo pos (starEach es X.env)).any (·.1) = false := by rfl) :
    PE X (.Call (.Name x p) (e :: es) [] pos) (tCanK fa live i sp E t) := by
  refine ⟨fun pins s σ H Q I h => ?_⟩
  obtain ⟨g, hg⟩ := h
  exact (pe_can (pos := pos) (p := p) (Cb g) nx hr hk hx hN hv ha hd hcd he hpl).run pins s σ H Q I hg
/-! ### a body that ends with a return, its names kept -/
end RH
set_option Elab.async false
set_option linter.all false
set_option maxRecDepth 100000
set_option maxHeartbeats 2000000
/-! A walk over zip of a tuple and a list. -/
set_option Elab.async false
set_option linter.all false
set_option maxRecDepth 100000
set_option maxHeartbeats 2000000
/-! Defs and methods that may raise, lambdas handed back that are called without arguments and may raise, what an except suite asks of its error. -/
namespace RH
open PySem PySem.Spec PyProof.Rows L2
open LamX (Tabs TabS TabB ExtN CodeO codeO_ne)
open NdefX (NF CellsAt NScope startF ncx codeO_at slotAt Caps cells_of)
/-! ### a lambda that was handed back, called without arguments -/
/-! ### what an except suite asks of its error -/
/-! ### list.count of flat things -/
/-- what leaves a def that may raise -/
theorem passE {P : Program} {w : World} {K : PySem.W.Frag} {mg : Str → Option Value} {base : Heap} {N : List Str} {qual : Str} {scope : Scope} {f : Addr} {cd : Value} {A : Around} {outer : List Env} {s : Shared} {H : Hp} {E : XK} :
    Passes (L2.CX P w) (cxOf (L2.CX P w) P w K mg base N qual scope f cd A outer s H E) E := passes_call (W := fun cls d _ H => E cls d H) (takes_of rfl rfl rfl rfl) (fun _ _ _ _ h => h)
theorem takesE {P : Program} {w : World} {K : PySem.W.Frag} {mg : Str → Option Value} {base : Heap} {N : List Str} {qual : Str} {scope : Scope} {f : Addr} {cd : Value} {A : Around} {outer : List Env} {s : Shared} {H : Hp} {E : XK} :
    Takes (cxOf (L2.CX P w) P w K mg base N qual scope f cd A outer s H E) (fun cls d _ H => E cls d H) := takes_of rfl rfl rfl rfl
end RH
set_option Elab.async false
set_option linter.all false
set_option maxRecDepth 100000
set_option maxHeartbeats 4000000
/-! own errors whose __init__ asks super().__init__ first -/
namespace L2
open PySem PySem.Calls PySem.Spec PyProof.Rows PySem.W
open NdefX (NScope NF CellsAt startF ncx envF inv_startN)
end L2
/-! ### isinstance of an error with a dict -/
namespace PySem.W
open PySem PySem.Spec PySem.Calls PyProof.Rows
end PySem.W
namespace L2
open PySem PySem.Spec PyProof.Rows
/-! ### f-strings with None -/
end L2
set_option Elab.async false
set_option linter.all false
set_option maxRecDepth 100000
set_option maxHeartbeats 2000000
/-! Sets of ints, made of a list, of a display, of a comprehension; the tuple of a dict's keys. -/
namespace RH
open PySem PySem.Spec PyProof.Rows L2
/-! ### the tuple of a dict's keys -/
/-! ### a set display of two ints -/
/-! ### set(xs) of a list of ints -/
section
variable {M : Program} {w : World} {A : Around} {E : Value → Shared → Prop} {s : Shared}
/-- what a new set is -/
abbrev bare (w : World) : Obj := { cls := .type "set", dict := none, data := .set #[] 0 (.fresh 0 0 (!w.params.followText "set-order")) }
end
end RH
set_option Elab.async false
set_option linter.all false
set_option maxRecDepth 100000
set_option maxHeartbeats 2000000
/-! A set comprehension whose members are ints. -/
set_option Elab.async false
set_option linter.all false
set_option maxRecDepth 100000
set_option maxHeartbeats 2000000
/-! Lambdas with a default, as values that a def of the text calls without arguments, and that may raise. -/
set_option Elab.async false
set_option linter.all false
set_option maxRecDepth 100000
set_option maxHeartbeats 2000000
/-! try with several except clauses, each with a name. -/
namespace RH
open PySem PySem.Spec PyProof.Rows L2
/-- an error of class cls that has come to the try of X, at the heap h -/
structure Caught (X : Cx) (pins : List (Addr × Obj)) (a : Addr) (cls : Value) (d : Option Addr) (σ : L2.St) (H : Hp) (s : Shared) : Prop where
  ex : ∃ (B : Heap) (sI : Shared), Inv X pins σ H sI ∧ (∀ b o, sI.heap.get? b = some o → b ∉ frs X.stack → B.get? b = some o) ∧ sI.heap.UpToSlots s.heap ∧ HandSPX.FlyingZ B (X.env :: X.outer) a (Zc cls d) s.heap ∧ s.os = sI.os ∧ AllBare s.gens
  na : H a = none
section
variable {X : Cx} {pins : List (Addr × Obj)} {a : Addr} {cls : Value} {d : Option Addr} {σ : L2.St} {H : Hp} {s : Shared}
/-- no clause takes it -/
theorem Caught.on {W : WX} {D : Ends} (c : Caught X pins a cls d σ H s) (hs : X.stack = X.env :: X.outer) (hf : X.env.frame = some X.env.locals) (tk : Takes X W) (w : W cls d σ H) : wpAny (model X.prog X.w) X.A (handleBy (.ref a) X.env []) (SP X pins D) X.xe s := by
  obtain ⟨B, sI, I, nb, up, fl, os, ag⟩ := c.ex
  refine wpAny_handleBy_nil ?_
  obtain ⟨_, _, _, oe, vs, T, oT, ts, at_, z, dat, one, _⟩ := id fl
  unfold PySem.passOn
  refine wpAny_bind (wpAny_field at_ dat one ?_)
  rw [if_neg (by simp : ¬ ((Value.ref T == Value.none) = true)), hf]
  have out : wpAny (model X.prog X.w) X.A (setFlight (.ref a) (some X.env.locals)) (fun _ s4 => wpAny (model X.prog X.w) X.A (throw (.ref a) : Sem Flow) (SP X pins D) X.xe s4) X.xe s :=
    HandSPX.setFlight_upZ fl fun h4 hh up4 => wpAny_throw (tk _ _ ⟨a, B, sI, pins, σ, H, cls, d, rfl, I, nb, up.trans up4, .inr (.inr (hs ▸ hh)), c.na, os, ag, w⟩)
  first
    | exact wpAny_bind (wpAny_pure (wpAny_bind out))
    | exact wpAny_bind out
end
end RH
set_option Elab.async false
set_option linter.all false
set_option maxRecDepth 100000
set_option maxHeartbeats 2000000
/-! sorted(range(n), key=f) and sorted(xs, key=f), f a lambda that may see names of the def; tuple.count. -/
namespace RH
open PySem PySem.Spec PyProof.Rows L2
/-! ### keys that stay -/
section
variable {K : PySem.W.Frag} {H H' : Hp}
theorem rdUp (e : Same H H') {b : Addr} {o : HO} (r : Rd H b o) : Rd H' b o := r.elim (fun z => .inl (e _ _ z)) fun ⟨ob, z⟩ => .inr ⟨ob, e _ _ z⟩
theorem keyUp (e : Same H H') {v : V} {d : PyData} (h : Dp K H v d) : Dp K H' v d :=
  Dp.rec (motive_1 := fun v d _ => Dp K H' v d) (motive_2 := fun vs ds _ => DpAll K H' vs ds) .non .bl .int .str (fun hs _ t => .lst (hs.imp_left (rdUp e)) t) (fun hs _ t => .tup (hs.imp_left (rdUp e)) t) .nil (fun _ _ a b => .cons a b) h
end
/-- the keys made so far: for each value a V, and its data -/
inductive KeysOk (K : PySem.W.Frag) (H : Hp) : List Value → List PyData → Prop
  | nil : KeysOk K H [] []
  | cons {u : Value} {us : List Value} {d : PyData} {ds : List PyData} (v : V) : RelV v u → Dp K H v d → KeysOk K H us ds → KeysOk K H (u :: us) (d :: ds)
section
variable {K : PySem.W.Frag} {H H' : Hp} {us : List Value} {ds : List PyData}
theorem KeysOk.up (e : Same H H') (k : KeysOk K H us ds) : KeysOk K H' us ds := by
  induction k with
  | nil => exact .nil
  | cons v r h _ ih => exact .cons v r (keyUp e h) ih
theorem KeysOk.more {u : Value} {d : PyData} {v : V} (k : KeysOk K H us ds) (r : RelV v u) (h : Dp K H v d) : KeysOk K H (us ++ [u]) (ds ++ [d]) := by
  induction k with
  | nil => exact .cons v r h .nil
  | cons v' r' h' _ ih => exact .cons v' r' h' ih
theorem KeysOk.size (k : KeysOk K H us ds) : us.length = ds.length := by
  induction k with
  | nil => rfl
  | cons _ _ _ _ ih => rw [List.length_cons, List.length_cons, ih]
theorem KeysOk.each {X : Cx} {pins : List (Addr × Obj)} {σ : L2.St} {s : Shared} (I : Inv X pins σ H s) (k : KeysOk X.K H us ds) : PySem.W.EachIs (fun u d => ∃ as, Reads s.heap u d as) us ds := by
  induction k with
  | nil => exact .nil
  | cons v r h _ ih => exact .cons (Dp.reads I _ _ _ h r) ih
end
/-- f gives the key kd x of each item x, from any state that has come since H -/
def KeyAt (X : Cx) (A : Around) (σ : L2.St) (f : Addr) (H : Hp) (xs : List V) (kd : V → PyData) : Prop :=
  ∀ (pins : List (Addr × Obj)) (H' : Hp) (s : Shared) (x : V) (u : Value), Inv X pins σ H' s → Same H H' → x ∈ xs → RelV x u →
    wpAny (model X.prog X.w) A (call (.ref f) [u]) (EP X pins σ fun v H2 => Dp X.K H2 v (kd x) ∧ Same H' H2) (fun _ _ => False) s
theorem pin_get {X : Cx} {pins : List (Addr × Obj)} {σ : L2.St} {H : Hp} {s : Shared} {h : Heap} {fp : List Addr} (I : Inv X (pins ++ pinsAt fp h) σ H s) {b : Addr} {o : Obj} (hb : b ∈ fp) (e : h.get? b = some o) : s.heap.get? b = some o ∧ H b = none := by
  have q := I.pin (b, o) (List.mem_append_right _ (List.mem_append_right _ (mem_pinsAt hb e)))
  exact ⟨q.1, q.2.1⟩
theorem vals_at : ∀ {xs : List V} {us : List Value} {i : Nat} {u : Value}, Vals xs us → us[i]? = some u → ∃ x, xs[i]? = some x ∧ RelV x u
  | _, _, _, _, .nil, e => by simp at e
  | _, _, 0, _, .cons r _, e => ⟨_, rfl, Option.some.inj e ▸ r⟩
  | _, _, i + 1, _, .cons _ t, e => vals_at (i := i) t e
theorem each_vals {xs : List V} {us : List Value} (r : Vals xs us) : PySem.W.EachIs (fun u x => RelV x u) us xs := by
  induction r with
  | nil => exact .nil
  | cons h _ ih => exact .cons h ih
theorem vals_each {xs : List V} {us : List Value} (r : PySem.W.EachIs (fun u x => RelV x u) us xs) : Vals xs us := by
  induction r with
  | nil => exact .nil
  | cons h _ ih => exact .cons h ih
/-! ### list.sort(key=f) over a list of our own -/
section
variable {X : Cx} {A : Around} {pins : List (Addr × Obj)} {σ : L2.St} {H : Hp} {a kS f : Addr} {xs : List V} {kd : V → PyData} {e1 : Nat}
theorem fp_from {H' : Hp} {b : Addr} (h : FpOk X pins H b) (n : H' b = none) : FpOk X pins H' b := ⟨n, h.2⟩
/-- while the keys are made: the list is empty, the keys so far are kept beside -/
structure Making (X : Cx) (pins : List (Addr × Obj)) (σ : L2.St) (H : Hp) (a kS : Addr) (e1 : Nat) (ds : List PyData) (H' : Hp) (ks : Array Value) (e : Nat) (s : Shared) : Prop where
  inv : Inv X pins σ H' s
  same : Same H H'
  na : H' a = none
  nk : H' kS = none
  la : s.heap.get? a = some (seqObj "list" #[] e1)
  lk : s.heap.get? kS = some (seqObj "list" ks e)
  ok : KeysOk X.K H' ks.toList ds
theorem seq_nocell {t : String} {vs : Array Value} {n : Nat} : ∀ v, (seqObj t vs n).data ≠ .cell v := fun v z => by cases z
theorem Making.call {ds : List PyData} {H' : Hp} {ks : Array Value} {e : Nat} {s : Shared} {x : V} {u : Value} (M : Making X pins σ H a kS e1 ds H' ks e s) (fa : FpOk X pins H a) (fk : FpOk X pins H kS) (hK : KeyAt X A σ f H xs kd) (hx : x ∈ xs) (r : RelV x u) :
    wpAny (model X.prog X.w) A (call (.ref f) [u]) (fun w s2 => ∃ H2 v, Making X pins σ H a kS e1 ds H2 ks e s2 ∧ RelV v w ∧ Dp X.K H2 v (kd x)) (fun _ _ => False) s := by
  have J : Inv X (pins ++ pinsAt [a, kS] s.heap) σ H' s := M.inv.pinned (fun b hb => ?_) fun b hb => ?_
  · refine wpAny_mono (hK _ H' s x u J M.same hx r) (fun w s2 ⟨v, H2, I2, rv, dv, sm⟩ => ?_) fun _ _ z => z
    obtain ⟨ga, ha⟩ := pin_get I2 (List.Mem.head _) M.la
    obtain ⟨gk, hk⟩ := pin_get I2 (List.Mem.tail _ (List.Mem.head _)) M.lk
    exact ⟨H2, v, ⟨I2.unpinned, M.same.trans sm, ha, hk, ga, gk, M.ok.up sm⟩, rv, dv⟩
  · rcases List.mem_cons.mp hb with rfl | hb
    · exact fp_from fa M.na
    · rw [List.mem_singleton.mp hb]
      exact fp_from fk M.nk
  · rcases List.mem_cons.mp hb with rfl | hb
    · exact ⟨_, M.la, seq_nocell⟩
    · rw [List.mem_singleton.mp hb]
      exact ⟨_, M.lk, seq_nocell⟩
theorem Making.push {ds : List PyData} {H' : Hp} {ks : Array Value} {e : Nat} {s : Shared} {w : Value} {v : V} {d : PyData} (M : Making X pins σ H a kS e1 ds H' ks e s) (fk : FpOk X pins H kS) (hka : kS ≠ a) (rv : RelV v w) (dv : Dp X.K H' v d) :
    ∃ e', Making X pins σ H a kS e1 (ds ++ [d]) H' (ks.push w) e' { s with heap := s.heap.update kS (Obj.mapSeq (·.push w)) } := by
  have apart := Heap.SameBut.update s.heap kS (Obj.mapSeq (·.push w))
  refine ⟨_, M.inv.turned (t' := s.toks) (it := kS) (fun b o hb z => (apart.2 b hb).trans z) M.nk fk.2.1 fk.2.2.2.1 fk.2.2.2.2.1 fk.2.2.2.2.2, M.same, M.na, M.nk, (apart.2 a hka.symm).trans M.la, get?_update_seq M.lk (·.push w), ?_⟩
  rw [Array.toList_push]
  exact M.ok.more rv dv
/-- the sort over: the list holds what mergeSort makes -/
theorem Making.fin {H' : Hp} {ks : Array Value} {e : Nat} {s : Shared} {us : List Value} (M : Making X pins σ H a kS e1 (xs.map kd) H' ks e s) (fa : FpOk X pins H a) (fk : FpOk X pins H kS) (hka : kS ≠ a) (r : Vals xs us) (hz : us.length ≤ sizeLine)
    (hal : PySem.W.AllAlike (xs.map kd)) (hsk : PySem.W.Sortable (xs.map kd)) (hu : ∀ x ∈ xs, A.units + (kd x).depth < cLine) :
    wpAny (model X.prog X.w) A (ksk_end a false us.toArray e1 (.ref kS) ks) (fun fl s' => fl = .done (.ret .none) ∧ ∃ H2, Inv X pins σ (upd H2 a (.lst (xs.mergeSort (PySem.W.dataLe false kd)))) s' ∧ Same H H2 ∧ H2 a = none) (fun _ _ => False) s := by
  have E := M.ok.each M.inv
  have S := PySem.W.SortsAt.data (prog := X.prog) (w := X.w) (A := A) (s := s) E hal hsk (PySem.W.bound_map hu)
  have hs : ks.size = us.length := by
    rw [← Array.length_toList, M.ok.size, List.length_map, r.length]
  refine PySem.W.keyH_end (h₁ := PySem.W.hideAll s.heap [kS]) (fun b o _ z => PySem.W.of_hideAll _ z) (PySem.W.hideAll_none _ (List.Mem.head _)) M.lk M.la hka S hs hz fun h3 tk c kp g3 => ⟨rfl, H', ?_, M.same, M.na⟩
  have hid : ∀ b o, (PySem.W.hideAll s.heap [kS, a]).get? b = some o → h3.get? b = some o := fun b o z => by
    have ne : b ∉ [kS, a] := fun m => by
      rw [PySem.W.hideAll_none _ m] at z
      cases z
    have q := PySem.W.of_hideAll _ z
    refine kp b o (fun m => ne (by rw [m]; exact List.Mem.tail _ (List.Mem.head _))) (PySem.W.hideAll_get _ q fun m => ne ?_)
    rw [List.mem_singleton.mp m]
    exact List.Mem.head _
  have J : Inv X pins σ H' { s with heap := PySem.W.hideAll s.heap [kS, a], toks := s.toks } := M.inv.turnedL (ch := [kS, a]) (fun b o m z => PySem.W.hideAll_get _ z m) fun b hb => by
    rcases List.mem_cons.mp hb with rfl | hb
    · exact fp_from fk M.nk
    · rw [List.mem_singleton.mp hb]
      exact fp_from fa M.na
  have out := PySem.W.keyedOut_each (R := fun u x => RelV x u) (rev := false) kd ⟨s.heap, ks.toList, hal, rfl, E⟩ (each_vals r)
  have ro := vals_each out
  refine J.laidN (t' := tk) hid (PySem.W.hideAll_none _ (List.Mem.tail _ (List.Mem.head _))) M.na ⟨?_, _, c, ro, g3⟩
  rw [List.length_mergeSort, r.length]
  exact hz
theorem sortK_run {s : Shared} {us : List Value} {n : Nat} (I : Inv X pins σ H s) (ho : s.heap.get? a = some (seqObj "list" us.toArray n)) (fa : FpOk X pins H a) (r : Vals xs us) (hz : us.length ≤ sizeLine)
    (hal : PySem.W.AllAlike (xs.map kd)) (hsk : PySem.W.Sortable (xs.map kd)) (hu : ∀ x ∈ xs, A.units + (kd x).depth < cLine) (hK : KeyAt X A σ f H xs kd) :
    wpAny (model X.prog X.w) A (ksk_tree a (.ref f) false) (fun fl s' => fl = .done (.ret .none) ∧ ∃ H2, Inv X pins σ (upd H2 a (.lst (xs.mergeSort (PySem.W.dataLe false kd)))) s' ∧ Same H H2 ∧ H2 a = none) (fun _ _ => False) s := by
  have emp := Heap.SameBut.update s.heap a (Obj.mapSeq fun _ => (#[] : Array Value))
  have I1 : Inv X pins σ H { s with heap := s.heap.update a (Obj.mapSeq fun _ => #[]), toks := s.toks } := I.turned (it := a) (fun b o hb z => (emp.2 b hb).trans z) fa.1 fa.2.1 fa.2.2.2.1 fa.2.2.2.2.1 fa.2.2.2.2.2
  have g1 : ∃ e1, (s.heap.update a (Obj.mapSeq fun _ => #[])).get? a = some (seqObj "list" #[] e1) := ⟨_, get?_update_seq ho fun _ => #[]⟩
  obtain ⟨e1, g1⟩ := g1
  unfold ksk_tree
  refine wpAny_bind (listItems_at ho rfl ?_)
  refine wpAny_bind (listUpdate_at ho rfl ?_ (by rw [List.size_toArray]; exact hz) (Nat.zero_le _))
  refine wpAny_bind (seqEpoch_at g1 rfl ?_)
  refine wpAny_bind (wpAny_newTuple ?_ (by show us.length ≤ _; exact hz))
  refine wpAny_bind (wpAny_newList ?_ (Nat.zero_le _))
  refine wpAny_holding ?_
  generalize ehe : (s.heap.update a (Obj.mapSeq fun _ => #[])).push (seqObj "tuple" us.toArray 0) = h2
  have up : ∀ b o, (s.heap.update a (Obj.mapSeq fun _ => #[])).get? b = some o → (h2.push (seqObj "list" #[] 0)).get? b = some o := fun b o z => by
    rw [← ehe]
    exact Heap.get?_push_of_some _ (Heap.get?_push_of_some _ z)
  have I2 : Inv X pins σ H { s with heap := h2.push (seqObj "list" #[] 0), toks := s.toks } := I1.kept up
  have big : (s.heap.update a (Obj.mapSeq fun _ => #[])).objs.size ≤ h2.objs.size := by
    rw [← ehe, size_push']
    exact Nat.le_succ _
  have gk : (h2.push (seqObj "list" #[] 0)).get? h2.objs.size = some (seqObj "list" #[] 0) := Heap.get?_push_size _ rfl
  generalize ek : h2.objs.size = kS at gk big
  have fk : FpOk X pins H kS := I1.fpOk big (I1.hok.fresh big)
  have hka : kS ≠ a := fun z => by
    rw [z] at big
    exact absurd (Nat.lt_of_lt_of_le (Heap.lt_size g1) big) (Nat.lt_irrefl _)
  unfold ksk_rest
  refine wpAny_bind (wpAny_rule ?_)
  first
    | rw [List.forIn_toArray]
    | (rw [← Array.forIn_toList]; simp only [List.toList_toArray])
    | rw [← Array.forIn_toList]
  refine wpAny_bind (ksk_fold (fun i s' => ∃ H' ks e, Making X pins σ H a kS e1 ((xs.map kd).take i) H' ks e s') us 0 _ ⟨H, #[], 0, I2, fun _ _ z => z, fa.1, fk.1, up _ _ g1, gk, .nil⟩ (fun j u s' hu' ⟨H', ks, e, M⟩ => ?_) fun s' ⟨H', ks, e, M⟩ => ?_)
  · rw [Nat.zero_add] at M ⊢
    obtain ⟨x, hx, rx⟩ := vals_at r hu'
    have len := M.ok.size
    rw [List.length_take, List.length_map, Array.length_toList] at len
    have lt : j < xs.length := (List.getElem?_eq_some_iff.mp hx).1
    have few : ks.size ≤ sizeLine := by
      rw [r.length] at lt
      omega
    refine wpAny_bind (wpAny_attempt (wpAny_mono (M.call fa fk hK (List.mem_of_getElem? hx) rx) (fun w s2 ⟨H2, v, M2, rv, dv⟩ => ?_) fun _ _ z => z.elim))
    refine wpAny_bind (listUpdate_at M2.lk rfl ?_ few (Nat.le_trans (Nat.le_of_eq (Array.size_push ..)) (Nat.succ_le_succ few)))
    obtain ⟨e', M3⟩ := M2.push fk hka rv dv
    refine wpAny_pure ⟨rfl, H2, ks.push w, e', ?_⟩
    rw [List.take_add_one, List.getElem?_map, hx]
    exact M3
  · rw [Nat.zero_add, List.take_of_length_le (by rw [List.length_map, r.length]; exact Nat.le_refl _)] at M
    refine wpAny_bind (listItems_at M.lk rfl ?_)
    exact M.fin fa fk hka r hz hal hsk hu
end
/-! ### sorted(.., key=f) -/
section
variable {X : Cx} {pins : List (Addr × Obj)} {σ : L2.St} {H : Hp} {f : Addr} {xs : List V} {kd : V → PyData} {Q : VK}
/-- sorted's own list.sort over a new list of the items -/
theorem sortedK_end {s : Shared} {us : List Value} (I : Inv X pins σ H s) (r : Vals xs us) (hz : us.length ≤ sizeLine) (hal : PySem.W.AllAlike (xs.map kd)) (hsk : PySem.W.Sortable (xs.map kd)) (hu : ∀ x ∈ xs, X.A.in1.in1.units + (kd x).depth < cLine)
    (hK : KeyAt X X.A.in1.in1 σ f H xs kd) (q : ∀ H' p, Same H H' → H' p = none → Q (.ref p) (upd H' p (.lst (xs.mergeSort (PySem.W.dataLe false kd))))) :
    wpAny (model X.prog X.w) X.A.in1 (do let l ← newList us; let _ ← holding [l] (call (.builtin "list.sort") [l] [(Str.ofString "key", .ref f)]); PySem.ret l) (fun fl s' => ∃ u, fl = PySem.Fin.done (.ret u) ∧ EP X pins σ Q u s') X.xe s := by
  refine wpAny_bind (wpAny_newList ?_ hz)
  have I1 : Inv X pins σ H { s with heap := s.heap.push (seqObj "list" us.toArray 0), toks := s.toks } := I.kept fun _ _ e => Heap.get?_push_of_some _ e
  have g : (s.heap.push (seqObj "list" us.toArray 0)).get? s.heap.objs.size = some (seqObj "list" us.toArray 0) := Heap.get?_push_size _ rfl
  have fa : FpOk X pins H s.heap.objs.size := I.fpOk (Nat.le_refl _) (I.hok.fresh (Nat.le_refl _))
  refine wpAny_bind (wpAny_holding (wpAny_call_entry_kw slot_list_sort ⟨_, g, rfl⟩ entry_list_sort ?_ (ksk_l1 _ _)))
  have t : Builtin.«list.sort» ⟨[.ref s.heap.objs.size], [(Str.ofString "key", .ref f)]⟩ = ksk_tree s.heap.objs.size (.ref f) false := ksk_t1 _ _
  rw [t]
  refine wpAny_mono (sortK_run I1 g fa r hz hal hsk hu hK) (fun fl s' ⟨e, H2, J, sm, n⟩ => ?_) fun _ _ z => z.elim
  subst e
  exact ⟨.none, rfl, wpAny_pure ⟨_, rfl, .ref s.heap.objs.size, _, J, rfl, q H2 _ sm n⟩⟩
/-- what sorted(.., key=f) wants and gives -/
def rSortK (X : Cx) (σ : L2.St) (f : Addr) (xs : List V) (kd : V → PyData) : Hp → VK → Prop := fun H Q => xs.length ≤ 1000 ∧ PySem.W.AllAlike (xs.map kd) ∧ PySem.W.Sortable (xs.map kd) ∧ (∀ x ∈ xs, (kd x).depth < 60) ∧ KeyAt X X.A.in1.in1 σ f H xs kd ∧
  ∀ H' p, Same H H' → H' p = none → Q (.ref p) (upd H' p (.lst (xs.mergeSort (PySem.W.dataLe false kd))))
/-- sorted(range(a, b), key=f), sorted(xs, key=f) of a list -/
theorem sortedK_call {s : Shared} {a : Addr} (hc : X.calm = true) (hx : X.A.in1.in1.units + 64 < cLine) (I : Inv X pins σ H s) (src : (∃ lo hi, H a = some (.rng lo hi) ∧ RgOk lo hi ∧ xs = rgV lo hi) ∨ SqL X.K H a xs) (h : rSortK X σ f xs kd H Q) :
    wpAny (model X.prog X.w) X.A (call (.builtin "sorted") [.ref a] [(Str.ofString "key", .ref f)]) (EP X pins σ Q) X.xe s := by
  obtain ⟨few, hal, hsk, hd, hK, q⟩ := h
  have hu : ∀ x ∈ xs, X.A.in1.in1.units + (kd x).depth < cLine := fun x m => by
    have := hd x m
    omega
  refine call_function_entry_kw kind_sorted plain_sorted entry_sorted (ksk_s1 _ _) ?_
  unfold Builtin.«sorted»
  refine wpAny_bind (m := checkCount "sorted" 1 1 _) (wpAny_pure ?_)
  rcases src with ⟨lo, hi, ha, ⟨b1, b2, b3, b4, b5⟩, rfl⟩ | hs
  · obtain ⟨t, u, v, ho⟩ := I.hok _ _ ha
    refine wpAny_bind (collect_range (n := (hi - lo).toNat) (I.ok.hd hc) ho (small_one b1 b2 b3 b4) (rangeSize_nat lo hi) b5 fun h' tk acc hk hi' => ?_)
    have r := vals_rg hi'
    exact sortedK_end (I.kept hk) r (by rw [← r.length, sizeLine_eq]; omega) hal hsk hu hK q
  · obtain ⟨its, rv, hl, hz⟩ := I.list hs
    have few' : its.length ≤ sizeLine := by
      rw [← rv.length]
      exact hz
    refine wpAny_bind (collect_list hl.isList ?_ few')
    refine sortedK_end (s := { s with heap := _, toks := s.toks }) (I.kept fun b o e => ?_) rv few' hal hsk hu hK q
    have ne : b ≠ s.heap.objs.size := Nat.ne_of_lt (Heap.lt_size e)
    rw [Heap.get?_update_ne _ _ _ _ ne]
    exact Heap.get?_push_of_some _ e
/-- sorted(e, key=k) -/
def tSortK (X : Cx) (te tk : TE) : TE := fun σ H Q => te σ H fun x H1 => ∃ a, x = .ref a ∧ tk σ H1 fun y H2 => ∃ f xs kd, y = .ref f ∧ ((∃ lo hi, H2 a = some (.rng lo hi) ∧ RgOk lo hi ∧ xs = rgV lo hi) ∨ SqL X.K H2 a xs) ∧ rSortK X σ f xs kd H2 Q
theorem pe_sortK {e k : Expr} {te tk : TE} {p pos kp : Pos} (hc : X.calm = true) (hu : X.A.in1.in1.units + 64 < cLine) (hg : Gl X "sorted") (hm : X.mg "sorted" = none) (he : PE X e te) (hk : PE X k tk)
    (he'' : starEach [e] X.env = (false, eval e X.env) :: starEach [] X.env := by rfl) (he' : backTo pos (starEach [e] X.env) = (false, eval e X.env) :: backTo pos (starEach [] X.env) := by rfl) (hpl : (backTo pos (starEach [e] X.env)).any (·.1) = false := by rfl)
    (hall : (backToKw pos (keywordEach [⟨some (Str.ofString "key"), k, kp⟩] X.env)).all (·.1.isSome) = true := by rfl) (hnone : (backToKw pos (keywordEach [⟨some (Str.ofString "key"), k, kp⟩] X.env)).any (·.1.isNone) = false := by rfl)
    (hks : (backToKw pos (keywordEach [⟨some (Str.ofString "key"), k, kp⟩] X.env)).filterMap (·.1) = [Str.ofString "key"] := by rfl) :
    PE X (.Call (.Name "sorted" p) [e] [⟨some (Str.ofString "key"), k, kp⟩] pos) (tSortK X te tk) := by
  refine ⟨fun pins s σ H Q I h => ?_⟩
  refine wpAny_Call_Name_kw (ld_blt I hg hm boot_sorted ?_)
  refine PyProof.Rows.callWith_kw (args_cons (thn (he.run pins s σ H _ I h) fun u s1 ⟨x, H1, I1, r1, a, e1, q1⟩ => args_nil ?_) he'') he' hpl hall hnone
  subst e1
  obtain rfl : u = Value.ref a := r1
  rw [hks]
  refine kwAll_cons (thn (hk.run pins s1 σ H1 _ I1 q1) fun w s2 ⟨y, H2, I2, r2, f, xs, kd, e2, src, q2⟩ => kwAll_nil ?_)
  subst e2
  obtain rfl : w = Value.ref f := r2
  exact sortedK_call hc hu I2 src q2
end
/-- a lambda of the def as a key -/
theorem keyAt_lam {X : Cx} {σ : L2.St} {H : Hp} {f : Addr} {F : LF} {x : Str} {fr : List Str} {k j : Nat} {ws : List (Option V)} {xs : List V} {kd : V → PyData} {sp : List (Option V) → Sp} (Fn : LOk X.prog X.w X.K X.mg X.base CX0 k f F [x] fr sp) (hr : Room j X.A) (hj : k + 2 ≤ j)
    (lf : H f = some (FnL f F)) (lc : H F.c = some (LamX.CodeO F.c F.qual)) (C : ∀ pins H' s, Inv X pins σ H' s → NdefX.CellsAt F.cl fr ws s.heap H') (h : ∀ H' y, Same H H' → y ∈ xs → sp ws [y] H' (fun v H2 => Dp X.K H2 v (kd y) ∧ Same H' H2) (fun _ _ _ => True)) :
    KeyAt X X.A.in1.in1 σ f H xs kd := by
  intro pins H' s y u I sm hy r
  have hr2 : Room (k + 2) X.A := hr.mono hj
  have e0 := I.env0
  refine wpAny_call (codeAny_mono (Fn.run X.A.in1.in1 X.stack s H' [u] [y] ws _ (fun _ _ _ => True) hr2.in1.in1 e0.in1.in1 (sm _ _ lf) (sm _ _ lc) (C pins H' s I) (.cons r .nil) (h H' y sm hy)) fun q s' hq => ?_)
  cases q with
  | error e => exact hq.elim
  | ok fl =>
    cases fl with
    | ret w => exact I.after hq
    | next => exact hq.elim
    | brk => exact hq.elim
    | cont => exact hq.elim
/-! ### ranges of one bound, tuple.count -/
theorem cr_range1 {X : Cx} : CallR X (.type "range") (fun vs H Q => ∃ i, vs = [V.int i] ∧ ∀ p, H p = none → Q (.ref p) (upd H p (.rng 0 i))) := by
  intro pins s σ H vs us Q I r h
  obtain ⟨i, rfl, q⟩ := h
  obtain ⟨u, rfl, t, rfl⟩ := vals1 r
  exact call_range_1 ⟨.ref s.heap.objs.size, upd H s.heap.objs.size (.rng 0 i), I.laid (t' := s.toks + 1 + 1) (fun b o e => Heap.get?_push_of_some _ e) (Nat.le_refl _) ⟨s.toks, t, s.toks + 1, Heap.get?_push_size _ rfl⟩, rfl, q _ (I.hok.fresh (Nat.le_refl _))⟩
end RH
set_option Elab.async false
set_option linter.all false
set_option maxRecDepth 100000
set_option maxHeartbeats 2000000
/-! t[::-1] of a tuple; list(range(a, b, -1)). -/
namespace RH
open PySem PySem.Spec PyProof.Rows L2
section
variable {prog : Program} {w : World} {A : Around} {E : Value → Shared → Prop} {s : Shared}
theorem back_places (n : Nat) : Builtin.Slice.slicePlaces ((n : Int) - 1) (-1) (-1) = n := by
  unfold Builtin.Slice.slicePlaces
  rw [if_neg (by decide)]
  by_cases h : (n : Int) - 1 > -1
  · rw [if_pos h]
    have e : ((n : Int) - 1 - -1 - 1) / - -1 = (n : Int) - 1 := by
      rw [show - -1 = (1 : Int) from rfl, Int.ediv_one]
      omega
    rw [e]
    omega
  · rw [if_neg h]
    have : n = 0 := by omega
    subst this
    rfl
theorem back_pick (xs : Array Value) : ((List.range xs.size).filterMap fun k : Nat => xs[((xs.size : Int) - 1 + (k : Int) * -1).toNat]?).toArray = xs.toList.reverse.toArray := by
  refine congrArg List.toArray ?_
  have e : ∀ k ∈ List.range xs.size, xs[((xs.size : Int) - 1 + (k : Int) * -1).toNat]? = some (xs.toList.reverse.getD k .none) := fun k hk => by
    have hk := List.mem_range.mp hk
    rw [show ((xs.size : Int) - 1 + (k : Int) * -1).toNat = xs.size - 1 - k by omega, List.getD_eq_getElem?_getD, List.getElem?_reverse (by rw [Array.length_toList]; exact hk), Array.length_toList, Array.getElem?_toList, Array.getElem?_eq_getElem (by omega)]
    rfl
  have e2 : ∀ l : List Nat, (∀ k ∈ l, xs[((xs.size : Int) - 1 + (k : Int) * -1).toNat]? = some (xs.toList.reverse.getD k .none)) → l.filterMap (fun k : Nat => xs[((xs.size : Int) - 1 + (k : Int) * -1).toNat]?) = l.map fun k => xs.toList.reverse.getD k .none := fun l h => by
    induction l with
    | nil => rfl
    | cons k l ih => rw [List.filterMap_cons, h k (List.mem_cons_self ..), List.map_cons, ih fun j hj => h j (List.mem_cons_of_mem _ hj)]
  rw [e2 _ e]
  refine List.ext_getElem (by rw [List.length_map, List.length_range, List.length_reverse, Array.length_toList]) fun i h1 h2 => ?_
  rw [List.getElem_map, List.getElem_range, List.getD_eq_getElem?_getD, List.getElem?_eq_getElem h2]
  rfl
/-- what a slice with the step -1 alone comes to -/
theorem back_applied {sl : Addr} {n : Nat} {t : Tok} {Q : Int × Int × Nat → Shared → Prop} (hs : s.heap.IsSliceOf sl .none .none (.int (-1) t)) (h : Q ((n : Int) - 1, -1, n) s) : wpAny (model prog w) A (Builtin.Slice.sliceApplied (.ref sl) (pure (n : Int))) Q E s := by
  obtain ⟨os, hos, hcs, hds⟩ := id hs
  unfold Builtin.Slice.sliceApplied Builtin.Slice.sliceFields
  refine wpAny_bind (wpAny_bind (wpAny_field hos hds (x := .none) rfl (wpAny_bind (wpAny_field hos hds (x := .none) rfl (wpAny_bind (wpAny_field hos hds (x := .int (-1) t) rfl (wpAny_pure ?_)))))))
  refine wpAny_bind (HT.slicePart_ (.int (-1) t) ?_)
  show wpAny _ _ (if ((-1 : Int) == 0) = true then _ else _) _ _ s
  rw [if_neg (by decide)]
  refine wpAny_bind (HT.slicePart_ .none (wpAny_bind (HT.slicePart_ .none (wpAny_bind (wpAny_pure ?_)))))
  have e : Builtin.Slice.sliceAdjust none none (-1) (n : Int) = ((n : Int) - 1, -1) := rfl
  show wpAny _ _ (match Builtin.Slice.sliceAdjust none none (-1) (n : Int) with | (lo, hi) => pure (lo, (-1 : Int), Builtin.Slice.slicePlaces lo hi (-1))) _ _ s
  rw [e]
  show wpAny _ _ (pure ((n : Int) - 1, (-1 : Int), Builtin.Slice.slicePlaces ((n : Int) - 1) (-1) (-1))) _ _ s
  rw [back_places]
  exact wpAny_pure h
theorem item_back {t sl : Addr} {tk : Tok} {its : List Value} {Q : Value → Shared → Prop} (ht : IsTup s.heap t its.toArray) (hs : s.heap.IsSliceOf sl .none .none (.int (-1) tk)) (hz : its.length ≤ sizeLine)
    (h : Q (.ref s.heap.objs.size) { s with heap := s.heap.push { cls := .type "tuple", data := .seq its.reverse.toArray } }) : wpAny (model prog w) A (getItem (.ref t) (.ref sl)) Q E s := by
  obtain ⟨os, hos, hcs, hds⟩ := id hs
  have hTs : s.TypeIs (.ref sl) "slice" := ⟨os, hos, hcs⟩
  have room : sizeOk (.seq its.reverse.toArray) := by
    show its.reverse.toArray.size ≤ sizeLine
    rw [List.size_toArray, List.length_reverse]
    exact hz
  unfold getItem
  try with_reducible refine wpAny_holding ?_
  first | refine wpAny_bind (wpAny_pure ?_) | skip
  refine wpAny_bind (wpAny_sequenceKey ht.typeIs (by decide) ?_)
  refine wpAny_bind (wpAny_callSpecial?_slot (name := Str.ofString "__getitem__") ht.typeIs PyProof.Rows.slot_tuple_getitem
    (wpAny_call_entry PyProof.Rows.slot_tuple_getitem ht.typeIs entry_tuple_getitem ?_ (args_tuple_getitem _ _)))
  show wpAny _ _ (Builtin.Tuple.tupleItemsOf (.ref t) >>= _) _ _ s
  refine wpAny_bind (tupleItemsOf_ ht ?_)
  refine wpAny_bind (wpAny_typeOf hTs ?_)
  rw [if_pos (by decide)]
  refine wpAny_bind (back_applied hs ?_)
  have hno : ¬ (((its.toArray.size : Int) - 1 == 0 && (-1 : Int) == 1 && its.toArray.size == its.toArray.size) = true) := by
    rw [show ((-1 : Int) == 1) = false from rfl, Bool.and_false, Bool.false_and]
    exact Bool.false_ne_true
  show wpAny _ _ (if ((its.toArray.size : Int) - 1 == 0 && (-1 : Int) == 1 && its.toArray.size == its.toArray.size) = true then _ else _) _ _ s
  rw [if_neg hno, back_pick, List.toList_toArray]
  first
    | exact wpAny_bind (m := Builtin.Tuple.tupleExact _) (wpAny_newObj_type (wpAny_pure ⟨_, rfl, wpAny_pure h⟩) room)
    | exact wpAny_bind (m := Builtin.Tuple.tupleExact _) (wpAny_newObj_type (wpAny_bind (wpAny_pure (wpAny_pure ⟨_, rfl, wpAny_pure h⟩))) room)
    | exact wpAny_bind (wpAny_bind (m := Builtin.Tuple.tupleExact _) (wpAny_newObj_type (wpAny_pure (wpAny_pure ⟨_, rfl, wpAny_pure h⟩)) room))
    | exact wpAny_bind (wpAny_bind (m := Builtin.Tuple.tupleExact _) (wpAny_newObj_type (wpAny_pure ⟨_, rfl, wpAny_pure h⟩) room))
end
/-- t[::-1] -/
def tBack (K : PySem.W.Frag) (te : TE) : TE := fun σ H Q => te σ H fun x H1 => ∃ a xs, x = .ref a ∧ SqT K H1 a xs ∧ ∀ p, H1 p = none → Q (.ref p) (upd H1 p (.tup xs.reverse))
section
variable {X : Cx}
theorem pe_back {e : Expr} {te : TE} {k : Nat} {p1 p2 p3 pos : Pos} (K : PySem.W.Frag) (he : PE X e te) (hK : X.K = K := by rfl) : PE X (.Subscript e (.Slice none none (some (.UnaryOp .USub (.Constant (.int 1) k p1) p2)) p3) pos) (tBack K te) := by
  subst hK
  have step : PO X (some (.UnaryOp .USub (.Constant (.int 1) k p1) p2)) (tPart (tUn (rU fun i => .int (-i)) (tC (.int 1)))) := po_some (pe_un un_neg pe_int)
  refine ⟨fun pins s σ H Q I h => Subscript_ (thn (he.run pins s σ H _ I h) fun v s1 ⟨x, H1, I1, r1, a, xs, ex, hx, q⟩ => ?_)⟩
  subst ex
  obtain rfl : v = Value.ref a := r1
  refine wpAny_Slice (thn (po_none.run pins s1 σ H1 (fun o H2 => o = none ∧ H2 = H1) I1 ⟨rfl, rfl⟩) fun vl s2 ⟨l, H2, I2, pl, el, e2⟩ => ?_)
  subst el e2
  refine thn (po_none.run pins s2 σ H2 (fun o H3 => o = none ∧ H3 = H2) I2 ⟨rfl, rfl⟩) fun vu s3 ⟨u, H3, I3, pu, eu, e3⟩ => ?_
  subst eu e3
  refine thn (step.run pins s3 σ H3 (fun o H4 => o = some (-1) ∧ H4 = H3) I3 ⟨1, rfl, -1, rfl, rfl, rfl⟩) fun vs s4 ⟨o, H4, I4, ps, eo, e4⟩ => ?_
  subst eo e4
  cases pl
  cases pu
  cases ps with
  | int _ tk =>
    have I5 : Inv X pins σ H4 { s4 with heap := s4.heap.push { cls := .type "slice", data := .fields #[.none, .none, .int (-1) tk] } } := I4.kept (t' := s4.toks) fun b ob q => Heap.get?_push_of_some _ q
    obtain ⟨its, r, ht, hz⟩ := I5.tuple hx
    show wpAny (model X.prog X.w) X.A (subscriptTail e (.Slice none none (some (.UnaryOp .USub (.Constant (.int 1) k p1) p2)) p3) (.ref a) (.ref s4.heap.objs.size)) (EP X pins σ Q) X.xe { s4 with heap := s4.heap.push { cls := .type "slice", data := .fields #[.none, .none, .int (-1) tk] } }
    refine tail_any (ops := [.ref a, .ref s4.heap.objs.size]) ht.typeIs PyProof.Rows.slot_tuple_getitem.lookup ?_ (by with_unfolding_all rfl)
    refine item_back ht (Heap.IsSliceOf.new _ _ _ _) (by rw [← r.length]; exact hz) ?_
    refine ⟨.ref _, _, I5.laid (t' := s4.toks) (o := .tup xs.reverse) (fun b ob q => Heap.get?_push_of_some _ q) (Nat.le_refl _) ?_, rfl, q _ (I5.hok.fresh (Nat.le_refl _))⟩
    exact ⟨by rw [List.length_reverse]; exact hz, _, r.reverse, IsTup.new _ _⟩
/-- list(range(a, b, -1)) -/
def tLDn (ta : TA) : TE := fun σ H Q => ta σ H fun vs H1 => ∃ (i j : Int), vs = [.int i, .int j, .int (-1)] ∧ 0 ≤ i ∧ i < 1000 ∧ 0 ≤ j ∧ j < 1000 ∧ ∀ q, H1 q = none → Q (.ref q) (upd H1 q (.lst ((List.range (i - j).toNat).map fun k : Nat => V.int (i - (k : Int)))))
theorem pe_listDn {a b c : Expr} {ta : TA} {p p2 pos pos2 : Pos} (hc : X.calm = true) (hg : Gl X "list") (hm : X.mg "list" = none) (hg2 : Gl X "range") (hm2 : X.mg "range" = none) (ha : PA X [a, b, c] ta)
    (na : starEach [.Call (.Name "range" p2) [a, b, c] [] pos2] X.env = (false, eval (.Call (.Name "range" p2) [a, b, c] [] pos2) X.env) :: starEach [] X.env := by rfl)
    (hs : starEach [a, b, c] X.env = (false, eval a X.env) :: starEach [b, c] X.env := by rfl) (hpl : (backTo pos2 (starEach [b, c] X.env)).any (·.1) = false := by rfl) :
    PE X (.Call (.Name "list" p) [.Call (.Name "range" p2) [a, b, c] [] pos2] [] pos) (tLDn ta) := by
  refine ⟨fun pins s σ H Q I h => ?_⟩
  have inner : wpAny (model X.prog X.w) X.A (eval (.Call (.Name "range" p2) [a, b, c] [] pos2) X.env) (fun x s' => ∃ r i j t u v H1, x = .ref r ∧ IsRange s'.heap r i j (-1) t u v ∧ Inv X pins σ H1 s' ∧ 0 ≤ i ∧ i < 1000 ∧ 0 ≤ j ∧ j < 1000 ∧ ∀ q, H1 q = none → Q (.ref q) (upd H1 q (.lst ((List.range (i - j).toNat).map fun k : Nat => V.int (i - (k : Int)))))) X.xe s := by
    refine Call_ (ld_blt I hg2 hm2 boot_range (PyProof.Rows.callWith_type1 (thn (ha.run pos2 pins s σ H _ I h) fun us s1 ⟨vs, H1, I1, r1, i, j, e, i0, i1, j0, j1, q⟩ => ?_) hs hpl))
    subst e
    cases r1 with
    | cons ra r1 =>
      cases r1 with
      | cons rb r1 =>
        cases r1 with
        | cons rc r1 =>
          cases r1
          obtain ⟨t, rfl⟩ := ra
          obtain ⟨t', rfl⟩ := rb
          obtain ⟨t'', rfl⟩ := rc
          exact call_range_3 (by decide) ⟨_, i, j, _, _, _, H1, rfl, IsRange.new _ _ _ _ _ _ _, I1.kept fun b u e => Heap.get?_push_of_some _ e, i0, i1, j0, j1, q⟩ (.inl (PyProof.noPylong_small (by decide)))
  refine Call_ (ld_blt I hg hm boot_list (PyProof.Rows.callWith_type1 (args_cons (thn inner fun x s1 ⟨r, i, j, t, u, v, H1, ex, hr, I1, i0, i1, j0, j1, q⟩ => args_nil ?_) na) na))
  subst ex
  have few : (i - j).toNat ≤ 1000 := by omega
  refine call_list_range (n := (i - j).toNat) (I1.ok.hd hc) hr (PySem.W.small_down (by omega) (by omega) (by omega) (by omega)) (PySem.W.rangeSize_downNat i j) (by omega) fun h' tk acc c' hk e' hi => ?_
  refine ⟨.ref s1.heap.objs.size, upd H1 s1.heap.objs.size (.lst ((List.range (i - j).toNat).map fun k : Nat => V.int (i - (k : Int)))), I1.laid hk (Nat.le_refl _) ⟨?_, acc.toList, c', ?_, ?_⟩, rfl, q _ (I1.hok.fresh (Nat.le_refl _))⟩
  · rw [List.length_map, List.length_range, sizeLine_eq]
    omega
  · have hl : acc.toList.length = (i - j).toNat := by rw [Array.length_toList]; exact hi.1
    rw [← hl]
    refine vals_of_get acc.toList _ fun k u hu => ?_
    obtain ⟨t, rfl⟩ := hi.2 k u (by rw [← hu, Array.getElem?_toList])
    exact ⟨t, by rw [show i + (k : Int) * -1 = i - (k : Int) by omega]⟩
  · rw [Array.toArray_toList]
    exact e'
end
end RH
set_option Elab.async false
set_option linter.all false
set_option maxRecDepth 100000
set_option maxHeartbeats 2000000
namespace RH
open PySem PySem.Spec PyProof.Rows L2
def topS (i : Nat) : Stmt := PySem.Challenge.pw_restlesshelf_k82_whole_kinds.main.body.getD i (.Pass ⟨0, 0, 0, 0⟩)
abbrev st_is_integer : Stmt := topS 10
theorem sc_is_integer : FnScope ["value"] ["value"] (defScope st_is_integer) :=
  ⟨rfl, rfl, rfl, by decide +kernel, rfl, by decide +kernel, by decide +kernel⟩
abbrev st_is_number : Stmt := topS 11
theorem sc_is_number : FnScope ["value", "low", "high"] ["value", "low", "high"] (defScope st_is_number) :=
  ⟨rfl, rfl, rfl, by decide +kernel, rfl, by decide +kernel, by decide +kernel⟩
abbrev st_is_row : Stmt := topS 12
theorem sc_is_row : FnScope ["value", "low", "high"] ["value", "low", "high"] (defScope st_is_row) :=
  ⟨rfl, rfl, rfl, by decide +kernel, rfl, by decide +kernel, by decide +kernel⟩
abbrev st_is_place : Stmt := topS 13
theorem sc_is_place : FnScope ["value", "places"] ["value", "places"] (defScope st_is_place) :=
  ⟨rfl, rfl, rfl, by decide +kernel, rfl, by decide +kernel, by decide +kernel⟩
abbrev st_are_places : Stmt := topS 14
theorem sc_are_places : FnScope ["value", "places", "place"] ["value", "places"] (defScope st_are_places) :=
  ⟨rfl, rfl, rfl, by decide +kernel, rfl, by decide +kernel, by decide +kernel⟩
abbrev st_is_layout : Stmt := topS 15
theorem sc_is_layout : FnScope ["value", "places"] ["value", "places"] (defScope st_is_layout) :=
  ⟨rfl, rfl, rfl, by decide +kernel, rfl, by decide +kernel, by decide +kernel⟩
abbrev st_is_word : Stmt := topS 16
theorem sc_is_word : FnScope ["value", "places"] ["value", "places"] (defScope st_is_word) :=
  ⟨rfl, rfl, rfl, by decide +kernel, rfl, by decide +kernel, by decide +kernel⟩
abbrev st_check_number : Stmt := topS 17
theorem sc_check_number : FnScope ["value", "low", "high"] ["value", "low", "high"] (defScope st_check_number) :=
  ⟨rfl, rfl, rfl, by decide +kernel, rfl, by decide +kernel, by decide +kernel⟩
abbrev st_check_places : Stmt := topS 18
theorem sc_check_places : FnScope ["places"] ["places"] (defScope st_check_places) :=
  ⟨rfl, rfl, rfl, by decide +kernel, rfl, by decide +kernel, by decide +kernel⟩
abbrev st_check_habit : Stmt := topS 19
theorem sc_check_habit : FnScope ["habit", "place", "moves"] ["habit"] (defScope st_check_habit) :=
  ⟨rfl, rfl, rfl, by decide +kernel, rfl, by decide +kernel, by decide +kernel⟩
abbrev st_check_layout : Stmt := topS 20
theorem sc_check_layout : FnScope ["layout", "places"] ["layout", "places"] (defScope st_check_layout) :=
  ⟨rfl, rfl, rfl, by decide +kernel, rfl, by decide +kernel, by decide +kernel⟩
abbrev st_check_row : Stmt := topS 21
theorem sc_check_row : FnScope ["row", "most"] ["row", "most"] (defScope st_check_row) :=
  ⟨rfl, rfl, rfl, by decide +kernel, rfl, by decide +kernel, by decide +kernel⟩
abbrev st_check_word : Stmt := topS 22
theorem sc_check_word : FnScope ["word", "places"] ["word", "places"] (defScope st_check_word) :=
  ⟨rfl, rfl, rfl, by decide +kernel, rfl, by decide +kernel, by decide +kernel⟩
abbrev st_inverse : Stmt := topS 24
theorem sc_inverse : FnScope ["row", "number"] ["row"] (defScope st_inverse) :=
  ⟨rfl, rfl, rfl, by decide +kernel, rfl, by decide +kernel, by decide +kernel⟩
abbrev st_pairs_crossed : Stmt := topS 25
theorem sc_pairs_crossed : FnScope ["one", "other", "crossed", "high", "low"] ["one", "other"] (defScope st_pairs_crossed) :=
  ⟨rfl, rfl, rfl, by decide +kernel, rfl, by decide +kernel, by decide +kernel⟩
abbrev st_kept_end : Stmt := topS 28
theorem sc_kept_end : FnScope ["one", "other"] ["one", "other"] (defScope st_kept_end) :=
  ⟨rfl, rfl, rfl, by decide +kernel, rfl, by decide +kernel, by decide +kernel⟩
abbrev st_front_word : Stmt := topS 29
theorem sc_front_word : FnScope ["one", "other", "books", "moved", "stood", "word", "name", "place"] ["one", "other"] (defScope st_front_word) :=
  ⟨rfl, rfl, rfl, by decide +kernel, rfl, by decide +kernel, by decide +kernel⟩
abbrev st_front_distance : Stmt := topS 30
theorem sc_front_distance : FnScope ["one", "other", "kept"] ["one", "other"] (defScope st_front_distance) :=
  ⟨rfl, rfl, rfl, by decide +kernel, rfl, by decide +kernel, by decide +kernel⟩
abbrev st_neighbour_word : Stmt := topS 31
theorem sc_neighbour_word : FnScope ["one", "other", "stood", "word", "goal", "name", "place"] ["one", "other"] (defScope st_neighbour_word) :=
  ⟨rfl, rfl, rfl, by decide +kernel, rfl, by decide +kernel, by decide +kernel⟩
abbrev st_neighbour_distance : Stmt := topS 32
theorem sc_neighbour_distance : FnScope ["one", "other"] ["one", "other"] (defScope st_neighbour_distance) :=
  ⟨rfl, rfl, rfl, by decide +kernel, rfl, by decide +kernel, by decide +kernel⟩
abbrev st_turning_word : Stmt := topS 33
theorem sc_turning_word : FnScope ["one", "other", "places", "turn", "stood"] ["one", "other"] (defScope st_turning_word) :=
  ⟨rfl, rfl, rfl, by decide +kernel, rfl, by decide +kernel, by decide +kernel⟩
abbrev st_check_two_layouts : Stmt := topS 34
theorem sc_check_two_layouts : FnScope ["one", "other"] ["one", "other"] (defScope st_check_two_layouts) :=
  ⟨rfl, rfl, rfl, by decide +kernel, rfl, by decide +kernel, by decide +kernel⟩
abbrev st_end_in_order : Stmt := topS 35
theorem sc_end_in_order : FnScope ["layout", "books", "at"] ["layout", "books"] (defScope st_end_in_order) :=
  ⟨rfl, rfl, rfl, by decide +kernel, rfl, by decide +kernel, by decide +kernel⟩
abbrev st_places_of_habit : Stmt := topS 37
theorem sc_places_of_habit : FnScope ["habit"] ["habit"] (defScope st_places_of_habit) :=
  ⟨rfl, rfl, rfl, by decide +kernel, rfl, by decide +kernel, by decide +kernel⟩
abbrev st_move : Stmt := topS 38
theorem sc_move : FnScope ["habit", "layout", "place", "moves", "stood"] ["habit", "layout", "place"] (defScope st_move) :=
  ⟨rfl, rfl, rfl, by decide +kernel, rfl, by decide +kernel, by decide +kernel⟩
abbrev st_move_along : Stmt := topS 39
theorem sc_move_along : FnScope ["habit", "layout", "word", "place"] ["habit", "layout", "word"] (defScope st_move_along) :=
  ⟨rfl, rfl, rfl, by decide +kernel, rfl, by decide +kernel, by decide +kernel⟩
abbrev st_traced : Stmt := topS 40
theorem sc_traced : FnScope ["came", "state", "word", "place"] ["came", "state"] (defScope st_traced) :=
  ⟨rfl, rfl, rfl, by decide +kernel, rfl, by decide +kernel, by decide +kernel⟩
abbrev st_least_word : Stmt := topS 41
theorem sc_least_word : FnScope ["start", "touches", "step", "is_goal", "came", "level", "further", "state", "place", "new"] ["start", "touches", "step", "is_goal"] (defScope st_least_word) :=
  ⟨rfl, rfl, rfl, by decide +kernel, rfl, by decide +kernel, by decide +kernel⟩
abbrev st_word_to_layout : Stmt := topS 42
theorem sc_word_to_layout : FnScope ["habit", "one", "other"] ["habit", "one", "other"] (defScope st_word_to_layout) :=
  ⟨rfl, rfl, rfl, by decide +kernel, rfl, by decide +kernel, by decide +kernel⟩
abbrev st_after : Stmt := topS 44
theorem sc_after : FnScope ["habit", "layout", "word"] ["habit", "layout", "word"] (defScope st_after) :=
  ⟨rfl, rfl, rfl, by decide +kernel, rfl, by decide +kernel, by decide +kernel⟩
abbrev st_word_between : Stmt := topS 45
theorem sc_word_between : FnScope ["habit", "one", "other"] ["habit", "one", "other"] (defScope st_word_between) :=
  ⟨rfl, rfl, rfl, by decide +kernel, rfl, by decide +kernel, by decide +kernel⟩
abbrev st_distance : Stmt := topS 46
theorem sc_distance : FnScope ["habit", "one", "other", "word"] ["habit", "one", "other"] (defScope st_distance) :=
  ⟨rfl, rfl, rfl, by decide +kernel, rfl, by decide +kernel, by decide +kernel⟩
abbrev st_front_habit : Stmt := topS 47
theorem sc_front_habit : FnScope ["places", "place"] ["places"] (defScope st_front_habit) :=
  ⟨rfl, rfl, rfl, by decide +kernel, rfl, by decide +kernel, by decide +kernel⟩
abbrev st_front_permutation : Stmt := topS 48
theorem sc_front_permutation : FnScope ["places", "place", "books_before", "books_behind"] ["places", "place"] (defScope st_front_permutation) :=
  ⟨rfl, rfl, rfl, by decide +kernel, rfl, by decide +kernel, by decide +kernel⟩
abbrev st_neighbour_habit : Stmt := topS 49
theorem sc_neighbour_habit : FnScope ["places", "place"] ["places"] (defScope st_neighbour_habit) :=
  ⟨rfl, rfl, rfl, by decide +kernel, rfl, by decide +kernel, by decide +kernel⟩
abbrev st_neighbour_permutation : Stmt := topS 50
theorem sc_neighbour_permutation : FnScope ["places", "place", "moves"] ["places", "place"] (defScope st_neighbour_permutation) :=
  ⟨rfl, rfl, rfl, by decide +kernel, rfl, by decide +kernel, by decide +kernel⟩
abbrev st_turning_habit : Stmt := topS 51
theorem sc_turning_habit : FnScope ["places", "place", "stood"] ["places"] (defScope st_turning_habit) :=
  ⟨rfl, rfl, rfl, by decide +kernel, rfl, by decide +kernel, by decide +kernel⟩
abbrev st__law_taken : Stmt := topS 53
theorem sc__law_taken : FnScope ["row", "many", "found", "cell"] ["row", "many"] (defScope st__law_taken) :=
  ⟨rfl, rfl, rfl, by decide +kernel, rfl, by decide +kernel, by decide +kernel⟩
abbrev st__law_pick : Stmt := topS 54
theorem sc__law_pick : FnScope ["row", "things"] ["row", "things"] (defScope st__law_pick) :=
  ⟨rfl, rfl, rfl, by decide +kernel, rfl, by decide +kernel, by decide +kernel⟩
abbrev st__law_alike : Stmt := topS 55
theorem sc__law_alike : FnScope ["found", "due", "k"] ["found", "due"] (defScope st__law_alike) :=
  ⟨rfl, rfl, rfl, by decide +kernel, rfl, by decide +kernel, by decide +kernel⟩
abbrev st__law_permutation : Stmt := topS 56
theorem sc__law_permutation : FnScope ["row", "many", "left", "found", "turn"] ["row", "many"] (defScope st__law_permutation) :=
  ⟨rfl, rfl, rfl, by decide +kernel, rfl, by decide +kernel, by decide +kernel⟩
abbrev st__law_end : Stmt := topS 57
theorem sc__law_end : FnScope ["one", "other", "many", "names", "size", "end"] ["one", "other"] (defScope st__law_end) :=
  ⟨rfl, rfl, rfl, by decide +kernel, rfl, by decide +kernel, by decide +kernel⟩
abbrev st__law_goes : Stmt := topS 58
theorem sc__law_goes : FnScope ["layout", "word", "line", "place", "name"] ["layout", "word"] (defScope st__law_goes) :=
  ⟨rfl, rfl, rfl, by decide +kernel, rfl, by decide +kernel, by decide +kernel⟩
abbrev st_law : Stmt := topS 59
theorem sc_law : FnScope ["script", "row", "many", "one", "other", "kinds", "kind", "word", "far", "due", "told", "turn", "shift", "great", "near", "end", "crossed", "name", "behind", "e", "place", "later"] ["script"] (defScope st_law) :=
  ⟨rfl, rfl, rfl, by decide +kernel, rfl, by decide +kernel, by decide +kernel⟩
/-! ### what the top has written -/
/-- the def x of the text stands in the module under its name -/
structure Df (K : PySem.W.Frag) (mg : Str → Option Value) (x : Str) (st : Stmt) (ps : List Str) : Prop where
  ex : ∃ (f : Addr) (fd : FuncData), Fun K x x st f fd ∧ mg x = some (.ref f) ∧ Binds K fd ps []
/-- names of the interpreter that the module leaves alone -/
structure Bu (mg : Str → Option Value) : Prop where
  isi : mg "isinstance" = none
  int : mg "int" = none
  bool : mg "bool" = none
  str : mg "str" = none
  tuple : mg "tuple" = none
  list : mg "list" = none
  len : mg "len" = none
  all : mg "all" = none
  zip : mg "zip" = none
  range : mg "range" = none
  sorted : mg "sorted" = none
  enumerate : mg "enumerate" = none
  max : mg "max" = none
section
variable {P : Program} {w : World} {K : PySem.W.Frag} {mg : Str → Option Value} {base : Heap}
/-- a def that may be called by its name -/
structure Cal (P : Program) (w : World) (K : PySem.W.Frag) (mg : Str → Option Value) (base : Heap) (k : Nat) (x : Str) (sp : Sp) : Prop where
  ex : ∃ (f : Addr) (fd : FuncData) (ps : List Str), FnOk P w K mg base CX0 k f fd ps sp ∧ mg x = some (.ref f) ∧ PySem.W.keepIn K (.ref f) = true ∧ Binds K fd ps []
theorem mkCal {x : Str} {st : Stmt} {N ps : List Str} {k : Nat} {sp : Sp} (F : Df K mg x st ps) (S : FnScope N ps (defScope st)) (len : ∀ vs H Q E, sp vs H Q E → vs.length = ps.length)
    (hbody : ∀ (f : Addr) (cdv : Value) (A : Around) (outer : List Env) (s : Shared) (H : Hp) (vs : List V) (Q : VK) (E : XK), Room k (A.deeper (envOfC x (defScope st) s.heap.objs.size f cdv)) → sp vs H Q E →
      ∃ t, PSs (cxOf CX0 P w K mg base N x (defScope st) f cdv A outer s H E).nox (defBody st) t ∧ t { nx := fun _ H' => Q .non H', rt := Q } (start N vs) H) : Cal P w K mg base (k + 1) x sp := by
  obtain ⟨f, fd, F, g, b⟩ := F.ex
  exact ⟨f, fd, ps, F.ok S len (hbody f), g, F.kp, b⟩
theorem Cal.imp {k : Nat} {x : Str} {sp sp' : Sp} (c : Cal P w K mg base k x sp) (h : ∀ vs H Q E, sp' vs H Q E → sp vs H Q E) : Cal P w K mg base k x sp' := by
  obtain ⟨f, fd, ps, F, g, kp, b⟩ := c.ex
  exact ⟨f, fd, ps, F.imp h, g, kp, b⟩
end
theorem pc {X : Cx} {k j : Nat} {x : Str} {sp : Sp} {p pos : Pos} {e : Expr} {es : List Expr} {t : TA} (c : Cal X.prog X.w X.K X.mg X.base k x sp) (hr : Room j X.A) (ha : PA X (e :: es) t) (hk : k ≤ j := by decide) (hg : Gl X x := by rfl)
    (hdb : (x == ("__debug__" : Str)) = false := by decide) (he : starEach (e :: es) X.env = (false, eval e X.env) :: starEach es X.env := by rfl) (hpl : (backTo pos (starEach es X.env)).any (·.1) = false := by rfl) :
    PE X (.Call (.Name x p) (e :: es) [] pos) (tCall sp [] E0 t) := by
  obtain ⟨f, fd, ps, F, hm, kp, b⟩ := c.ex
  exact pe_call F (hr.mono hk) hg hm kp b .nil pass0 ha hdb he hpl
/-- a statement that is never come to -/
theorem ps_no {X : Cx} {st : Stmt} : PS X st (fun _ _ _ => False) := ⟨fun _ _ _ _ _ _ h => h.elim⟩
/-! ### heaps, tuples of ints, and of such -/
theorem same_new {H : Hp} {p : Addr} {o : HO} (h : H p = none) : Same H (upd H p o) := fun b x e => by
  rw [upd_ne (ne_of_none e h)]
  exact e
theorem seqT {K : PySem.W.Frag} {H H' : Hp} {a : Addr} {xs : List V} (e : ∀ o, H a = some o → H' a = some o) (h : SqT K H a xs) : SqT K H' a xs := by
  rcases h with (h | ⟨o, h⟩) | h
  · exact .inl (.inl (e _ h))
  · exact .inl (.inr ⟨o, e _ h⟩)
  · exact .inr h
theorem onT {K : PySem.W.Frag} {H H' : Hp} {a : Addr} {xs : List V} (e : Same H H') (h : SqT K H a xs) : SqT K H' a xs := seqT (fun o => e a o) h
theorem tupAt {K : PySem.W.Frag} {H : Hp} {a : Addr} {xs : List V} (h : H a = some (.tup xs)) : SqT K H a xs := .inl (.inl h)
theorem lstAt {K : PySem.W.Frag} {H : Hp} {a : Addr} {xs : List V} (h : H a = some (.lst xs)) : SqL K H a xs := .inl (.inl h)
/-- a tuple's type -/
theorem ty_tup {K : PySem.W.Frag} {H : Hp} {a : Addr} {xs : List V} (h : SqT K H a xs) : TyX K H (.ref a) (.type "tuple") := by
  rcases h with (h | ⟨o, h⟩) | ⟨o, its, n, h, c, _⟩
  · exact .base (.tup h)
  · exact .fTuple h
  · exact .kTuple h c
/-- each by each -/
inductive Each {α : Type} (R : V → α → Prop) : List V → List α → Prop
  | nil : Each R [] []
  | cons {v : V} {d : α} {vs : List V} {ds : List α} : R v d → Each R vs ds → Each R (v :: vs) (d :: ds)
theorem Each.len {α : Type} {R : V → α → Prop} : ∀ {vs : List V} {ds : List α}, Each R vs ds → vs.length = ds.length
  | _, _, .nil => rfl
  | _, _, .cons _ t => congrArg (· + 1) t.len
theorem Each.imp {α : Type} {R R' : V → α → Prop} (f : ∀ v d, R v d → R' v d) : ∀ {vs : List V} {ds : List α}, Each R vs ds → Each R' vs ds
  | _, _, .nil => .nil
  | _, _, .cons h t => .cons (f _ _ h) (t.imp f)
theorem Each.at {α : Type} {R : V → α → Prop} : ∀ {vs : List V} {ds : List α} {i : Nat} {v : V}, Each R vs ds → vs[i]? = some v → ∃ d, ds[i]? = some d ∧ R v d
  | _, _, _, _, .nil, e => by simp at e
  | _, _, 0, _, .cons h _, e => by
    have e' := Option.some.inj e
    subst e'
    exact ⟨_, rfl, h⟩
  | _, _, i + 1, _, .cons _ t, e => t.at (i := i) e
theorem Each.of {α : Type} {R : V → α → Prop} : ∀ {vs : List V} {ds : List α} {i : Nat} {d : α}, Each R vs ds → ds[i]? = some d → ∃ v, vs[i]? = some v ∧ R v d
  | _, _, _, _, .nil, e => by simp at e
  | _, _, 0, _, .cons h _, e => by
    have e' := Option.some.inj e
    subst e'
    exact ⟨_, rfl, h⟩
  | _, _, i + 1, _, .cons _ t, e => t.of (i := i) e
theorem Each.snoc {α : Type} {R : V → α → Prop} {v : V} {d : α} (h : R v d) : ∀ {vs : List V} {ds : List α}, Each R vs ds → Each R (vs ++ [v]) (ds ++ [d])
  | _, _, .nil => .cons h .nil
  | _, _, .cons g t => .cons g (t.snoc h)
/-- a tuple of ints -/
def TI (K : PySem.W.Frag) (H : Hp) (v : V) (ns : List Int) : Prop := ∃ a, v = .ref a ∧ SqT K H a (ns.map V.int)
/-- a tuple of such -/
def TII (K : PySem.W.Frag) (H : Hp) (v : V) (nss : List (List Int)) : Prop := ∃ a vs, v = .ref a ∧ SqT K H a vs ∧ Each (TI K H) vs nss
def THs (K : PySem.W.Frag) (H : Hp) (v : V) (hs : List (List (List Int))) : Prop := ∃ a vs, v = .ref a ∧ SqT K H a vs ∧ Each (TII K H) vs hs
/-- all tuples stand -/
def Tups (K : PySem.W.Frag) (H H' : Hp) : Prop := ∀ a xs, SqT K H a xs → SqT K H' a xs
theorem Same.tups {K : PySem.W.Frag} {H H' : Hp} (e : Same H H') : Tups K H H' := fun _ _ h => onT e h
theorem TI.on {K : PySem.W.Frag} {H H' : Hp} {v : V} {ns : List Int} (e : Tups K H H') (h : TI K H v ns) : TI K H' v ns := let ⟨a, h1, h2⟩ := h; ⟨a, h1, e _ _ h2⟩
theorem TII.on {K : PySem.W.Frag} {H H' : Hp} {v : V} {nss : List (List Int)} (e : Tups K H H') (h : TII K H v nss) : TII K H' v nss := let ⟨a, vs, h1, h2, h3⟩ := h; ⟨a, vs, h1, e _ _ h2, h3.imp fun _ _ z => z.on e⟩
theorem THs.on {K : PySem.W.Frag} {H H' : Hp} {v : V} {hs : List (List (List Int))} (e : Tups K H H') (h : THs K H v hs) : THs K H' v hs := let ⟨a, vs, h1, h2, h3⟩ := h; ⟨a, vs, h1, e _ _ h2, h3.imp fun _ _ z => z.on e⟩
theorem map_at {ns : List Int} {i : Nat} {x : V} (h : (ns.map V.int)[i]? = some x) : ∃ n, ns[i]? = some n ∧ x = .int n := by
  rw [List.getElem?_map] at h
  cases e : ns[i]? with
  | none =>
    rw [e] at h
    cases h
  | some n =>
    rw [e] at h
    exact ⟨n, rfl, (Option.some.inj h).symm⟩
theorem at_map {ns : List Int} {i : Nat} {n : Int} (h : ns[i]? = some n) : (ns.map V.int)[i]? = some (.int n) := by
  rw [List.getElem?_map, h]
  rfl
theorem all_snoc {α : Type} (f : α → Bool) {l : List α} {i : Nat} {x : α} (h : l[i]? = some x) : (l.take (i + 1)).map f = (l.take i).map f ++ [f x] := by
  rw [List.take_add_one, h, List.map_append]
  rfl
/-! ### lists of ints, compared -/
theorem dpAll_ints {K : PySem.W.Frag} {H : Hp} : ∀ ns : List Int, DpAll K H (ns.map V.int) (ns.map PyData.int)
  | [] => .nil
  | n :: ns => .cons (.int n) (dpAll_ints ns)
theorem dp_lst {K : PySem.W.Frag} {H : Hp} {a : Addr} {ns : List Int} (h : SqL K H a (ns.map V.int)) : Dp K H (.ref a) (.list (ns.map PyData.int)) := .lst h (dpAll_ints ns)
theorem dp_tup {K : PySem.W.Frag} {H : Hp} {a : Addr} {ns : List Int} (h : SqT K H a (ns.map V.int)) : Dp K H (.ref a) (.tuple (ns.map PyData.int)) := .tup h (dpAll_ints ns)
theorem eqv_lst (ns ms : List Int) : PyData.eqv (.list (ns.map PyData.int)) (.list (ms.map PyData.int)) = decide (ns = ms) := by
  rw [PyData.eqv]
  exact PySem.W.ked_eqvAll ns ms
def rg (n : Nat) : List Int := (List.range n).map fun i : Nat => (i : Int)
theorem rgV_rg (n : Nat) : rgV 0 (n : Int) = (rg n).map V.int := by
  unfold rgV rg
  rw [List.map_map, Int.sub_zero, Int.toNat_natCast]
  refine List.map_congr_left fun i _ => ?_
  show V.int (0 + (i : Int)) = V.int (i : Int)
  rw [Int.zero_add]
theorem rg_len (n : Nat) : (rg n).length = n := by
  unfold rg
  rw [List.length_map, List.length_range]
theorem rg_mem {n : Nat} {x : Int} : x ∈ rg n ↔ 0 ≤ x ∧ x < n := by
  unfold rg
  rw [List.mem_map]
  constructor
  · rintro ⟨i, h, rfl⟩
    have := List.mem_range.mp h
    omega
  · rintro ⟨h1, h2⟩
    exact ⟨x.toNat, List.mem_range.mpr (by omega), by omega⟩
theorem rg_at {n i : Nat} (h : i < n) : (rg n)[i]? = some (i : Int) := by
  unfold rg
  rw [List.getElem?_map, List.getElem?_range h]
  rfl
/-! ### walks over enumerate and zip of tuples -/
section
variable {K : PySem.W.Frag} {a b : Addr} {xs ys : List V}
theorem for_enumT {g : TG} {tb : TS} {D : Ends} {σ : L2.St} {H : Hp} (Pv : Nat → L2.St → Hp → Prop) (h0 : Pv 0 σ H) (hl : ∀ i σ H, Pv i σ H → SqT K H a xs)
    (hs : ∀ i x T σ H, xs[i]? = some x → Pv i σ H → H T = none → g (.ref T) σ (upd H T (.tup [.int (i : Nat), x])) fun σ2 H2 => tb { D with nx := Pv (i + 1), ct := Pv (i + 1), bk := D.nx } σ2 H2) (hd : ∀ σ H, Pv xs.length σ H → D.nx σ H) :
    ∃ W : Nat → Nat → L2.St → Hp → Prop, (∃ m, W 0 m σ H) ∧ ∀ i m σ H, W i m σ H →
      ((IteT K a).stop i H ∧ D.nx σ H) ∨ ((IteT K a).go i H ∧ ∃ N : L2.St → Hp → Prop, (∀ σ' H', N σ' H' → ∃ m', m' < m ∧ W (i + 1) m' σ' H') ∧ ∀ x H', (IteT K a).yld i H x H' → g x σ H' fun σ2 H2 => tb { D with nx := N, ct := N, bk := D.nx } σ2 H2) := by
  refine ⟨fun i m σ H => m = xs.length - i ∧ i ≤ xs.length ∧ Pv i σ H, ⟨xs.length, rfl, Nat.zero_le _, h0⟩, ?_⟩
  rintro i m σ H ⟨rfl, hi, p⟩
  have q := hl i σ H p
  by_cases hlt : i < xs.length
  · have hx : xs[i]? = some xs[i] := List.getElem?_eq_getElem hlt
    refine .inr ⟨⟨xs, _, q, hx⟩, Pv (i + 1), fun σ' H' p' => ⟨xs.length - (i + 1), by omega, rfl, hlt, p'⟩, fun v H' y => ?_⟩
    obtain ⟨T, x', rfl, hT, rfl, f1⟩ := y
    exact hs i x' T σ H (f1 xs q) p hT
  · have e : i = xs.length := by omega
    subst e
    exact .inl ⟨⟨xs, q, Nat.le_refl _⟩, hd σ H p⟩
end
end RH
set_option Elab.async false
set_option linter.all false
set_option maxRecDepth 100000
set_option maxHeartbeats 2000000
namespace RH
open PySem PySem.Spec PyProof.Rows L2
/-! ### the checks -/
section
variable {P : Program} {w : World} {K : PySem.W.Frag} {mg : Str → Option Value} {base : Heap}
/-- an int alone: its kind -/
def spIsInteger : Sp := fun vs H Q _ => ∃ i : Int, vs = [.int i] ∧ Q (.bl true) H
theorem ok_is_integer (F : Df K mg "is_integer" st_is_integer ["value"]) (B : Bu mg) : Cal P w K mg base 1 "is_integer" spIsInteger := by
  refine mkCal F sc_is_integer (fun vs H Q E h => ?_) (fun f cdv A outer s H vs Q E hr h => ?_)
  · obtain ⟨i, rfl, _⟩ := h
    rfl
  · obtain ⟨i, rfl, q⟩ := h
    refine ⟨_, pss_one (ps_ret (pe_and (pe_callB call_isi (by rfl) B.isi (by decide +kernel) (pa_cons (pv 0) (pa_cons (pe_bltn (v := .ty "int") (by rfl) B.int (by decide +kernel) rfl) pa_nil)))
      (pe_one (pe_not (pe_callB call_isi (by rfl) B.isi (by decide +kernel) (pa_cons (pv 0) (pa_cons (pe_bltn (v := .ty "bool") (by rfl) B.bool (by decide +kernel) rfl) pa_nil))))))), ?_⟩
    exact ⟨_, rfl, .int i, .ty "int", _, _, true, rfl, .ty "int", .base (.int i), kit_ty (by decide +kernel), true, rfl,
      _, rfl, .int i, .ty "bool", _, _, false, rfl, .ty "bool", .base (.int i), kit_ty (by decide +kernel), false, rfl, q⟩
def spIsNumber : Sp := fun vs H Q _ => ∃ i lo hi : Int, vs = [.int i, .int lo, .int hi] ∧ Q (.bl (decide (lo ≤ i) && decide (i ≤ hi))) H
theorem ok_is_number (F : Df K mg "is_number" st_is_number ["value", "low", "high"]) (C1 : Cal P w K mg base 1 "is_integer" spIsInteger) : Cal P w K mg base 2 "is_number" spIsNumber := by
  refine mkCal F sc_is_number (fun vs H Q E h => ?_) (fun f cdv A outer s H vs Q E hr h => ?_)
  · obtain ⟨i, lo, hi, rfl, _⟩ := h
    rfl
  · obtain ⟨i, lo, hi, rfl, q⟩ := h
    refine ⟨_, pss_one (ps_ret (pe_and (pc C1 hr (pa_cons (pv 0) pa_nil)) (pe_one (pe_chain op_le op_le (pv 1) (pv 0) (pv 2))))), ?_⟩
    refine ⟨_, rfl, i, rfl, true, rfl, _, rfl, _, rfl, lo, i, rfl, rfl, _, rfl, ite2 (fun e => ?_) (fun e => ?_)⟩
    · refine ⟨_, rfl, i, hi, rfl, rfl, ?_⟩
      rw [e, Bool.true_and] at q
      exact q
    · have e' : decide (lo ≤ i) = false := by simpa using e
      rw [e', Bool.false_and] at q
      exact q
end
end RH
set_option Elab.async false
set_option linter.all false
set_option maxRecDepth 100000
set_option maxHeartbeats 2000000
namespace RH
open PySem PySem.Spec PyProof.Rows L2
section
variable {P : Program} {w : World} {K : PySem.W.Frag} {mg : Str → Option Value} {base : Heap}
def spIsRow (K : PySem.W.Frag) : Sp := fun vs H Q _ => ∃ (a : Addr) (xs : List V) (lo hi : Int), vs = [.ref a, .int lo, .int hi] ∧ SqT K H a xs ∧ Q (.bl (decide (lo ≤ (xs.length : Int)) && decide ((xs.length : Int) ≤ hi))) H
theorem ok_is_row (F : Df K mg "is_row" st_is_row ["value", "low", "high"]) (B : Bu mg) : Cal P w K mg base 1 "is_row" (spIsRow K) := by
  refine mkCal F sc_is_row (fun vs H Q E h => ?_) (fun f cdv A outer s H vs Q E hr h => ?_)
  · obtain ⟨a, xs, lo, hi, rfl, _⟩ := h
    rfl
  · obtain ⟨a, xs, lo, hi, rfl, hS, q⟩ := h
    refine ⟨_, pss_one (ps_ret (pe_and (pe_callB call_isi (by rfl) B.isi (by decide +kernel) (pa_cons (pv 0) (pa_cons (pe_bltn (v := .ty "tuple") (by rfl) B.tuple (by decide +kernel) rfl) pa_nil)))
      (pe_one (pe_chain op_le op_le (pv 1) (pe_callB call_len_seq (by rfl) B.len PySem.boot_len (pa_cons (pv 0) pa_nil)) (pv 2))))), ?_⟩
    refine ⟨_, rfl, .ref a, .ty "tuple", _, _, true, rfl, .ty "tuple", ty_tup hS, kit_ty (by decide +kernel), true, rfl, _, rfl, _, rfl, a, xs, rfl, .inr hS, lo, (xs.length : Int), rfl, rfl, _, rfl, ite2 (fun e => ?_) (fun e => ?_)⟩
    · refine ⟨_, rfl, _, hi, rfl, rfl, ?_⟩
      rw [e, Bool.true_and] at q
      exact q
    · have e' : decide (lo ≤ (xs.length : Int)) = false := by simpa using e
      rw [e', Bool.false_and] at q
      exact q
def spIsPlace : Sp := fun vs H Q _ => ∃ i p : Int, vs = [.int i, .int p] ∧ Q (.bl (decide (0 ≤ i) && decide (i ≤ p - 1))) H
theorem ok_is_place (F : Df K mg "is_place" st_is_place ["value", "places"]) (C2 : Cal P w K mg base 2 "is_number" spIsNumber) : Cal P w K mg base 3 "is_place" spIsPlace := by
  refine mkCal F sc_is_place (fun vs H Q E h => ?_) (fun f cdv A outer s H vs Q E hr h => ?_)
  · obtain ⟨i, p, rfl, _⟩ := h
    rfl
  · obtain ⟨i, p, rfl, q⟩ := h
    refine ⟨_, pss_one (ps_ret (pc C2 hr (pa_cons (pv 0) (pa_cons pe_int (pa_cons (pe_op op_sub (pv 1) pe_int) pa_nil))))), ?_⟩
    exact ⟨_, rfl, _, rfl, p, 1, rfl, rfl, i, 0, p - 1, rfl, q⟩
/-- all are places -/
def inP (p : Int) (ns : List Int) : Bool := ns.all fun i => decide (0 ≤ i) && decide (i ≤ p - 1)
def spArePlaces (K : PySem.W.Frag) : Sp := fun vs H Q _ => ∃ (v : V) (ns : List Int) (p : Int), vs = [v, .int p] ∧ TI K H v ns ∧ ns.length ≤ 1000 ∧ ∀ H', Same H H' → Q (.bl (inP p ns)) H'
theorem ok_are_places (F : Df K mg "are_places" st_are_places ["value", "places"]) (B : Bu mg) (C3 : Cal P w K mg base 3 "is_place" spIsPlace) : Cal P w K mg base 4 "are_places" (spArePlaces K) := by
  refine mkCal F sc_are_places (fun vs H Q E h => ?_) (fun f cdv A outer s H vs Q E hr h => ?_)
  · obtain ⟨v, ns, p, rfl, _⟩ := h
    rfl
  · obtain ⟨v, ns, p, rfl, ⟨a, rfl, hS⟩, hlen, q⟩ := h
    refine ⟨_, pss_one (ps_ret (pe_and (pe_callB call_isi (by rfl) B.isi (by decide +kernel) (pa_cons (pv 0) (pa_cons (pe_bltn (v := .ty "tuple") (by rfl) B.tuple (by decide +kernel) rfl) pa_nil)))
      (pe_one (pe_callB (cr_all rfl) (by rfl) B.all (by decide +kernel) (pa_cons (pe_lc (own := [("place", 2)]) (g := gName 2) (tt := tYes) rfl sc_are_places.nd (pi_tup (pv 0)) (blkOk_by (N := ["value", "places", "place"]) (sc := defScope st_are_places) (by decide +kernel))
        (fun _ _ _ _ _ => pg_name (i := 2) sc_are_places.nd rfl (Or.inl rfl)) (fun _ _ _ _ _ => pts_nil) (fun _ _ _ _ _ => pc C3 hr (pa_cons (pv 2) (pa_cons (pv 1) pa_nil)))) pa_nil))))), ?_⟩
    refine ⟨_, rfl, .ref a, .ty "tuple", _, _, true, rfl, .ty "tuple", ty_tup hS, kit_ty (by decide +kernel), true, rfl, ?_⟩
    refine ⟨_, rfl, a, rfl, ⟨_, hS⟩, fun D hD => ?_⟩
    refine lc_tup (xs := ns.map V.int) (fun i H' => Same H H' ∧ H' D = some (.lst (((ns.take i).map fun i => decide (0 ≤ i) && decide (i ≤ p - 1)).map V.bl))) ⟨same_new hD, upd_same⟩ (fun i H' _ h' => onT h'.1 hS) (fun i x H' hx h' => ?_) (fun H' h' => ?_)
    · obtain ⟨n, hn, rfl⟩ := map_at hx
      obtain ⟨sm, eD⟩ := h'
      refine ⟨rfl, _, rfl, _, rfl, n, p, rfl, _, eD, ?_, ?_, ?_⟩
      · rw [List.length_map, List.length_map, List.length_take]
        exact small1000 (by omega)
      · intro b o e
        rw [upd_ne (ne_of_none e hD)]
        exact sm b o e
      · rw [upd_same, all_snoc _ hn, List.map_append]
        rfl
    · obtain ⟨sm, eD⟩ := h'
      rw [List.length_map, List.take_length] at eD
      refine ⟨D, _, rfl, lstAt eD, ?_⟩
      have e : ((ns.map fun i => decide (0 ≤ i) && decide (i ≤ p - 1)).all id) = inP p ns := by
        unfold inP
        rw [List.all_map]
        rfl
      rw [e]
      exact q H' sm
end
end RH
set_option Elab.async false
set_option linter.all false
set_option maxRecDepth 100000
set_option maxHeartbeats 2000000
namespace RH
open PySem PySem.Spec PyProof.Rows L2
/-! ### slices and constants -/
theorem cut_from (xs : List V) (k : Nat) : cutV xs (some (k : Int)) none = xs.drop k := by
  unfold cutV
  rw [HT.sIx_nat, HT.sIx_none]
  rcases Nat.le_total k xs.length with h | h
  · rw [Nat.min_eq_left h]
    exact List.take_of_length_le (by rw [List.length_drop]; exact Nat.le_refl _)
  · rw [Nat.min_eq_right h, Nat.sub_self, List.take_zero, List.drop_eq_nil_of_le h]
theorem cut_to (xs : List V) (k : Nat) : cutV xs none (some (k : Int)) = xs.take k := by
  unfold cutV
  rw [HT.sIx_nat, HT.sIx_none, List.drop_zero, Nat.sub_zero]
  rcases Nat.le_total k xs.length with h | h
  · rw [Nat.min_eq_left h]
  · rw [Nat.min_eq_right h, List.take_length, List.take_of_length_le h]
/-- t[k:], k written -/
theorem slT_from {K : PySem.W.Frag} {H : Hp} {a : Addr} {xs : List V} {Q : VK} (z : Int) (k : Nat) (hz : z = (k : Int)) (h : SqT K H a xs) (q : ∀ b H2, Same H H2 → SqT K H2 b (xs.drop k) → Q (.ref b) H2) : rSlA K (.ref a) (some z) none H Q := by
  subst hz
  refine ⟨a, xs, rfl, h, fun hf => q a H (Same.refl H) ?_, fun _ p hp => q p _ (same_new hp) (tupAt (by rw [upd_same, cut_from]))⟩
  have e := hf.1
  rw [HT.sIx_nat] at e
  rcases Nat.le_total k xs.length with h' | h'
  · rw [Nat.min_eq_left h'] at e
    rw [e, List.drop_zero]
    exact h
  · rw [Nat.min_eq_right h'] at e
    have e2 : xs = [] := List.eq_nil_of_length_eq_zero e
    subst e2
    rw [List.drop_nil]
    exact h
/-- a number that the module keeps -/
theorem pk {X : Cx} {x : Str} {i : Int} {pos : Pos} (h : ∃ t, X.mg x = some (.int i t)) (hg : Gl X x := by rfl) (hn : x ≠ "__name__" := by decide) (hd : (x == ("__debug__" : Str)) = false := by decide) : PE X (.Name x pos) (tC (.int i)) := by
  obtain ⟨t, h⟩ := h
  exact pe_glob (v := .int i) hg h ⟨_, rfl⟩ hd
/-! ### rules within a comprehension: the written part is told -/
def rLenK (K : PySem.W.Frag) : List V → Hp → VK → Prop := fun xs H Q => ∃ p ys, xs = [.ref p] ∧ (SqL K H p ys ∨ SqT K H p ys) ∧ Q (.int ys.length) H
theorem cl_len {X : Cx} (K : PySem.W.Frag) (h : X.K = K := by rfl) : CallR X (.builtin "len") (rLenK K) := by
  subst h
  exact call_len_seq
theorem ixT {X : Cx} (K : PySem.W.Frag) (h : X.K = K := by rfl) : IxR X (rIxT K) := by
  subst h
  exact ix_tup
/-! ### rising, a layout, a habit -/
def isLay (p : Nat) (ns : List Int) : Bool := ns.isPerm (rg p)
def isHab (nss : List (List Int)) : Bool := decide (2 ≤ nss.length) && decide (nss.length ≤ 5) && nss.all (isLay nss.length)
theorem inP_of {p : Nat} {ns : List Int} (h : ns.Perm (rg p)) : inP p ns = true := by
  unfold inP
  rw [List.all_eq_true]
  intro i hi
  have := rg_mem.mp (h.mem_iff.mp hi)
  rw [Bool.and_eq_true]
  exact ⟨decide_eq_true (by omega), decide_eq_true (by omega)⟩
theorem rg_le (p : Nat) : (rg p).Pairwise (· ≤ ·) := by
  unfold rg
  rw [List.pairwise_map]
  exact (List.pairwise_lt_range (n := p)).imp fun h => by omega
section
variable {P : Program} {w : World} {K : PySem.W.Frag} {mg : Str → Option Value} {base : Heap}
def spIsLayout (K : PySem.W.Frag) : Sp := fun vs H Q _ => ∃ (v : V) (ns : List Int) (p : Nat), vs = [v, .int p] ∧ TI K H v ns ∧ ns.length < 64 ∧ p ≤ 1000 ∧ ∀ H', Same H H' → Q (.bl (isLay p ns)) H'
theorem ok_is_layout (F : Df K mg "is_layout" st_is_layout ["value", "places"]) (B : Bu mg) (C4 : Cal P w K mg base 4 "are_places" (spArePlaces K)) : Cal P w K mg base 5 "is_layout" (spIsLayout K) := by
  refine mkCal F sc_is_layout (fun vs H Q E h => ?_) (fun f cdv A outer s H vs Q E hr h => ?_)
  · obtain ⟨v, ns, p, rfl, _⟩ := h
    rfl
  · obtain ⟨v, ns, p, rfl, ⟨a, rfl, hS⟩, hlen, hp, q⟩ := h
    refine ⟨_, pss_one (ps_ret (pe_and (pc C4 hr (pa_cons (pv 0) (pa_cons (pv 1) pa_nil)))
      (pe_one (pe_cmpR (op_eqD hr.units) (pe_callB cr_sortedTup (by rfl) B.sorted (by decide +kernel) (pa_cons (pv 0) pa_nil)) (pe_listRg rfl (by rfl) B.list (prg_1 (by rfl) B.range (pv 1))) (nomark _))))), ?_⟩
    refine ⟨_, rfl, _, rfl, .ref a, ns, p, rfl, ⟨a, rfl, hS⟩, by omega, fun H1 sm1 => ⟨_, rfl, ite2 (fun e => ?_) (fun e => ?_)⟩⟩
    · refine ⟨_, rfl, a, ns, rfl, onT sm1 hS, hlen, fun ns' pL hpm hpw nL => ⟨_, rfl, (p : Int), rfl, ⟨by omega, by omega, by omega, by omega, by omega⟩, fun q' nq => ?_⟩⟩
      have nqp : pL ≠ q' := ne_of_none upd_same nq
      refine ⟨_, _, dp_lst (ns := ns') (lstAt ?_), dp_lst (ns := rg p) (lstAt ?_), PySem.W.ke_shaped_ints _, PySem.W.ke_shaped_ints _, ?_⟩
      · rw [upd_ne nqp, upd_same]
      · rw [upd_same, rgV_rg]
      · have e2 : PyData.eqv (.list (ns'.map PyData.int)) (.list ((rg p).map PyData.int)) = isLay p ns := by
          rw [eqv_lst, Bool.eq_iff_iff, decide_eq_true_iff]
          unfold isLay
          rw [List.isPerm_iff]
          constructor
          · intro z
            rw [← z]
            exact hpm.symm
          · intro z
            exact PySem.W.ksm_same (hpm.trans z) hpw (rg_le p)
        rw [e2]
        exact q _ (sm1.trans ((same_new nL).trans (same_new nq)))
    · have e2 : isLay p ns = false := by
        cases z : isLay p ns with
        | false => rfl
        | true => exact absurd (inP_of (List.isPerm_iff.mp z)) e
      have e3 : inP (p : Int) ns = false := by simpa using e
      rw [e2] at q
      exact q _ sm1
end
end RH
set_option Elab.async false
set_option linter.all false
set_option maxRecDepth 100000
set_option maxHeartbeats 2000000
namespace RH
open PySem PySem.Spec PyProof.Rows L2
/-! ### the mathematics of marks -/
theorem ifT {c : Bool} {A B : Prop} (hc : c = true) (h : A) : if c = true then A else B := by
  rw [if_pos hc]
  exact h
theorem ifF {c : Bool} {A B : Prop} (hc : c = false) (h : B) : if c = true then A else B := by
  rw [hc, if_neg Bool.false_ne_true]
  exact h
theorem flat_ints : ∀ ns : List Int, (ns.map V.int).all flatV = true
  | [] => rfl
  | n :: ns => by
    rw [List.map_cons, List.all_cons, flat_ints ns]
    rfl
/-- a habit of n places -/
structure Hb (n : Nat) (h : List (List Int)) : Prop where
  len : h.length = n
  perm : ∀ ns ∈ h, ns.Perm (rg n)
  lo : 2 ≤ n
  hi : n ≤ 5
theorem Hb.is {n : Nat} {h : List (List Int)} (q : Hb n h) : isHab h = true := by
  unfold isHab
  simp only [Bool.and_eq_true, decide_eq_true_eq, List.all_eq_true]
  refine ⟨⟨by have := q.len; have := q.lo; omega, by have := q.len; have := q.hi; omega⟩, fun ns hm => ?_⟩
  unfold isLay
  rw [q.len, List.isPerm_iff]
  exact q.perm ns hm
theorem Hb.short {n : Nat} {h : List (List Int)} (q : Hb n h) {ns : List Int} (hm : ns ∈ h) : ns.length = n := by
  rw [(q.perm ns hm).length_eq, rg_len]
def mv (h : List (List Int)) (t s : Int) : Int := (h.getD t.toNat []).getD s.toNat 0
theorem Hb.at {n : Nat} {h : List (List Int)} (q : Hb n h) {t s : Int} (t0 : 0 ≤ t) (t1 : t < n) (s0 : 0 ≤ s) (s1 : s < n) :
    ∃ ns, h[t.toNat]? = some ns ∧ ns[s.toNat]? = some (mv h t s) ∧ 0 ≤ mv h t s ∧ mv h t s < n := by
  have h1 : t.toNat < h.length := by rw [q.len]; omega
  have e1 : h[t.toNat]? = some h[t.toNat] := List.getElem?_eq_getElem h1
  have hm : h[t.toNat] ∈ h := List.getElem_mem h1
  have h2 : s.toNat < h[t.toNat].length := by rw [q.short hm]; omega
  have e2 : h[t.toNat][s.toNat]? = some h[t.toNat][s.toNat] := List.getElem?_eq_getElem h2
  have e4 : h.getD t.toNat [] = h[t.toNat] := by
    rw [List.getD_eq_getElem?_getD, e1]
    rfl
  have e3 : mv h t s = h[t.toNat][s.toNat] := by
    unfold mv
    rw [e4, List.getD_eq_getElem?_getD, e2]
    rfl
  have h4 := rg_mem.mp ((q.perm _ hm).mem_iff.mp (List.getElem_mem h2))
  rw [← e3] at h4
  exact ⟨_, e1, by rw [e3]; exact e2, h4⟩
def InR (n : Nat) (i : Int) : Prop := 0 ≤ i ∧ i < n
theorem take_more {α : Type} {l : List α} {i : Nat} {x : α} (h : l[i]? = some x) : l.take (i + 1) = l.take i ++ [x] := by
  rw [List.take_add_one, h]
  rfl
/-- an item of an int's place -/
theorem at_int {α : Type} {xs : List α} {z : Int} {v : α} (h0 : 0 ≤ z) (h : xs[z.toNat]? = some v) : atI xs z = some v := by
  have e : z = ((z.toNat : Nat) : Int) := by omega
  rw [e]
  exact atI_nat h
section
variable {P : Program} {w : World} {K : PySem.W.Frag} {mg : Str → Option Value} {base : Heap}
theorem inP_in {p : Nat} {ns : List Int} (h : ∀ i ∈ ns, InR p i) : inP p ns = true := by
  unfold inP
  rw [List.all_eq_true]
  intro i hi
  obtain ⟨h1, h2⟩ := h i hi
  rw [Bool.and_eq_true]
  exact ⟨decide_eq_true h1, decide_eq_true (by omega)⟩
end
end RH
set_option Elab.async false
set_option linter.all false
set_option maxRecDepth 100000
set_option maxHeartbeats 2000000
namespace RH
open PySem PySem.Spec PyProof.Rows L2
theorem ix2 {K : PySem.W.Frag} {H : Hp} {xs : List V} {h : List (List Int)} {n : Nat} (hE : Each (TI K H) xs h) (q : Hb n h) {t s : Int} (ht : InR n t) (hs : InR n s) :
    ∃ (a' : Addr) (ns : List Int), atI xs t = some (.ref a') ∧ SqT K H a' (ns.map V.int) ∧ atI (ns.map V.int) s = some (.int (mv h t s)) := by
  obtain ⟨ns, e1, e2, _⟩ := q.at ht.1 ht.2 hs.1 hs.2
  obtain ⟨v, e3, a', rfl, hS⟩ := hE.of e1
  exact ⟨a', ns, at_int ht.1 e3, hS, at_int hs.1 (at_map e2)⟩
end RH
set_option Elab.async false
set_option linter.all false
set_option maxRecDepth 100000
set_option maxHeartbeats 2000000
namespace RH
open PySem PySem.Spec PyProof.Rows L2
/-! ### the law's own row of draws -/
/-- all but what stands at p is as it was -/
def But (p : Addr) (H H' : Hp) : Prop := ∀ b o, H b = some o → b ≠ p → H' b = some o
theorem But.refl (p : Addr) (H : Hp) : But p H H := fun _ _ e _ => e
theorem But.trans {p : Addr} {H H1 H2 : Hp} (a : But p H H1) (b : But p H1 H2) : But p H H2 := fun c o e n => b c o (a c o e n) n
theorem But.same {p : Addr} {H H1 : Hp} (a : Same H H1) : But p H H1 := fun c o e _ => a c o e
theorem But.upd {p : Addr} {H H1 : Hp} {o : HO} (a : But p H H1) : But p H (upd H1 p o) := fun c u e n => by
  rw [upd_ne n]
  exact a c u e n
/-- all that is no list is as it was -/
def Fix (H H' : Hp) : Prop := ∀ b o, H b = some o → (∀ xs, o ≠ .lst xs) → H' b = some o
theorem Fix.refl (H : Hp) : Fix H H := fun _ _ e _ => e
theorem Fix.trans {H H1 H2 : Hp} (a : Fix H H1) (b : Fix H1 H2) : Fix H H2 := fun c o e n => b c o (a c o e n) n
theorem Fix.same {H H1 : Hp} (a : Same H H1) : Fix H H1 := fun c o e _ => a c o e
theorem Fix.lst {H : Hp} {p : Addr} {xs : List V} {o : HO} (h : H p = some (.lst xs)) : Fix H (L2.upd H p o) := fun b u e n => by
  by_cases z : b = p
  · subst z
    rw [h] at e
    cases e
    exact absurd rfl (n _)
  · rw [upd_ne z]
    exact e
theorem Fix.tups {K : PySem.W.Frag} {H H' : Hp} (b : Fix H H') : Tups K H H' := fun a xs hS => by
  rcases hS with (hS | ⟨u, hS⟩) | hS
  · exact .inl (.inl (b _ _ hS (fun _ z => nomatch z)))
  · exact .inl (.inr ⟨u, b _ _ hS (fun _ z => nomatch z)⟩)
  · exact .inr hS
theorem But.fix {H H' : Hp} {p : Addr} {xs : List V} (h : H p = some (.lst xs)) (b : But p H H') : Fix H H' := fun c o e n => b c o e fun z => by
  subst z
  rw [h] at e
  cases e
  exact n _ rfl
/-- a list that never changes -/
def Fz (K : PySem.W.Frag) (H : Hp) (a : Addr) (xs : List V) : Prop := (∃ o, H a = some (.frz o (.lst xs))) ∨ ∀ H', SqL K H' a xs
theorem Fz.seq {K : PySem.W.Frag} {H : Hp} {a : Addr} {xs : List V} (h : Fz K H a xs) : SqL K H a xs := by
  rcases h with ⟨o, h⟩ | h
  · exact .inl (.inr ⟨o, h⟩)
  · exact h H
theorem Fz.on {K : PySem.W.Frag} {H H' : Hp} {a : Addr} {xs : List V} (f : Fix H H') (h : Fz K H a xs) : Fz K H' a xs := by
  rcases h with ⟨o, h⟩ | h
  · exact .inl ⟨o, f _ _ h (fun _ z => nomatch z)⟩
  · exact .inr h
theorem Fz.of {K : PySem.W.Frag} {H : Hp} {a : Addr} {xs : List V} (o : Only H) (h : SqL K H a xs) : Fz K H a xs := by
  rcases h with (h | h) | h
  · rcases o a with e | ⟨u, ys, e⟩
    · rw [e] at h
      cases h
    · rw [e] at h
      cases h
  · exact .inl h
  · exact .inr fun H' => .inr h
/-- row: the script, how many of it are taken, the running number, what is left of a great one -/
structure RowA (K : PySem.W.Frag) (H : Hp) (p a : Addr) (ns : List Int) (i r c : Int) : Prop where
  at_ : H p = some (.lst [.ref a, .int i, .int r, .int c])
  fz : Fz K H a (ns.map V.int)
  pos : 0 ≤ i
theorem RowA.scr {K : PySem.W.Frag} {H : Hp} {p a : Addr} {ns : List Int} {i r c : Int} (h : RowA K H p a ns i r c) : SqL K H a (ns.map V.int) := h.fz.seq
def Row (K : PySem.W.Frag) (H : Hp) (p : Addr) : Prop := ∃ a ns i r c, RowA K H p a ns i r c
theorem RowA.put {K : PySem.W.Frag} {H : Hp} {p a : Addr} {ns : List Int} {i r c i' r' c' : Int} (h : RowA K H p a ns i r c) (hi : 0 ≤ i') :
    RowA K (upd H p (.lst [.ref a, .int i', .int r', .int c'])) p a ns i' r' c' :=
  ⟨upd_same, h.fz.on (Fix.lst h.at_), hi⟩
theorem RowA.row {K : PySem.W.Frag} {H : Hp} {p a : Addr} {ns : List Int} {i r c : Int} (h : RowA K H p a ns i r c) : Row K H p := ⟨_, _, _, _, _, h⟩
theorem Row.lst {K : PySem.W.Frag} {H : Hp} {p : Addr} (h : Row K H p) : ∃ xs, H p = some (.lst xs) := by
  obtain ⟨a, ns, i, r, c, h⟩ := h
  exact ⟨_, h.at_⟩
theorem Row.fix {K : PySem.W.Frag} {H H' : Hp} {p : Addr} (h : Row K H p) (b : But p H H') : Fix H H' := by
  obtain ⟨xs, e⟩ := h.lst
  exact But.fix e b
theorem Row.on {K : PySem.W.Frag} {H H' : Hp} {p : Addr} (h : Row K H p) (f : Fix H H') (e : H' p = H p) : Row K H' p := by
  obtain ⟨a, ns, i, r, c, h⟩ := h
  exact ⟨a, ns, i, r, c, e.trans h.at_, h.fz.on f, h.pos⟩
theorem Row.same {K : PySem.W.Frag} {H H' : Hp} {p : Addr} (h : Row K H p) (s : Same H H') : Row K H' p := by
  obtain ⟨xs, e⟩ := h.lst
  exact h.on (Fix.same s) ((s _ _ e).trans e.symm)
/-- another list is written -/
theorem Row.lst_upd {K : PySem.W.Frag} {H : Hp} {p q : Addr} {xs : List V} {o : HO} (h : Row K H p) (e : H q = some (.lst xs)) (n : p ≠ q) : Row K (upd H q o) p := h.on (Fix.lst e) (upd_ne n)
/-- a new object -/
theorem Row.new {K : PySem.W.Frag} {H : Hp} {p q : Addr} {o : HO} (h : Row K H p) (e : H q = none) : Row K (upd H q o) p := h.same (same_new e)
theorem Row.ne {K : PySem.W.Frag} {H : Hp} {p q : Addr} (h : Row K H p) (e : H q = none) : p ≠ q := by
  obtain ⟨xs, e'⟩ := h.lst
  exact ne_of_none e' e
section
variable {P : Program} {w : World} {K : PySem.W.Frag} {mg : Str → Option Value} {base : Heap}
def spTaken (K : PySem.W.Frag) : Sp := fun vs H Q _ => ∃ (p : Addr) (m : Int), vs = [.ref p, .int m] ∧ Row K H p ∧ 0 < m ∧ m < 1048576 ∧ ∀ k H', 0 ≤ k → k < m → But p H H' → Row K H' p → Q (.int k) H'
theorem ok_taken (F : Df K mg "_law_taken" st__law_taken ["row", "many"]) (B : Bu mg) : Cal P w K mg base 1 "_law_taken" (spTaken K) := by
  refine mkCal F sc__law_taken (fun vs H Q E h => ?_) (fun f cdv A outer s H vs Q E hr h => ?_)
  · obtain ⟨p, m, rfl, _⟩ := h
    rfl
  · obtain ⟨p, m, rfl, ⟨a, ns, i, r, c, hR⟩, m0, m1, q⟩ := h
    refine ⟨_, pss_cons (ps_if (pt_cmpR op_gt (pe_ix ix_list (pv 0) pe_int (fun _ _ => rfl)) pe_int (nomark _))
        (pss_cons (ps_set (i := 2) sc__law_taken.nd rfl (.inl rfl) (pe_op op_mod (pe_callTy call_int1 (by rfl) B.int (by decide +kernel) (pa_cons (pe_ix ix_list (pv 0) pe_int (fun _ _ => rfl)) pa_nil)) (pv 1)))
        (pss_cons (ps_asg (pe_op op_fdiv (pe_ix ix_list (pv 0) pe_int (fun _ _ => rfl)) (pv 1)) (pg_sub (pv 0) pe_int set_list))
        (pss_one (ps_ret (pv 2))))) pss_nil)
      (pss_cons (ps_asg (pe_op op_add (pe_ix ix_list (pv 0) pe_int (fun _ _ => rfl)) pe_int) (pg_sub (pv 0) pe_int set_list))
      (pss_cons (ps_if (pt_cmpR op_gt (pe_ix ix_list (pv 0) pe_int (fun _ _ => rfl)) (pe_callB (cl_len K) (by rfl) B.len PySem.boot_len (pa_cons (pe_ix ix_list (pv 0) pe_int (fun _ _ => rfl)) pa_nil)) (nomark _))
        (pss_cons (ps_asg (pe_op op_mod (pe_callTy call_int1 (by rfl) B.int (by decide +kernel) (pa_cons (pe_op op_add (pe_op op_mul (pe_ix ix_list (pv 0) pe_int (fun _ _ => rfl)) pe_int) pe_int) pa_nil)) pe_int) (pg_sub (pv 0) pe_int set_list))
        (pss_one (ps_ret (pe_op op_mod (pe_callTy call_int1 (by rfl) B.int (by decide +kernel) (pa_cons (pe_op op_fdiv (pe_ix ix_list (pv 0) pe_int (fun _ _ => rfl)) pe_int) pa_nil)) (pv 1))))) pss_nil)
      (pss_cons (ps_set (i := 3) sc__law_taken.nd rfl (.inl rfl) (pe_ix ix_list (pe_ix ix_list (pv 0) pe_int (fun _ _ => rfl)) (pe_op op_sub (pe_ix ix_list (pv 0) pe_int (fun _ _ => rfl)) pe_int) (fun _ _ => rfl)))
      (pss_cons (ps_asg (pe_op op_mod (pe_callTy call_int1 (by rfl) B.int (by decide +kernel) (pa_cons (pe_op op_add (pe_op op_add (pe_op op_mul (pe_ix ix_list (pv 0) pe_int (fun _ _ => rfl)) pe_int) (pv 3)) pe_int) pa_nil)) pe_int) (pg_sub (pv 0) pe_int set_list))
      (pss_cons (ps_if (pt_cmpR op_ge (pv 3) (pe_op op_pow pe_int pe_int) (nomark _))
        (pss_one (ps_asg (pe_op op_fdiv (pv 3) (pv 1)) (pg_sub (pv 0) pe_int set_list))) pss_nil)
      (pss_one (ps_ret (pe_op op_mod (pe_callTy call_int1 (by rfl) B.int (by decide +kernel) (pa_cons (pv 3) pa_nil)) (pv 1))))))))), ?_⟩
    have L := hR.at_
    refine ⟨_, rfl, p, _, 3, .int c, rfl, rfl, lstAt L, rfl, c, 0, rfl, rfl, _, rfl, ite2 (fun e => ?_) (fun e => ?_)⟩
    · refine ⟨_, rfl, p, _, 3, .int c, rfl, rfl, lstAt L, rfl, .inl ⟨c, rfl, _, rfl, c, m, rfl, rfl, m0, ?_⟩⟩
      refine ⟨_, rfl, p, _, 3, .int c, rfl, rfl, lstAt L, rfl, _, rfl, c, m, rfl, rfl, ⟨m0, by omega⟩, _, rfl, p, _, 3, 3, rfl, rfl, L, rfl, ?_⟩
      exact ⟨_, rfl, q (c % m) _ (Int.emod_nonneg _ (by omega)) (Int.emod_lt_of_pos _ m0) (But.upd (But.refl p H)) (hR.put hR.pos).row⟩
    · refine ⟨_, rfl, p, _, 1, .int i, rfl, rfl, lstAt L, rfl, i, 1, rfl, rfl, _, rfl, p, _, 1, 1, rfl, rfl, L, rfl, ?_⟩
      have R1 : RowA K (upd H p (.lst [.ref a, .int (i + 1), .int r, .int c])) p a ns (i + 1) r c := hR.put (by have := hR.pos; omega)
      have L1 := R1.at_
      refine ⟨_, rfl, p, _, 1, .int (i + 1), rfl, rfl, lstAt L1, rfl, _, rfl, p, _, 0, .ref a, rfl, rfl, lstAt L1, rfl, a, _, rfl, .inl R1.scr, _, _, rfl, rfl, _, rfl, ite2 (fun e1 => ?_) (fun e1 => ?_)⟩
      · refine ⟨_, rfl, p, _, 2, .int r, rfl, rfl, lstAt L1, rfl, r, 48271, rfl, rfl, .inr ⟨by decide, by decide⟩, _, 11, rfl, rfl, .inl ⟨_, rfl, _, _, rfl, rfl, (by show (0 : Int) < 2147483647; decide), _, rfl, p, _, 2, 2, rfl, rfl, L1, rfl, ?_⟩⟩
        have R2 : RowA K (upd (upd H p (.lst [.ref a, .int (i + 1), .int r, .int c])) p (.lst [.ref a, .int (i + 1), .int ((r * 48271 + 11) % 2147483647), .int c])) p a ns (i + 1) ((r * 48271 + 11) % 2147483647) c := R1.put R1.pos
        refine ⟨_, rfl, p, _, 2, _, rfl, rfl, lstAt R2.at_, rfl, _, 7, rfl, rfl, ⟨by decide, by decide⟩, .inl ⟨_, rfl, _, rfl, _, m, rfl, rfl, m0, ?_⟩⟩
        exact q _ _ (Int.emod_nonneg _ (by omega)) (Int.emod_lt_of_pos _ m0) (But.upd (But.upd (But.refl p H))) R2.row
      · have hi : i < (ns.length : Int) := by
          rw [List.length_map] at e1
          have e9 : i + 1 ≤ (ns.length : Int) := by simpa using e1
          omega
        have hi0 := hR.pos
        obtain ⟨z, hz⟩ : ∃ z, ns[i.toNat]? = some z := ⟨ns[i.toNat]'(by omega), List.getElem?_eq_getElem (by omega)⟩
        refine ⟨_, rfl, p, _, 0, .ref a, rfl, rfl, lstAt L1, rfl, _, rfl, p, _, 1, .int (i + 1), rfl, rfl, lstAt L1, rfl, _, 1, rfl, rfl, a, _, i + 1 - 1, .int z, rfl, rfl, R1.scr, at_int (by omega) (at_map (by rw [show (i + 1 - 1).toNat = i.toNat by omega]; exact hz)), ?_⟩
        refine ⟨_, rfl, p, _, 2, .int r, rfl, rfl, lstAt L1, rfl, r, 48271, rfl, rfl, .inr ⟨by decide, by decide⟩, _, rfl, _, z, rfl, rfl, _, 11, rfl, rfl, .inl ⟨_, rfl, _, _, rfl, rfl, (by show (0 : Int) < 2147483647; decide), _, rfl, p, _, 2, 2, rfl, rfl, L1, rfl, ?_⟩⟩
        have R2 : RowA K (upd (upd H p (.lst [.ref a, .int (i + 1), .int r, .int c])) p (.lst [.ref a, .int (i + 1), .int ((r * 48271 + z + 11) % 2147483647), .int c])) p a ns (i + 1) ((r * 48271 + z + 11) % 2147483647) c := R1.put R1.pos
        refine ⟨_, rfl, 10, 18, rfl, rfl, ⟨by decide, by decide, by decide⟩, z, _, rfl, rfl, _, rfl, ite2 (fun e2 => ?_) (fun e2 => ?_)⟩
        · refine ⟨_, rfl, _, rfl, z, m, rfl, rfl, ⟨m0, by omega⟩, _, rfl, p, _, 3, 3, rfl, rfl, R2.at_, rfl, ?_⟩
          refine ⟨_, rfl, .inl ⟨z, rfl, _, rfl, z, m, rfl, rfl, m0, ?_⟩⟩
          exact q _ _ (Int.emod_nonneg _ (by omega)) (Int.emod_lt_of_pos _ m0) (But.upd (But.upd (But.upd (But.refl p H)))) (R2.put R2.pos).row
        · refine ⟨_, rfl, .inl ⟨z, rfl, _, rfl, z, m, rfl, rfl, m0, ?_⟩⟩
          exact q _ _ (Int.emod_nonneg _ (by omega)) (Int.emod_lt_of_pos _ m0) (But.upd (But.upd (But.refl p H))) R2.row
end
end RH
set_option Elab.async false
set_option linter.all false
set_option maxRecDepth 100000
set_option maxHeartbeats 2000000
namespace RH
open PySem PySem.Spec PyProof.Rows L2
theorem ix_nat {n : Nat} {k : Int} (h0 : 0 ≤ k) (h1 : k < n) : seqIndex? k n = some k.toNat := by
  unfold seqIndex?
  have e : (if k < 0 then k + (n : Int) else k) = k := if_neg (by omega)
  simp only [e]
  rw [if_pos]
  simp [h0, h1]
theorem But.fresh {p l : Addr} {H H1 : Hp} {o : HO} (a : But p H H1) (e : H l = none) : But p H (L2.upd H1 l o) := fun c u h n => by
  rw [upd_ne (ne_of_none h e)]
  exact a c u h n
theorem map_erase (ns : List Int) (k : Nat) : (ns.map V.int).eraseIdx k = (ns.eraseIdx k).map V.int := by
  induction ns generalizing k with
  | nil => rfl
  | cons n ns ih =>
    cases k with
    | zero => rfl
    | succ k =>
      show V.int n :: (ns.map V.int).eraseIdx k = V.int n :: (ns.eraseIdx k).map V.int
      rw [ih]
theorem perm_erase : ∀ {ls : List Int} {k : Nat} {y : Int}, ls[k]? = some y → ls.Perm (y :: ls.eraseIdx k)
  | [], k, y, h => by simp at h
  | a :: ls, 0, y, h => by
    have e : a = y := Option.some.inj h
    subst e
    exact List.Perm.refl _
  | a :: ls, k + 1, y, h => by
    have ih := perm_erase (ls := ls) (k := k) (y := y) h
    exact (ih.cons a).trans (List.Perm.swap ..)
section
variable {P : Program} {w : World} {K : PySem.W.Frag} {mg : Str → Option Value} {base : Heap}
def spPick (K : PySem.W.Frag) : Sp := fun vs H Q _ => ∃ (p l : Addr) (xs : List V), vs = [.ref p, .ref l] ∧ Row K H p ∧ H l = some (.lst xs) ∧ l ≠ p ∧ 0 < xs.length ∧ xs.length ≤ 1000 ∧
  ∀ (i : Nat) x H', xs[i]? = some x → But p H H' → Row K H' p → Q x H'
theorem ok_pick (F : Df K mg "_law_pick" st__law_pick ["row", "things"]) (B : Bu mg) (CT : Cal P w K mg base 1 "_law_taken" (spTaken K)) : Cal P w K mg base 2 "_law_pick" (spPick K) := by
  refine mkCal F sc__law_pick (fun vs H Q E h => ?_) (fun f cdv A outer s H vs Q E hr h => ?_)
  · obtain ⟨p, l, xs, rfl, _⟩ := h
    rfl
  · obtain ⟨p, l, xs, rfl, hR, hl, hlp, l0, l1, q⟩ := h
    refine ⟨_, pss_one (ps_ret (pe_ix ix_list (pv 1) (pc CT hr (pa_cons (pv 0) (pa_cons (pe_callB (cl_len K) (by rfl) B.len PySem.boot_len (pa_cons (pv 1) pa_nil)) pa_nil))) (fun _ _ => rfl))), ?_⟩
    refine ⟨_, rfl, _, rfl, _, rfl, l, xs, rfl, .inl (lstAt hl), p, xs.length, rfl, hR, by omega, by omega, fun k H' k0 k1 hB hR' => ?_⟩
    have hk : k.toNat < xs.length := by omega
    exact ⟨l, xs, k, _, rfl, rfl, lstAt (hB _ _ hl hlp), at_int k0 (List.getElem?_eq_getElem hk), q _ _ H' (List.getElem?_eq_getElem hk) hB hR'⟩
end
end RH
set_option Elab.async false
set_option linter.all false
set_option maxRecDepth 100000
set_option maxHeartbeats 2000000
namespace RH
open PySem PySem.Spec PyProof.Rows L2
/-! ### _law_alike of equal data -/
theorem Dp.on {K : PySem.W.Frag} {H H' : Hp} (s : Same H H') : ∀ (d : PyData) (v : V), Dp K H v d → Dp K H' v d
  | d, v, h => by
    refine Dp.rec (motive_1 := fun v d _ => Dp K H' v d) (motive_2 := fun vs ds _ => DpAll K H' vs ds) .non .bl .int .str ?_ ?_ .nil ?_ h
    · intro a xs ds h1 _ h2
      exact .lst (s.seq h1) h2
    · intro a xs ds h1 _ h2
      exact .tup (onT s h1) h2
    · intro v vs d ds _ _ h1 h2
      exact .cons h1 h2
theorem DpAll.len {K : PySem.W.Frag} {H : Hp} : ∀ {vs : List V} {ds : List PyData}, DpAll K H vs ds → vs.length = ds.length
  | _, _, .nil => rfl
  | _, _, .cons _ t => congrArg (· + 1) (DpAll.len t)
theorem DpAll.of {K : PySem.W.Frag} {H : Hp} : ∀ {vs : List V} {ds : List PyData} {i : Nat} {d : PyData}, DpAll K H vs ds → ds[i]? = some d → ∃ v, vs[i]? = some v ∧ Dp K H v d
  | _, _, _, _, .nil, e => by simp at e
  | _, _, 0, _, .cons h _, e => by
    have e' := Option.some.inj e
    subst e'
    exact ⟨_, rfl, h⟩
  | _, _, i + 1, _, .cons _ t, e => DpAll.of (i := i) t e
def okD : Nat → PyData → Prop
  | 0, .none => True
  | 0, .bool _ => True
  | 0, .int _ => True
  | 0, .str _ => True
  | 0, _ => False
  | _ + 1, .none => True
  | _ + 1, .bool _ => True
  | _ + 1, .int _ => True
  | _ + 1, .str _ => True
  | k + 1, .list ds => ds.length ≤ 1000 ∧ ∀ d ∈ ds, okD k d
  | k + 1, .tuple ds => ds.length ≤ 1000 ∧ ∀ d ∈ ds, okD k d
  | _ + 1, .dict _ => False
theorem kit2 {K : PySem.W.Frag} {t : String} {b1 b2 : Bool} (h1 : kitB t "tuple" = some b1) (h2 : kitB t "list" = some b2) : PySem.W.kitAny K (.type t) [.type "tuple", .type "list"] = some (b1 || b2) := by
  cases b1 with
  | true => exact kitAny_cons (kit_ty h1) (fun z => nomatch z) (fun _ => rfl)
  | false =>
    cases b2 with
    | true => exact kitAny_cons (kit_ty h1) (fun _ => kitAny_cons (kit_ty h2) (fun z => nomatch z) (fun _ => rfl)) (fun z => nomatch z)
    | false => exact kitAny_cons (kit_ty h1) (fun _ => kitAny_cons (kit_ty h2) (fun _ => kitAny_nil) (fun z => nomatch z)) (fun z => nomatch z)
theorem cls2 : Paired ClsV [V.ty "tuple", V.ty "list"] [Value.type "tuple", Value.type "list"] := .cons (.ty _) (.cons (.ty _) .nil)
theorem ixS {X : Cx} (K : PySem.W.Frag) (h : X.K = K := by rfl) : IxR X (rIx K) := by
  subst h
  exact ix_seq
/-- a list or a tuple -/
structure Sq2 (K : PySem.W.Frag) (H : Hp) (a : Addr) (xs : List V) (T : String) (b : Bool) : Prop where
  ty : TyX K H (.ref a) (.type T)
  sq : SqL K H a xs ∨ SqT K H a xs
  k1 : PySem.W.kitAny K (.type T) [.type "tuple", .type "list"] = some true
  k2 : PySem.W.kitOne K (.type T) (.type "list") = some b
  ix : ∀ (i : Nat) (x : V) (Q : VK), xs[i]? = some x → Q x H → rIx K (.ref a) (.int (i : Int)) H Q
theorem sq2T {K : PySem.W.Frag} {H : Hp} {a : Addr} {xs : List V} (h : SqT K H a xs) : Sq2 K H a xs "tuple" false :=
  ⟨ty_tup h, .inr h, kit2 (b1 := true) (b2 := false) (by decide +kernel) (by decide +kernel), kit_ty (by decide +kernel), fun i x Q e q => .inr (.inl ⟨a, xs, i, x, rfl, rfl, h, atI_nat e, q⟩)⟩
theorem ty_lst {K : PySem.W.Frag} {H : Hp} {a : Addr} {xs : List V} (h : SqL K H a xs) : TyX K H (.ref a) (.type "list") := by
  rcases h with (h | ⟨o, h⟩) | ⟨o, vz, n, h, c, _⟩
  · exact .base (.lst h)
  · exact .base (.frz h)
  · exact .kList h c
theorem sq2L {K : PySem.W.Frag} {H : Hp} {a : Addr} {xs : List V} (h : SqL K H a xs) : Sq2 K H a xs "list" true :=
  ⟨ty_lst h, .inl h, kit2 (b1 := false) (b2 := true) (by decide +kernel) (by decide +kernel), kit_ty (by decide +kernel), fun i x Q e q => .inl ⟨a, xs, i, x, rfl, rfl, h, atI_nat e, q⟩⟩
theorem pss_no {X : Cx} {sts : List Stmt} : PSs X sts (fun _ _ _ => False) := ⟨fun _ _ _ _ _ _ h => h.elim⟩
section
variable {P : Program} {w : World} {K : PySem.W.Frag} {mg : Str → Option Value} {base : Heap}
def spAlike (K : PySem.W.Frag) (k : Nat) : Sp := fun vs H Q _ => ∃ (v u : V) (d : PyData), vs = [v, u] ∧ Dp K H v d ∧ Dp K H u d ∧ okD k d ∧ ∀ H', Same H H' → Q (.bl true) H'
theorem ok_alike0 (F : Df K mg "_law_alike" st__law_alike ["found", "due"]) (B : Bu mg) : Cal P w K mg base 1 "_law_alike" (spAlike K 0) := by
  refine mkCal F sc__law_alike (fun vs H Q E h => ?_) (fun f cdv A outer s H vs Q E hr h => ?_)
  · obtain ⟨v, u, d, rfl, _⟩ := h
    rfl
  · obtain ⟨v, u, d, rfl, hv, hu, hk, q⟩ := h
    refine ⟨_, pss_cons (ps_if (pt_val (pe_callB call_isiT (by rfl) B.isi (by decide +kernel) (pa_cons (pv 1) (pa_cons (pe_tup (pa_cons (pe_bltn (v := .ty "tuple") (by rfl) B.tuple (by decide +kernel) rfl) (pa_cons (pe_bltn (v := .ty "list") (by rfl) B.list (by decide +kernel) rfl) pa_nil))) pa_nil)))) pss_no pss_nil)
      (pss_cons (ps_if (PW.pt (pw_or (pt_cmp (pc_isN (pv 1))) (pw_or1 (pt_val (pe_callB call_isi (by rfl) B.isi (by decide +kernel) (pa_cons (pv 1) (pa_cons (pe_bltn (v := .ty "str") (by rfl) B.str (by decide +kernel) rfl) pa_nil)))))))
        (pss_one (ps_ret (pe_and (pe_cmpR op_eq (pv 0) (pv 1) (nomark _)) (pe_one (pe_cmpR op_eq (pe_callB call_isi (by rfl) B.isi (by decide +kernel) (pa_cons (pv 0) (pa_cons (pe_bltn (v := .ty "str") (by rfl) B.str (by decide +kernel) rfl) pa_nil)))
          (pe_callB call_isi (by rfl) B.isi (by decide +kernel) (pa_cons (pv 1) (pa_cons (pe_bltn (v := .ty "str") (by rfl) B.str (by decide +kernel) rfl) pa_nil))) (nomark _)))))) pss_nil)
      (pss_one (ps_ret (pe_and (pe_callB call_isi (by rfl) B.isi (by decide +kernel) (pa_cons (pv 0) (pa_cons (pe_bltn (v := .ty "int") (by rfl) B.int (by decide +kernel) rfl) pa_nil)))
        (pe_and (pe_cmpR op_eq (pe_callB call_isi (by rfl) B.isi (by decide +kernel) (pa_cons (pv 0) (pa_cons (pe_bltn (v := .ty "bool") (by rfl) B.bool (by decide +kernel) rfl) pa_nil)))
          (pe_callB call_isi (by rfl) B.isi (by decide +kernel) (pa_cons (pv 1) (pa_cons (pe_bltn (v := .ty "bool") (by rfl) B.bool (by decide +kernel) rfl) pa_nil))) (nomark _)) (pe_one (pe_cmpR op_eq (pv 0) (pv 1) (nomark _)))))))), ?_⟩
    cases hv with
    | non =>
      cases hu
      refine ⟨_, rfl, (by show 2 ≤ sizeLine; decide), fun t ht => ⟨.non, t, _, _, _, false, rfl, upd_same, cls2, .base .non, kit2 (b1 := false) (b2 := false) (by decide +kernel) (by decide +kernel), _, rfl, ifF rfl ?_⟩⟩
      refine ⟨_, rfl, _, rfl, ifT (decide_eq_true rfl) (ifT rfl ?_)⟩
      exact ⟨_, rfl, _, rfl, rfl, _, rfl, ifT (decide_eq_true rfl) ⟨_, rfl, .non, .ty "str", _, _, false, rfl, .ty "str", .base .non, kit_ty (by decide +kernel), _, rfl, .non, .ty "str", _, _, false, rfl, .ty "str", .base .non, kit_ty (by decide +kernel), rfl, q _ (same_new ht)⟩⟩
    | bl b =>
      cases hu
      refine ⟨_, rfl, (by show 2 ≤ sizeLine; decide), fun t ht => ⟨.bl b, t, _, _, _, false, rfl, upd_same, cls2, .base (.bl b), kit2 (b1 := false) (b2 := false) (by decide +kernel) (by decide +kernel), _, rfl, ifF rfl ?_⟩⟩
      refine ⟨_, rfl, _, rfl, ifF (decide_eq_false (fun z => nomatch z)) ⟨_, rfl, .bl b, .ty "str", _, _, false, rfl, .ty "str", .base (.bl b), kit_ty (by decide +kernel), _, rfl, ifF rfl ?_⟩⟩
      refine ⟨_, rfl, .bl b, .ty "int", _, _, true, rfl, .ty "int", .base (.bl b), kit_ty (by decide +kernel), _, rfl, ifT rfl ?_⟩
      refine ⟨_, rfl, .bl b, .ty "bool", _, _, true, rfl, .ty "bool", .base (.bl b), kit_ty (by decide +kernel), _, rfl, .bl b, .ty "bool", _, _, true, rfl, .ty "bool", .base (.bl b), kit_ty (by decide +kernel), rfl, _, rfl, ifT (decide_eq_true rfl) ?_⟩
      refine ⟨_, rfl, _, rfl, rfl, ?_⟩
      rw [decide_eq_true (rfl : V.bl b = V.bl b)]
      exact q _ (same_new ht)
    | int i =>
      cases hu
      refine ⟨_, rfl, (by show 2 ≤ sizeLine; decide), fun t ht => ⟨.int i, t, _, _, _, false, rfl, upd_same, cls2, .base (.int i), kit2 (b1 := false) (b2 := false) (by decide +kernel) (by decide +kernel), _, rfl, ifF rfl ?_⟩⟩
      refine ⟨_, rfl, _, rfl, ifF (decide_eq_false (fun z => nomatch z)) ⟨_, rfl, .int i, .ty "str", _, _, false, rfl, .ty "str", .base (.int i), kit_ty (by decide +kernel), _, rfl, ifF rfl ?_⟩⟩
      refine ⟨_, rfl, .int i, .ty "int", _, _, true, rfl, .ty "int", .base (.int i), kit_ty (by decide +kernel), _, rfl, ifT rfl ?_⟩
      refine ⟨_, rfl, .int i, .ty "bool", _, _, false, rfl, .ty "bool", .base (.int i), kit_ty (by decide +kernel), _, rfl, .int i, .ty "bool", _, _, false, rfl, .ty "bool", .base (.int i), kit_ty (by decide +kernel), rfl, _, rfl, ifT (decide_eq_true rfl) ?_⟩
      refine ⟨_, rfl, _, rfl, rfl, ?_⟩
      rw [decide_eq_true (rfl : V.int i = V.int i)]
      exact q _ (same_new ht)
    | str x =>
      cases hu
      refine ⟨_, rfl, (by show 2 ≤ sizeLine; decide), fun t ht => ⟨.str x, t, _, _, _, false, rfl, upd_same, cls2, .base (.str x), kit2 (b1 := false) (b2 := false) (by decide +kernel) (by decide +kernel), _, rfl, ifF rfl ?_⟩⟩
      refine ⟨_, rfl, _, rfl, ifF (decide_eq_false (fun z => nomatch z)) ⟨_, rfl, .str x, .ty "str", _, _, true, rfl, .ty "str", .base (.str x), kit_ty (by decide +kernel), _, rfl, ifT rfl ?_⟩⟩
      exact ⟨_, rfl, _, rfl, rfl, _, rfl, ifT (decide_eq_true rfl) ⟨_, rfl, .str x, .ty "str", _, _, true, rfl, .ty "str", .base (.str x), kit_ty (by decide +kernel), _, rfl, .str x, .ty "str", _, _, true, rfl, .ty "str", .base (.str x), kit_ty (by decide +kernel), rfl, q _ (same_new ht)⟩⟩
    | lst _ _ => exact hk.elim
    | tup _ _ => exact hk.elim
end
end RH
set_option Elab.async false
set_option linter.all false
set_option maxRecDepth 100000
set_option maxHeartbeats 2000000
namespace RH
open PySem PySem.Spec PyProof.Rows L2
theorem alike_cases {K : PySem.W.Frag} {H : Hp} {k : Nat} {v u : V} {d : PyData} (hv : Dp K H v d) (hu : Dp K H u d) (hk : okD (k + 1) d) : okD 0 d ∨ ∃ (a b : Addr) (xs ys : List V) (ds : List PyData) (T : String) (bl : Bool), v = .ref a ∧ u = .ref b ∧
    (∀ H', Same H H' → Sq2 K H' a xs T bl) ∧ (∀ H', Same H H' → Sq2 K H' b ys T bl) ∧ DpAll K H xs ds ∧ DpAll K H ys ds ∧ ds.length ≤ 1000 ∧ ∀ d ∈ ds, okD k d := by
  cases hv with
  | non => exact .inl True.intro
  | bl _ => exact .inl True.intro
  | int _ => exact .inl True.intro
  | str _ => exact .inl True.intro
  | @lst a xs ds h1 h2 =>
    cases hu with
    | @lst b ys _ h3 h4 => exact .inr ⟨a, b, xs, ys, ds, "list", true, rfl, rfl, fun _ s => sq2L (s.seq h1), fun _ s => sq2L (s.seq h3), h2, h4, hk.1, hk.2⟩
  | @tup a xs ds h1 h2 =>
    cases hu with
    | @tup b ys _ h3 h4 => exact .inr ⟨a, b, xs, ys, ds, "tuple", false, rfl, rfl, fun _ s => sq2T (onT s h1), fun _ s => sq2T (onT s h3), h2, h4, hk.1, hk.2⟩
section
variable {P : Program} {w : World} {K : PySem.W.Frag} {mg : Str → Option Value} {base : Heap}
theorem ok_alikeS (k : Nat) (F : Df K mg "_law_alike" st__law_alike ["found", "due"]) (B : Bu mg) (C : Cal P w K mg base (k + 1) "_law_alike" (spAlike K k)) : Cal P w K mg base (k + 2) "_law_alike" (spAlike K (k + 1)) := by
  refine mkCal F sc__law_alike (fun vs H Q E h => ?_) (fun f cdv A outer s H vs Q E hr h => ?_)
  · obtain ⟨v, u, d, rfl, _⟩ := h
    rfl
  · obtain ⟨v, u, d, rfl, hv, hu, hk, q⟩ := h
    refine ⟨_, pss_cons (ps_if (pt_val (pe_callB call_isiT (by rfl) B.isi (by decide +kernel) (pa_cons (pv 1) (pa_cons (pe_tup (pa_cons (pe_bltn (v := .ty "tuple") (by rfl) B.tuple (by decide +kernel) rfl) (pa_cons (pe_bltn (v := .ty "list") (by rfl) B.list (by decide +kernel) rfl) pa_nil))) pa_nil))))
        (pss_cons (ps_if (PW.pt (pw_or (pt_not (pt_val (pe_callB call_isiT (by rfl) B.isi (by decide +kernel) (pa_cons (pv 0) (pa_cons (pe_tup (pa_cons (pe_bltn (v := .ty "tuple") (by rfl) B.tuple (by decide +kernel) rfl) (pa_cons (pe_bltn (v := .ty "list") (by rfl) B.list (by decide +kernel) rfl) pa_nil))) pa_nil)))))
            (pw_or1 (pt_cmpR op_ne (pe_callB call_isi (by rfl) B.isi (by decide +kernel) (pa_cons (pv 0) (pa_cons (pe_bltn (v := .ty "list") (by rfl) B.list (by decide +kernel) rfl) pa_nil)))
              (pe_callB call_isi (by rfl) B.isi (by decide +kernel) (pa_cons (pv 1) (pa_cons (pe_bltn (v := .ty "list") (by rfl) B.list (by decide +kernel) rfl) pa_nil))) (nomark _))))) (pss_one (ps_ret pe_bl)) pss_nil)
        (pss_cons (ps_if (pt_cmpR op_ne (pe_callB (cl_len K) (by rfl) B.len PySem.boot_len (pa_cons (pv 0) pa_nil)) (pe_callB (cl_len K) (by rfl) B.len PySem.boot_len (pa_cons (pv 1) pa_nil)) (nomark _)) (pss_one (ps_ret pe_bl)) pss_nil)
        (pss_one (ps_ret (pe_cmpR (op_eqD hr.units) (pe_lc (own := [("k", 2)]) (g := gName 2) rfl sc__law_alike.nd (pi_range1 (by rfl) B.range (pa_cons (pe_callB (cl_len K) (by rfl) B.len PySem.boot_len (pa_cons (pv 1) pa_nil)) pa_nil))
          (blkOk_by (N := ["found", "due", "k"]) (sc := defScope st__law_alike) (by decide +kernel)) (fun _ _ _ _ _ => pg_name (i := 2) sc__law_alike.nd rfl (Or.inl rfl))
          (fun _ _ _ _ _ => pts_one (pt_not (pt_val (pc C hr (pa_cons (pe_ix (ixS K) (pv 0) (pv 2) (fun _ _ => rfl)) (pa_cons (pe_ix (ixS K) (pv 1) (pv 2) (fun _ _ => rfl)) pa_nil)) (hk := Nat.le_refl _))))) (fun _ _ _ _ _ => pv 2)) (pe_lst pa_nil) (nomark _)))))) pss_nil)
      (pss_cons (ps_if (PW.pt (pw_or (pt_cmp (pc_isN (pv 1))) (pw_or1 (pt_val (pe_callB call_isi (by rfl) B.isi (by decide +kernel) (pa_cons (pv 1) (pa_cons (pe_bltn (v := .ty "str") (by rfl) B.str (by decide +kernel) rfl) pa_nil)))))))
        (pss_one (ps_ret (pe_and (pe_cmpR op_eq (pv 0) (pv 1) (nomark _)) (pe_one (pe_cmpR op_eq (pe_callB call_isi (by rfl) B.isi (by decide +kernel) (pa_cons (pv 0) (pa_cons (pe_bltn (v := .ty "str") (by rfl) B.str (by decide +kernel) rfl) pa_nil)))
          (pe_callB call_isi (by rfl) B.isi (by decide +kernel) (pa_cons (pv 1) (pa_cons (pe_bltn (v := .ty "str") (by rfl) B.str (by decide +kernel) rfl) pa_nil))) (nomark _)))))) pss_nil)
      (pss_one (ps_ret (pe_and (pe_callB call_isi (by rfl) B.isi (by decide +kernel) (pa_cons (pv 0) (pa_cons (pe_bltn (v := .ty "int") (by rfl) B.int (by decide +kernel) rfl) pa_nil)))
        (pe_and (pe_cmpR op_eq (pe_callB call_isi (by rfl) B.isi (by decide +kernel) (pa_cons (pv 0) (pa_cons (pe_bltn (v := .ty "bool") (by rfl) B.bool (by decide +kernel) rfl) pa_nil)))
          (pe_callB call_isi (by rfl) B.isi (by decide +kernel) (pa_cons (pv 1) (pa_cons (pe_bltn (v := .ty "bool") (by rfl) B.bool (by decide +kernel) rfl) pa_nil))) (nomark _)) (pe_one (pe_cmpR op_eq (pv 0) (pv 1) (nomark _)))))))), ?_⟩
    rcases alike_cases hv hu hk with hk0 | ⟨a, b, xs, ys, ds, T, bl, rfl, rfl, ha, hb, hx, hy, hl, hd⟩
    · clear hk
      cases hv with
      | non =>
        cases hu
        refine ⟨_, rfl, (by show 2 ≤ sizeLine; decide), fun t ht => ⟨.non, t, _, _, _, false, rfl, upd_same, cls2, .base .non, kit2 (b1 := false) (b2 := false) (by decide +kernel) (by decide +kernel), _, rfl, ifF rfl ?_⟩⟩
        refine ⟨_, rfl, _, rfl, ifT (decide_eq_true rfl) (ifT rfl ?_)⟩
        exact ⟨_, rfl, _, rfl, rfl, _, rfl, ifT (decide_eq_true rfl) ⟨_, rfl, .non, .ty "str", _, _, false, rfl, .ty "str", .base .non, kit_ty (by decide +kernel), _, rfl, .non, .ty "str", _, _, false, rfl, .ty "str", .base .non, kit_ty (by decide +kernel), rfl, q _ (same_new ht)⟩⟩
      | bl b =>
        cases hu
        refine ⟨_, rfl, (by show 2 ≤ sizeLine; decide), fun t ht => ⟨.bl b, t, _, _, _, false, rfl, upd_same, cls2, .base (.bl b), kit2 (b1 := false) (b2 := false) (by decide +kernel) (by decide +kernel), _, rfl, ifF rfl ?_⟩⟩
        refine ⟨_, rfl, _, rfl, ifF (decide_eq_false (fun z => nomatch z)) ⟨_, rfl, .bl b, .ty "str", _, _, false, rfl, .ty "str", .base (.bl b), kit_ty (by decide +kernel), _, rfl, ifF rfl ?_⟩⟩
        refine ⟨_, rfl, .bl b, .ty "int", _, _, true, rfl, .ty "int", .base (.bl b), kit_ty (by decide +kernel), _, rfl, ifT rfl ?_⟩
        refine ⟨_, rfl, .bl b, .ty "bool", _, _, true, rfl, .ty "bool", .base (.bl b), kit_ty (by decide +kernel), _, rfl, .bl b, .ty "bool", _, _, true, rfl, .ty "bool", .base (.bl b), kit_ty (by decide +kernel), rfl, _, rfl, ifT (decide_eq_true rfl) ?_⟩
        refine ⟨_, rfl, _, rfl, rfl, ?_⟩
        rw [decide_eq_true (rfl : V.bl b = V.bl b)]
        exact q _ (same_new ht)
      | int i =>
        cases hu
        refine ⟨_, rfl, (by show 2 ≤ sizeLine; decide), fun t ht => ⟨.int i, t, _, _, _, false, rfl, upd_same, cls2, .base (.int i), kit2 (b1 := false) (b2 := false) (by decide +kernel) (by decide +kernel), _, rfl, ifF rfl ?_⟩⟩
        refine ⟨_, rfl, _, rfl, ifF (decide_eq_false (fun z => nomatch z)) ⟨_, rfl, .int i, .ty "str", _, _, false, rfl, .ty "str", .base (.int i), kit_ty (by decide +kernel), _, rfl, ifF rfl ?_⟩⟩
        refine ⟨_, rfl, .int i, .ty "int", _, _, true, rfl, .ty "int", .base (.int i), kit_ty (by decide +kernel), _, rfl, ifT rfl ?_⟩
        refine ⟨_, rfl, .int i, .ty "bool", _, _, false, rfl, .ty "bool", .base (.int i), kit_ty (by decide +kernel), _, rfl, .int i, .ty "bool", _, _, false, rfl, .ty "bool", .base (.int i), kit_ty (by decide +kernel), rfl, _, rfl, ifT (decide_eq_true rfl) ?_⟩
        refine ⟨_, rfl, _, rfl, rfl, ?_⟩
        rw [decide_eq_true (rfl : V.int i = V.int i)]
        exact q _ (same_new ht)
      | str x =>
        cases hu
        refine ⟨_, rfl, (by show 2 ≤ sizeLine; decide), fun t ht => ⟨.str x, t, _, _, _, false, rfl, upd_same, cls2, .base (.str x), kit2 (b1 := false) (b2 := false) (by decide +kernel) (by decide +kernel), _, rfl, ifF rfl ?_⟩⟩
        refine ⟨_, rfl, _, rfl, ifF (decide_eq_false (fun z => nomatch z)) ⟨_, rfl, .str x, .ty "str", _, _, true, rfl, .ty "str", .base (.str x), kit_ty (by decide +kernel), _, rfl, ifT rfl ?_⟩⟩
        exact ⟨_, rfl, _, rfl, rfl, _, rfl, ifT (decide_eq_true rfl) ⟨_, rfl, .str x, .ty "str", _, _, true, rfl, .ty "str", .base (.str x), kit_ty (by decide +kernel), _, rfl, .str x, .ty "str", _, _, true, rfl, .ty "str", .base (.str x), kit_ty (by decide +kernel), rfl, q _ (same_new ht)⟩⟩
      | lst _ _ => exact hk0.elim
      | tup _ _ => exact hk0.elim
    · have lx : xs.length = ds.length := DpAll.len hx
      have ly : ys.length = ds.length := DpAll.len hy
      refine ⟨_, rfl, (by show 2 ≤ sizeLine; decide), fun t ht => ?_⟩
      have s1 : Same H (upd H t (.tup [.ty "tuple", .ty "list"])) := same_new ht
      have b1 := hb _ s1
      refine ⟨.ref b, t, _, _, _, true, rfl, upd_same, cls2, b1.ty, b1.k1, _, rfl, ifT rfl ?_⟩
      refine ⟨_, rfl, (by show 2 ≤ sizeLine; decide), fun t2 ht2 => ?_⟩
      have s2 := s1.trans (same_new (o := .tup [.ty "tuple", .ty "list"]) ht2)
      have a2 := ha _ s2
      have b2 := hb _ s2
      refine ⟨.ref a, t2, _, _, _, true, rfl, upd_same, cls2, a2.ty, a2.k1, _, rfl, ifF rfl ?_⟩
      refine ⟨_, rfl, .ref a, .ty "list", _, _, bl, rfl, .ty "list", a2.ty, a2.k2, _, rfl, .ref b, .ty "list", _, _, bl, rfl, .ty "list", b2.ty, b2.k2, rfl, _, rfl, ifF (by rw [decide_eq_true (rfl : V.bl bl = V.bl bl)]; rfl) ?_⟩
      refine ⟨_, rfl, a, xs, rfl, a2.sq, _, rfl, b, ys, rfl, b2.sq, rfl, _, rfl, ifF (by rw [lx, ly, decide_eq_true rfl]; rfl) ?_⟩
      refine ⟨_, rfl, b, ys, rfl, b2.sq, _, rfl, by omega, by omega, fun D hD => ?_⟩
      rw [Int.toNat_natCast]
      refine lc_range (lo := 0) (n := ys.length) (fun i H' => Same (upd (upd H t (.tup [.ty "tuple", .ty "list"])) t2 (.tup [.ty "tuple", .ty "list"])) H' ∧ H' D = some (.lst [])) ⟨same_new hD, upd_same⟩ (fun i H' hi h' => ?_) (fun H' h' => ?_)
      · obtain ⟨sm, eD⟩ := h'
        have s3 := s2.trans sm
        obtain ⟨d, hdi⟩ : ∃ d, ds[i]? = some d := ⟨_, List.getElem?_eq_getElem (by omega)⟩
        obtain ⟨x, hxi, hxd⟩ := DpAll.of hx hdi
        obtain ⟨y, hyi, hyd⟩ := DpAll.of hy hdi
        rw [Int.zero_add]
        refine ⟨rfl, _, rfl, _, rfl, ?_⟩
        refine (ha _ s3).ix i x _ hxi ⟨_, rfl, _, rfl, ?_⟩
        refine (hb _ s3).ix i y _ hyi ⟨x, y, d, rfl, Dp.on s3 d x hxd, Dp.on s3 d y hyd, hd d (List.mem_of_getElem? hdi), fun H4 s4 => ⟨_, rfl, ifF rfl ⟨?_, s4 _ _ eD⟩⟩⟩
        exact sm.trans s4
      · obtain ⟨sm, eD⟩ := h'
        refine ⟨Nat.zero_le _, fun z hz => ?_⟩
        refine ⟨_, _, dp_lst (ns := []) (lstAt (same_new hz _ _ eD)), dp_lst (ns := []) (lstAt upd_same), PySem.W.ke_shaped_ints _, PySem.W.ke_shaped_ints _, ?_⟩
        exact q _ (s2.trans (sm.trans (same_new hz)))
end
end RH
set_option Elab.async false
set_option linter.all false
set_option maxRecDepth 100000
set_option maxHeartbeats 2000000
namespace RH
open PySem PySem.Spec PyProof.Rows L2
/-! ### words, what they touch, and what a loss does -/
theorem rg_nd (n : Nat) : (rg n).Nodup := by
  unfold rg
  exact List.Pairwise.map _ (fun a b (e : a ≠ b) => fun z => e (by omega)) List.nodup_range
theorem idx_at {l : List Int} (nd : l.Nodup) {i : Nat} {x : Int} (h : l[i]? = some x) : l.idxOf x = i := by
  obtain ⟨hi, e⟩ := List.getElem?_eq_some_iff.mp h
  subst e
  exact nd.idxOf_getElem i hi
theorem perm_nd {n : Nat} {l : List Int} (h : l.Perm (rg n)) : l.Nodup := h.nodup_iff.mpr (rg_nd n)
theorem perm_len {n : Nat} {l : List Int} (h : l.Perm (rg n)) : l.length = n := by rw [h.length_eq, rg_len]
theorem perm_in {n : Nat} {l : List Int} (h : l.Perm (rg n)) {x : Int} (hx : x ∈ l) : InR n x := rg_mem.mp (h.mem_iff.mp hx)
def stp (h : List (List Int)) (p : Int) (L : List Int) : List Int := L.map (mv h p)
def mvs (h : List (List Int)) (L ws : List Int) : List Int := ws.foldl (fun L p => stp h p L) L
theorem mvs_app (h : List (List Int)) (L ws us : List Int) : mvs h L (ws ++ us) = mvs h (mvs h L ws) us := List.foldl_append ..
theorem mvs_snoc (h : List (List Int)) (L ws : List Int) (p : Int) : mvs h L (ws ++ [p]) = stp h p (mvs h L ws) := mvs_app h L ws [p]
theorem mvs_more {h : List (List Int)} {L ws : List Int} {i : Nat} {p : Int} (e : ws[i]? = some p) : mvs h L (ws.take (i + 1)) = stp h p (mvs h L (ws.take i)) := by
  rw [take_more e, mvs_snoc]
/-- the row of a place -/
theorem Hb.row {n : Nat} {h : List (List Int)} (q : Hb n h) {p : Int} (hp : InR n p) : h.getD p.toNat [] ∈ h := by
  have h1 : p.toNat < h.length := by rw [q.len]; have := hp.1; have := hp.2; omega
  rw [List.getD_eq_getElem?_getD, List.getElem?_eq_getElem h1]
  exact List.getElem_mem h1
theorem Hb.row_eq {n : Nat} {h : List (List Int)} (q : Hb n h) {p : Int} (hp : InR n p) : (rg n).map (mv h p) = h.getD p.toNat [] := by
  have hl := q.short (q.row hp)
  refine List.ext_getElem? fun i => ?_
  rw [List.getElem?_map]
  by_cases hi : i < n
  · rw [rg_at hi]
    show some (mv h p (i : Int)) = _
    unfold mv
    rw [Int.toNat_natCast, List.getD_eq_getElem?_getD (l := h.getD p.toNat []), List.getElem?_eq_getElem (by omega : i < (h.getD p.toNat []).length)]
    rfl
  · rw [List.getElem?_eq_none (by rw [rg_len]; omega), List.getElem?_eq_none (by omega)]
    rfl
theorem Hb.stp_perm {n : Nat} {h : List (List Int)} (q : Hb n h) {p : Int} (hp : InR n p) {L : List Int} (hL : L.Perm (rg n)) : (stp h p L).Perm (rg n) := by
  have h1 : (stp h p L).Perm ((rg n).map (mv h p)) := hL.map _
  rw [q.row_eq hp] at h1
  exact h1.trans (q.perm _ (q.row hp))
theorem Hb.mvs_perm {n : Nat} {h : List (List Int)} (q : Hb n h) : ∀ {ws L : List Int}, (∀ t ∈ ws, InR n t) → L.Perm (rg n) → (mvs h L ws).Perm (rg n)
  | [], _, _, hL => hL
  | p :: ws, L, hw, hL => q.mvs_perm (ws := ws) (L := stp h p L) (fun t ht => hw t (List.mem_cons_of_mem _ ht)) (q.stp_perm (hw p (List.mem_cons_self ..)) hL)
/-- a loss that never shows, and behind which all stands as it should -/
def hid (n : Nat) (h : List (List Int)) (ws : List Int) (s : Nat) : Bool := decide (h.getD (ws.getD s 0).toNat [] = rg n)
end RH
set_option Elab.async false
set_option linter.all false
set_option maxRecDepth 100000
set_option maxHeartbeats 2000000
namespace RH
open PySem PySem.Spec PyProof.Rows L2
theorem ixN_int {n : Nat} {k : Int} (h0 : 0 ≤ k) (h1 : k < n) : ixN n k = some k.toNat := by
  unfold ixN
  rw [if_pos h0, if_pos h1]
theorem range_more {f : Nat → Int} (i : Nat) : ((List.range (i + 1)).map f).map V.int = ((List.range i).map f).map V.int ++ [V.int (f i)] := by
  rw [List.range_succ, List.map_append, List.map_append]
  rfl
end RH
set_option Elab.async false
set_option linter.all false
set_option maxRecDepth 100000
set_option maxHeartbeats 2000000
namespace RH
open PySem PySem.Spec PyProof.Rows L2
/-! ### the checks of one shelf, a touch -/
section
variable {P : Program} {w : World} {K : PySem.W.Frag} {mg : Str → Option Value} {base : Heap}
def spCheckNumber : Sp := fun vs H Q _ => ∃ i lo hi : Int, vs = [.int i, .int lo, .int hi] ∧ lo ≤ i ∧ i ≤ hi ∧ Q .non H
theorem ok_check_number (F : Df K mg "check_number" st_check_number ["value", "low", "high"]) (C2 : Cal P w K mg base 2 "is_number" spIsNumber) : Cal P w K mg base 3 "check_number" spCheckNumber := by
  refine mkCal F sc_check_number (fun vs H Q E h => ?_) (fun f cdv A outer s H vs Q E hr h => ?_)
  · obtain ⟨i, lo, hi, rfl, _⟩ := h
    rfl
  · obtain ⟨i, lo, hi, rfl, h1, h2, q⟩ := h
    refine ⟨_, pss_one (ps_if (pt_not (pt_val (pc C2 hr (pa_cons (pv 0) (pa_cons (pv 1) (pa_cons (pv 2) pa_nil)))))) (pss_one ps_no) pss_nil), ?_⟩
    exact ⟨_, rfl, _, rfl, _, rfl, i, lo, hi, rfl, _, rfl, ifF (by rw [decide_eq_true h1, decide_eq_true h2]; rfl) q⟩
def spCheckPlaces : Sp := fun vs H Q _ => ∃ n : Nat, vs = [.int n] ∧ 2 ≤ n ∧ n ≤ 5 ∧ Q .non H
theorem ok_check_places (F : Df K mg "check_places" st_check_places ["places"]) (c2 : ∃ t, mg "FEWEST_PLACES" = some (.int 2 t)) (c5 : ∃ t, mg "MOST_PLACES" = some (.int 5 t)) (C3 : Cal P w K mg base 3 "check_number" spCheckNumber) :
    Cal P w K mg base 4 "check_places" spCheckPlaces := by
  refine mkCal F sc_check_places (fun vs H Q E h => ?_) (fun f cdv A outer s H vs Q E hr h => ?_)
  · obtain ⟨n, rfl, _⟩ := h
    rfl
  · obtain ⟨n, rfl, h1, h2, q⟩ := h
    refine ⟨_, pss_one (ps_expr (pc C3 hr (pa_cons (pv 0) (pa_cons (pk c2) (pa_cons (pk c5) pa_nil))))), ?_⟩
    exact ⟨_, rfl, n, 2, 5, rfl, by omega, by omega, q⟩
theorem lay_yes {n : Nat} {L : List Int} (h : L.Perm (rg n)) : isLay n L = true := by
  unfold isLay
  exact List.isPerm_iff.mpr h
def spCheckHabit (K : PySem.W.Frag) : Sp := fun vs H Q _ => ∃ (v : V) (h : List (List Int)) (n : Nat), vs = [v] ∧ TII K H v h ∧ Hb n h ∧ ∀ H', Same H H' → Q .non H'
theorem ok_check_habit (F : Df K mg "check_habit" st_check_habit ["habit"]) (B : Bu mg) (c2 : ∃ t, mg "FEWEST_PLACES" = some (.int 2 t)) (c5 : ∃ t, mg "MOST_PLACES" = some (.int 5 t))
    (C1 : Cal P w K mg base 1 "is_row" (spIsRow K)) (C5 : Cal P w K mg base 5 "is_layout" (spIsLayout K)) : Cal P w K mg base 6 "check_habit" (spCheckHabit K) := by
  refine mkCal F sc_check_habit (fun vs H Q E h => ?_) (fun f cdv A outer s H vs Q E hr h => ?_)
  · obtain ⟨v, h, n, rfl, _⟩ := h
    rfl
  · obtain ⟨v, h, n, rfl, ⟨a, xs, rfl, hS, hE⟩, hb, q⟩ := h
    have hxl : xs.length = n := hE.len.trans hb.len
    have n2 := hb.lo
    have n5 := hb.hi
    refine ⟨_, pss_cons (ps_if (pt_not (pt_val (pc C1 hr (pa_cons (pv 0) (pa_cons (pk c2) (pa_cons (pk c5) pa_nil)))))) (pss_one ps_no) pss_nil)
      (pss_one (ps_for PassesOwn.never rfl (pi_enumT (by rfl) B.enumerate (pa_cons (pv 0) pa_nil)) (pg_tup rfl (pgs_cons (pg_name (i := 1) sc_check_habit.nd rfl (.inl rfl)) (pgs_cons (pg_name (i := 2) sc_check_habit.nd rfl (.inl rfl)) pgs_nil)))
        (pss_one (ps_if (pt_not (pt_val (pc C5 hr (pa_cons (pv 2) (pa_cons (pe_callB (cl_len K) (by rfl) B.len PySem.boot_len (pa_cons (pv 0) pa_nil)) pa_nil))))) (pss_one ps_no) pss_nil)))), ?_⟩
    refine ⟨_, rfl, a, xs, 2, 5, rfl, hS, _, rfl, ifF ?_ ?_⟩
    · rw [hxl, decide_eq_true (by omega), decide_eq_true (by omega)]
      rfl
    refine ⟨_, rfl, a, xs, rfl, hS, ?_⟩
    refine for_enumT (xs := xs) (fun i σ H' => Same H H' ∧ ∃ y1 y2, σ = [some (.ref a), y1, y2]) ⟨Same.refl H, none, none, rfl⟩ (fun i σ H' h' => onT h'.1 hS) (fun i x T σ H' hx h' hT => ?_) (fun σ H' h' => q H' h'.1)
    obtain ⟨sm, y1, y2, rfl⟩ := h'
    obtain ⟨ns, hn, hTx⟩ := hE.at hx
    have hpm := hb.perm ns (List.mem_of_getElem? hn)
    have sT : Same H (upd H' T (.tup [.int (i : Nat), x])) := sm.trans (same_new hT)
    refine ⟨T, _, rfl, tupAt upd_same, rfl, _, _, rfl, _, _, rfl, rfl, _, rfl, _, rfl, a, xs, rfl, .inr (onT sT hS), x, ns, n, by rw [hxl]; rfl, hTx.on (fun _ _ z => onT sT z), by rw [perm_len hpm]; omega, by omega, fun H3 sm3 => ⟨_, rfl, ifF (by rw [lay_yes hpm]; rfl) ⟨sT.trans sm3, _, _, rfl⟩⟩⟩
def spCheckLayout (K : PySem.W.Frag) : Sp := fun vs H Q _ => ∃ (v : V) (L : List Int) (n : Nat), vs = [v, .int n] ∧ TI K H v L ∧ L.Perm (rg n) ∧ n ≤ 5 ∧ ∀ H', Same H H' → Q .non H'
theorem ok_check_layout (F : Df K mg "check_layout" st_check_layout ["layout", "places"]) (C5 : Cal P w K mg base 5 "is_layout" (spIsLayout K)) : Cal P w K mg base 6 "check_layout" (spCheckLayout K) := by
  refine mkCal F sc_check_layout (fun vs H Q E h => ?_) (fun f cdv A outer s H vs Q E hr h => ?_)
  · obtain ⟨v, L, n, rfl, _⟩ := h
    rfl
  · obtain ⟨v, L, n, rfl, hT, hp, n5, q⟩ := h
    refine ⟨_, pss_one (ps_if (pt_not (pt_val (pc C5 hr (pa_cons (pv 0) (pa_cons (pv 1) pa_nil))))) (pss_one ps_no) pss_nil), ?_⟩
    exact ⟨_, rfl, _, rfl, v, L, n, rfl, hT, by rw [perm_len hp]; omega, by omega, fun H1 sm => ⟨_, rfl, ifF (by rw [lay_yes hp]; rfl) (q H1 sm)⟩⟩
def spPlacesOf (K : PySem.W.Frag) : Sp := fun vs H Q _ => ∃ (v : V) (h : List (List Int)) (n : Nat), vs = [v] ∧ TII K H v h ∧ Hb n h ∧ ∀ q, H q = none → Q (.ref q) (upd H q (.tup ((rg n).map V.int)))
theorem ok_places_of (F : Df K mg "places_of_habit" st_places_of_habit ["habit"]) (B : Bu mg) : Cal P w K mg base 1 "places_of_habit" (spPlacesOf K) := by
  refine mkCal F sc_places_of_habit (fun vs H Q E h => ?_) (fun f cdv A outer s H vs Q E hr h => ?_)
  · obtain ⟨v, h, n, rfl, _⟩ := h
    rfl
  · obtain ⟨v, h, n, rfl, ⟨a, xs, rfl, hS, hE⟩, hb, q⟩ := h
    have hxl : xs.length = n := hE.len.trans hb.len
    have n5 := hb.hi
    refine ⟨_, pss_one (ps_ret (pe_tupRg rfl (by rfl) B.tuple (prg_1 (by rfl) B.range (pe_callB (cl_len K) (by rfl) B.len PySem.boot_len (pa_cons (pv 0) pa_nil))))), ?_⟩
    refine ⟨_, rfl, a, xs, rfl, .inr hS, (xs.length : Int), rfl, ?_⟩
    rw [hxl]
    refine ⟨⟨by omega, by omega, by omega, by omega, by omega⟩, fun t ht => ?_⟩
    rw [rgV_rg]
    exact q t ht
def spMove (K : PySem.W.Frag) : Sp := fun vs H Q _ => ∃ (v : V) (h : List (List Int)) (n : Nat) (a : Addr) (L : List Int) (p : Int), vs = [v, .ref a, .int p] ∧ TII K H v h ∧ Hb n h ∧ SqT K H a (L.map V.int) ∧ (∀ i ∈ L, InR n i) ∧ L.length ≤ 1000 ∧ InR n p ∧
  ∀ H' q, Same H H' → H q = none → FT H' q (stp h p L) → Q (.ref q) H'
theorem ok_move (F : Df K mg "move" st_move ["habit", "layout", "place"]) (B : Bu mg) : Cal P w K mg base 1 "move" (spMove K) := by
  refine mkCal F sc_move (fun vs H Q E h => ?_) (fun f cdv A outer s H vs Q E hr h => ?_)
  · obtain ⟨v, h, n, a, L, p, rfl, _⟩ := h
    rfl
  · obtain ⟨v, h, n, a, L, p, rfl, ⟨ah, xs, rfl, hS, hE⟩, hb, hL, hin, hlen, hp, q⟩ := h
    refine ⟨_, pss_cons (ps_set (i := 3) sc_move.nd rfl (.inr rfl) (pe_ix ix_tup (pv 0) (pv 2) (fun _ _ => rfl)))
      (pss_one (ps_ret (pe_tupleF (by rfl) B.tuple (pe_lc (own := [("stood", 4)]) (g := gName 4) (tt := tYes) rfl sc_move.nd (pi_tup (pv 1)) (blkOk_by (N := ["habit", "layout", "place", "moves", "stood"]) (sc := defScope st_move) (by decide +kernel))
        (fun _ _ _ _ _ => pg_name (i := 4) sc_move.nd rfl (Or.inl rfl)) (fun _ _ _ _ _ => pts_nil) (fun _ _ _ _ _ => pe_ix (ixT K) (pv 3) (pv 4) (fun _ _ => rfl)))))), ?_⟩
    obtain ⟨a1, ns1, e1, s1, _⟩ := ix2 hE hb hp hp
    refine ⟨_, rfl, _, rfl, ah, xs, p, _, rfl, rfl, hS, e1, ?_⟩
    refine ⟨_, rfl, a, rfl, ⟨_, hL⟩, fun D hD => ?_⟩
    refine lc_tup (xs := L.map V.int) (fun i H' => Same H H' ∧ H' D = some (.lst (((L.take i).map (mv h p)).map V.int))) ⟨same_new hD, upd_same⟩ (fun i H' _ h' => onT h'.1 hL) (fun i x H' hx h' => ?_) (fun H' h' => ?_)
    · obtain ⟨st, hst, rfl⟩ := map_at hx
      obtain ⟨sm, eD⟩ := h'
      obtain ⟨a2, ns2, e2, s2, e3⟩ := ix2 hE hb hp (hin st (List.mem_of_getElem? hst))
      rw [e1] at e2
      cases e2
      refine ⟨rfl, _, rfl, _, rfl, a1, _, st, _, rfl, rfl, onT sm s2, e3, _, eD, ?_, ?_, ?_⟩
      · rw [List.length_map, List.length_map, List.length_take]
        exact small1000 (by omega)
      · intro b o e
        rw [upd_ne (ne_of_none e hD)]
        exact sm b o e
      · rw [upd_same, take_more hst, List.map_append, List.map_append]
        rfl
    · obtain ⟨sm, eD⟩ := h'
      rw [List.length_map, List.take_length] at eD
      refine ⟨D, _, rfl, lstAt eD, fun t ob ht hob => q _ t (sm.trans (same_new ht)) ?_ ⟨ob, upd_same, hob⟩⟩
      cases e : H t with
      | none => rfl
      | some o =>
        rw [sm _ _ e] at ht
        cases ht
end
end RH
set_option Elab.async false
set_option linter.all false
set_option maxRecDepth 100000
set_option maxHeartbeats 2000000
namespace RH
open PySem PySem.Spec PyProof.Rows L2
/-! ### what the program tells of words -/
theorem none_of {H H' : Hp} {p : Addr} (a : Same H H') (h : H' p = none) : H p = none := by
  cases e : H p with
  | none => rfl
  | some o =>
    rw [a _ _ e] at h
    cases h
theorem FT.same {H H' : Hp} {b : Addr} {s : List Int} (e : Same H H') (h : FT H b s) : FT H' b s := let ⟨ob, h1, h2⟩ := h; ⟨ob, e _ _ h1, h2⟩
theorem FT.fix {H H' : Hp} {b : Addr} {s : List Int} (f : Fix H H') (h : FT H b s) : FT H' b s := let ⟨ob, h1, h2⟩ := h; ⟨ob, f _ _ h1 (fun xs z => nomatch z), h2⟩
theorem FT.sq {K : PySem.W.Frag} {H : Hp} {b : Addr} {s : List Int} (h : FT H b s) : SqT K H b (s.map V.int) := .inl h.kx
theorem shaped_tup (ns : List Int) : SeqAt.shaped (.tuple (ns.map PyData.int)) = true := by
  simp [SeqAt.shaped, PyData.canLay0, PyData.depth, PySem.W.ke_canLayAll0, PySem.W.ke_depthAll]
theorem eqv_tup (ns ms : List Int) : PyData.eqv (.tuple (ns.map PyData.int)) (.tuple (ms.map PyData.int)) = decide (ns = ms) := by
  rw [PyData.eqv]
  exact PySem.W.ked_eqvAll ns ms
theorem slT_to {K : PySem.W.Frag} {H : Hp} {a : Addr} {xs : List V} {Q : VK} (z : Int) (k : Nat) (hz : z = (k : Int)) (h : SqT K H a xs) (q : ∀ b H2, Same H H2 → SqT K H2 b (xs.take k) → Q (.ref b) H2) : rSlA K (.ref a) none (some z) H Q := by
  subst hz
  refine ⟨a, xs, rfl, h, fun hf => q a H (Same.refl H) ?_, fun _ p hp => q p _ (same_new hp) (tupAt (by rw [upd_same, cut_to]))⟩
  have e := hf.2
  rw [HT.sIx_nat] at e
  rw [List.take_of_length_le (by omega)]
  exact h
section
variable {P : Program} {w : World} {K : PySem.W.Frag} {mg : Str → Option Value} {base : Heap}
def spIsWord (K : PySem.W.Frag) : Sp := fun vs H Q _ => ∃ (v : V) (ws : List Int) (p : Nat), vs = [v, .int p] ∧ TI K H v ws ∧ ws.length ≤ 400 ∧ (∀ t ∈ ws, InR p t) ∧ ∀ H', Same H H' → Q (.bl true) H'
theorem ok_is_word (F : Df K mg "is_word" st_is_word ["value", "places"]) (c400 : ∃ t, mg "MOST_TOUCHES" = some (.int 400 t)) (C1 : Cal P w K mg base 1 "is_row" (spIsRow K)) (C4 : Cal P w K mg base 4 "are_places" (spArePlaces K)) :
    Cal P w K mg base 5 "is_word" (spIsWord K) := by
  refine mkCal F sc_is_word (fun vs H Q E h => ?_) (fun f cdv A outer s H vs Q E hr h => ?_)
  · obtain ⟨v, ws, p, rfl, _⟩ := h
    rfl
  · obtain ⟨v, ws, p, rfl, ⟨a, rfl, hS⟩, hl, hin, q⟩ := h
    refine ⟨_, pss_one (ps_ret (pe_and (pc C1 hr (pa_cons (pv 0) (pa_cons pe_int (pa_cons (pk c400) pa_nil)))) (pe_one (pc C4 hr (pa_cons (pv 0) (pa_cons (pv 1) pa_nil)))))), ?_⟩
    refine ⟨_, rfl, a, ws.map V.int, 0, 400, rfl, hS, _, rfl, ifT ?_ ⟨_, rfl, _, rfl, .ref a, ws, p, rfl, ⟨a, rfl, hS⟩, by omega, fun H1 s1 => ?_⟩⟩
    · rw [List.length_map, decide_eq_true (by omega), decide_eq_true (by omega)]
      rfl
    · rw [inP_in hin]
      exact q H1 s1
def spCheckWord (K : PySem.W.Frag) : Sp := fun vs H Q _ => ∃ (v : V) (ws : List Int) (p : Nat), vs = [v, .int p] ∧ TI K H v ws ∧ ws.length ≤ 400 ∧ (∀ t ∈ ws, InR p t) ∧ ∀ H', Same H H' → Q .non H'
theorem ok_check_word (F : Df K mg "check_word" st_check_word ["word", "places"]) (C5 : Cal P w K mg base 5 "is_word" (spIsWord K)) : Cal P w K mg base 6 "check_word" (spCheckWord K) := by
  refine mkCal F sc_check_word (fun vs H Q E h => ?_) (fun f cdv A outer s H vs Q E hr h => ?_)
  · obtain ⟨v, ws, p, rfl, _⟩ := h
    rfl
  · obtain ⟨v, ws, p, rfl, hT, hl, hin, q⟩ := h
    refine ⟨_, pss_one (ps_if (pt_not (pt_val (pc C5 hr (pa_cons (pv 0) (pa_cons (pv 1) pa_nil))))) (pss_one ps_no) pss_nil), ?_⟩
    exact ⟨_, rfl, _, rfl, v, ws, p, rfl, hT, hl, hin, fun H1 sm => ⟨_, rfl, ifF rfl (q H1 sm)⟩⟩
/-- a habit, a layout and a word of n places -/
structure HLW (K : PySem.W.Frag) (H : Hp) (v : V) (h : List (List Int)) (n : Nat) (a : Addr) (L : List Int) (wv : V) (ws : List Int) : Prop where
  hT : TII K H v h
  hb : Hb n h
  fL : FT H a L
  hL : L.Perm (rg n)
  hW : TI K H wv ws
  hw : ∀ t ∈ ws, InR n t
  len : ws.length ≤ 400
theorem HLW.same {K : PySem.W.Frag} {H H' : Hp} {v : V} {h : List (List Int)} {n : Nat} {a : Addr} {L : List Int} {wv : V} {ws : List Int} (g : HLW K H v h n a L wv ws) (s : Same H H') : HLW K H' v h n a L wv ws :=
  ⟨g.hT.on (Same.tups s), g.hb, g.fL.same s, g.hL, g.hW.on (Same.tups s), g.hw, g.len⟩
theorem HLW.fix {K : PySem.W.Frag} {H H' : Hp} {v : V} {h : List (List Int)} {n : Nat} {a : Addr} {L : List Int} {wv : V} {ws : List Int} (g : HLW K H v h n a L wv ws) (s : Fix H H') : HLW K H' v h n a L wv ws :=
  ⟨g.hT.on s.tups, g.hb, g.fL.fix s, g.hL, g.hW.on s.tups, g.hw, g.len⟩
def spMoveAlong (K : PySem.W.Frag) : Sp := fun vs H Q _ => ∃ (v : V) (h : List (List Int)) (n : Nat) (a : Addr) (L : List Int) (wv : V) (ws : List Int), vs = [v, .ref a, wv] ∧ HLW K H v h n a L wv ws ∧ ∀ H' q, Same H H' → FT H' q (mvs h L ws) → Q (.ref q) H'
theorem ok_move_along (F : Df K mg "move_along" st_move_along ["habit", "layout", "word"]) (CM : Cal P w K mg base 1 "move" (spMove K)) : Cal P w K mg base 2 "move_along" (spMoveAlong K) := by
  refine mkCal F sc_move_along (fun vs H Q E h => ?_) (fun f cdv A outer s H vs Q E hr h => ?_)
  · obtain ⟨v, h, n, a, L, wv, ws, rfl, _⟩ := h
    rfl
  · obtain ⟨v, h, n, a, L, wv, ws, rfl, g, q⟩ := h
    obtain ⟨aw, rfl, hW⟩ := id g.hW
    refine ⟨_, pss_cons (ps_for PassesOwn.never rfl (pi_tup (pv 2)) (pg_name (i := 3) sc_move_along.nd rfl (.inl rfl)) (pss_one (ps_set (i := 1) sc_move_along.nd rfl (.inl rfl) (pc CM hr (pa_cons (pv 0) (pa_cons (pv 1) (pa_cons (pv 3) pa_nil)))))))
      (pss_one (ps_ret (pv 1))), ?_⟩
    refine ⟨_, rfl, aw, rfl, ⟨_, hW⟩, ?_⟩
    refine for_tup (xs := ws.map V.int) (fun i σ H' => Same H H' ∧ ∃ q1 y, σ = [some v, some (.ref q1), some (.ref aw), y] ∧ FT H' q1 (mvs h L (ws.take i))) ⟨Same.refl H, a, none, rfl, g.fL⟩ (fun i σ H' _ h' => onT h'.1 hW) (fun i x σ H' hx h' => ?_) (fun σ H' h' => ?_)
    · obtain ⟨t, ht, rfl⟩ := map_at hx
      obtain ⟨sm, q1, y, rfl, f1⟩ := h'
      have hp1 := g.hb.mvs_perm (ws := ws.take i) (fun u hu => g.hw u (List.mem_of_mem_take hu)) g.hL
      have n5 := g.hb.hi
      refine ⟨_, rfl, _, rfl, _, rfl, v, h, n, q1, _, t, rfl, (g.same sm).hT, g.hb, f1.sq, fun u hu => perm_in hp1 hu, by rw [perm_len hp1]; omega, g.hw t (List.mem_of_getElem? ht), fun H2 q2 s2 _ f2 => ⟨sm.trans s2, q2, _, rfl, ?_⟩⟩
      rw [mvs_more ht]
      exact f2
    · obtain ⟨sm, q1, y, rfl, f1⟩ := h'
      rw [List.length_map, List.take_length] at f1
      exact ⟨_, rfl, q H' q1 sm f1⟩
end
end RH
set_option Elab.async false
set_option linter.all false
set_option maxRecDepth 100000
set_option maxHeartbeats 2000000
namespace RH
open PySem PySem.Spec PyProof.Rows L2
/-! ### the law's own touches and books -/
theorem catT_ok {K : PySem.W.Frag} {H : Hp} {a b : Addr} {xs ys : List V} {Q : VK} (ha : SqT K H a xs) (hb : SqT K H b ys) (hl : xs.length + ys.length ≤ 1000) (q : ∀ r H', Same H H' → SqT K H' r (xs ++ ys) → Q (.ref r) H') : rCatA K (.ref a) (.ref b) H Q := by
  refine ⟨a, b, xs, ys, rfl, rfl, ha, hb, Nat.le_of_lt (small1000 hl), fun e => ?_, fun _ e => ?_, fun _ _ p hp => q p _ (same_new hp) (tupAt upd_same)⟩
  · subst e
    exact q b H (Same.refl H) hb
  · subst e
    exact q a H (Same.refl H) (by rw [List.append_nil]; exact ha)
end RH
set_option Elab.async false
set_option linter.all false
set_option maxRecDepth 100000
set_option maxHeartbeats 2000000
namespace RH
open PySem PySem.Spec PyProof.Rows L2
/-! ### a search level by level, with words -/
abbrev SW := List Int × List Int
def exq (h : List (List Int)) (n : Nat) (q : SW) : List SW := (rg n).map fun p => (stp h p q.1, q.2 ++ [p])
def exl (h : List (List Int)) (n : Nat) (l : List SW) : List SW := l.flatMap (exq h n)
/-- those that are new: in no state of F, nor ahead -/
def ddS (F : List (List Int)) (acc : List SW) (q : SW) : List SW := if q.1 ∈ F ∨ q.1 ∈ acc.map Prod.fst then acc else acc ++ [q]
def dd (F : List (List Int)) (l : List SW) : List SW := l.foldl (ddS F) []
theorem dd_app (F : List (List Int)) (l m : List SW) : dd F (l ++ m) = m.foldl (ddS F) (dd F l) := List.foldl_append ..
theorem dd_snoc (F : List (List Int)) (l : List SW) (q : SW) : dd F (l ++ [q]) = ddS F (dd F l) q := dd_app F l [q]
theorem nd_one {α : Type} (a : α) : [a].Nodup := List.nodup_cons.mpr ⟨List.not_mem_nil, List.nodup_nil⟩
theorem snoc_ind {α : Type} {P : List α → Prop} (h0 : P []) (hs : ∀ l q, P l → P (l ++ [q])) : ∀ l, P l := by
  have : ∀ r : List α, P r.reverse := fun r => by
    induction r with
    | nil => exact h0
    | cons a r ih =>
      rw [List.reverse_cons]
      exact hs _ _ ih
  intro l
  have := this l.reverse
  rwa [List.reverse_reverse] at this
theorem ddS_in {F : List (List Int)} {acc : List SW} {q : SW} (h : q.1 ∈ F ∨ q.1 ∈ acc.map Prod.fst) : ddS F acc q = acc := if_pos h
theorem ddS_new {F : List (List Int)} {acc : List SW} {q : SW} (h : ¬ (q.1 ∈ F ∨ q.1 ∈ acc.map Prod.fst)) : ddS F acc q = acc ++ [q] := if_neg h
theorem dd_mono {F : List (List Int)} : ∀ {m acc : List SW} {q : SW}, q ∈ acc → q ∈ m.foldl (ddS F) acc
  | [], _, _, h => h
  | x :: m, acc, q, h => by
    rw [List.foldl_cons]
    refine dd_mono (m := m) ?_
    unfold ddS
    split
    · exact h
    · exact List.mem_append_left _ h
theorem dd_has (F : List (List Int)) : ∀ l : List SW, ∀ q ∈ l, q.1 ∈ F ∨ q.1 ∈ (dd F l).map Prod.fst := by
  refine snoc_ind (fun q hq => nomatch hq) fun l x ih q hq => ?_
  rw [dd_snoc]
  rcases List.mem_append.mp hq with z | z
  · rcases ih q z with y | y
    · exact .inl y
    · refine .inr ?_
      unfold ddS
      split
      · exact y
      · rw [List.map_append]
        exact List.mem_append_left _ y
  · rw [List.mem_singleton.mp z]
    by_cases hx : x.1 ∈ F ∨ x.1 ∈ (dd F l).map Prod.fst
    · rw [ddS_in hx]
      exact hx
    · rw [ddS_new hx, List.map_append]
      exact .inr (List.mem_append_right _ (List.mem_singleton.mpr rfl))
structure DdOk (F : List (List Int)) (l d : List SW) : Prop where
  sub : ∀ q ∈ d, q ∈ l
  new : ∀ q ∈ d, q.1 ∉ F
  nd : (d.map Prod.fst).Nodup
theorem dd_ok (F : List (List Int)) : ∀ l : List SW, DdOk F l (dd F l) := by
  refine snoc_ind ⟨fun q hq => (nomatch hq), fun q hq => (nomatch hq), List.nodup_nil⟩ fun l x ih => ?_
  rw [dd_snoc]
  by_cases hx : x.1 ∈ F ∨ x.1 ∈ (dd F l).map Prod.fst
  · rw [ddS_in hx]
    exact ⟨fun q hq => List.mem_append_left _ (ih.sub q hq), ih.new, ih.nd⟩
  · rw [ddS_new hx]
    refine ⟨fun q hq => ?_, fun q hq => ?_, ?_⟩
    · rcases List.mem_append.mp hq with z | z
      · exact List.mem_append_left _ (ih.sub q z)
      · exact List.mem_append_right _ z
    · rcases List.mem_append.mp hq with z | z
      · exact ih.new q z
      · rw [List.mem_singleton.mp z]
        exact fun y => hx (.inl y)
    · rw [List.map_append, List.nodup_append]
      refine ⟨ih.nd, nd_one _, fun a ha b hb e => ?_⟩
      rw [List.map_singleton, List.mem_singleton] at hb
      rw [e, hb] at ha
      exact hx (.inr ha)
/-- what is found, and the level, behind k levels -/
def bf (h : List (List Int)) (n : Nat) (L : List Int) : Nat → List SW × List SW
  | 0 => ([(L, [])], [(L, [])])
  | k + 1 => ((bf h n L k).1 ++ dd ((bf h n L k).1.map Prod.fst) (exl h n (bf h n L k).2), dd ((bf h n L k).1.map Prod.fst) (exl h n (bf h n L k).2))
def fd (h : List (List Int)) (n : Nat) (L : List Int) (k : Nat) : List SW := (bf h n L k).1
def lv (h : List (List Int)) (n : Nat) (L : List Int) (k : Nat) : List SW := (bf h n L k).2
def lst (h : List (List Int)) (n : Nat) (L : List Int) : Nat → List SW
  | 0 => [(L, [])]
  | k + 1 => dd [] (exl h n (lst h n L k))
section
variable {h : List (List Int)} {n : Nat} {L : List Int}
theorem fd_succ (k : Nat) : fd h n L (k + 1) = fd h n L k ++ lv h n L (k + 1) := rfl
theorem lv_succ (k : Nat) : lv h n L (k + 1) = dd ((fd h n L k).map Prod.fst) (exl h n (lv h n L k)) := rfl
theorem fd_mono {k j : Nat} (hk : k ≤ j) {q : SW} (hq : q ∈ fd h n L k) : q ∈ fd h n L j := by
  induction hk with
  | refl => exact hq
  | step _ ih => exact List.mem_append_left _ ih
theorem lv_fd {k : Nat} {q : SW} (hq : q ∈ lv h n L k) : q ∈ fd h n L k := by
  cases k with
  | zero => exact hq
  | succ k => exact List.mem_append_right _ hq
theorem lv_ex {k : Nat} {q : SW} (hq : q ∈ lv h n L k) {p : Int} (hp : p ∈ rg n) : stp h p q.1 ∈ (fd h n L (k + 1)).map Prod.fst := by
  have hm : (stp h p q.1, q.2 ++ [p]) ∈ exl h n (lv h n L k) := List.mem_flatMap.mpr ⟨q, hq, List.mem_map.mpr ⟨p, hp, rfl⟩⟩
  rw [fd_succ, List.map_append, List.mem_append]
  exact dd_has _ _ _ hm
theorem fd_ex {q : SW} {p : Int} (hp : p ∈ rg n) : ∀ {k : Nat}, q ∈ fd h n L k → stp h p q.1 ∈ (fd h n L (k + 1)).map Prod.fst
  | 0, hq => lv_ex (k := 0) hq hp
  | k + 1, hq => by
    rw [fd_succ, List.mem_append] at hq
    rcases hq with hq | hq
    · have := fd_ex hp hq
      rw [fd_succ (k + 1), List.map_append, List.mem_append]
      exact .inl this
    · exact lv_ex hq hp
theorem exl_len {l : List SW} {k : Nat} (hl : ∀ q ∈ l, q.2.length = k) : ∀ q ∈ exl h n l, q.2.length = k + 1 := fun q hq => by
  obtain ⟨x, hx, hq⟩ := List.mem_flatMap.mp hq
  obtain ⟨p, _, rfl⟩ := List.mem_map.mp hq
  rw [List.length_append, hl x hx]
  rfl
theorem lv_len : ∀ k : Nat, ∀ q ∈ lv h n L k, q.2.length = k
  | 0, q, hq => by
    rw [List.mem_singleton.mp hq]
    rfl
  | k + 1, q, hq => exl_len (lv_len k) q ((dd_ok _ _).sub q hq)
theorem fd_len : ∀ k : Nat, ∀ q ∈ fd h n L k, q.2.length ≤ k
  | 0, q, hq => by
    rw [List.mem_singleton.mp hq]
    exact Nat.le_refl _
  | k + 1, q, hq => by
    rw [fd_succ, List.mem_append] at hq
    rcases hq with hq | hq
    · exact Nat.le_succ_of_le (fd_len k q hq)
    · exact Nat.le_of_eq (lv_len (k + 1) q hq)
theorem fd_nd : ∀ k : Nat, ((fd h n L k).map Prod.fst).Nodup
  | 0 => nd_one _
  | k + 1 => by
    rw [fd_succ, List.map_append, List.nodup_append]
    refine ⟨fd_nd k, (dd_ok _ _).nd, fun a ha b hb e => ?_⟩
    obtain ⟨x, hx, rfl⟩ := List.mem_map.mp hb
    exact (dd_ok _ _).new x hx (e ▸ ha)
theorem lv_done {a : Nat} (e : lv h n L a = []) : ∀ j : Nat, lv h n L (a + j) = [] ∧ fd h n L (a + j) = fd h n L a
  | 0 => ⟨e, rfl⟩
  | j + 1 => by
    obtain ⟨h1, h2⟩ := lv_done e j
    have h3 : lv h n L (a + j + 1) = [] := by
      rw [lv_succ, h1]
      rfl
    refine ⟨h3, ?_⟩
    show fd h n L (a + j + 1) = _
    rw [fd_succ, h3, List.append_nil, h2]
theorem fd_all {a k : Nat} (ha : lv h n L a = []) {q : SW} (hq : q ∈ fd h n L k) : q ∈ fd h n L a := by
  rcases Nat.le_total k a with z | z
  · exact fd_mono z hq
  · obtain ⟨j, rfl⟩ := Nat.exists_eq_add_of_le z
    rw [← (lv_done ha j).2]
    exact hq
theorem fd_start (k : Nat) : (L, []) ∈ fd h n L k := fd_mono (Nat.zero_le k) (List.mem_singleton.mpr rfl)
theorem fd_least {C : List Int → Prop} (h0 : C L) (hs : ∀ s, C s → ∀ p ∈ rg n, C (stp h p s)) : ∀ k : Nat, ∀ q ∈ fd h n L k, C q.1
  | 0, q, hq => by
    rw [List.mem_singleton.mp hq]
    exact h0
  | k + 1, q, hq => by
    rw [fd_succ, List.mem_append] at hq
    rcases hq with hq | hq
    · exact fd_least h0 hs k q hq
    · have := (dd_ok _ _).sub q hq
      obtain ⟨x, hx, hq⟩ := List.mem_flatMap.mp this
      obtain ⟨p, hp, rfl⟩ := List.mem_map.mp hq
      exact hs _ (fd_least h0 hs k x (lv_fd hx)) p hp
theorem fd_val {k : Nat} {s w w' : List Int} (h1 : (s, w) ∈ fd h n L k) (h2 : (s, w') ∈ fd h n L k) : w = w' := by
  have nd : ∀ {l : List SW}, (l.map Prod.fst).Nodup → (s, w) ∈ l → (s, w') ∈ l → w = w' := fun {l} => by
    induction l with
    | nil => exact fun _ z _ => nomatch z
    | cons x l ih =>
      intro nd a b
      rw [List.map_cons, List.nodup_cons] at nd
      rcases List.mem_cons.mp a with e1 | a
      · rcases List.mem_cons.mp b with e2 | b
        · rw [← e1] at e2
          exact (Prod.mk.inj e2).2.symm
        · rw [← e1] at nd
          exact absurd (List.mem_map.mpr ⟨_, b, rfl⟩) nd.1
      · rcases List.mem_cons.mp b with e2 | b
        · rw [← e2] at nd
          exact absurd (List.mem_map.mpr ⟨_, a, rfl⟩) nd.1
        · exact ih nd.2 a b
  exact nd (fd_nd k) h1 h2
end
/-! ### layouts are few, and touches lead back -/
theorem nd_len {α : Type} [DecidableEq α] : ∀ {l m : List α}, l.Nodup → (∀ x ∈ l, x ∈ m) → l.length ≤ m.length
  | [], _, _, _ => Nat.zero_le _
  | a :: l, m, nd, hs => by
    rw [List.nodup_cons] at nd
    have ha := hs a (List.mem_cons_self ..)
    have := nd_len (l := l) (m := m.erase a) nd.2 fun x hx => (List.mem_erase_of_ne (fun e => nd.1 (by rw [← e]; exact hx))).mpr (hs x (List.mem_cons_of_mem _ hx))
    rw [List.length_erase_of_mem ha] at this
    have hm := List.length_pos_of_mem ha
    rw [List.length_cons]
    omega
section
variable {h : List (List Int)} {n : Nat} {L : List Int}
theorem Hb.fd_perm (q : Hb n h) (hL : L.Perm (rg n)) (k : Nat) : ∀ x ∈ fd h n L k, x.1.Perm (rg n) :=
  fd_least (C := fun s => s.Perm (rg n)) hL (fun s hs p hp => q.stp_perm (rg_mem.mp hp) hs) k
end
/-! ### within a level -/
def insE (a : Int) : List Int → List (List Int)
  | [] => [[a]]
  | b :: l => (a :: b :: l) :: (insE a l).map (b :: ·)
def prm : List Int → List (List Int)
  | [] => [[]]
  | a :: l => (prm l).flatMap (insE a)
theorem insE_perm {a : Int} : ∀ {l s : List Int}, s ∈ insE a l → s.Perm (a :: l)
  | [], s, h => by
    rw [List.mem_singleton.mp h]
  | b :: l, s, h => by
    rcases List.mem_cons.mp h with rfl | h
    · exact List.Perm.refl _
    · obtain ⟨t, ht, rfl⟩ := List.mem_map.mp h
      exact ((insE_perm ht).cons b).trans (List.Perm.swap ..)
theorem mem_insE {a : Int} : ∀ (s1 s2 : List Int), s1 ++ a :: s2 ∈ insE a (s1 ++ s2)
  | [], [] => List.mem_singleton.mpr rfl
  | [], b :: l => List.mem_cons_self ..
  | b :: s1, s2 => List.mem_cons_of_mem _ (List.mem_map.mpr ⟨_, mem_insE s1 s2, rfl⟩)
theorem mem_prm : ∀ {l s : List Int}, s ∈ prm l ↔ s.Perm l
  | [], s => by
    constructor
    · intro h
      rw [List.mem_singleton.mp h]
    · intro h
      rw [List.perm_nil.mp h]
      exact List.mem_singleton.mpr rfl
  | a :: l, s => by
    constructor
    · intro h
      obtain ⟨t, ht, hs⟩ := List.mem_flatMap.mp h
      exact (insE_perm hs).trans ((mem_prm.mp ht).cons a)
    · intro h
      have ha : a ∈ s := h.mem_iff.mpr (List.mem_cons_self ..)
      obtain ⟨s1, s2, rfl⟩ := List.append_of_mem ha
      have h2 : (s1 ++ s2).Perm l := (List.perm_middle.symm.trans h).cons_inv
      exact List.mem_flatMap.mpr ⟨_, mem_prm.mpr h2, mem_insE s1 s2⟩
theorem prm_few : ∀ n, n < 6 → (prm (rg n)).length ≤ 120 := by decide +kernel
/-- what is new behind m expansions of the k-th level -/
def prt (h : List (List Int)) (n : Nat) (L : List Int) (k m : Nat) : List SW := dd ((fd h n L k).map Prod.fst) ((exl h n (lv h n L k)).take m)
section
variable {h : List (List Int)} {n : Nat} {L : List Int}
theorem exq_len (q : SW) : (exq h n q).length = n := by
  unfold exq
  rw [List.length_map, rg_len]
theorem exl_cons (q : SW) (l : List SW) : exl h n (q :: l) = exq h n q ++ exl h n l := rfl
theorem exl_length : ∀ l : List SW, (exl h n l).length = l.length * n
  | [] => by
    rw [List.length_nil, Nat.zero_mul]
    rfl
  | q :: l => by
    rw [exl_cons, List.length_append, exq_len, exl_length l, List.length_cons, Nat.succ_mul, Nat.add_comm]
theorem exl_at : ∀ {l : List SW} {i j : Nat} {q : SW}, l[i]? = some q → j < n → (exl h n l)[i * n + j]? = some (stp h (j : Int) q.1, q.2 ++ [(j : Int)])
  | [], _, _, _, e, _ => by simp at e
  | a :: l, 0, j, q, e, hj => by
    cases Option.some.inj e
    rw [exl_cons, Nat.zero_mul, Nat.zero_add, List.getElem?_append_left (by rw [exq_len]; exact hj)]
    unfold exq
    rw [List.getElem?_map, rg_at hj]
    rfl
  | a :: l, i + 1, j, q, e, hj => by
    rw [exl_cons, List.getElem?_append_right (by rw [exq_len, Nat.succ_mul]; omega), exq_len, show (i + 1) * n + j - n = i * n + j by rw [Nat.succ_mul]; omega]
    exact exl_at (l := l) (i := i) e hj
theorem prt_zero (k : Nat) : prt h n L k 0 = [] := by
  unfold prt
  rw [List.take_zero]
  rfl
theorem prt_all (k : Nat) : prt h n L k ((lv h n L k).length * n) = lv h n L (k + 1) := by
  unfold prt
  rw [← exl_length, List.take_length, lv_succ]
theorem prt_old {k i j : Nat} {q : SW} (hq : (lv h n L k)[i]? = some q) (hj : j < n) (hk : stp h (j : Int) q.1 ∈ (fd h n L k ++ prt h n L k (i * n + j)).map Prod.fst) : prt h n L k (i * n + j + 1) = prt h n L k (i * n + j) := by
  unfold prt at hk ⊢
  rw [take_more (exl_at hq hj), dd_snoc, ddS_in]
  rw [List.map_append, List.mem_append] at hk
  exact hk
theorem prt_new {k i j : Nat} {q : SW} (hq : (lv h n L k)[i]? = some q) (hj : j < n) (hk : stp h (j : Int) q.1 ∉ (fd h n L k ++ prt h n L k (i * n + j)).map Prod.fst) :
    prt h n L k (i * n + j + 1) = prt h n L k (i * n + j) ++ [(stp h (j : Int) q.1, q.2 ++ [(j : Int)])] := by
  unfold prt at hk ⊢
  rw [take_more (exl_at hq hj), dd_snoc, ddS_new]
  rw [List.map_append, List.mem_append] at hk
  exact hk
theorem prt_sub {k m : Nat} {q : SW} (hq : q ∈ prt h n L k m) : q ∈ lv h n L (k + 1) := by
  rw [lv_succ, ← List.take_append_drop m (exl h n (lv h n L k)), dd_app]
  exact dd_mono hq
theorem prt_fd {k m : Nat} {q : SW} (hq : q ∈ fd h n L k ++ prt h n L k m) : q ∈ fd h n L (k + 1) := by
  rcases List.mem_append.mp hq with z | z
  · exact List.mem_append_left _ z
  · exact lv_fd (prt_sub z)
theorem prt_nd (k m : Nat) : ((fd h n L k ++ prt h n L k m).map Prod.fst).Nodup := by
  rw [List.map_append, List.nodup_append]
  refine ⟨fd_nd k, (dd_ok _ _).nd, fun a ha b hb e => ?_⟩
  obtain ⟨x, hx, rfl⟩ := List.mem_map.mp hb
  exact (dd_ok _ _).new x hx (e ▸ ha)
theorem few {l : List SW} (n5 : n ≤ 5) (nd : (l.map Prod.fst).Nodup) (hp : ∀ x ∈ l, x.1.Perm (rg n)) : l.length ≤ 120 := by
  have := nd_len nd (m := prm (rg n)) fun s hs => by
    obtain ⟨x, hx, rfl⟩ := List.mem_map.mp hs
    exact mem_prm.mpr (hp x hx)
  rw [List.length_map] at this
  exact Nat.le_trans this (prm_few n (by omega))
theorem Hb.prt_few (q : Hb n h) (hL : L.Perm (rg n)) (k m : Nat) : (fd h n L k ++ prt h n L k m).length ≤ 120 :=
  few q.hi (prt_nd k m) fun x hx => q.fd_perm hL (k + 1) x (prt_fd hx)
theorem Hb.fd_few (q : Hb n h) (hL : L.Perm (rg n)) (k : Nat) : (fd h n L k).length ≤ 120 := few q.hi (fd_nd k) (q.fd_perm hL k)
theorem Hb.lv_perm (q : Hb n h) (hL : L.Perm (rg n)) (k : Nat) : ∀ x ∈ lv h n L k, x.1.Perm (rg n) := fun x hx => q.fd_perm hL k x (lv_fd hx)
/-- how far the search is from its end -/
def mea (h : List (List Int)) (n : Nat) (L : List Int) (k : Nat) : Nat := 2 * (120 - (fd h n L k).length) + (if lv h n L k = [] then 0 else 1)
theorem Hb.mea_less (q : Hb n h) (hL : L.Perm (rg n)) {k : Nat} (e : lv h n L k ≠ []) : mea h n L (k + 1) < mea h n L k := by
  unfold mea
  rw [if_neg e, fd_succ, List.length_append]
  have h1 := q.fd_few hL (k + 1)
  rw [fd_succ, List.length_append] at h1
  by_cases z : lv h n L (k + 1) = []
  · rw [if_pos z, z, List.length_nil]
    omega
  · rw [if_neg z]
    have : 0 < (lv h n L (k + 1)).length := List.length_pos_iff.mpr z
    omega
end
end RH
set_option Elab.async false
set_option linter.all false
set_option maxRecDepth 100000
set_option maxHeartbeats 2000000
set_option Elab.async false
set_option linter.all false
set_option maxRecDepth 100000
set_option maxHeartbeats 2000000
namespace RH
open PySem PySem.Spec PyProof.Rows L2
/-! ### a shelf with other names has the same order -/
/-- where the numbers of an order stand -/
def invR (o : List Int) : List Int := (List.range o.length).map fun i : Nat => ((o.idxOf (i : Int) : Nat) : Int)
end RH
set_option Elab.async false
set_option linter.all false
set_option maxRecDepth 100000
set_option maxHeartbeats 2000000
namespace RH
open PySem PySem.Spec PyProof.Rows L2
/-! ### defs that may raise; checks of values of many kinds -/
structure CalX (P : Program) (w : World) (K : PySem.W.Frag) (mg : Str → Option Value) (base : Heap) (k : Nat) (x : Str) (sp : Sp) : Prop where
  ex : ∃ (f : Addr) (fd : FuncData) (ps : List Str), FnOk P w K mg base (L2.CX P w) k f fd ps sp ∧ mg x = some (.ref f) ∧ PySem.W.keepIn K (.ref f) = true ∧ Binds K fd ps []
/-- an own error without an __init__ -/
structure ExO (K : PySem.W.Frag) (mg : Str → Option Value) (x : Str) (C : Addr) : Prop where
  q : PySem.W.excIn K C [.type "ValueError", .type "Exception", .type "BaseException", .type "object"] "ValueError.__new__" = true
  g : mg x = some (.ref C)
  k : PySem.W.keepIn K (.ref C) = true
  b : PySem.W.subIn K (.ref C) (.type "BaseException") = some true
  t : PySem.W.typeIn K (.ref C) = some (.type "type")
section
variable {P : Program} {w : World} {K : PySem.W.Frag} {mg : Str → Option Value} {base : Heap}
theorem mkCalX {x : Str} {st : Stmt} {N ps : List Str} {k : Nat} {sp : Sp} (F : Df K mg x st ps) (S : FnScope N ps (defScope st)) (len : ∀ vs H Q E, sp vs H Q E → vs.length = ps.length)
    (hbody : ∀ (f : Addr) (cdv : Value) (A : Around) (outer : List Env) (s : Shared) (H : Hp) (vs : List V) (Q : VK) (E : XK), Room k (A.deeper (envOfC x (defScope st) s.heap.objs.size f cdv)) → sp vs H Q E →
      ∃ t, PSs (cxOf (L2.CX P w) P w K mg base N x (defScope st) f cdv A outer s H E) (defBody st) t ∧ t { nx := fun _ H' => Q .non H', rt := Q } (start N vs) H) : CalX P w K mg base (k + 1) x sp := by
  obtain ⟨f, fd, F, g, b⟩ := F.ex
  exact ⟨f, fd, ps, F.okX S len (hbody f), g, F.kp, b⟩
end
theorem pcX {X : Cx} {k j : Nat} {x : Str} {sp : Sp} {E : XK} {p pos : Pos} {e : Expr} {es : List Expr} {t : TA} (c : CalX X.prog X.w X.K X.mg X.base k x sp) (hx : Passes (L2.CX X.prog X.w) X E) (hr : Room j X.A) (ha : PA X (e :: es) t) (hk : k ≤ j := by decide) (hg : Gl X x := by rfl)
    (hdb : (x == ("__debug__" : Str)) = false := by decide) (he : starEach (e :: es) X.env = (false, eval e X.env) :: starEach es X.env := by rfl) (hpl : (backTo pos (starEach es X.env)).any (·.1) = false := by rfl) :
    PE X (.Call (.Name x p) (e :: es) [] pos) (tCall sp [] E t) := by
  obtain ⟨f, fd, ps, F, hm, kp, b⟩ := c.ex
  exact pe_call F (hr.mono hk) hg hm kp b .nil hx ha hdb he hpl
/-- a value of any kind -/
inductive Sw (K : PySem.W.Frag) (H : Hp) : V → Prop
  | int (i : Int) : Sw K H (.int i)
  | bl (b : Bool) : Sw K H (.bl b)
  | non : Sw K H .non
  | str (s : Str) : Sw K H (.str s)
  | tup {a : Addr} {xs : List V} : SqT K H a xs → Sw K H (.ref a)
  | lst {a : Addr} {xs : List V} : SqL K H a xs → Sw K H (.ref a)
def isI : V → Bool
  | .int _ => true
  | _ => false
def inV2 (lo hi : Int) : V → Bool
  | .int i => decide (lo ≤ i) && decide (i ≤ hi)
  | _ => false
section
variable {P : Program} {w : World} {K : PySem.W.Frag} {mg : Str → Option Value} {base : Heap}
theorem Sw.on {H H' : Hp} {v : V} (e : Same H H') (h : Sw K H v) : Sw K H' v := by
  cases h with
  | int i => exact .int i
  | bl b => exact .bl b
  | non => exact .non
  | str s => exact .str s
  | tup h => exact .tup (onT e h)
  | lst h => exact .lst (e.seq h)
def spIsIntegerW (K : PySem.W.Frag) : Sp := fun vs H Q _ => ∃ v, vs = [v] ∧ Sw K H v ∧ Q (.bl (isI v)) H
theorem ok_is_integerW (F : Df K mg "is_integer" st_is_integer ["value"]) (B : Bu mg) : Cal P w K mg base 1 "is_integer" (spIsIntegerW K) := by
  refine mkCal F sc_is_integer (fun vs H Q E h => ?_) (fun f cdv A outer s H vs Q E hr h => ?_)
  · obtain ⟨v, rfl, _⟩ := h
    rfl
  · obtain ⟨v, rfl, hv, q⟩ := h
    refine ⟨_, pss_one (ps_ret (pe_and (pe_callB call_isi (by rfl) B.isi (by decide +kernel) (pa_cons (pv 0) (pa_cons (pe_bltn (v := .ty "int") (by rfl) B.int (by decide +kernel) rfl) pa_nil)))
      (pe_one (pe_not (pe_callB call_isi (by rfl) B.isi (by decide +kernel) (pa_cons (pv 0) (pa_cons (pe_bltn (v := .ty "bool") (by rfl) B.bool (by decide +kernel) rfl) pa_nil))))))), ?_⟩
    cases hv with
    | int i => exact ⟨_, rfl, .int i, .ty "int", _, _, true, rfl, .ty "int", .base (.int i), kit_ty (by decide +kernel), true, rfl, _, rfl, .int i, .ty "bool", _, _, false, rfl, .ty "bool", .base (.int i), kit_ty (by decide +kernel), false, rfl, q⟩
    | bl b => exact ⟨_, rfl, .bl b, .ty "int", _, _, true, rfl, .ty "int", .base (.bl b), kit_ty (by decide +kernel), true, rfl, _, rfl, .bl b, .ty "bool", _, _, true, rfl, .ty "bool", .base (.bl b), kit_ty (by decide +kernel), true, rfl, q⟩
    | non => exact ⟨_, rfl, .non, .ty "int", _, _, false, rfl, .ty "int", .base .non, kit_ty (by decide +kernel), false, rfl, q⟩
    | str z => exact ⟨_, rfl, .str z, .ty "int", _, _, false, rfl, .ty "int", .base (.str z), kit_ty (by decide +kernel), false, rfl, q⟩
    | @tup a xs h => exact ⟨_, rfl, .ref a, .ty "int", _, _, false, rfl, .ty "int", ty_tup h, kit_ty (by decide +kernel), false, rfl, q⟩
    | @lst a xs h => exact ⟨_, rfl, .ref a, .ty "int", _, _, false, rfl, .ty "int", ty_lst h, kit_ty (by decide +kernel), false, rfl, q⟩
def spIsNumberW (K : PySem.W.Frag) : Sp := fun vs H Q _ => ∃ (v : V) (lo hi : Int), vs = [v, .int lo, .int hi] ∧ Sw K H v ∧ Q (.bl (inV2 lo hi v)) H
theorem inV2_no {lo hi : Int} {v : V} (h : isI v = false) : inV2 lo hi v = false := by
  cases v <;> first | rfl | (cases h)
theorem isI_yes {v : V} (h : isI v = true) : ∃ i, v = .int i := by
  cases v <;> first | exact ⟨_, rfl⟩ | (cases h)
theorem ok_is_numberW (F : Df K mg "is_number" st_is_number ["value", "low", "high"]) (C1 : Cal P w K mg base 1 "is_integer" (spIsIntegerW K)) : Cal P w K mg base 2 "is_number" (spIsNumberW K) := by
  refine mkCal F sc_is_number (fun vs H Q E h => ?_) (fun f cdv A outer s H vs Q E hr h => ?_)
  · obtain ⟨v, lo, hi, rfl, _⟩ := h
    rfl
  · obtain ⟨v, lo, hi, rfl, hv, q⟩ := h
    refine ⟨_, pss_one (ps_ret (pe_and (pc C1 hr (pa_cons (pv 0) pa_nil)) (pe_one (pe_chain op_le op_le (pv 1) (pv 0) (pv 2))))), ?_⟩
    refine ⟨_, rfl, v, rfl, hv, ?_⟩
    cases ei : isI v with
    | true =>
      obtain ⟨i, rfl⟩ := isI_yes ei
      refine ⟨true, rfl, _, rfl, _, rfl, lo, i, rfl, rfl, _, rfl, ite2 (fun e => ?_) (fun e => ?_)⟩
      · refine ⟨_, rfl, i, hi, rfl, rfl, ?_⟩
        have q : Q (.bl (decide (lo ≤ i) && decide (i ≤ hi))) H := q
        rw [e, Bool.true_and] at q
        exact q
      · have e' : decide (lo ≤ i) = false := by simpa using e
        have q : Q (.bl (decide (lo ≤ i) && decide (i ≤ hi))) H := q
        rw [e', Bool.false_and] at q
        exact q
    | false =>
      rw [inV2_no ei] at q
      exact ⟨false, rfl, q⟩
def spIsPlaceW (K : PySem.W.Frag) : Sp := fun vs H Q _ => ∃ (v : V) (p : Int), vs = [v, .int p] ∧ Sw K H v ∧ Q (.bl (inV2 0 (p - 1) v)) H
theorem ok_is_placeW (F : Df K mg "is_place" st_is_place ["value", "places"]) (C2 : Cal P w K mg base 2 "is_number" (spIsNumberW K)) : Cal P w K mg base 3 "is_place" (spIsPlaceW K) := by
  refine mkCal F sc_is_place (fun vs H Q E h => ?_) (fun f cdv A outer s H vs Q E hr h => ?_)
  · obtain ⟨v, p, rfl, _⟩ := h
    rfl
  · obtain ⟨v, p, rfl, hv, q⟩ := h
    refine ⟨_, pss_one (ps_ret (pc C2 hr (pa_cons (pv 0) (pa_cons pe_int (pa_cons (pe_op op_sub (pv 1) pe_int) pa_nil))))), ?_⟩
    exact ⟨_, rfl, _, rfl, p, 1, rfl, rfl, v, 0, p - 1, rfl, hv, q⟩
end
end RH
set_option Elab.async false
set_option linter.all false
set_option maxRecDepth 100000
set_option maxHeartbeats 2000000
namespace RH
open PySem PySem.Spec PyProof.Rows L2
open NdefX (NScope NF CellsAt startF ncx envF)
/-! ### errors that keep something -/
/-- an error that keeps pl comes -/
def bhE (C : Addr) (fn : Str) (pl : V) (H : Hp) (E : XK) : Prop := ∀ d H', Same H H' → H' d = some (.xd [(fn, pl)]) → E (.ref C) (some d) H'
/-- an error without more comes -/
def noE (C : Addr) (H : Hp) (E : XK) : Prop := ∀ H', Same H H' → E (.ref C) none H'
theorem bhE.on {C : Addr} {fn : Str} {pl : V} {H H' : Hp} {E : XK} (h : bhE C fn pl H E) (s : Same H H') : bhE C fn pl H' E := fun d H2 s2 => h d H2 (s.trans s2)
theorem noE.on {C : Addr} {H H' : Hp} {E : XK} (h : noE C H E) (s : Same H H') : noE C H' E := fun H2 s2 => h H2 (s.trans s2)
end RH
set_option Elab.async false
set_option linter.all false
set_option maxRecDepth 100000
set_option maxHeartbeats 2000000
namespace RH
open PySem PySem.Spec PyProof.Rows L2
/-! ### the checks, for values of whatever kind -/
/-- a value: a tuple of values, or what is none -/
inductive Tk (K : PySem.W.Frag) (H : Hp) : V → Option (List V) → Prop
  | tup {a : Addr} {xs : List V} : SqT K H a xs → Tk K H (.ref a) (some xs)
  | lst {a : Addr} {xs : List V} : SqL K H a xs → Tk K H (.ref a) none
  | dct {a : Addr} {kvs : List (L2.Key × V)} : H a = some (.dK kvs) → Tk K H (.ref a) none
  | int (i : Int) : Tk K H (.int i) none
  | bl (b : Bool) : Tk K H (.bl b) none
  | non : Tk K H .non none
  | str (z : Str) : Tk K H (.str z) none
theorem Tk.on {K : PySem.W.Frag} {H H' : Hp} (e : Same H H') {v : V} {wo : Option (List V)} (h : Tk K H v wo) : Tk K H' v wo := by
  cases h with
  | tup h => exact .tup (onT e h)
  | lst h => exact .lst (e.seq h)
  | dct h => exact .dct (e _ _ h)
  | int i => exact .int i
  | bl b => exact .bl b
  | non => exact .non
  | str z => exact .str z
/-- .. of values -/
structure Wd (K : PySem.W.Frag) (H : Hp) (v : V) (wo : Option (List V)) : Prop where
  t : Tk K H v wo
  s : ∀ xs, wo = some xs → ∀ x ∈ xs, Sw K H x
  l : ∀ xs, wo = some xs → xs.length < 64
theorem Wd.on {K : PySem.W.Frag} {H H' : Hp} (e : Same H H') {v : V} {wo : Option (List V)} (h : Wd K H v wo) : Wd K H' v wo := ⟨h.t.on e, fun xs z x hm => (h.s xs z x hm).on e, h.l⟩
def rowW (lo hi : Int) : Option (List V) → Bool
  | some xs => decide (lo ≤ (xs.length : Int)) && decide ((xs.length : Int) ≤ hi)
  | none => false
def plsW (p : Int) : Option (List V) → Bool
  | some xs => xs.all (inV2 0 (p - 1))
  | none => false
theorem inV2_get {n : Nat} {v : V} (h : inV2 0 ((n : Int) - 1) v = true) : ∃ i, v = .int i ∧ 0 ≤ i ∧ i < n := by
  cases v <;> first | (cases h; done) | skip
  rename_i i
  have h : (decide (0 ≤ i) && decide (i ≤ (n : Int) - 1)) = true := h
  rw [Bool.and_eq_true, decide_eq_true_iff, decide_eq_true_iff] at h
  exact ⟨i, rfl, h.1, by omega⟩
/-- places all: numbers all -/
theorem all_ints {n : Nat} : ∀ {xs : List V}, (xs.all (inV2 0 ((n : Int) - 1))) = true → ∃ ns : List Int, xs = ns.map V.int ∧ inP n ns = true
  | [], _ => ⟨[], rfl, rfl⟩
  | x :: xs, h => by
    rw [List.all_cons, Bool.and_eq_true] at h
    obtain ⟨i, rfl, h0, h1⟩ := inV2_get h.1
    obtain ⟨ns, rfl, e⟩ := all_ints h.2
    refine ⟨i :: ns, rfl, ?_⟩
    unfold inP at e ⊢
    rw [List.all_cons, e, decide_eq_true h0, decide_eq_true (by omega)]
    rfl
def valI : V → Int
  | .int i => i
  | _ => -1
/-- is it a layout? -/
def layW (n : Nat) : Option (List V) → Bool
  | some xs => xs.all (inV2 0 ((n : Int) - 1)) && isLay n (xs.map valI)
  | none => false
section
variable {P : Program} {w : World} {K : PySem.W.Frag} {mg : Str → Option Value} {base : Heap}
def spArePlacesW (K : PySem.W.Frag) : Sp := fun vs H Q _ => ∃ (v : V) (wo : Option (List V)) (p : Int), vs = [v, .int p] ∧ Wd K H v wo ∧ ∀ H', Same H H' → Q (.bl (plsW p wo)) H'
theorem ok_are_placesW (F : Df K mg "are_places" st_are_places ["value", "places"]) (B : Bu mg) (C3 : Cal P w K mg base 3 "is_place" (spIsPlaceW K)) : Cal P w K mg base 4 "are_places" (spArePlacesW K) := by
  refine mkCal F sc_are_places (fun vs H Q E h => ?_) (fun f cdv A outer s H vs Q E hr h => ?_)
  · obtain ⟨v, wo, p, rfl, _⟩ := h
    rfl
  · obtain ⟨v, wo, p, rfl, hw, q⟩ := h
    refine ⟨_, pss_one (ps_ret (pe_and (pe_callB call_isi (by rfl) B.isi (by decide +kernel) (pa_cons (pv 0) (pa_cons (pe_bltn (v := .ty "tuple") (by rfl) B.tuple (by decide +kernel) rfl) pa_nil)))
      (pe_one (pe_callB (cr_all rfl) (by rfl) B.all (by decide +kernel) (pa_cons (pe_lc (own := [("place", 2)]) (g := gName 2) (tt := tYes) rfl sc_are_places.nd (pi_tup (pv 0)) (blkOk_by (N := ["value", "places", "place"]) (sc := defScope st_are_places) (by decide +kernel))
        (fun _ _ _ _ _ => pg_name (i := 2) sc_are_places.nd rfl (Or.inl rfl)) (fun _ _ _ _ _ => pts_nil) (fun _ _ _ _ _ => pc C3 hr (pa_cons (pv 2) (pa_cons (pv 1) pa_nil)))) pa_nil))))), ?_⟩
    obtain ⟨ht, hsw, hlen⟩ := hw
    cases ht with
    | int i => exact ⟨_, rfl, .int i, .ty "tuple", _, _, false, rfl, .ty "tuple", .base (.int i), kit_ty (by decide +kernel), false, rfl, q H (Same.refl H)⟩
    | bl b => exact ⟨_, rfl, .bl b, .ty "tuple", _, _, false, rfl, .ty "tuple", .base (.bl b), kit_ty (by decide +kernel), false, rfl, q H (Same.refl H)⟩
    | non => exact ⟨_, rfl, .non, .ty "tuple", _, _, false, rfl, .ty "tuple", .base .non, kit_ty (by decide +kernel), false, rfl, q H (Same.refl H)⟩
    | str z => exact ⟨_, rfl, .str z, .ty "tuple", _, _, false, rfl, .ty "tuple", .base (.str z), kit_ty (by decide +kernel), false, rfl, q H (Same.refl H)⟩
    | @lst a xs hS => exact ⟨_, rfl, .ref a, .ty "tuple", _, _, false, rfl, .ty "tuple", ty_lst hS, kit_ty (by decide +kernel), false, rfl, q H (Same.refl H)⟩
    | @dct a kvs e => exact ⟨_, rfl, .ref a, .ty "tuple", _, _, false, rfl, .ty "tuple", .base (.dK e), kit_ty (by decide +kernel), false, rfl, q H (Same.refl H)⟩
    | @tup a xs hS =>
      have hl := hlen xs rfl
      have hx := hsw xs rfl
      refine ⟨_, rfl, .ref a, .ty "tuple", _, _, true, rfl, .ty "tuple", ty_tup hS, kit_ty (by decide +kernel), true, rfl, ?_⟩
      refine ⟨_, rfl, a, rfl, ⟨_, hS⟩, fun D hD => ?_⟩
      refine lc_tup (xs := xs) (fun i H' => Same H H' ∧ H' D = some (.lst (((xs.take i).map (inV2 0 (p - 1))).map V.bl))) ⟨same_new hD, upd_same⟩ (fun i H' _ h' => onT h'.1 hS) (fun i x H' hi h' => ?_) (fun H' h' => ?_)
      · obtain ⟨sm, eD⟩ := h'
        refine ⟨rfl, _, rfl, _, rfl, x, p, rfl, (hx x (List.mem_of_getElem? hi)).on sm, _, eD, ?_, ?_, ?_⟩
        · rw [List.length_map, List.length_map, List.length_take]
          exact small1000 (by omega)
        · intro b o e
          rw [upd_ne (ne_of_none e hD)]
          exact sm b o e
        · rw [upd_same, all_snoc _ hi, List.map_append]
          rfl
      · obtain ⟨sm, eD⟩ := h'
        rw [List.take_length] at eD
        refine ⟨D, _, rfl, lstAt eD, ?_⟩
        have e : ((xs.map (inV2 0 (p - 1))).all id) = plsW p (some xs) := by
          rw [List.all_map]
          rfl
        rw [e]
        exact q H' sm
def spIsLayoutW (K : PySem.W.Frag) : Sp := fun vs H Q _ => ∃ (v : V) (wo : Option (List V)) (p : Nat), vs = [v, .int p] ∧ Wd K H v wo ∧ p ≤ 1000 ∧ ∀ H', Same H H' → Q (.bl (layW p wo)) H'
theorem ok_is_layoutW (F : Df K mg "is_layout" st_is_layout ["value", "places"]) (B : Bu mg) (C4 : Cal P w K mg base 4 "are_places" (spArePlacesW K)) : Cal P w K mg base 5 "is_layout" (spIsLayoutW K) := by
  refine mkCal F sc_is_layout (fun vs H Q E h => ?_) (fun f cdv A outer s H vs Q E hr h => ?_)
  · obtain ⟨v, wo, p, rfl, _⟩ := h
    rfl
  · obtain ⟨v, wo, p, rfl, hw, hp, q⟩ := h
    refine ⟨_, pss_one (ps_ret (pe_and (pc C4 hr (pa_cons (pv 0) (pa_cons (pv 1) pa_nil)))
      (pe_one (pe_cmpR (op_eqD hr.units) (pe_callB cr_sortedTup (by rfl) B.sorted (by decide +kernel) (pa_cons (pv 0) pa_nil)) (pe_listRg rfl (by rfl) B.list (prg_1 (by rfl) B.range (pv 1))) (nomark _))))), ?_⟩
    refine ⟨_, rfl, _, rfl, v, wo, p, rfl, hw, fun H1 sm1 => ⟨_, rfl, ite2 (fun e => ?_) (fun e => ?_)⟩⟩
    · obtain ⟨ht, hsw, hlen⟩ := hw
      cases ht with
      | @tup a xs hS =>
        obtain ⟨ns, rfl, hin⟩ := all_ints (n := p) e
        have hl : ns.length < 64 := by
          have := hlen _ rfl
          rwa [List.length_map] at this
        refine ⟨_, rfl, a, ns, rfl, onT sm1 hS, hl, fun ns' pL hpm hpw nL => ⟨_, rfl, (p : Int), rfl, ⟨by omega, by omega, by omega, by omega, by omega⟩, fun q' nq => ?_⟩⟩
        have nqp : pL ≠ q' := ne_of_none upd_same nq
        refine ⟨_, _, dp_lst (ns := ns') (lstAt ?_), dp_lst (ns := rg p) (lstAt ?_), PySem.W.ke_shaped_ints _, PySem.W.ke_shaped_ints _, ?_⟩
        · rw [upd_ne nqp, upd_same]
        · rw [upd_same, rgV_rg]
        · have em : ((ns.map V.int).map valI) = ns := by
            rw [List.map_map]
            exact List.map_id' ns
          have e2 : PyData.eqv (.list (ns'.map PyData.int)) (.list ((rg p).map PyData.int)) = layW p (some (ns.map V.int)) := by
            have e3 : layW p (some (ns.map V.int)) = isLay p ns := by
              have e : ((ns.map V.int).all (inV2 0 ((p : Int) - 1))) = true := e
              show ((ns.map V.int).all (inV2 0 ((p : Int) - 1)) && isLay p ((ns.map V.int).map valI)) = isLay p ns
              rw [e, Bool.true_and, em]
            rw [e3, eqv_lst, Bool.eq_iff_iff, decide_eq_true_iff]
            unfold isLay
            rw [List.isPerm_iff]
            constructor
            · intro z
              rw [← z]
              exact hpm.symm
            · intro z
              exact PySem.W.ksm_same (hpm.trans z) hpw (rg_le p)
          rw [e2]
          exact q _ (sm1.trans (Same.trans (same_new nL) (same_new nq)))
      | _ => cases e
    · have e2 : layW p wo = false := by
        cases wo with
        | none => rfl
        | some xs =>
          have e' : (xs.all (inV2 0 ((p : Int) - 1))) = false := by
            have e3 : ¬ (xs.all (inV2 0 ((p : Int) - 1))) = true := e
            simpa using e3
          show (xs.all (inV2 0 ((p : Int) - 1)) && isLay p (xs.map valI)) = false
          rw [e', Bool.false_and]
      have q := q H1 sm1
      rw [e2] at q
      exact q
end
end RH
set_option Elab.async false
set_option linter.all false
set_option maxRecDepth 100000
set_option maxHeartbeats 2000000
namespace RH
open PySem PySem.Spec PyProof.Rows L2
/-! ### the checks that raise -/
/-- a habit, or what is none: of each row what it is -/
inductive Hk (K : PySem.W.Frag) (H : Hp) : V → Option (List (Option (List V))) → Prop
  | tup {a : Addr} {xs : List V} {wos : List (Option (List V))} : SqT K H a xs → Each (Wd K H) xs wos → Hk K H (.ref a) (some wos)
  | no {v : V} : Tk K H v none → Hk K H v none
theorem Hk.on {K : PySem.W.Frag} {H H' : Hp} (e : Same H H') {v : V} {ho : Option (List (Option (List V)))} (h : Hk K H v ho) : Hk K H' v ho := by
  cases h with
  | tup h hx => exact .tup (onT e h) (hx.imp fun v d z => z.on e)
  | no h => exact .no (h.on e)
section
variable {P : Program} {w : World} {K : PySem.W.Frag} {mg : Str → Option Value} {base : Heap}
/-- a word's value: told row by row -/
structure Ww (K : PySem.W.Frag) (H : Hp) (v : V) (wo : Option (List V)) : Prop where
  t : Tk K H v wo
  w : rowW 0 400 wo = true → Wd K H v wo
theorem Ww.on {H H' : Hp} (e : Same H H') {v : V} {wo : Option (List V)} (h : Ww K H v wo) : Ww K H' v wo := ⟨h.t.on e, fun z => (h.w z).on e⟩
end
end RH
set_option Elab.async false
set_option linter.all false
set_option maxRecDepth 100000
set_option maxHeartbeats 2000000
namespace RH
open PySem PySem.Spec PyProof.Rows L2
/-! ### habits that the checks take -/
theorem cl_listOf {X : Cx} (K : PySem.W.Frag) (h : X.K = K := by rfl) : CallR X (.type "list") (fun xs H Q => ∃ p ys, xs = [.ref p] ∧ (SqL K H p ys ∨ SqT K H p ys) ∧ ∀ l, H l = none → Q (.ref l) (upd H l (.lst ys))) := by
  subst h
  exact call_list_of
theorem Each.take {α : Type} {R : V → α → Prop} : ∀ {xs : List V} {ds : List α} (k : Nat), Each R xs ds → Each R (xs.take k) (ds.take k)
  | _, _, 0, _ => .nil
  | _, _, _ + 1, .nil => .nil
  | _, _, k + 1, .cons h t => .cons h (t.take k)
section
variable {K : PySem.W.Frag} {H H' : Hp} {n : Nat} {v pl : V}
theorem wd_ints {a : Addr} {ns : List Int} (h : SqT K H a (ns.map V.int)) (hl : ns.length < 64) : Wd K H (.ref a) (some (ns.map V.int)) :=
  ⟨.tup h, fun xs z x hm => by cases z; obtain ⟨i, _, rfl⟩ := List.mem_map.mp hm; exact .int i, fun xs z => by cases z; rwa [List.length_map]⟩
theorem lay_len {xs : List V} (h : xs.length ≠ n) : layW n (some xs) = false := by
  show (xs.all _ && isLay n (xs.map valI)) = false
  have : isLay n (xs.map valI) = false := by
    unfold isLay
    refine Bool.eq_false_iff.mpr fun z => h ?_
    have := (List.isPerm_iff.mp z).length_eq
    rw [List.length_map] at this
    rw [this]
    unfold rg
    rw [List.length_map, List.length_range]
  rw [this, Bool.and_false]
end
end RH
set_option Elab.async false
set_option linter.all false
set_option maxRecDepth 100000
set_option maxHeartbeats 2000000
namespace RH
open PySem PySem.Spec PyProof.Rows L2
/-! ### inverse, check_together, backed -/
/-- a row told by its very object -/
def TIF (H : Hp) (v : V) (ns : List Int) : Prop := ∃ a, v = .ref a ∧ FT H a ns
theorem TIF.same {H H' : Hp} (e : Same H H') {v : V} {ns : List Int} (h : TIF H v ns) : TIF H' v ns := by
  obtain ⟨a, rfl, h⟩ := h
  exact ⟨a, rfl, h.same e⟩
/-- a habit whose rows are told by their very objects -/
def THF (K : PySem.W.Frag) (H : Hp) (v : V) (h : List (List Int)) : Prop := ∃ a xs, v = .ref a ∧ SqT K H a xs ∧ Each (TIF H) xs h
theorem THF.same {K : PySem.W.Frag} {H H' : Hp} (e : Same H H') {v : V} {h : List (List Int)} (q : THF K H v h) : THF K H' v h := by
  obtain ⟨a, xs, rfl, hS, hE⟩ := q
  exact ⟨a, xs, rfl, onT e hS, hE.imp fun _ _ z => z.same e⟩
section
variable {P : Program} {w : World} {K : PySem.W.Frag} {mg : Str → Option Value} {base : Heap} {Cb Cm : Addr}
def spInv (K : PySem.W.Frag) : Sp := fun vs H Q _ => ∃ (v : V) (ns : List Int) (n : Nat), vs = [v] ∧ TIF H v ns ∧ ns.Perm (rg n) ∧ n ≤ 40 ∧ ∀ H' u, Same H H' → TIF H' u (invR ns) → Q u H'
theorem ok_inverse (F : Df K mg "inverse" st_inverse ["row"]) (B : Bu mg) : Cal P w K mg base 1 "inverse" (spInv K) := by
  refine mkCal F sc_inverse (fun vs H Q E h => ?_) (fun f cdv A outer s H vs Q E hr h => ?_)
  · obtain ⟨v, ns, n, rfl, _⟩ := h
    rfl
  · obtain ⟨v, ns, n, rfl, ⟨a, rfl, hF⟩, hp, n5, q⟩ := h
    refine ⟨_, pss_one (ps_ret (pe_tupleF (by rfl) B.tuple (pe_lc (own := [("number", 1)]) (g := gName 1) (tt := tYes) rfl sc_inverse.nd (pi_range1 (by rfl) B.range (pa_cons (pe_callB (cl_len K) (by rfl) B.len PySem.boot_len (pa_cons (pv 0) pa_nil)) pa_nil))
      (blkOk_by (N := ["row", "number"]) (sc := defScope st_inverse) (by decide +kernel)) (fun _ _ _ _ _ => pg_name (i := 1) sc_inverse.nd rfl (Or.inl rfl)) (fun _ _ _ _ _ => pts_nil) (fun _ _ _ _ _ => pe_tidxF (pv 0) (pv 1))))), ?_⟩
    have ln := perm_len hp
    refine ⟨_, rfl, a, ns.map V.int, rfl, .inr (hF.sq (K := K)), ((ns.map V.int).length : Int), rfl, by rw [List.length_map]; omega, by rw [List.length_map]; omega, fun D hD => ?_⟩
    rw [Int.toNat_natCast, List.length_map, ln]
    refine lc_range (lo := 0) (n := n) (fun i H' => Same H H' ∧ H' D = some (.lst (((List.range i).map fun j : Nat => ((ns.idxOf (j : Int) : Nat) : Int)).map V.int))) ⟨same_new hD, upd_same⟩ (fun i H' hi h' => ?_) (fun H' h' => ?_)
    · obtain ⟨sm, eD⟩ := h'
      rw [Int.zero_add]
      have m : (i : Int) ∈ ns := hp.mem_iff.mpr (rg_mem.mpr ⟨by omega, by omega⟩)
      refine ⟨rfl, _, rfl, a, ns, rfl, hF.same sm, _, rfl, (i : Int), rfl, hF.same sm, m, _, eD, by rw [List.length_map, List.length_map, List.length_range]; exact small1000 (by omega), ?_, ?_⟩
      · exact fun b o eb => by rw [upd_ne (ne_of_none eb hD)]; exact sm b o eb
      · rw [upd_same, List.range_succ, List.map_append, List.map_append]
        rfl
    · obtain ⟨sm, eD⟩ := h'
      refine ⟨D, _, rfl, lstAt eD, fun u ob hu hob => ?_⟩
      refine q _ (.ref u) (sm.trans (same_new hu)) ⟨u, rfl, ob, ?_, hob⟩
      rw [upd_same]
      unfold invR
      rw [ln]
end
end RH
set_option Elab.async false
set_option linter.all false
set_option maxRecDepth 100000
set_option maxHeartbeats 2000000
namespace RH
open PySem PySem.Spec PyProof.Rows L2
/-! ### orders that the law draws -/
section
variable {P : Program} {w : World} {K : PySem.W.Frag} {mg : Str → Option Value} {base : Heap}
def spPermL (K : PySem.W.Frag) : Sp := fun vs H Q _ => ∃ (p : Addr) (n : Nat), vs = [.ref p, .int (n : Int)] ∧ Row K H p ∧ n ≤ 40 ∧ ∀ (H' : Hp) (v : V) (ns : List Int), ns.Perm (rg n) → But p H H' → Row K H' p → TIF H' v ns → Q v H'
theorem ok_lperm (F : Df K mg "_law_permutation" st__law_permutation ["row", "many"]) (B : Bu mg) (CT : Cal P w K mg base 1 "_law_taken" (spTaken K)) : Cal P w K mg base 2 "_law_permutation" (spPermL K) := by
  refine mkCal F sc__law_permutation (fun vs H Q E h => ?_) (fun f cdv A outer s H vs Q E hr h => ?_)
  · obtain ⟨p, n, rfl, _⟩ := h
    rfl
  · obtain ⟨p, n, rfl, hR, hn, q⟩ := h
    refine ⟨_, pss_cons (ps_par (i := 2) (j := 3) rfl sc__law_permutation.nd rfl rfl (by decide) rfl rfl (pa_cons (pe_listRg rfl (by rfl) B.list (prg_1 (by rfl) B.range (pv 1))) (pa_cons (pe_lst pa_nil) pa_nil)) rfl)
      (pss_cons (ps_for PassesOwn.never rfl (pi_range1 (by rfl) B.range (pa_cons (pv 1) pa_nil)) (pg_name (i := 4) sc__law_permutation.nd rfl (.inl rfl))
        (pss_one (ps_expr (pe_bm PySem.F.plainAttrs_list PySem.F.slot_list_append PySem.F.type_list_append mt_append (pv 3) (pa_cons (pe_bm PySem.F.plainAttrs_list PySem.F.slot_list_pop PySem.F.type_list_pop mt_popAt (pv 2)
          (pa_cons (pc CT hr (pa_cons (pv 0) (pa_cons (pe_callB (cl_len K) (by rfl) B.len PySem.boot_len (pa_cons (pv 2) pa_nil)) pa_nil))) pa_nil)) pa_nil)))))
      (pss_one (ps_ret (pe_tupleF (by rfl) B.tuple (pv 3))))), ?_⟩
    refine ⟨_, rfl, (n : Int), rfl, ⟨by omega, by omega, by omega, by omega, by omega⟩, fun l hl => ⟨Nat.zero_le _, fun g hg => ⟨_, _, rfl, ?_⟩⟩⟩
    have hlg : l ≠ g := ne_of_none upd_same hg
    have hgH : H g = none := by
      rw [upd_ne (Ne.symm hlg)] at hg
      exact hg
    have hpl : p ≠ l := hR.ne hl
    have hpg : p ≠ g := hR.ne hgH
    refine ⟨_, rfl, (n : Int), rfl, by omega, by omega, ?_⟩
    rw [Int.toNat_natCast]
    refine for_range (lo := 0) (n := n) (fun i σ H' => ∃ (ls fs : List Int) (y4 : Option V), σ = [some (.ref p), some (.int (n : Int)), some (.ref l), some (.ref g), y4] ∧ But p H H' ∧ Row K H' p ∧ H' l = some (.lst (ls.map V.int)) ∧ H' g = some (.lst (fs.map V.int)) ∧ (fs ++ ls).Perm (rg n) ∧ fs.length = i)
      ⟨rg n, [], none, rfl, But.same (Same.trans (same_new hl) (same_new hg)), (hR.new hl).new hg, ?_, upd_same, List.Perm.refl _, rfl⟩ (fun i σ H1 hi h' => ?_) (fun σ H1 h' => ?_)
    · rw [upd_ne hlg, upd_same, rgV_rg]
    · obtain ⟨ls, fs, y4, rfl, hB, hR1, e1, e2, hpm, lf⟩ := h'
      have len1 : fs.length + ls.length = n := by
        have := hpm.length_eq
        rw [List.length_append, rg_len] at this
        exact this
      refine ⟨_, rfl, .inl ⟨rfl, _, lstAt e2⟩, _, rfl, .inl ⟨rfl, _, lstAt e1⟩, _, rfl, _, rfl, l, _, rfl, .inl (lstAt e1), p, _, rfl, hR1, by rw [List.length_map]; omega, by rw [List.length_map]; omega, fun k H3 k0 k1 hB3 hR3 => ?_⟩
      rw [List.length_map] at k1
      have e1' := hB3 _ _ e1 (Ne.symm hpl)
      have e2' := hB3 _ _ e2 (Ne.symm hpg)
      have hk : k.toNat < ls.length := by omega
      obtain ⟨v, hv⟩ : ∃ v, ls[k.toNat]? = some v := ⟨_, List.getElem?_eq_getElem hk⟩
      have e2u : (upd H3 l (.lst ((ls.map V.int).eraseIdx k.toNat))) g = some (.lst (fs.map V.int)) := by
        rw [upd_ne (Ne.symm hlg)]
        exact e2'
      refine ⟨l, _, k, k.toNat, .int v, rfl, rfl, e1', by omega, by omega, ?_, at_map hv, g, _, .int v, rfl, rfl, e2u, by rw [List.length_map]; exact small1000 (by omega), ?_⟩
      · rw [List.length_map]
        exact ix_nat k0 k1
      · refine ⟨ls.eraseIdx k.toNat, fs ++ [v], _, rfl, ((hB.trans hB3).fresh hl).fresh hgH, (hR3.lst_upd e1' hpl).lst_upd e2u hpg, ?_, ?_, ?_, by rw [List.length_append, lf]; rfl⟩
        · rw [upd_ne hlg, upd_same, map_erase]
        · rw [upd_same, List.map_append]
          rfl
        · have hp2 := perm_erase hv
          refine List.Perm.trans ?_ hpm
          rw [List.append_assoc]
          exact List.Perm.append_left fs hp2.symm
    · obtain ⟨ls, fs, y4, rfl, hB, hR1, e1, e2, hpm, lf⟩ := h'
      have len1 := hpm.length_eq
      rw [List.length_append, rg_len] at len1
      have : ls = [] := List.eq_nil_of_length_eq_zero (by omega)
      subst this
      rw [List.append_nil] at hpm
      refine ⟨_, rfl, g, _, rfl, lstAt e2, fun t ob ht hob => ?_⟩
      have st := same_new (o := .frz ob (.tup (fs.map V.int))) ht
      exact q _ (.ref t) fs hpm (hB.trans (But.same st)) (hR1.same st) ⟨t, rfl, ob, upd_same, hob⟩
end
end RH
set_option Elab.async false
set_option linter.all false
set_option maxRecDepth 100000
set_option maxHeartbeats 2000000
namespace RH
open PySem PySem.Spec PyProof.Rows L2
/-! ### habits that the law draws -/
def rgI (a b : Int) : List Int := (List.range (b - a).toNat).map fun i : Nat => a + (i : Int)
theorem rgV_rgI (a b : Int) : rgV a b = (rgI a b).map V.int := by
  unfold rgV rgI
  rw [List.map_map]
  rfl
def wF (n pl : Nat) : List Int := rgI 1 ((pl : Int) + 1) ++ [0] ++ rgI ((pl : Int) + 1) (n : Int)
theorem wF_all : ∀ n, n < 6 → ∀ pl, pl < n → (wF n pl).isPerm (rg n) = true := by decide +kernel
theorem wF_perm {n pl : Nat} (hn : n ≤ 5) (hp : pl < n) : (wF n pl).Perm (rg n) := List.isPerm_iff.mp (wF_all n (by omega) pl hp)
theorem TIF.fix {H H' : Hp} {v : V} {ns : List Int} (f : Fix H H') (h : TIF H v ns) : TIF H' v ns := let ⟨b, e, g⟩ := h; ⟨b, e, g.fix f⟩
end RH
set_option Elab.async false
set_option linter.all false
set_option maxRecDepth 100000
set_option maxHeartbeats 2000000
namespace RH
open PySem PySem.Spec PyProof.Rows L2
/-! ### walks: the mathematics -/
/-- the line behind a book asked, on a shelf to the front -/
def mtf (L : List Int) (x : Int) : List Int := x :: L.erase x
theorem mtf_perm {L : List Int} {x : Int} (h : x ∈ L) : (mtf L x).Perm L := (List.perm_cons_erase h).symm
theorem fold_perm {n : Nat} : ∀ {L ns : List Int}, L.Perm (rg n) → (∀ x ∈ ns, x ∈ rg n) → (ns.foldl mtf L).Perm (rg n)
  | _, [], h, _ => h
  | L, x :: ns, h, hm => fold_perm (L := mtf L x) ((mtf_perm (h.mem_iff.mpr (hm x (List.mem_cons_self ..)))).trans h) fun y hy => hm y (List.mem_cons_of_mem _ hy)
/-! pairs -/
def prs (g : Int → Int → Bool) : List Int → Nat
  | [] => 0
  | x :: xs => xs.countP (g x) + prs g xs
theorem prs_perm {g : Int → Int → Bool} (sym : ∀ x y, g x y = g y x) {l l' : List Int} (h : l.Perm l') : prs g l = prs g l' := by
  induction h with
  | nil => rfl
  | cons x p ih =>
    show List.countP (g x) _ + prs g _ = List.countP (g x) _ + prs g _
    rw [ih, p.countP_eq]
  | swap x y l =>
    show List.countP (g y) (x :: l) + (List.countP (g x) l + prs g l) = List.countP (g x) (y :: l) + (List.countP (g y) l + prs g l)
    rw [List.countP_cons, List.countP_cons, sym y x]
    omega
  | trans _ _ i1 i2 => exact i1.trans i2
theorem prs_congr {f g : Int → Int → Bool} : ∀ {l : List Int}, l.Pairwise (fun x y => f x y = g x y) → prs f l = prs g l
  | [], _ => rfl
  | x :: xs, h => by
    rw [List.pairwise_cons] at h
    show List.countP (f x) xs + prs f xs = List.countP (g x) xs + prs g xs
    rw [prs_congr h.2, List.countP_congr fun y hy => by rw [h.1 y hy]]
theorem prs_put {f : Int → Int → Bool} {x : Int} : ∀ A B : List Int, prs f (A ++ x :: B) = prs f (A ++ B) + A.countP (fun y => f y x) + B.countP (f x)
  | [], B => by
    show List.countP (f x) B + prs f B = prs f B + 0 + List.countP (f x) B
    omega
  | a :: A, B => by
    show List.countP (f a) (A ++ x :: B) + prs f (A ++ x :: B) = List.countP (f a) (A ++ B) + prs f (A ++ B) + List.countP (fun y => f y x) (a :: A) + List.countP (f x) B
    rw [prs_put A B, List.countP_append, List.countP_append, List.countP_cons, List.countP_cons]
    omega
/-! what is walked at the front against a still order -/
/-- x stands behind y in O -/
def bef (O : List Int) (x y : Int) : Bool := decide (O.idxOf y < O.idxOf x)
theorem idx_ne {y x : Int} {L : List Int} (e : y ≠ x) : (y :: L).idxOf x = L.idxOf x + 1 := by
  rw [List.idxOf_cons, show (y == x) = false from by simpa using e]
  rfl
theorem idx_get : ∀ {O : List Int} {x : Int}, x ∈ O → O[O.idxOf x]? = some x
  | [], _, h => absurd h List.not_mem_nil
  | y :: O, x, h => by
    by_cases e : y = x
    · subst e
      rw [List.idxOf_cons_self]
      rfl
    · rw [idx_ne e, List.getElem?_cons_succ]
      exact idx_get ((List.mem_cons.mp h).resolve_left fun z => e z.symm)
theorem idx_inj {O : List Int} {x y : Int} (hx : x ∈ O) (e : O.idxOf x = O.idxOf y) : x = y := by
  have h1 := idx_get hx
  rw [e] at h1
  have hy : O.idxOf y < O.length := (List.getElem?_eq_some_iff.mp h1).1
  have h2 := idx_get (List.idxOf_lt_length_iff.mp hy)
  rw [h1] at h2
  exact Option.some.inj h2
/-! the least still order -/
/-! pairs crossed, counted by the books' numbers -/
def gX (a b : List Int) (x y : Int) : Bool := decide (a.idxOf x < a.idxOf y) != decide (b.idxOf x < b.idxOf y)
def gS (a b : List Int) (x y : Int) : Bool := if x ≤ y then gX a b x y else gX a b y x
theorem gS_sym (a b : List Int) (x y : Int) : gS a b x y = gS a b y x := by
  unfold gS
  by_cases h : x ≤ y
  · rw [if_pos h]
    by_cases h2 : y ≤ x
    · have : x = y := by omega
      rw [if_pos h2, this]
    · rw [if_neg h2]
  · rw [if_neg h, if_pos (by omega)]
theorem idx_rise {L : List Int} (hn : L.Nodup) : L.Pairwise fun x y => L.idxOf x < L.idxOf y := by
  rw [List.pairwise_iff_getElem]
  intro i j hi hj hij
  rw [idx_at hn (List.getElem?_eq_getElem hi), idx_at hn (List.getElem?_eq_getElem hj)]
  exact hij
theorem rg_rise (n : Nat) : (rg n).Pairwise fun x y => x < y := by
  unfold rg
  rw [List.pairwise_map]
  exact List.pairwise_lt_range.imp fun h => by omega
theorem cross_eq {n : Nat} {a b : List Int} (ha : a.Perm (rg n)) (hb : b.Perm (rg n)) : prs (fun h l => gX a b l h) (rg n).reverse = prs (bef b) a := by
  have e1 : prs (fun h l => gX a b l h) (rg n).reverse = prs (gS a b) (rg n).reverse := by
    refine prs_congr ?_
    rw [List.pairwise_reverse]
    refine (rg_rise n).imp fun {x y} h => ?_
    show gX a b x y = gS a b y x
    rw [gS_sym]
    unfold gS
    rw [if_pos (by omega)]
  have e2 : prs (gS a b) a = prs (bef b) a := by
    refine prs_congr ((idx_rise (perm_nd ha)).imp_of_mem fun {x y} hx hy h => ?_)
    have ne : b.idxOf x ≠ b.idxOf y := fun z => by
      have := idx_inj (hb.mem_iff.mpr (ha.mem_iff.mp hx)) z
      rw [this] at h
      exact Nat.lt_irrefl _ h
    unfold gS gX bef
    rw [decide_eq_true h, decide_eq_false (Nat.not_lt.mpr (Nat.le_of_lt h))]
    by_cases q : b.idxOf y < b.idxOf x
    · rw [decide_eq_true q, decide_eq_false (by omega)]
      split <;> rfl
    · rw [decide_eq_false q, decide_eq_true (by omega)]
      split <;> rfl
  rw [e1, prs_perm (gS_sym a b) ((List.reverse_perm _).trans ha.symm), e2]
theorem rg_succ (n : Nat) : rg (n + 1) = rg n ++ [(n : Int)] := by
  unfold rg
  rw [List.range_succ, List.map_append]
  rfl
theorem prs_rg {g : Int → Int → Bool} (n : Nat) : prs g (rg (n + 1)).reverse = (rg n).countP (g (n : Int)) + prs g (rg n).reverse := by
  rw [rg_succ, List.reverse_append]
  show List.countP (g (n : Int)) (rg n).reverse + _ = _
  rw [List.countP_reverse]
  rfl
/-! the habit to the front -/
theorem wF_get : ∀ n, n < 6 → ∀ p, p < n → ∀ s, s < n → (wF n p).getD s 0 = if s < p then (s : Int) + 1 else if s = p then 0 else (s : Int) := by decide +kernel
theorem mtf_idx {O : List Int} {x y : Int} (hO : O.Nodup) (hx : x ∈ O) (hy : y ∈ O) : (mtf O x).idxOf y = if O.idxOf y < O.idxOf x then O.idxOf y + 1 else if O.idxOf y = O.idxOf x then 0 else O.idxOf y := by
  obtain ⟨A, B, rfl⟩ := List.append_of_mem hx
  have hA : x ∉ A := fun z => by
    rw [List.nodup_append] at hO
    exact hO.2.2 x z x (List.mem_cons_self ..) rfl
  have e2 : mtf (A ++ x :: B) x = x :: (A ++ B) := by
    unfold mtf
    rw [List.erase_append_right _ hA, List.erase_cons_head]
  have e1 : (A ++ x :: B).idxOf x = A.length := by
    rw [List.idxOf_append, if_neg hA, List.idxOf_cons_self]
    omega
  rw [e2, e1]
  by_cases e : y = x
  · subst e
    rw [e1, List.idxOf_cons_self, if_neg (Nat.lt_irrefl _), if_pos rfl]
  · rw [idx_ne (fun z => e z.symm), List.idxOf_append, List.idxOf_append]
    by_cases m : y ∈ A
    · rw [if_pos m, if_pos m, if_pos (List.idxOf_lt_length_of_mem m)]
    · rw [if_neg m, if_neg m, idx_ne (fun z => e z.symm), if_neg (by omega), if_neg (by omega)]
      omega
def frH (n : Nat) : List (List Int) := (List.range n).map (wF n)
theorem getD_at {α : Type} {l : List α} {i : Nat} {x d : α} (h : l[i]? = some x) : l.getD i d = x := by
  rw [List.getD_eq_getElem?_getD, h]
  rfl
theorem frH_mv {n : Nat} (n5 : n ≤ 5) {p s : Nat} (hp : p < n) (hs : s < n) : mv (frH n) (p : Int) (s : Int) = if s < p then (s : Int) + 1 else if s = p then 0 else (s : Int) := by
  unfold mv
  rw [Int.toNat_natCast, Int.toNat_natCast, getD_at (l := frH n) (i := p) (x := wF n p) (by unfold frH; rw [List.getElem?_map, List.getElem?_range hp]; rfl)]
  exact wF_get n (by omega) p hp s hs
theorem inv_get {n : Nat} {O : List Int} (hO : O.Perm (rg n)) {x : Int} (hx : x ∈ rg n) : (invR O).getD x.toNat 0 = ((O.idxOf x : Nat) : Int) := by
  have hr := rg_mem.mp hx
  refine getD_at ?_
  unfold invR
  rw [List.getElem?_map, List.getElem?_range (by rw [perm_len hO]; omega)]
  show some (((O.idxOf ((x.toNat : Nat) : Int) : Nat) : Int)) = _
  rw [show ((x.toNat : Nat) : Int) = x by omega]
theorem idx_lt {n : Nat} {O : List Int} (hO : O.Perm (rg n)) {x : Int} (hx : x ∈ rg n) : O.idxOf x < n := by
  have := List.idxOf_lt_length_of_mem (hO.mem_iff.mpr hx)
  rwa [perm_len hO] at this
theorem frH_step {n : Nat} (n5 : n ≤ 5) {O : List Int} (hO : O.Perm (rg n)) {x : Int} (hx : x ∈ rg n) : stp (frH n) ((O.idxOf x : Nat) : Int) (invR O) = invR (mtf O x) := by
  have hxO := hO.mem_iff.mpr hx
  have l2 : (mtf O x).length = O.length := (mtf_perm hxO).length_eq
  unfold stp invR
  rw [l2, List.map_map]
  refine List.map_congr_left fun i hi => ?_
  have hi' : i < n := by
    rw [List.mem_range, perm_len hO] at hi
    exact hi
  have hy : (i : Int) ∈ rg n := rg_mem.mpr ⟨by omega, by omega⟩
  show mv (frH n) _ ((O.idxOf (i : Int) : Nat) : Int) = (((mtf O x).idxOf (i : Int) : Nat) : Int)
  rw [frH_mv n5 (idx_lt hO hx) (idx_lt hO hy), mtf_idx (perm_nd hO) hxO (hO.mem_iff.mpr hy)]
  split
  · omega
  · split
    · rfl
    · rfl
theorem frH_hb {n : Nat} (h2 : 2 ≤ n) (n5 : n ≤ 5) : Hb n (frH n) := ⟨by unfold frH; rw [List.length_map, List.length_range], fun ns hm => by
  obtain ⟨p, hp, rfl⟩ := List.mem_map.mp hm
  exact wF_perm n5 (List.mem_range.mp hp), h2, n5⟩
end RH
set_option Elab.async false
set_option linter.all false
set_option maxRecDepth 100000
set_option maxHeartbeats 2000000
namespace RH
open PySem PySem.Spec PyProof.Rows L2
/-! ### kinds of shelves: the mathematics -/
section
variable {h : List (List Int)} {n : Nat} {L : List Int}
/-- the word of a state found leads to it -/
theorem fd_mvs : ∀ k : Nat, ∀ q ∈ fd h n L k, mvs h L q.2 = q.1 ∧ ∀ p ∈ q.2, p ∈ rg n
  | 0, q, hq => by
    rw [List.mem_singleton.mp hq]
    exact ⟨rfl, fun p hp => absurd hp List.not_mem_nil⟩
  | k + 1, q, hq => by
    rw [fd_succ, List.mem_append] at hq
    rcases hq with hq | hq
    · exact fd_mvs k q hq
    · have := (dd_ok _ _).sub q hq
      obtain ⟨x, hx, hq⟩ := List.mem_flatMap.mp this
      obtain ⟨p, hp, rfl⟩ := List.mem_map.mp hq
      obtain ⟨e, hin⟩ := fd_mvs k x (lv_fd hx)
      refine ⟨?_, fun t ht => ?_⟩
      · show mvs h L (x.2 ++ [p]) = stp h p x.1
        rw [mvs_snoc, e]
      · rcases List.mem_append.mp ht with ht | ht
        · exact hin t ht
        · rw [List.mem_singleton.mp ht]
          exact hp
/-- what a word leads to is found -/
theorem fd_reach (ws : List Int) : (∀ p ∈ ws, p ∈ rg n) → mvs h L ws ∈ (fd h n L ws.length).map Prod.fst := by
  refine snoc_ind (P := fun ws => (∀ p ∈ ws, p ∈ rg n) → mvs h L ws ∈ (fd h n L ws.length).map Prod.fst) (fun _ => List.mem_map.mpr ⟨_, fd_start 0, rfl⟩) (fun ws p ih hw => ?_) ws
  obtain ⟨q, hq, e⟩ := List.mem_map.mp (ih fun t ht => hw t (List.mem_append_left _ ht))
  rw [mvs_snoc, ← e, List.length_append]
  exact fd_ex (hw p (List.mem_append_right _ (List.mem_singleton.mpr rfl))) hq
/-- .. by a word that is no longer -/
theorem fd_short {k : Nat} {s w ws : List Int} (hq : (s, w) ∈ fd h n L k) (hw : ∀ p ∈ ws, p ∈ rg n) (e : mvs h L ws = s) : w.length ≤ ws.length := by
  have := fd_reach (h := h) (L := L) ws hw
  rw [e] at this
  obtain ⟨⟨s', w'⟩, h1, e1⟩ := List.mem_map.mp this
  have e1 : s' = s := e1
  subst e1
  have l1 := fd_len _ _ h1
  have a := fd_mono (Nat.le_max_left k ws.length) hq
  have b := fd_mono (Nat.le_max_right k ws.length) h1
  rw [fd_val a b]
  exact l1
end
/-! the shelf to the front -/
theorem front_names {n : Nat} (n5 : n ≤ 5) : ∀ (ws S : List Int), S.Perm (rg n) → (∀ p ∈ ws, p ∈ rg n) → ∃ ns : List Int, ns.length = ws.length ∧ (∀ x ∈ ns, x ∈ rg n) ∧ mvs (frH n) (invR S) ws = invR (ns.foldl mtf S)
  | [], _, _, _ => ⟨[], rfl, fun _ h => absurd h List.not_mem_nil, rfl⟩
  | p :: ws, S, hS, hw => by
    have hp := rg_mem.mp (hw p (List.mem_cons_self ..))
    have hl : p.toNat < S.length := by rw [perm_len hS]; omega
    have ex : S[p.toNat]? = some S[p.toNat] := List.getElem?_eq_getElem hl
    have hx : S[p.toNat] ∈ rg n := hS.mem_iff.mp (List.getElem_mem hl)
    have ei : S.idxOf S[p.toNat] = p.toNat := idx_at (perm_nd hS) ex
    obtain ⟨ns, l, hin, e⟩ := front_names n5 ws (mtf S S[p.toNat]) ((mtf_perm (List.getElem_mem hl)).trans hS) fun q hq => hw q (List.mem_cons_of_mem _ hq)
    refine ⟨S[p.toNat] :: ns, by rw [List.length_cons, List.length_cons, l], fun x hm => ?_, ?_⟩
    · rcases List.mem_cons.mp hm with rfl | hm
      · exact hx
      · exact hin x hm
    · show mvs (frH n) (stp (frH n) p (invR S)) ws = _
      have := frH_step n5 hS hx
      rw [ei, show ((p.toNat : Nat) : Int) = p by omega] at this
      rw [this]
      exact e
/-- the places at which names are touched -/
def posW : List Int → List Int → List Int
  | _, [] => []
  | S, x :: ns => ((S.idxOf x : Nat) : Int) :: posW (mtf S x) ns
theorem posW_len : ∀ (ns S : List Int), (posW S ns).length = ns.length
  | [], _ => rfl
  | x :: ns, S => congrArg (· + 1) (posW_len ns (mtf S x))
theorem posW_mvs {n : Nat} (n5 : n ≤ 5) : ∀ (ns S : List Int), S.Perm (rg n) → (∀ x ∈ ns, x ∈ rg n) → mvs (frH n) (invR S) (posW S ns) = invR (ns.foldl mtf S)
  | [], _, _, _ => rfl
  | x :: ns, S, hS, hm => by
    have hx := hm x (List.mem_cons_self ..)
    show mvs (frH n) (stp (frH n) _ (invR S)) (posW (mtf S x) ns) = _
    rw [frH_step n5 hS hx]
    exact posW_mvs n5 ns (mtf S x) ((mtf_perm (hS.mem_iff.mpr hx)).trans hS) fun y hy => hm y (List.mem_cons_of_mem _ hy)
theorem posW_in {n : Nat} : ∀ (ns S : List Int), S.Perm (rg n) → (∀ x ∈ ns, x ∈ rg n) → ∀ p ∈ posW S ns, p ∈ rg n
  | [], _, _, _, _, h => absurd h List.not_mem_nil
  | x :: ns, S, hS, hm, p, h => by
    have hx := hm x (List.mem_cons_self ..)
    rcases List.mem_cons.mp h with rfl | h
    · have := idx_lt hS hx
      exact rg_mem.mpr ⟨by omega, by omega⟩
    · exact posW_in ns (mtf S x) ((mtf_perm (hS.mem_iff.mpr hx)).trans hS) (fun y hy => hm y (List.mem_cons_of_mem _ hy)) p h
theorem mtf_filter {S : List Int} (hS : S.Nodup) (x : Int) (ns : List Int) : (S.erase x).filter (fun y => decide (y ∉ ns)) = S.filter fun y => decide (y ∉ x :: ns) := by
  rw [hS.erase_eq_filter, List.filter_filter]
  refine List.filter_congr fun y _ => ?_
  by_cases e : y = x
  · simp [e]
  · simp [e]
/-- touched names stand ahead, the others behind as they stood -/
theorem front_shape : ∀ (ns S : List Int), S.Nodup → (∀ x ∈ ns, x ∈ S) → ∃ T : List Int, ns.foldl mtf S = T ++ S.filter (fun y => decide (y ∉ ns)) ∧ T.length ≤ ns.length ∧ (ns.Nodup → T = ns.reverse)
  | [], S, _, _ => ⟨[], (List.filter_eq_self.mpr fun y _ => by simp).symm, Nat.le_refl _, fun _ => rfl⟩
  | x :: ns, S, hS, hm => by
    have hx := hm x (List.mem_cons_self ..)
    have p := mtf_perm hx
    obtain ⟨T, e, l, r⟩ := front_shape ns (mtf S x) (p.nodup_iff.mpr hS) fun y hy => p.mem_iff.mpr (hm y (List.mem_cons_of_mem _ hy))
    have e : (x :: ns).foldl mtf S = T ++ (x :: S.erase x).filter fun y => decide (y ∉ ns) := e
    by_cases q : x ∈ ns
    · refine ⟨T, ?_, Nat.le_succ_of_le l, fun nd => absurd q (List.nodup_cons.mp nd).1⟩
      rw [e, List.filter_cons_of_neg (by simpa using q), mtf_filter hS]
    · refine ⟨T ++ [x], ?_, by rw [List.length_append, List.length_cons]; exact Nat.succ_le_succ l, fun nd => ?_⟩
      · rw [e, List.filter_cons_of_pos (by simpa using q), mtf_filter hS, List.append_assoc]
        rfl
      · rw [r (List.nodup_cons.mp nd).2, List.reverse_cons]
/-- the books of B from a place on stand in S in the same order -/
def Inc (S L : List Int) : Prop := L.Pairwise fun x y => S.idxOf x < S.idxOf y
theorem Inc.filter {S : List Int} (hS : S.Nodup) (f : Int → Bool) : Inc S (S.filter f) := (idx_rise hS).filter f
theorem sorted_eq {S : List Int} : ∀ {a b : List Int}, a.Perm b → Inc S a → Inc S b → a = b
  | [], b, p, _, _ => p.nil_eq
  | x :: a, b, p, ha, hb => by
    cases b with
    | nil => exact absurd p.symm.nil_eq (by simp)
    | cons y b =>
      have ha' := List.pairwise_cons.mp ha
      have hb' := List.pairwise_cons.mp hb
      have e : x = y := by
        rcases List.mem_cons.mp (p.mem_iff.mp (List.mem_cons_self ..)) with e | m1
        · exact e
        · rcases List.mem_cons.mp (p.mem_iff.mpr (List.mem_cons_self (a := y) (l := b))) with e | m2
          · exact e.symm
          · have := hb'.1 x m1
            have := ha'.1 y m2
            omega
      subst e
      rw [sorted_eq ((List.perm_cons x).mp p) ha'.2 hb'.2]
/-- the place from which B's end stands -/
structure EndAt (S B : List Int) (at_ : Nat) : Prop where
  lt : at_ ≤ B.length
  inc : Inc S (B.drop at_)
  top : ∀ t, Inc S (B.drop t) → at_ ≤ t
theorem EndAt.le {S B ns : List Int} {k : Nat} (E : EndAt S B k) (hS : S.Nodup) (hm : ∀ x ∈ ns, x ∈ S) (e : ns.foldl mtf S = B) : k ≤ ns.length := by
  obtain ⟨T, eT, l, _⟩ := front_shape ns S hS hm
  refine Nat.le_trans (E.top T.length ?_) l
  rw [← e, eT, List.drop_left]
  exact Inc.filter hS _
theorem EndAt.to {S B : List Int} {k : Nat} (E : EndAt S B k) (hB : B.Nodup) (p : B.Perm S) : (B.take k).reverse.foldl mtf S = B := by
  have hS : S.Nodup := p.nodup_iff.mp hB
  have nd : (B.take k).reverse.Nodup := (List.reverse_perm _).nodup_iff.mpr (hB.sublist (List.take_sublist ..))
  obtain ⟨T, eT, _, r⟩ := front_shape (B.take k).reverse S hS fun x hx => p.mem_iff.mp (List.mem_of_mem_take (List.mem_reverse.mp hx))
  have e2 : S.filter (fun y => decide (y ∉ (B.take k).reverse)) = B.drop k := by
    refine sorted_eq (S := S) ?_ (Inc.filter hS _) E.inc
    have e3 : B.filter (fun y => decide (y ∉ (B.take k).reverse)) = B.drop k := by
      have hd : ∀ y ∈ B.drop k, y ∉ B.take k := fun y h1 h2 => by
        have := hB
        rw [← List.take_append_drop k B, List.nodup_append] at this
        exact this.2.2 y h2 y h1 rfl
      conv => lhs; rw [← List.take_append_drop k B]
      rw [List.filter_append]
      have a1 : (B.take k).filter (fun y => decide (y ∉ ((B.take k ++ B.drop k).take k).reverse)) = [] := List.filter_eq_nil_iff.mpr fun y hy => by
        rw [List.take_append_drop]
        simpa using hy
      have a2 : (B.drop k).filter (fun y => decide (y ∉ ((B.take k ++ B.drop k).take k).reverse)) = B.drop k := List.filter_eq_self.mpr fun y hy => by
        rw [List.take_append_drop]
        simpa using hd y hy
      rw [a1, a2, List.nil_append]
    rw [← e3]
    exact p.symm.filter _
  rw [eT, r nd, List.reverse_reverse, e2, List.take_append_drop]
end RH
set_option Elab.async false
set_option linter.all false
set_option maxRecDepth 100000
set_option maxHeartbeats 2000000
namespace RH
open PySem PySem.Spec PyProof.Rows L2
/-! ### the neighbour shelf, the turning shelf: the mathematics -/
def neighP (n p : Nat) : List Int := if 0 < p then ((rg n).set (p - 1) (p : Int)).set p ((p - 1 : Nat) : Int) else rg n
def neighH (n : Nat) : List (List Int) := (List.range n).map (neighP n)
def turnP (n p : Nat) : List Int := (List.range n).map fun s : Nat => ((s : Int) + (p : Int)) % (n : Int)
def turnH (n : Nat) : List (List Int) := (List.range n).map (turnP n)
theorem neigh_get : ∀ n, n < 6 → ∀ p, p < n → ∀ s, s < n → (neighP n p).getD s 0 = if 0 < p then (if s + 1 = p then (p : Int) else if s = p then (p : Int) - 1 else (s : Int)) else (s : Int) := by decide +kernel
theorem neigh_perm : ∀ n, n < 6 → ∀ p, p < n → (neighP n p).isPerm (rg n) = true ∧ (turnP n p).isPerm (rg n) = true := by decide +kernel
theorem turn_get : ∀ n, n < 6 → ∀ p, p < n → ∀ s, s < n → (turnP n p).getD s 0 = ((s : Int) + (p : Int)) % (n : Int) := by decide +kernel
theorem neighH_hb {n : Nat} (h2 : 2 ≤ n) (n5 : n ≤ 5) : Hb n (neighH n) := ⟨by unfold neighH; rw [List.length_map, List.length_range], fun ns hm => by
  obtain ⟨p, hp, rfl⟩ := List.mem_map.mp hm
  exact List.isPerm_iff.mp (neigh_perm n (by omega) p (List.mem_range.mp hp)).1, h2, n5⟩
theorem turnH_hb {n : Nat} (h2 : 2 ≤ n) (n5 : n ≤ 5) : Hb n (turnH n) := ⟨by unfold turnH; rw [List.length_map, List.length_range], fun ns hm => by
  obtain ⟨p, hp, rfl⟩ := List.mem_map.mp hm
  exact List.isPerm_iff.mp (neigh_perm n (by omega) p (List.mem_range.mp hp)).2, h2, n5⟩
theorem neighH_mv {n : Nat} (n5 : n ≤ 5) {p s : Nat} (hp : p < n) (hs : s < n) : mv (neighH n) (p : Int) (s : Int) = if 0 < p then (if s + 1 = p then (p : Int) else if s = p then (p : Int) - 1 else (s : Int)) else (s : Int) := by
  unfold mv
  rw [Int.toNat_natCast, Int.toNat_natCast, getD_at (l := neighH n) (i := p) (x := neighP n p) (by unfold neighH; rw [List.getElem?_map, List.getElem?_range hp]; rfl)]
  exact neigh_get n (by omega) p hp s hs
theorem turnH_mv {n : Nat} (n5 : n ≤ 5) {p s : Nat} (hp : p < n) (hs : s < n) : mv (turnH n) (p : Int) (s : Int) = ((s : Int) + (p : Int)) % (n : Int) := by
  unfold mv
  rw [Int.toNat_natCast, Int.toNat_natCast, getD_at (l := turnH n) (i := p) (x := turnP n p) (by unfold turnH; rw [List.getElem?_map, List.getElem?_range hp]; rfl)]
  exact turn_get n (by omega) p hp s hs
theorem invR_perm {n : Nat} {r : List Int} (hr : r.Perm (rg n)) : (invR r).Perm (rg n) := by
  have e1 : r.map (fun x => ((r.idxOf x : Nat) : Int)) = rg n := by
    refine List.ext_getElem (by rw [List.length_map, rg_len, perm_len hr]) fun i h1 h2 => ?_
    rw [List.getElem_map, (perm_nd hr).idxOf_getElem i (by rw [List.length_map] at h1; exact h1)]
    have := rg_at (n := n) (i := i) (by rw [rg_len] at h2; exact h2)
    rw [List.getElem?_eq_getElem h2] at this
    exact (Option.some.inj this).symm
  have e2 : (rg n).map (fun x => ((r.idxOf x : Nat) : Int)) = invR r := by
    unfold rg invR
    rw [List.map_map, perm_len hr]
    rfl
  have := hr.map fun x => ((r.idxOf x : Nat) : Int)
  rw [e1, e2] at this
  exact this.symm
/-- where names stand if two beside each other change places -/
theorem swap_idx {A C : List Int} {x y z : Int} (nd : (A ++ x :: y :: C).Nodup) (hz : z ∈ A ++ x :: y :: C) : (A ++ y :: x :: C).idxOf z = if (A ++ x :: y :: C).idxOf z = A.length then A.length + 1 else if (A ++ x :: y :: C).idxOf z = A.length + 1 then A.length else (A ++ x :: y :: C).idxOf z := by
  rw [List.nodup_append] at nd
  obtain ⟨_, nc, dis⟩ := nd
  have hx : x ∉ A := fun m => dis x m x (List.mem_cons_self ..) rfl
  have hy : y ∉ A := fun m => dis y m y (List.mem_cons_of_mem _ (List.mem_cons_self ..)) rfl
  have xy : x ≠ y := fun e => (List.nodup_cons.mp nc).1 (by rw [e]; exact List.mem_cons_self ..)
  rw [List.idxOf_append, List.idxOf_append]
  by_cases m : z ∈ A
  · have := List.idxOf_lt_length_of_mem m
    rw [if_pos m, if_pos m, if_neg (by omega), if_neg (by omega)]
  · rw [if_neg m, if_neg m]
    by_cases e1 : x = z
    · subst e1
      rw [List.idxOf_cons_self, idx_ne xy.symm, List.idxOf_cons_self, if_pos (by omega)]
      omega
    · by_cases e2 : y = z
      · subst e2
        rw [idx_ne e1, List.idxOf_cons_self, List.idxOf_cons_self, if_neg (by omega), if_pos (by omega)]
        omega
      · rw [idx_ne e1, idx_ne e2, idx_ne e2, idx_ne e1, if_neg (by omega), if_neg (by omega)]
theorem neigh_swap {n : Nat} (n5 : n ≤ 5) {A C : List Int} {x y : Int} (hS : (A ++ x :: y :: C).Perm (rg n)) : stp (neighH n) ((A.length + 1 : Nat) : Int) (invR (A ++ x :: y :: C)) = invR (A ++ y :: x :: C) := by
  have ln := perm_len hS
  have l2 : (A ++ y :: x :: C).length = (A ++ x :: y :: C).length := by simp
  have hp : A.length + 1 < n := by
    rw [← ln, List.length_append, List.length_cons, List.length_cons]
    omega
  unfold stp invR
  rw [l2, List.map_map]
  refine List.map_congr_left fun i hi => ?_
  have hi' : i < n := by
    rw [List.mem_range, ln] at hi
    exact hi
  have hm : (i : Int) ∈ A ++ x :: y :: C := hS.mem_iff.mpr (rg_mem.mpr ⟨by omega, by omega⟩)
  show mv (neighH n) _ (((A ++ x :: y :: C).idxOf (i : Int) : Nat) : Int) = (((A ++ y :: x :: C).idxOf (i : Int) : Nat) : Int)
  rw [neighH_mv n5 hp (idx_lt hS (hS.mem_iff.mp hm)), swap_idx (perm_nd hS) hm, if_pos (by omega)]
  split
  · rename_i e
    rw [if_pos (by omega)]
  · rename_i e
    split
    · rw [if_neg (by omega)]
      omega
    · rw [if_neg (by omega)]
/-- a touch takes no more than one crossing away -/
theorem neigh_step {n : Nat} (n5 : n ≤ 5) {S : List Int} (hS : S.Perm (rg n)) {p : Int} (hp : p ∈ rg n) : ∃ S', S'.Perm (rg n) ∧ stp (neighH n) p (invR S) = invR S' ∧ ∀ B, prs (bef B) S ≤ prs (bef B) S' + 1 := by
  have hr := rg_mem.mp hp
  have ln := perm_len hS
  obtain ⟨q, rfl⟩ : ∃ q : Nat, p = (q : Int) := ⟨p.toNat, by omega⟩
  cases q with
  | zero =>
    refine ⟨S, hS, ?_, fun B => Nat.le_succ _⟩
    unfold stp
    refine (List.map_congr_left (g := id) fun s hs => ?_).trans (List.map_id _)
    have hs' : s ∈ rg n := (invR_perm hS).mem_iff.mp hs
    have h2 := rg_mem.mp hs'
    obtain ⟨t, rfl⟩ : ∃ t : Nat, s = (t : Int) := ⟨s.toNat, by omega⟩
    rw [neighH_mv n5 (by omega) (by omega), if_neg (by omega)]
    rfl
  | succ q =>
    have h1 : q < S.length := by omega
    have h2 : q + 1 < S.length := by omega
    have e : S = S.take q ++ S[q] :: S[q + 1] :: S.drop (q + 2) := by
      conv => lhs; rw [← List.take_append_drop q S, List.drop_eq_getElem_cons h1, List.drop_eq_getElem_cons h2]
    have lq : (S.take q).length = q := by rw [List.length_take]; omega
    generalize S.take q = A at e lq
    generalize S[q] = x at e
    generalize S[q + 1] = y at e
    generalize S.drop (q + 2) = C at e
    subst e
    refine ⟨A ++ y :: x :: C, ?_, ?_, fun B => ?_⟩
    · exact (List.Perm.append_left A (List.Perm.swap x y C)).trans hS
    · have := neigh_swap n5 hS
      rw [lq] at this
      exact this
    · have a1 := prs_put (f := bef B) (x := x) A (y :: C)
      have a2 := prs_put (f := bef B) (x := y) A C
      have a3 := prs_put (f := bef B) (x := y) A (x :: C)
      have a4 := prs_put (f := bef B) (x := x) A C
      rw [a1, a2, a3, a4, List.countP_cons, List.countP_cons]
      split <;> split <;> omega
theorem prs_self {B : List Int} (hB : B.Nodup) : prs (bef B) B = 0 := by
  have h : B.Pairwise fun x y => bef B x y = (fun _ _ => false) x y := (idx_rise hB).imp fun {x y} q => decide_eq_false (by omega)
  rw [prs_congr h]
  clear h hB
  induction B with
  | nil => rfl
  | cons x B ih =>
    show List.countP (fun _ => false) B + prs (fun _ _ => false) B = 0
    rw [ih]
    simp
theorem invR_inj {n : Nat} {S B : List Int} (hS : S.Perm (rg n)) (hB : B.Perm (rg n)) (e : invR S = invR B) : S = B := by
  refine sorted_eq (S := B) (hS.trans hB.symm) ?_ (idx_rise (perm_nd hB))
  refine (idx_rise (perm_nd hS)).imp_of_mem fun {x y} hx hy q => ?_
  have a := inv_get hS (hS.mem_iff.mp hx)
  have b := inv_get hS (hS.mem_iff.mp hy)
  rw [e, inv_get hB (hS.mem_iff.mp hx)] at a
  rw [e, inv_get hB (hS.mem_iff.mp hy)] at b
  omega
theorem neigh_le {n : Nat} (n5 : n ≤ 5) {B : List Int} (hB : B.Perm (rg n)) : ∀ (ws S : List Int), S.Perm (rg n) → (∀ p ∈ ws, p ∈ rg n) → mvs (neighH n) (invR S) ws = invR B → prs (bef B) S ≤ ws.length
  | [], S, hS, _, e => by
    rw [invR_inj hS hB e, prs_self (perm_nd hB)]
    exact Nat.le_refl _
  | p :: ws, S, hS, hw, e => by
    obtain ⟨S', hS', e1, le⟩ := neigh_step n5 hS (hw p (List.mem_cons_self ..))
    have e2 : mvs (neighH n) (stp (neighH n) p (invR S)) ws = invR B := e
    rw [e1] at e2
    have := neigh_le n5 hB ws S' hS' (fun q hq => hw q (List.mem_cons_of_mem _ hq)) e2
    have := le B
    rw [List.length_cons]
    omega
/-- from hi down to lo + 1 -/
def dwn (lo k : Nat) : List Int := ((List.range k).map fun i : Nat => ((lo + (k - i) : Nat) : Int))
theorem dwn_succ (lo k : Nat) : dwn lo (k + 1) = ((lo + k + 1 : Nat) : Int) :: dwn lo k := by
  unfold dwn
  rw [List.range_succ_eq_map, List.map_cons, List.map_map]
  refine congr (congrArg List.cons ?_) (List.map_congr_left fun i hi => ?_)
  · show ((lo + (k + 1 - 0) : Nat) : Int) = _
    rw [Nat.sub_zero]
    rfl
  · show ((lo + (k + 1 - (i + 1)) : Nat) : Int) = _
    rw [Nat.add_sub_add_right]
theorem neigh_ins {n : Nat} (n5 : n ≤ 5) {A : List Int} {x : Int} (M : List Int) : ∀ C : List Int, (A ++ (M ++ x :: C)).Perm (rg n) → mvs (neighH n) (invR (A ++ (M ++ x :: C))) (dwn A.length M.length) = invR (A ++ x :: (M ++ C)) := by
  refine snoc_ind (P := fun M => ∀ C : List Int, (A ++ (M ++ x :: C)).Perm (rg n) → mvs (neighH n) (invR (A ++ (M ++ x :: C))) (dwn A.length M.length) = invR (A ++ x :: (M ++ C))) (fun C _ => rfl) (fun M m ih C hp => ?_) M
  rw [List.length_append, List.length_singleton, dwn_succ]
  have e : A ++ (M ++ [m] ++ x :: C) = (A ++ M) ++ m :: x :: C := by simp
  have e2 : (A ++ M) ++ x :: m :: C = A ++ (M ++ x :: (m :: C)) := by simp
  rw [e] at hp ⊢
  show mvs (neighH n) (stp (neighH n) _ (invR ((A ++ M) ++ m :: x :: C))) (dwn A.length M.length) = _
  have sw := neigh_swap n5 hp
  rw [List.length_append] at sw
  rw [sw, e2, ih (m :: C) (by rw [← e2]; exact (List.Perm.append_left _ (List.Perm.swap m x C)).trans hp)]
  simp
theorem dwn_in {n lo k : Nat} (h : lo + k < n) : ∀ p ∈ dwn lo k, p ∈ rg n := fun p hp => by
  obtain ⟨i, hi, rfl⟩ := List.mem_map.mp hp
  rw [List.mem_range] at hi
  exact rg_mem.mpr ⟨by omega, by omega⟩
theorem dwn_len (lo k : Nat) : (dwn lo k).length = k := by
  unfold dwn
  rw [List.length_map, List.length_range]
/-- a book put to its place crosses those that it passes no more -/
theorem prs_ins {B M C A : List Int} {x : Int} (h : ∀ y ∈ M, B.idxOf x < B.idxOf y) : prs (bef B) (A ++ (M ++ x :: C)) = prs (bef B) (A ++ x :: (M ++ C)) + M.length := by
  have e1 : A ++ (M ++ x :: C) = (A ++ M) ++ x :: C := by simp
  have e2 : A ++ (M ++ C) = (A ++ M) ++ C := by simp
  rw [e1, prs_put, prs_put, e2, List.countP_append, List.countP_append]
  have c1 : M.countP (fun y => bef B y x) = M.length := List.countP_eq_length.mpr fun y hy => decide_eq_true (h y hy)
  have c2 : M.countP (bef B x) = 0 := List.countP_eq_zero.mpr fun y hy q => by
    have := of_decide_eq_true q
    have := h y hy
    omega
  rw [c1, c2]
  omega
/-! the turning shelf -/
def shf (n : Nat) (L : List Int) (t : Int) : List Int := L.map fun s => (s + t) % (n : Int)
theorem turn_step {n : Nat} (n5 : n ≤ 5) {L : List Int} (hL : ∀ s ∈ L, s ∈ rg n) {p : Int} (hp : p ∈ rg n) : stp (turnH n) p L = shf n L p := by
  have hr := rg_mem.mp hp
  obtain ⟨q, rfl⟩ : ∃ q : Nat, p = (q : Int) := ⟨p.toNat, by omega⟩
  unfold stp shf
  refine List.map_congr_left fun s hs => ?_
  have h2 := rg_mem.mp (hL s hs)
  obtain ⟨t, rfl⟩ : ∃ t : Nat, s = (t : Int) := ⟨s.toNat, by omega⟩
  exact turnH_mv n5 (by omega) (by omega)
theorem shf_in {n : Nat} (n0 : 0 < n) {L : List Int} (t : Int) : ∀ s ∈ shf n L t, s ∈ rg n := fun s hs => by
  obtain ⟨u, _, rfl⟩ := List.mem_map.mp hs
  exact rg_mem.mpr ⟨Int.emod_nonneg _ (by omega), Int.emod_lt_of_pos _ (by omega)⟩
theorem shf_zero {n : Nat} {L : List Int} (hL : ∀ s ∈ L, s ∈ rg n) : shf n L 0 = L := by
  refine (List.map_congr_left (g := id) fun s hs => ?_).trans (List.map_id _)
  have := rg_mem.mp (hL s hs)
  show (s + 0) % (n : Int) = s
  rw [Int.add_zero, Int.emod_eq_of_lt this.1 this.2]
theorem shf_shf (n : Nat) (L : List Int) (t u : Int) : shf n (shf n L t) u = shf n L ((t + u) % (n : Int)) := by
  unfold shf
  rw [List.map_map]
  refine List.map_congr_left fun s _ => ?_
  show ((s + t) % (n : Int) + u) % (n : Int) = (s + (t + u) % (n : Int)) % (n : Int)
  rw [Int.emod_add_emod, Int.add_emod_emod, Int.add_assoc]
theorem turn_mvs {n : Nat} (n0 : 0 < n) (n5 : n ≤ 5) : ∀ (ws L : List Int), (∀ s ∈ L, s ∈ rg n) → (∀ p ∈ ws, p ∈ rg n) → ∃ t, t ∈ rg n ∧ mvs (turnH n) L ws = shf n L t
  | [], L, hL, _ => ⟨0, rg_mem.mpr ⟨Int.le_refl _, by omega⟩, (shf_zero hL).symm⟩
  | p :: ws, L, hL, hw => by
    have hp := hw p (List.mem_cons_self ..)
    obtain ⟨t, ht, e⟩ := turn_mvs n0 n5 ws (shf n L p) (shf_in n0 p) fun q hq => hw q (List.mem_cons_of_mem _ hq)
    refine ⟨(p + t) % (n : Int), rg_mem.mpr ⟨Int.emod_nonneg _ (by omega), Int.emod_lt_of_pos _ (by omega)⟩, ?_⟩
    show mvs (turnH n) (stp (turnH n) p L) ws = _
    rw [turn_step n5 hL hp, e, shf_shf]
/-- the turn that would do -/
def trnT (n : Nat) (L O : List Int) : Int := (O.getD 0 0 - L.getD 0 0) % (n : Int)
/-- the word on the turning shelf -/
def trn (n : Nat) (L O : List Int) : Option (List Int) := if L = O then some [] else if shf n L (trnT n L O) = O then some [trnT n L O] else none
theorem shf_head {n : Nat} {L : List Int} (h : 0 < L.length) (t : Int) : (shf n L t).getD 0 0 = (L.getD 0 0 + t) % (n : Int) := by
  cases L with
  | nil => cases h
  | cons a L => rfl
theorem trnT_shf {n : Nat} {L : List Int} (h : 0 < L.length) {t : Int} (ht : t ∈ rg n) : trnT n L (shf n L t) = t := by
  have hr := rg_mem.mp ht
  unfold trnT
  rw [shf_head h, Int.emod_sub_emod, show L.getD 0 0 + t - L.getD 0 0 = t by omega, Int.emod_eq_of_lt hr.1 hr.2]
theorem trn_in {n : Nat} (n0 : 0 < n) (L O : List Int) : trnT n L O ∈ rg n := rg_mem.mpr ⟨Int.emod_nonneg _ (by omega), Int.emod_lt_of_pos _ (by omega)⟩
/-- found by the search: as long as the word -/
theorem trn_some {n k : Nat} (n0 : 0 < n) (n5 : n ≤ 5) {L O w : List Int} (hL : L.Perm (rg n)) (hq : (O, w) ∈ fd (turnH n) n L k) : ∃ ws, trn n L O = some ws ∧ ws.length = w.length ∧ mvs (turnH n) L ws = O ∧ ∀ p ∈ ws, p ∈ rg n := by
  obtain ⟨e, hin⟩ := fd_mvs k _ hq
  have hl : 0 < L.length := by rw [perm_len hL]; exact n0
  have hLr : ∀ s ∈ L, s ∈ rg n := fun s hs => hL.mem_iff.mp hs
  by_cases eq : L = O
  · refine ⟨[], if_pos eq, ?_, eq, fun p hp => absurd hp List.not_mem_nil⟩
    have := fd_short (ws := []) hq (fun p hp => absurd hp List.not_mem_nil) eq
    rw [List.length_nil] at this ⊢
    omega
  · obtain ⟨t, ht, e2⟩ := turn_mvs n0 n5 w L hLr hin
    have e3 : shf n L t = O := e2.symm.trans e
    have e4 : trnT n L O = t := by
      rw [← e3]
      exact trnT_shf hl ht
    have e5 : shf n L (trnT n L O) = O := by rw [e4]; exact e3
    have one : mvs (turnH n) L [trnT n L O] = O := by
      show stp (turnH n) (trnT n L O) L = O
      rw [turn_step n5 hLr (trn_in n0 L O), e5]
    have oin : ∀ p ∈ [trnT n L O], p ∈ rg n := fun p hp => by
      rw [List.mem_singleton.mp hp]
      exact trn_in n0 L O
    refine ⟨[trnT n L O], by unfold trn; rw [if_neg eq, if_pos e5], ?_, one, oin⟩
    have le := fd_short hq oin one
    have : w ≠ [] := fun z => eq (by rw [z] at e; exact e)
    have := List.length_pos_iff.mpr this
    rw [List.length_singleton] at le ⊢
    omega
/-- not found: no word -/
theorem trn_none {n k : Nat} (n0 : 0 < n) (n5 : n ≤ 5) {L O : List Int} (hL : L.Perm (rg n)) (hk : lv (turnH n) n L k = []) (hq : O ∉ (fd (turnH n) n L k).map Prod.fst) : trn n L O = none := by
  have hLr : ∀ s ∈ L, s ∈ rg n := fun s hs => hL.mem_iff.mp hs
  have no : ∀ ws : List Int, (∀ p ∈ ws, p ∈ rg n) → mvs (turnH n) L ws ≠ O := fun ws hw e => by
    have := fd_reach (h := turnH n) (L := L) ws hw
    rw [e] at this
    obtain ⟨q, h1, e1⟩ := List.mem_map.mp this
    exact hq (List.mem_map.mpr ⟨q, fd_all hk h1, e1⟩)
  have ne1 : L ≠ O := fun e => no [] (fun p hp => absurd hp List.not_mem_nil) e
  have ne2 : shf n L (trnT n L O) ≠ O := fun e => by
    refine no [trnT n L O] (fun p hp => by rw [List.mem_singleton.mp hp]; exact trn_in n0 L O) ?_
    show stp (turnH n) (trnT n L O) L = O
    rw [turn_step n5 hLr (trn_in n0 L O), e]
  unfold trn
  rw [if_neg ne1, if_neg ne2]
theorem trn_shift {n : Nat} (n0 : 0 < n) {L : List Int} (hL : L.Perm (rg n)) {t : Int} (ht : t ∈ rg n) : trn n L (shf n L t) = some (if t > 0 then [t] else []) := by
  have hr := rg_mem.mp ht
  have hl : 0 < L.length := by rw [perm_len hL]; exact n0
  have hLr : ∀ s ∈ L, s ∈ rg n := fun s hs => hL.mem_iff.mp hs
  unfold trn
  by_cases z : t > 0
  · rw [if_pos z, if_neg fun e => ?_, trnT_shf hl ht, if_pos rfl]
    have h1 := trnT_shf hl ht
    rw [← e] at h1
    unfold trnT at h1
    rw [Int.sub_self, Int.zero_emod] at h1
    omega
  · have : t = 0 := by omega
    subst this
    rw [if_neg z, if_pos (shf_zero hLr).symm]
/-! crossings counted by layouts -/
theorem cross_two {n : Nat} {a b : List Int} (ha : a.Perm (rg n)) (hb : b.Perm (rg n)) {z : Int} (hz : z ∈ rg n) (L : List Int) (hall : ∀ y ∈ L, y ≠ z ∧ y ∈ rg n) : L.countP (gS a b z) = L.countP (fun y => decide (a.idxOf z < a.idxOf y) && decide (b.idxOf y < b.idxOf z)) + L.countP (fun x => decide (a.idxOf x < a.idxOf z) && decide (b.idxOf z < b.idxOf x)) := by
  induction L with
  | nil => rfl
  | cons y L ihL =>
    have hy := hall y (List.mem_cons_self ..)
    rw [List.countP_cons, List.countP_cons, List.countP_cons, ihL fun u hu => hall u (List.mem_cons_of_mem _ hu)]
    have na : a.idxOf z ≠ a.idxOf y := fun e => hy.1 (idx_inj (ha.mem_iff.mpr hz) e).symm
    have nb : b.idxOf z ≠ b.idxOf y := fun e => hy.1 (idx_inj (hb.mem_iff.mpr hz) e).symm
    have eg : gS a b z y = ((decide (a.idxOf z < a.idxOf y) && decide (b.idxOf y < b.idxOf z)) || (decide (a.idxOf y < a.idxOf z) && decide (b.idxOf z < b.idxOf y))) := by
      unfold gS gX
      by_cases h1 : a.idxOf z < a.idxOf y <;> by_cases h2 : b.idxOf z < b.idxOf y
      · have h3 : ¬ a.idxOf y < a.idxOf z := by omega
        have h4 : ¬ b.idxOf y < b.idxOf z := by omega
        split <;> simp [h1, h2, h3, h4]
      · have h3 : ¬ a.idxOf y < a.idxOf z := by omega
        have h4 : b.idxOf y < b.idxOf z := by omega
        split <;> simp [h1, h2, h3, h4]
      · have h3 : a.idxOf y < a.idxOf z := by omega
        have h4 : ¬ b.idxOf y < b.idxOf z := by omega
        split <;> simp [h1, h2, h3, h4]
      · have h3 : a.idxOf y < a.idxOf z := by omega
        have h4 : b.idxOf y < b.idxOf z := by omega
        split <;> simp [h1, h2, h3, h4]
    rw [eg]
    by_cases c1 : (decide (a.idxOf z < a.idxOf y) && decide (b.idxOf y < b.idxOf z)) = true
    · have c2 : ¬ (decide (a.idxOf y < a.idxOf z) && decide (b.idxOf z < b.idxOf y)) = true := by
        rw [Bool.and_eq_true, decide_eq_true_eq, decide_eq_true_eq] at c1 ⊢
        omega
      rw [if_pos (by rw [c1]; rfl), if_pos c1, if_neg c2]
      omega
    · by_cases c2 : (decide (a.idxOf y < a.idxOf z) && decide (b.idxOf z < b.idxOf y)) = true
      · rw [if_pos (by rw [c2, Bool.or_true]), if_neg c1, if_pos c2]
        omega
      · rw [if_neg (by rw [Bool.or_eq_true]; exact fun z => z.elim c1 c2), if_neg c1, if_neg c2]
        omega
theorem cross_lay {n : Nat} {a b : List Int} (ha : a.Perm (rg n)) (hb : b.Perm (rg n)) : (((rg n).map fun x => ((rg n).filter fun y => decide (a.idxOf x < a.idxOf y)).countP fun y => decide (b.idxOf y < b.idxOf x)).sum : Nat) = prs (bef b) a := by
  have key : ∀ L : List Int, L.Nodup → (∀ x ∈ L, x ∈ rg n) → ((L.map fun x => L.countP fun y => decide (a.idxOf x < a.idxOf y) && decide (b.idxOf y < b.idxOf x)).sum : Nat) = prs (gS a b) L := by
    intro L
    induction L with
    | nil => exact fun _ _ => rfl
    | cons z L ih =>
      intro nd hin
      have nd' := List.nodup_cons.mp nd
      have ih := ih nd'.2 fun x hx => hin x (List.mem_cons_of_mem _ hx)
      have self : (decide (a.idxOf z < a.idxOf z) && decide (b.idxOf z < b.idxOf z)) = false := by simp
      have split : ∀ M : List Int, (M.map fun x => (if (decide (a.idxOf x < a.idxOf z) && decide (b.idxOf z < b.idxOf x)) = true then 1 else 0) + L.countP fun y => decide (a.idxOf x < a.idxOf y) && decide (b.idxOf y < b.idxOf x)).sum = M.countP (fun x => decide (a.idxOf x < a.idxOf z) && decide (b.idxOf z < b.idxOf x)) + (M.map fun x => L.countP fun y => decide (a.idxOf x < a.idxOf y) && decide (b.idxOf y < b.idxOf x)).sum := fun M => by
        induction M with
        | nil => rfl
        | cons y M ihM =>
          rw [List.map_cons, List.sum_cons, ihM, List.countP_cons, List.map_cons, List.sum_cons]
          omega
      rw [List.map_cons, List.sum_cons, List.countP_cons, if_neg (by rw [self]; exact Bool.false_ne_true), Nat.add_zero]
      have e1 : (L.map fun x => (z :: L).countP fun y => decide (a.idxOf x < a.idxOf y) && decide (b.idxOf y < b.idxOf x)) = L.map fun x => (if (decide (a.idxOf x < a.idxOf z) && decide (b.idxOf z < b.idxOf x)) = true then 1 else 0) + L.countP fun y => decide (a.idxOf x < a.idxOf y) && decide (b.idxOf y < b.idxOf x) := List.map_congr_left fun x _ => by
        rw [List.countP_cons, Nat.add_comm]
      rw [e1, split, ih]
      show _ = L.countP (gS a b z) + prs (gS a b) L
      have e2 := cross_two ha hb (hin z (List.mem_cons_self ..)) L fun y hy => ⟨fun e => nd'.1 (by rw [← e]; exact hy), hin y (List.mem_cons_of_mem _ hy)⟩
      rw [e2]
      omega
  have e3 : ((rg n).map fun x => ((rg n).filter fun y => decide (a.idxOf x < a.idxOf y)).countP fun y => decide (b.idxOf y < b.idxOf x)) = (rg n).map fun x => (rg n).countP fun y => decide (a.idxOf x < a.idxOf y) && decide (b.idxOf y < b.idxOf x) := List.map_congr_left fun x _ => by
    rw [List.countP_filter]
    exact List.countP_congr fun y _ => by rw [Bool.and_comm]
  rw [e3, key (rg n) (rg_nd n) fun x hx => hx, ← cross_eq ha hb]
  have e1 : prs (fun h l => gX a b l h) (rg n).reverse = prs (gS a b) (rg n).reverse := by
    refine prs_congr ?_
    rw [List.pairwise_reverse]
    refine (rg_rise n).imp fun {x y} h => ?_
    show gX a b x y = gS a b y x
    rw [gS_sym]
    unfold gS
    rw [if_pos (by omega)]
  rw [e1]
  exact prs_perm (gS_sym a b) (List.reverse_perm _).symm
end RH
set_option Elab.async false
set_option linter.all false
set_option maxRecDepth 100000
set_option maxHeartbeats 2000000
namespace RH
open PySem PySem.Spec PyProof.Rows L2
/-! ### kinds: the program's defs where they answer -/
theorem eqV_int (i j : Int) : eqV (.int i) (.int j) = decide (i = j) := by
  show (i == j) = _
  by_cases h : i = j <;> simp [h]
theorem idx_first : ∀ {L : List Int} {m : Nat} {y : Int}, L[m]? = some y → ¬ m < L.idxOf y
  | [], _, _, h => by simp at h
  | a :: L, m, y, h => fun hm => by
    by_cases ea : a = y
    · subst ea
      rw [List.idxOf_cons_self] at hm
      omega
    · rw [idx_ne ea] at hm
      cases m with
      | zero => exact ea (Option.some.inj h)
      | succ m => exact idx_first (L := L) (m := m) (y := y) (by simpa using h) (by omega)
theorem eqV_same (x : Int) : eqV (.int x) (.int x) = true := by rw [eqV_int]; exact decide_eq_true rfl
theorem eqV_first {L : List Int} {x : Int} (m : Nat) (z : V) (hm : m < L.idxOf x) (hz : (L.map V.int)[m]? = some z) : eqV z (.int x) = false := by
  obtain ⟨y, hy, rfl⟩ := map_at hz
  rw [eqV_int]
  refine decide_eq_false fun e => ?_
  subst e
  exact idx_first hy hm
theorem inv_at {n : Nat} {O : List Int} (hO : O.Perm (rg n)) {i : Nat} (hi : i < n) : (invR O)[i]? = some ((O.idxOf (i : Int) : Nat) : Int) := by
  unfold invR
  rw [List.getElem?_map, List.getElem?_range (by rw [perm_len hO]; exact hi)]
  rfl
theorem invL_len {n : Nat} {O : List Int} (hO : O.Perm (rg n)) : (invR O).length = n := by
  unfold invR
  rw [List.length_map, List.length_range, perm_len hO]
theorem invInv {n : Nat} {r : List Int} (hr : r.Perm (rg n)) : invR (invR r) = r := by
  have pi := invR_perm hr
  refine List.ext_getElem (by rw [invL_len pi, perm_len hr]) fun i h1 h2 => ?_
  have hi : i < n := by rw [perm_len hr] at h2; exact h2
  have e1 : (invR (invR r))[i] = (((invR r).idxOf (i : Int) : Nat) : Int) := by
    have := inv_at pi hi
    rw [List.getElem?_eq_getElem h1] at this
    exact Option.some.inj this
  have hx := rg_mem.mp (hr.mem_iff.mp (List.getElem_mem h2))
  have at_ : (invR r)[r[i].toNat]? = some (i : Int) := by
    rw [inv_at hr (by omega), show ((r[i].toNat : Nat) : Int) = r[i] by omega, idx_at (perm_nd hr) (List.getElem?_eq_getElem h2)]
  rw [e1, idx_at (perm_nd pi) at_]
  omega
section
variable {P : Program} {w : World} {K : PySem.W.Frag} {mg : Str → Option Value} {base : Heap}
def spCkR (K : PySem.W.Frag) : Sp := fun vs H Q _ => ∃ (a : Addr) (L : List Int) (n : Nat), vs = [.ref a, .int 40] ∧ SqT K H a (L.map V.int) ∧ L.Perm (rg n) ∧ 1 ≤ n ∧ n ≤ 40 ∧ ∀ H', Same H H' → Q .non H'
theorem ok_ckR (F : Df K mg "check_row" st_check_row ["row", "most"]) (B : Bu mg) (C1 : Cal P w K mg base 1 "is_row" (spIsRow K)) (C5 : Cal P w K mg base 5 "is_layout" (spIsLayout K)) : Cal P w K mg base 6 "check_row" (spCkR K) := by
  refine mkCal F sc_check_row (fun vs H Q E h => ?_) (fun f cdv A outer s H vs Q E hr h => ?_)
  · obtain ⟨a, L, n, rfl, _⟩ := h
    rfl
  · obtain ⟨a, L, n, rfl, hS, hp, n1, n40, q⟩ := h
    have ln := perm_len hp
    refine ⟨_, pss_one (ps_if (PW.pt (pw_or (pt_not (pt_val (pc C1 hr (pa_cons (pv 0) (pa_cons pe_int (pa_cons (pv 1) pa_nil))))))
      (pw_or1 (pt_not (pt_val (pc C5 hr (pa_cons (pv 0) (pa_cons (pe_callB (cl_len K) (by rfl) B.len PySem.boot_len (pa_cons (pv 0) pa_nil)) pa_nil)))))))) (pss_one ps_no) pss_nil), ?_⟩
    refine ⟨_, rfl, _, rfl, a, _, 1, 40, rfl, hS, _, rfl, ifF ?_ ?_⟩
    · rw [List.length_map, ln, decide_eq_true (by omega), decide_eq_true (by omega)]
      rfl
    · refine ⟨_, rfl, _, rfl, a, _, rfl, .inr hS, .ref a, L, n, by rw [List.length_map, ln]; rfl, ⟨a, rfl, hS⟩, by omega, by omega, fun H1 sm => ⟨_, rfl, ifF (by rw [lay_yes hp]; rfl) (q H1 sm)⟩⟩
def spCkL (K : PySem.W.Frag) : Sp := fun vs H Q _ => ∃ (a : Addr) (L : List Int) (n : Nat), vs = [.ref a, .int n] ∧ SqT K H a (L.map V.int) ∧ L.Perm (rg n) ∧ n ≤ 40 ∧ ∀ H', Same H H' → Q .non H'
theorem ok_ckL (F : Df K mg "check_layout" st_check_layout ["layout", "places"]) (C5 : Cal P w K mg base 5 "is_layout" (spIsLayout K)) : Cal P w K mg base 6 "check_layout" (spCkL K) := by
  refine mkCal F sc_check_layout (fun vs H Q E h => ?_) (fun f cdv A outer s H vs Q E hr h => ?_)
  · obtain ⟨a, L, n, rfl, _⟩ := h
    rfl
  · obtain ⟨a, L, n, rfl, hS, hp, n40, q⟩ := h
    refine ⟨_, pss_one (ps_if (pt_not (pt_val (pc C5 hr (pa_cons (pv 0) (pa_cons (pv 1) pa_nil))))) (pss_one ps_no) pss_nil), ?_⟩
    exact ⟨_, rfl, _, rfl, .ref a, L, n, rfl, ⟨a, rfl, hS⟩, by rw [perm_len hp]; omega, by omega, fun H1 sm => ⟨_, rfl, ifF (by rw [lay_yes hp]; rfl) (q H1 sm)⟩⟩
/-- two layouts of as many books, told by their orders -/
structure TwoL (K : PySem.W.Frag) (H : Hp) (a b : Addr) (S B : List Int) (n : Nat) : Prop where
  fa : FT H a (invR S)
  fb : FT H b (invR B)
  ps : S.Perm (rg n)
  pb : B.Perm (rg n)
  n1 : 1 ≤ n
  n40 : n ≤ 40
theorem TwoL.same {H H' : Hp} {a b : Addr} {S B : List Int} {n : Nat} (e : Same H H') (h : TwoL K H a b S B n) : TwoL K H' a b S B n := ⟨h.fa.same e, h.fb.same e, h.ps, h.pb, h.n1, h.n40⟩
def spTwoLay (K : PySem.W.Frag) : Sp := fun vs H Q _ => ∃ (a b : Addr) (S B : List Int) (n : Nat), vs = [.ref a, .ref b] ∧ TwoL K H a b S B n ∧ ∀ H', Same H H' → Q .non H'
theorem ok_twoLay (F : Df K mg "check_two_layouts" st_check_two_layouts ["one", "other"]) (B : Bu mg) (c40 : ∃ t, mg "MOST_KNOWN_PLACES" = some (.int 40 t)) (CR : Cal P w K mg base 6 "check_row" (spCkR K)) (CL : Cal P w K mg base 6 "check_layout" (spCkL K)) : Cal P w K mg base 7 "check_two_layouts" (spTwoLay K) := by
  refine mkCal F sc_check_two_layouts (fun vs H Q E h => ?_) (fun f cdv A outer s H vs Q E hr h => ?_)
  · obtain ⟨a, b, S, B', n, rfl, _⟩ := h
    rfl
  · obtain ⟨a, b, S, B', n, rfl, t, q⟩ := h
    refine ⟨_, pss_cons (ps_expr (pc CR hr (pa_cons (pv 0) (pa_cons (pk c40) pa_nil)))) (pss_one (ps_expr (pc CL hr (pa_cons (pv 1) (pa_cons (pe_callB (cl_len K) (by rfl) B.len PySem.boot_len (pa_cons (pv 0) pa_nil)) pa_nil))))), ?_⟩
    exact ⟨_, rfl, a, invR S, n, rfl, t.fa.sq, invR_perm t.ps, t.n1, t.n40, fun H1 s1 => ⟨_, rfl, _, rfl, a, _, rfl, .inr (t.fa.same s1).sq, b, invR B', n, by rw [List.length_map, invL_len t.ps]; rfl, (t.fb.same s1).sq, invR_perm t.pb, t.n40, fun H2 s2 => q H2 (s1.trans s2)⟩⟩
theorem end_stop {S B : List Int} {k : Nat} (hk : k < B.length) (inc : Inc S (B.drop k)) (h : k = 0 ∨ ∃ x y, B[k - 1]? = some x ∧ B[k]? = some y ∧ 0 < k ∧ ¬ S.idxOf x < S.idxOf y) : EndAt S B k := by
  refine ⟨Nat.le_of_lt hk, inc, fun t it => ?_⟩
  rcases h with rfl | ⟨x, y, ex, ey, k0, no⟩
  · exact Nat.zero_le _
  · refine Nat.le_of_not_lt fun lt => no ?_
    have q := List.pairwise_iff_getElem.mp it (k - 1 - t) (k - t) (by rw [List.length_drop]; omega) (by rw [List.length_drop]; omega) (by omega)
    rw [List.getElem_drop, List.getElem_drop] at q
    obtain ⟨h1, rfl⟩ := List.getElem?_eq_some_iff.mp ex
    obtain ⟨h2, rfl⟩ := List.getElem?_eq_some_iff.mp ey
    have e1 : t + (k - 1 - t) = k - 1 := by omega
    have e2 : t + (k - t) = k := by omega
    simp only [e1, e2] at q
    exact q
theorem end_more {S B : List Int} {k : Nat} {x y : Int} (k0 : 0 < k) (ex : B[k - 1]? = some x) (ey : B[k]? = some y) (inc : Inc S (B.drop k)) (lt : S.idxOf x < S.idxOf y) : Inc S (B.drop (k - 1)) := by
  obtain ⟨h1, rfl⟩ := List.getElem?_eq_some_iff.mp ex
  obtain ⟨h2, rfl⟩ := List.getElem?_eq_some_iff.mp ey
  rw [List.drop_eq_getElem_cons h1, show k - 1 + 1 = k by omega]
  refine List.pairwise_cons.mpr ⟨fun z hz => ?_, inc⟩
  have e := List.drop_eq_getElem_cons h2
  have inc := inc
  unfold Inc at inc
  rw [e] at hz inc
  rcases List.mem_cons.mp hz with rfl | hz
  · exact lt
  · have := (List.pairwise_cons.mp inc).1 z hz
    omega
/-- the books of a layout that end in order -/
def spEnd (K : PySem.W.Frag) : Sp := fun vs H Q _ => ∃ (a b : Addr) (S B : List Int) (n : Nat), vs = [.ref a, .ref b] ∧ FT H a (invR S) ∧ FT H b B ∧ S.Perm (rg n) ∧ B.Perm (rg n) ∧ 1 ≤ n ∧ n ≤ 40 ∧ ∀ H' c k, Same H H' → EndAt S B k → k < n → SqT K H' c ((B.drop k).map V.int) → Q (.ref c) H'
theorem inc_last {S B : List Int} {i : Nat} (h : i + 1 = B.length) : Inc S (B.drop i) := by
  have l1 : (B.drop i).length = 1 := by rw [List.length_drop]; omega
  match B.drop i, l1 with
  | [x], _ => exact List.pairwise_singleton ..
theorem ok_end (F : Df K mg "end_in_order" st_end_in_order ["layout", "books"]) (B : Bu mg) : Cal P w K mg base 1 "end_in_order" (spEnd K) := by
  refine mkCal F sc_end_in_order (fun vs H Q E h => ?_) (fun f cdv A outer s H vs Q E hr h => ?_)
  · obtain ⟨a, b, S, B', n, rfl, _⟩ := h
    rfl
  · obtain ⟨a, b, S, Bk, n, rfl, hA, hB, hS, pB, n1, n40, q⟩ := h
    have lB := perm_len pB
    have lI := invL_len hS
    have nd := perm_nd pB
    refine ⟨_, pss_cons (ps_set (i := 2) sc_end_in_order.nd rfl (.inl rfl) (pe_op op_sub (pe_callB (cl_len K) (by rfl) B.len PySem.boot_len (pa_cons (pv 1) pa_nil)) pe_int))
      (pss_cons (ps_while PassesOwn.never (PW.pt (pw_and (pt_cmpR op_gt (pv 2) pe_int (nomark _)) (pw_and1 (pt_cmpR op_lt (pe_ix (ixT K) (pv 0) (pe_ix (ixT K) (pv 1) (pe_op op_sub (pv 2) pe_int) (fun _ _ => rfl)) (fun _ _ => rfl)) (pe_ix (ixT K) (pv 0) (pe_ix (ixT K) (pv 1) (pv 2) (fun _ _ => rfl)) (fun _ _ => rfl)) (nomark _)))))
        (pss_one (ps_aug (i := 2) sc_end_in_order.nd rfl (.inl rfl) pe_int ip_sub)))
      (pss_one (ps_ret (pe_slice sl_tupA (pv 1) (po_some (pv 2)) po_none)))), ?_⟩
    refine ⟨_, rfl, b, _, rfl, .inr hB.sq, _, 1, rfl, rfl, ?_⟩
    refine ⟨fun m σ H' => ∃ k : Nat, m = k ∧ σ = [some (.ref a), some (.ref b), some (.int (k : Int))] ∧ H' = H ∧ Inc S (Bk.drop k) ∧ k < n, ⟨n - 1, n - 1, rfl, ?_, rfl, inc_last (by omega), by omega⟩, ?_⟩
    · rw [List.length_map, lB, show ((n - 1 : Nat) : Int) = (n : Int) - 1 by omega]
      rfl
    rintro m σ H1 ⟨k, rfl, rfl, rfl, inc, hk⟩
    refine ⟨_, rfl, (m : Int), 0, rfl, rfl, _, rfl, ite2 (fun e => ?_) (fun e => ?_)⟩
    · have m0 : 0 < m := by
        have : (m : Int) > 0 := by simpa using e
        omega
      obtain ⟨x, hx⟩ : ∃ x, Bk[m - 1]? = some x := ⟨_, List.getElem?_eq_getElem (by omega)⟩
      obtain ⟨y, hy⟩ : ∃ y, Bk[m]? = some y := ⟨_, List.getElem?_eq_getElem (by omega)⟩
      have rx := rg_mem.mp (pB.mem_iff.mp (List.mem_of_getElem? hx))
      have ry := rg_mem.mp (pB.mem_iff.mp (List.mem_of_getElem? hy))
      have gx : (invR S)[x.toNat]? = some ((S.idxOf x : Nat) : Int) := by
        rw [inv_at hS (by omega), show ((x.toNat : Nat) : Int) = x by omega]
      have gy : (invR S)[y.toNat]? = some ((S.idxOf y : Nat) : Int) := by
        rw [inv_at hS (by omega), show ((y.toNat : Nat) : Int) = y by omega]
      refine ⟨_, rfl, _, rfl, _, rfl, (m : Int), 1, rfl, rfl, b, _, (m : Int) - 1, .int x, rfl, rfl, hB.sq, at_int (by omega) (at_map (by rw [show ((m : Int) - 1).toNat = m - 1 by omega]; exact hx)), a, _, x, _, rfl, rfl, hA.sq, at_int rx.1 (at_map gx), ?_⟩
      refine ⟨_, rfl, _, rfl, _, rfl, b, _, (m : Int), .int y, rfl, rfl, hB.sq, atI_nat (at_map hy), a, _, y, _, rfl, rfl, hA.sq, at_int ry.1 (at_map gy), _, _, rfl, rfl, _, rfl, ite2 (fun e2 => ?_) (fun e2 => ?_)⟩
      · have lt : S.idxOf x < S.idxOf y := by
          have : ((S.idxOf x : Nat) : Int) < ((S.idxOf y : Nat) : Int) := by simpa using e2
          omega
        refine ⟨fun σ' H' => ∃ m', m' < m ∧ ∃ k : Nat, m' = k ∧ σ' = [some (.ref a), some (.ref b), some (.int (k : Int))] ∧ H' = H1 ∧ Inc S (Bk.drop k) ∧ k < n, fun _ _ h => h, ?_⟩
        refine ⟨_, rfl, _, 1, rfl, rfl, m - 1, by omega, m - 1, rfl, ?_, rfl, end_more m0 hx hy inc lt, by omega⟩
        rw [show ((m - 1 : Nat) : Int) = (m : Int) - 1 by omega]
        rfl
      · have no : ¬ S.idxOf x < S.idxOf y := fun z => e2 (decide_eq_true (by omega))
        have E := end_stop (by omega) inc (.inr ⟨x, y, hx, hy, m0, no⟩)
        refine ⟨_, rfl, _, rfl, _, rfl, ?_⟩
        unfold tNoPart
        dsimp only
        exact slT_from (m : Int) m rfl hB.sq fun c H2 s2 hc => q H2 c m s2 E hk (by rw [List.map_drop]; exact hc)
    · have m0 : m = 0 := by
        have : ¬ (m : Int) > 0 := by simpa using e
        omega
      have E := end_stop (by omega) inc (.inl m0)
      refine ifF rfl ?_
      refine ⟨_, rfl, _, rfl, _, rfl, ?_⟩
      unfold tNoPart
      dsimp only
      exact slT_from (m : Int) m rfl hB.sq fun c H2 s2 hc => q H2 c m s2 E hk (by rw [List.map_drop]; exact hc)
end
end RH
set_option Elab.async false
set_option linter.all false
set_option maxRecDepth 100000
set_option maxHeartbeats 2000000
namespace RH
open PySem PySem.Spec PyProof.Rows L2
/-! ### kinds: distances and words -/
theorem posW_snoc : ∀ (ns S : List Int) (x : Int), posW S (ns ++ [x]) = posW S ns ++ [(((ns.foldl mtf S).idxOf x : Nat) : Int)]
  | [], _, _ => rfl
  | y :: ns, S, x => congrArg (List.cons _) (posW_snoc ns (mtf S y) x)
theorem fold_more {f : List Int → Int → List Int} {L ns : List Int} {i : Nat} {x : Int} (h : ns[i]? = some x) : (ns.take (i + 1)).foldl f L = f ((ns.take i).foldl f L) x := by
  rw [List.take_add_one, h, List.foldl_append]
  rfl
theorem posW_more {S ns : List Int} {i : Nat} {x : Int} (h : ns[i]? = some x) : posW S (ns.take (i + 1)) = posW S (ns.take i) ++ [((((ns.take i).foldl mtf S).idxOf x : Nat) : Int)] := by
  rw [List.take_add_one, h]
  exact posW_snoc _ _ _
/-- t[:k] read -/
theorem to_read {K : PySem.W.Frag} {i j : Nat} {σ : L2.St} {H : Hp} {a : Addr} {xs : List V} {Q : VK} {z : Int} {k : Nat} (h1 : σ[i]? = some (some (.ref a))) (h2 : σ[j]? = some (some (.int z))) (hz : z = (k : Int)) (h : SqT K H a xs) (q : ∀ b H2, Same H H2 → SqT K H2 b (xs.take k) → Q (.ref b) H2) :
    L2.tSl (rSlA K) (tVar i) tNoPart (tPart (tVar j)) σ H Q := by
  refine ⟨_, h1, ?_⟩
  unfold tNoPart
  dsimp only
  exact ⟨_, h2, _, rfl, slT_to z k hz h q⟩
section
variable {P : Program} {w : World} {K : PySem.W.Frag} {mg : Str → Option Value} {base : Heap}
def spKept (K : PySem.W.Frag) : Sp := fun vs H Q _ => ∃ (a b : Addr) (S B : List Int) (n : Nat), vs = [.ref a, .ref b] ∧ TwoL K H a b S B n ∧ ∀ H' c k, Same H H' → EndAt S B k → k < n → SqT K H' c ((B.drop k).map V.int) → Q (.ref c) H'
theorem ok_kept (F : Df K mg "kept_end" st_kept_end ["one", "other"]) (C2 : Cal P w K mg base 7 "check_two_layouts" (spTwoLay K)) (CI : Cal P w K mg base 1 "inverse" (spInv K)) (CE : Cal P w K mg base 1 "end_in_order" (spEnd K)) : Cal P w K mg base 8 "kept_end" (spKept K) := by
  refine mkCal F sc_kept_end (fun vs H Q E h => ?_) (fun f cdv A outer s H vs Q E hr h => ?_)
  · obtain ⟨a, b, S, B', n, rfl, _⟩ := h
    rfl
  · obtain ⟨a, b, S, Bk, n, rfl, t, q⟩ := h
    refine ⟨_, pss_cons (ps_expr (pc C2 hr (pa_cons (pv 0) (pa_cons (pv 1) pa_nil)))) (pss_one (ps_ret (pc CE hr (pa_cons (pv 0) (pa_cons (pc CI hr (pa_cons (pv 1) pa_nil)) pa_nil))))), ?_⟩
    refine ⟨_, rfl, _, rfl, a, b, S, Bk, n, rfl, t, fun H1 s1 => ?_⟩
    have t1 := t.same s1
    refine ⟨_, rfl, _, rfl, _, invR Bk, n, rfl, ⟨b, rfl, t1.fb⟩, invR_perm t.pb, t.n40, fun H2 u s2 hu => ?_⟩
    obtain ⟨c, rfl, hc⟩ := hu
    rw [invInv t.pb] at hc
    exact ⟨a, c, S, Bk, n, rfl, t1.fa.same s2, hc, t.ps, t.pb, t.n1, t.n40, fun H3 d k s3 E hk hd => q H3 d k (s1.trans (s2.trans s3)) E hk hd⟩
def spFDist (K : PySem.W.Frag) : Sp := fun vs H Q _ => ∃ (a b : Addr) (S B : List Int) (n : Nat), vs = [.ref a, .ref b] ∧ TwoL K H a b S B n ∧ ∀ H' k, Same H H' → EndAt S B k → k < n → Q (.int (k : Nat)) H'
theorem ok_fdist (F : Df K mg "front_distance" st_front_distance ["one", "other"]) (B : Bu mg) (CK : Cal P w K mg base 8 "kept_end" (spKept K)) : Cal P w K mg base 9 "front_distance" (spFDist K) := by
  refine mkCal F sc_front_distance (fun vs H Q E h => ?_) (fun f cdv A outer s H vs Q E hr h => ?_)
  · obtain ⟨a, b, S, B', n, rfl, _⟩ := h
    rfl
  · obtain ⟨a, b, S, Bk, n, rfl, t, q⟩ := h
    refine ⟨_, pss_cons (ps_set (i := 2) sc_front_distance.nd rfl (.inl rfl) (pc CK hr (pa_cons (pv 0) (pa_cons (pv 1) pa_nil))))
      (pss_one (ps_ret (pe_op op_sub (pe_callB (cl_len K) (by rfl) B.len PySem.boot_len (pa_cons (pv 0) pa_nil)) (pe_callB (cl_len K) (by rfl) B.len PySem.boot_len (pa_cons (pv 2) pa_nil))))), ?_⟩
    refine ⟨_, rfl, _, rfl, a, b, S, Bk, n, rfl, t, fun H1 c k s1 E hk hc => ?_⟩
    refine ⟨_, rfl, a, _, rfl, .inr (t.fa.same s1).sq, _, rfl, c, _, rfl, .inr hc, _, _, rfl, rfl, ?_⟩
    have e : (((invR S).map V.int).length : Int) - (((Bk.drop k).map V.int).length : Int) = ((k : Nat) : Int) := by
      rw [List.length_map, List.length_map, invL_len t.ps, List.length_drop, perm_len t.pb]
      omega
    show Q (.int ((((invR S).map V.int).length : Int) - (((Bk.drop k).map V.int).length : Int))) H1
    rw [e]
    exact q H1 k s1 E hk
def spFWord (K : PySem.W.Frag) : Sp := fun vs H Q _ => ∃ (a b : Addr) (S B : List Int) (n : Nat), vs = [.ref a, .ref b] ∧ TwoL K H a b S B n ∧ ∀ H' c k, Same H H' → EndAt S B k → k < n → FT H' c (posW S (B.take k).reverse) → Q (.ref c) H'
theorem ok_fword (F : Df K mg "front_word" st_front_word ["one", "other"]) (B : Bu mg) (C2 : Cal P w K mg base 7 "check_two_layouts" (spTwoLay K)) (CI : Cal P w K mg base 1 "inverse" (spInv K)) (CE : Cal P w K mg base 1 "end_in_order" (spEnd K)) : Cal P w K mg base 8 "front_word" (spFWord K) := by
  refine mkCal F sc_front_word (fun vs H Q E h => ?_) (fun f cdv A outer s H vs Q E hr h => ?_)
  · obtain ⟨a, b, S, B', n, rfl, _⟩ := h
    rfl
  · obtain ⟨a, b, S, Bk, n, rfl, t, q⟩ := h
    have n40 := t.n40
    have lB := perm_len t.pb
    refine ⟨_, pss_cons (ps_expr (pc C2 hr (pa_cons (pv 0) (pa_cons (pv 1) pa_nil)))) (pss_cons (ps_set (i := 2) sc_front_word.nd rfl (.inl rfl) (pc CI hr (pa_cons (pv 1) pa_nil)))
      (pss_cons (ps_set (i := 3) sc_front_word.nd rfl (.inl rfl) (pe_op op_sub (pe_callB (cl_len K) (by rfl) B.len PySem.boot_len (pa_cons (pv 2) pa_nil)) (pe_callB (cl_len K) (by rfl) B.len PySem.boot_len (pa_cons (pc CE hr (pa_cons (pv 0) (pa_cons (pv 2) pa_nil))) pa_nil))))
      (pss_cons (ps_set (i := 4) sc_front_word.nd rfl (.inl rfl) (pe_callTy (cl_listOf K) (by rfl) B.list (by decide +kernel) (pa_cons (pc CI hr (pa_cons (pv 0) pa_nil)) pa_nil)))
      (pss_cons (ps_set (i := 5) sc_front_word.nd rfl (.inl rfl) (pe_lst pa_nil))
      (pss_cons (ps_for PassesOwn.never rfl (pi_tup (pe_back K (pe_slice sl_tupA (pv 2) po_none (po_some (pv 3))))) (pg_name (i := 6) sc_front_word.nd rfl (.inl rfl))
        (pss_cons (ps_set (i := 7) sc_front_word.nd rfl (.inl rfl) (pe_bm PySem.F.plainAttrs_list PySem.F.slot_list_index PySem.F.type_list_index mt_index (pv 4) (pa_cons (pv 6) pa_nil)))
        (pss_cons (ps_expr (pe_bm PySem.F.plainAttrs_list PySem.F.slot_list_append PySem.F.type_list_append mt_append (pv 5) (pa_cons (pv 7) pa_nil)))
        (pss_one (ps_expr (pe_bm PySem.F.plainAttrs_list PySem.F.slot_list_insert PySem.F.type_list_insert mt_insert (pv 4) (pa_cons pe_int (pa_cons (pe_bm PySem.F.plainAttrs_list PySem.F.slot_list_pop PySem.F.type_list_pop mt_popAt (pv 4) (pa_cons (pv 7) pa_nil)) pa_nil))))))))
      (pss_one (ps_ret (pe_tupleF (by rfl) B.tuple (pv 5))))))))), ?_⟩
    refine ⟨_, rfl, _, rfl, a, b, S, Bk, n, rfl, t, fun H1 s1 => ?_⟩
    have t1 := t.same s1
    refine ⟨_, rfl, _, invR Bk, n, rfl, ⟨b, rfl, t1.fb⟩, invR_perm t.pb, n40, fun H2 u s2 hu => ?_⟩
    obtain ⟨bk, rfl, hbk⟩ := hu
    rw [invInv t.pb] at hbk
    have t2 := t1.same s2
    refine ⟨_, rfl, bk, _, rfl, .inr hbk.sq, _, rfl, _, rfl, a, bk, S, Bk, n, rfl, t2.fa, hbk, t.ps, t.pb, t.n1, n40, fun H3 d k s3 E hk hd => ?_⟩
    have t3 := t2.same s3
    have hb3 := hbk.same s3
    refine ⟨d, _, rfl, .inr hd, _, _, rfl, rfl, ?_⟩
    have ek : (((Bk.map V.int).length : Int) - (((Bk.drop k).map V.int).length : Int)) = (k : Int) := by
      rw [List.length_map, List.length_map, List.length_drop, lB]
      omega
    refine ⟨_, rfl, _, invR S, n, rfl, ⟨a, rfl, t3.fa⟩, invR_perm t.ps, n40, fun H4 u s4 hu => ?_⟩
    obtain ⟨sb, rfl, hsb⟩ := hu
    rw [invInv t.ps] at hsb
    refine ⟨sb, _, rfl, .inr hsb.sq, fun l hl => ?_⟩
    have s5 : Same H4 (upd H4 l (.lst (S.map V.int))) := same_new hl
    refine ⟨Nat.zero_le _, fun g hg => ?_⟩
    have hlg : l ≠ g := ne_of_none upd_same hg
    have s6 : Same (upd H4 l (.lst (S.map V.int))) (upd (upd H4 l (.lst (S.map V.int))) g (.lst [])) := same_new hg
    have hgH : H4 g = none := by
      rw [upd_ne (Ne.symm hlg)] at hg
      exact hg
    have hb6 := (hb3.same s4).same (s5.trans s6)
    refine to_read (z := ((Bk.map V.int).length : Int) - (((Bk.drop k).map V.int).length : Int)) rfl rfl ek hb6.sq fun c H7 s7 hc => ?_
    rw [← List.map_take] at hc
    refine ⟨c, _, rfl, hc, fun r hrn => ?_⟩
    have s8 := same_new (o := .tup ((Bk.take k).map V.int).reverse) hrn
    rw [← List.map_reverse] at s8 ⊢
    have e3 : (V.int (((Bk.map V.int).length : Int) - (((Bk.drop k).map V.int).length : Int))) = V.int (k : Int) := by rw [ek]
    have e0 : ∀ z o, z ≠ l → z ≠ g → H4 z = some o → (upd (upd H4 l (.lst (S.map V.int))) g (.lst [])) z = some o := fun z o n1 n2 e => by rw [upd_ne n2, upd_ne n1]; exact e
    have hin : ∀ x ∈ (Bk.take k).reverse, x ∈ rg n := fun x hx => t.pb.mem_iff.mp (List.mem_of_mem_take (List.mem_reverse.mp hx))
    have hfew : (Bk.take k).reverse.length ≤ 40 := by
      rw [List.length_reverse, List.length_take]
      omega
    have fin : ∀ H' c, Same H H' → FT H' c (posW S (Bk.take k).reverse) → Q (.ref c) H' := fun H' c s hc => q H' c k s E hk hc
    generalize (Bk.take k).reverse = ns at s8 hin hfew fin ⊢
    refine ⟨r, rfl, ⟨_, tupAt upd_same⟩, ?_⟩
    have s68 := s7.trans s8
    refine for_tup (xs := ns.map V.int) (fun i σ H' => (∀ z o, z ≠ l → z ≠ g → (upd H7 r (.tup (ns.map V.int))) z = some o → H' z = some o) ∧ ∃ y6 y7, σ = [some (.ref a), some (.ref b), some (.ref bk), some (.int (((Bk.map V.int).length : Int) - (((Bk.drop k).map V.int).length : Int))), some (.ref l), some (.ref g), y6, y7] ∧ H' l = some (.lst (((ns.take i).foldl mtf S).map V.int)) ∧ H' g = some (.lst ((posW S (ns.take i)).map V.int)))
      ⟨fun z o _ _ e => e, none, none, rfl, s68 _ _ (s6 _ _ upd_same), s68 _ _ upd_same⟩ (fun i σ H' _ h' => ?_) (fun i x σ H' hx h' => ?_) (fun σ H' h' => ?_)
    · have rl : r ≠ l := fun z => by
        rw [z, s7 _ _ (s6 _ _ upd_same)] at hrn
        cases hrn
      have rg' : r ≠ g := fun z => by
        rw [z, s7 _ _ upd_same] at hrn
        cases hrn
      exact tupAt (h'.1 r _ rl rg' upd_same)
    · obtain ⟨z, hz, rfl⟩ := map_at hx
      obtain ⟨keep, y6, y7, rfl, eL, eG⟩ := h'
      have hz2 := hin z (List.mem_of_getElem? hz)
      have pm := fold_perm (n := n) (ns := ns.take i) t.ps fun y hy => hin y (List.mem_of_mem_take hy)
      have lM := perm_len pm
      have hzM := pm.mem_iff.mpr hz2
      have lt := idx_lt pm hz2
      have gz := idx_get hzM
      refine ⟨_, rfl, .inl ⟨rfl, _, lstAt eL⟩, _, rfl, l, _, _, ((ns.take i).foldl mtf S).idxOf z, .int z, rfl, rfl, lstAt eL, rfl, flat_ints _, at_map gz, eqV_same z, eqV_first, ?_⟩
      refine ⟨_, rfl, .inl ⟨rfl, _, lstAt eG⟩, _, rfl, g, _, _, rfl, rfl, eG, ?_, ?_⟩
      · rw [List.length_map, posW_len, List.length_take]
        exact small1000 (by omega)
      have eL2 : (upd H' g (.lst ((posW S (ns.take i)).map V.int ++ [V.int ((((ns.take i).foldl mtf S).idxOf z : Nat) : Int)]))) l = some (.lst (((ns.take i).foldl mtf S).map V.int)) := by
        rw [upd_ne hlg]
        exact eL
      refine ⟨_, rfl, .inl ⟨rfl, _, lstAt eL2⟩, _, rfl, .inl ⟨rfl, _, lstAt eL2⟩, _, rfl, l, _, _, ((ns.take i).foldl mtf S).idxOf z, .int z, rfl, rfl, eL2, by omega, by omega, ?_, at_map gz, l, _, 0, .int z, rfl, rfl, upd_same, ?_, by decide, by decide, ?_⟩
      · rw [List.length_map, lM]
        exact ix_nat (by omega) (by omega)
      · rw [List.length_eraseIdx_of_lt (by rw [List.length_map]; omega), List.length_map]
        exact small1000 (by omega)
      · refine ⟨fun c' o hc1 hc2 e => ?_, some (.int z), some (.int ((((ns.take i).foldl mtf S).idxOf z : Nat) : Int)), rfl, ?_, ?_⟩
        · rw [upd_ne hc1, upd_ne hc1, upd_ne hc2]
          exact keep c' o hc1 hc2 e
        · rw [upd_same, fold_more hz, map_erase]
          unfold mtf
          rw [List.erase_eq_eraseIdx_of_idxOf rfl]
          rfl
        · rw [upd_ne (Ne.symm hlg), upd_ne (Ne.symm hlg), upd_same, posW_more hz, List.map_append]
          rfl
    · obtain ⟨keep, y6, y7, rfl, eL, eG⟩ := h'
      rw [List.length_map, List.take_length] at eG
      refine ⟨_, rfl, g, _, rfl, lstAt eG, fun v ob hv hob => ?_⟩
      refine fin _ v (fun z o e => ?_) ⟨ob, upd_same, hob⟩
      have z4 := (s1.trans (s2.trans (s3.trans s4))) z o e
      have nl : z ≠ l := ne_of_none z4 hl
      have ng : z ≠ g := ne_of_none z4 hgH
      have e7 := keep z o nl ng (s68 _ _ (e0 z o nl ng z4))
      rw [upd_ne (ne_of_none e7 hv)]
      exact e7
end
end RH
set_option Elab.async false
set_option linter.all false
set_option maxRecDepth 100000
set_option maxHeartbeats 2000000
namespace RH
open PySem PySem.Spec PyProof.Rows L2
section
variable {P : Program} {w : World} {K : PySem.W.Frag} {mg : Str → Option Value} {base : Heap}
/-- two rows of places -/
def spPairs (K : PySem.W.Frag) : Sp := fun vs H Q _ => ∃ (a b : Addr) (L O : List Int) (n : Nat), vs = [.ref a, .ref b] ∧ SqT K H a ((invR L).map V.int) ∧ SqT K H b ((invR O).map V.int) ∧ L.Perm (rg n) ∧ O.Perm (rg n) ∧ n ≤ 40 ∧ Q (.int (prs (bef O) L : Nat)) H
theorem ok_pairs (F : Df K mg "pairs_crossed" st_pairs_crossed ["one", "other"]) (B : Bu mg) : Cal P w K mg base 1 "pairs_crossed" (spPairs K) := by
  refine mkCal F sc_pairs_crossed (fun vs H Q E h => ?_) (fun f cdv A outer s H vs Q E hr h => ?_)
  · obtain ⟨a, b, L, O, n, rfl, _⟩ := h
    rfl
  · obtain ⟨a, b, L, O, n, rfl, hA, hB, hL, hO, n40, q⟩ := h
    refine ⟨_, pss_cons (ps_set (i := 2) sc_pairs_crossed.nd rfl (.inl rfl) pe_int)
      (pss_cons (ps_for PassesOwn.never rfl (pi_range1 (by rfl) B.range (pa_cons (pe_callB (cl_len K) (by rfl) B.len PySem.boot_len (pa_cons (pv 0) pa_nil)) pa_nil)) (pg_name (i := 3) sc_pairs_crossed.nd rfl (.inl rfl))
        (pss_one (ps_for PassesOwn.never rfl (pi_range1 (by rfl) B.range (pa_cons (pv 3) pa_nil)) (pg_name (i := 4) sc_pairs_crossed.nd rfl (.inl rfl))
          (pss_one (ps_if (pt_cmpR op_ne (pe_cmpR op_lt (pe_ix (ixT K) (pv 0) (pv 4) (fun _ _ => rfl)) (pe_ix (ixT K) (pv 0) (pv 3) (fun _ _ => rfl)) (nomark _)) (pe_cmpR op_lt (pe_ix (ixT K) (pv 1) (pv 4) (fun _ _ => rfl)) (pe_ix (ixT K) (pv 1) (pv 3) (fun _ _ => rfl)) (nomark _)) (nomark _))
            (pss_one (ps_aug (i := 2) sc_pairs_crossed.nd rfl (.inl rfl) pe_int ip_add)) pss_nil)))))
      (pss_one (ps_ret (pv 2)))), ?_⟩
    have lA : ((invR L).map V.int).length = n := by rw [List.length_map, invL_len hL]
    refine ⟨_, rfl, a, _, rfl, .inr hA, ((invR L).map V.int).length, rfl, by rw [lA]; omega, by rw [lA]; omega, ?_⟩
    rw [Int.toNat_natCast, lA]
    refine for_range (lo := 0) (n := n) (fun i σ H' => H' = H ∧ ∃ y3 y4, σ = [some (.ref a), some (.ref b), some (.int (prs (fun h l => gX L O l h) (rg i).reverse : Nat)), y3, y4]) ⟨rfl, none, none, rfl⟩ (fun i σ H' hi h' => ?_) (fun σ H' h' => ?_)
    · obtain ⟨rfl, y3, y4, rfl⟩ := h'
      rw [Int.zero_add]
      refine ⟨_, rfl, (i : Int), rfl, by omega, by omega, ?_⟩
      rw [Int.toNat_natCast]
      refine for_range (lo := 0) (n := i) (fun j σ H2 => H2 = H' ∧ ∃ y4, σ = [some (.ref a), some (.ref b), some (.int ((prs (fun h l => gX L O l h) (rg i).reverse + (rg j).countP (fun l => gX L O l (i : Int)) : Nat) : Int)), some (.int (i : Int)), y4]) ⟨rfl, y4, rfl⟩ (fun j σ H2 hj h2 => ?_) (fun σ H2 h2 => ?_)
      · obtain ⟨rfl, y4, rfl⟩ := h2
        rw [Int.zero_add]
        have g1 := at_map (inv_at hL (i := j) (by omega))
        have g2 := at_map (inv_at hL hi)
        have g3 := at_map (inv_at hO (i := j) (by omega))
        have g4 := at_map (inv_at hO hi)
        refine ⟨_, rfl, _, rfl, a, _, (j : Int), _, rfl, rfl, hA, atI_nat g1, _, rfl, _, rfl, a, _, (i : Int), _, rfl, rfl, hA, atI_nat g2, _, _, rfl, rfl, ?_⟩
        refine ⟨_, rfl, _, rfl, b, _, (j : Int), _, rfl, rfl, hB, atI_nat g3, _, rfl, _, rfl, b, _, (i : Int), _, rfl, rfl, hB, atI_nat g4, _, _, rfl, rfl, rfl, _, rfl, ?_⟩
        have e : (rg (j + 1)).countP (fun l => gX L O l (i : Int)) = (rg j).countP (fun l => gX L O l (i : Int)) + if gX L O (j : Int) (i : Int) = true then 1 else 0 := by
          rw [rg_succ, List.countP_append, List.countP_cons, List.countP_nil, Nat.zero_add]
        refine ite2 (fun t => ?_) (fun t => ?_)
        · have t' : gX L O (j : Int) (i : Int) = true := by
            unfold gX
            simpa using t
          rw [if_pos t'] at e
          refine ⟨_, rfl, _, 1, rfl, rfl, rfl, some (.int (j : Int)), ?_⟩
          rw [e]
          exact rfl
        · have t' : ¬ gX L O (j : Int) (i : Int) = true := by
            unfold gX
            simpa using t
          rw [if_neg t'] at e
          refine ⟨rfl, some (.int (j : Int)), ?_⟩
          rw [e]
          exact rfl
      · obtain ⟨rfl, y4, rfl⟩ := h2
        refine ⟨rfl, some (.int (i : Int)), y4, ?_⟩
        rw [prs_rg, Nat.add_comm]
    · obtain ⟨rfl, y3, y4, rfl⟩ := h'
      rw [← cross_eq hL hO] at q
      exact ⟨_, rfl, q⟩
end
end RH
set_option Elab.async false
set_option linter.all false
set_option maxRecDepth 100000
set_option maxHeartbeats 2000000
namespace RH
open PySem PySem.Spec PyProof.Rows L2
/-! ### kinds: the neighbour shelf's word, the turning shelf's -/
theorem dwn_get (lo k : Nat) : (List.range k).map (fun t : Nat => V.int (((lo + k : Nat) : Int) - (t : Int))) = (dwn lo k).map V.int := by
  unfold dwn
  rw [List.map_map]
  refine List.map_congr_left fun t ht => ?_
  have := List.mem_range.mp ht
  show V.int _ = V.int ((lo + (k - t) : Nat) : Int)
  congr 1
  omega
theorem mid_idx {A M C : List Int} {z : Int} (hA : z ∉ A) (hM : z ∉ M) : (A ++ (M ++ z :: C)).idxOf z = A.length + M.length := by
  rw [List.idxOf_append, if_neg hA, List.idxOf_append, if_neg hM, List.idxOf_cons_self]
  omega
theorem mid_erase (A M C : List Int) (z : Int) : (A ++ (M ++ z :: C)).eraseIdx (A.length + M.length) = A ++ (M ++ C) := by
  rw [List.eraseIdx_append_of_length_le (by omega), Nat.add_sub_cancel_left, List.eraseIdx_append_of_length_le (Nat.le_refl _), Nat.sub_self]
  rfl
theorem mvs_app2 (h : List (List Int)) (L ws us : List Int) : mvs h L (ws ++ us) = mvs h (mvs h L ws) us := List.foldl_append ..
/-- how far the word on the neighbour shelf has come -/
structure NbW (n : Nat) (S B : List Int) (i : Nat) (T W : List Int) : Prop where
  shape : ∃ R, T = B.take i ++ R
  perm : T.Perm (rg n)
  len : W.length + prs (bef B) T = prs (bef B) S
  in_ : ∀ p ∈ W, p ∈ rg n
  goes : n ≤ 5 → mvs (neighH n) (invR S) W = invR T
theorem NbW.next {n : Nat} {S B : List Int} {i : Nat} {T W : List Int} {z : Int} (h : NbW n S B i T W) (pB : B.Perm (rg n)) (hz : B[i]? = some z) :
    ∃ M C, T = B.take i ++ (M ++ z :: C) ∧ T.idxOf z = i + M.length ∧ i + M.length < n ∧ NbW n S B (i + 1) (B.take i ++ z :: (M ++ C)) (W ++ dwn i M.length) := by
  obtain ⟨⟨R, rfl⟩, hp, hl, hin, hg⟩ := h
  have ndB := perm_nd pB
  have lB := perm_len pB
  have hi := (List.getElem?_eq_some_iff.mp hz).1
  have li : (B.take i).length = i := by rw [List.length_take]; omega
  have iz : B.idxOf z = i := idx_at ndB hz
  have nz : z ∉ B.take i := fun m => by
    obtain ⟨j, hj⟩ := List.mem_iff_getElem?.mp m
    have hj2 : j < (B.take i).length := (List.getElem?_eq_some_iff.mp hj).1
    rw [List.getElem?_take, if_pos (by omega)] at hj
    have := idx_at ndB hj
    omega
  have zT : z ∈ B.take i ++ R := hp.mem_iff.mpr (pB.mem_iff.mp (List.mem_of_getElem? hz))
  have zR : z ∈ R := (List.mem_append.mp zT).resolve_left nz
  obtain ⟨M, C, rfl⟩ := List.append_of_mem zR
  have ndT := perm_nd hp
  have hM : z ∉ M := fun m => by
    have := (List.nodup_append.mp ndT).2.1
    exact (List.nodup_append.mp this).2.2 z m z (List.mem_cons_self ..) rfl
  have lT := perm_len hp
  rw [List.length_append, List.length_append, List.length_cons, li] at lT
  have aft : ∀ y ∈ M, B.idxOf z < B.idxOf y := fun y hy => by
    have yT : y ∈ B.take i ++ (M ++ z :: C) := List.mem_append_right _ (List.mem_append_left _ hy)
    have yB : y ∈ B := pB.mem_iff.mpr (hp.mem_iff.mp yT)
    have ne : B.idxOf y ≠ i := fun e => by
      have := idx_get yB
      rw [e, hz] at this
      exact hM (by rw [Option.some.inj this]; exact hy)
    have no : ¬ B.idxOf y < i := fun lt => by
      have g := idx_get yB
      have : y ∈ B.take i := List.mem_of_getElem? (i := B.idxOf y) (by rw [List.getElem?_take, if_pos lt]; exact g)
      exact (List.nodup_append.mp ndT).2.2 y this y (List.mem_append_left _ hy) rfl
    omega
  have p2 : (B.take i ++ z :: (M ++ C)).Perm (rg n) := (List.Perm.append_left _ List.perm_middle.symm).trans hp
  refine ⟨M, C, rfl, by rw [mid_idx nz hM, li], by omega, ⟨M ++ C, ?_⟩, p2, ?_, fun p hp => ?_, fun n5 => ?_⟩
  · rw [List.take_add_one, hz]
    simp
  · have := prs_ins (A := B.take i) (C := C) aft
    rw [List.length_append, dwn_len]
    omega
  · rcases List.mem_append.mp hp with hp | hp
    · exact hin p hp
    · exact dwn_in (by omega) p hp
  · have := neigh_ins n5 (A := B.take i) (x := z) M C hp
    rw [li] at this
    rw [mvs_app2, hg n5, this]
theorem prs_few (g : Int → Int → Bool) : ∀ l : List Int, prs g l ≤ l.length * l.length
  | [] => Nat.le_refl _
  | x :: l => by
    have ih := prs_few g l
    have c := List.countP_le_length (p := g x) (l := l)
    show l.countP (g x) + prs g l ≤ (l.length + 1) * (l.length + 1)
    rw [Nat.add_mul, Nat.mul_add, Nat.mul_one, Nat.one_mul]
    omega
section
variable {P : Program} {w : World} {K : PySem.W.Frag} {mg : Str → Option Value} {base : Heap}
def spNWord (K : PySem.W.Frag) : Sp := fun vs H Q _ => ∃ (a b : Addr) (S B : List Int) (n : Nat), vs = [.ref a, .ref b] ∧ TwoL K H a b S B n ∧ ∀ H' c W, Same H H' → W.length = prs (bef B) S → (∀ p ∈ W, p ∈ rg n) → (n ≤ 5 → mvs (neighH n) (invR S) W = invR B) → FT H' c W → Q (.ref c) H'
theorem ok_nword (F : Df K mg "neighbour_word" st_neighbour_word ["one", "other"]) (B : Bu mg) (C2 : Cal P w K mg base 7 "check_two_layouts" (spTwoLay K)) (CI : Cal P w K mg base 1 "inverse" (spInv K)) : Cal P w K mg base 8 "neighbour_word" (spNWord K) := by
  refine mkCal F sc_neighbour_word (fun vs H Q E h => ?_) (fun f cdv A outer s H vs Q E hr h => ?_)
  · obtain ⟨a, b, S, B', n, rfl, _⟩ := h
    rfl
  · obtain ⟨a, b, S, Bk, n, rfl, t, q⟩ := h
    have n40 := t.n40
    have lB := perm_len t.pb
    refine ⟨_, pss_cons (ps_expr (pc C2 hr (pa_cons (pv 0) (pa_cons (pv 1) pa_nil)))) (pss_cons (ps_set (i := 2) sc_neighbour_word.nd rfl (.inl rfl) (pe_callTy (cl_listOf K) (by rfl) B.list (by decide +kernel) (pa_cons (pc CI hr (pa_cons (pv 0) pa_nil)) pa_nil)))
      (pss_cons (ps_set (i := 3) sc_neighbour_word.nd rfl (.inl rfl) (pe_lst pa_nil))
      (pss_cons (ps_for PassesOwn.never rfl (pi_enumT (by rfl) B.enumerate (pa_cons (pc CI hr (pa_cons (pv 1) pa_nil)) pa_nil)) (pg_tup rfl (pgs_cons (pg_name (i := 4) sc_neighbour_word.nd rfl (.inl rfl)) (pgs_cons (pg_name (i := 5) sc_neighbour_word.nd rfl (.inl rfl)) pgs_nil)))
        (pss_cons (ps_set (i := 6) sc_neighbour_word.nd rfl (.inl rfl) (pe_bm PySem.F.plainAttrs_list PySem.F.slot_list_index PySem.F.type_list_index mt_index (pv 2) (pa_cons (pv 5) pa_nil)))
        (pss_cons (ps_expr (pe_bm PySem.F.plainAttrs_list PySem.F.slot_list_extend PySem.F.type_list_extend mt_extend (pv 3) (pa_cons (pe_listDn rfl (by rfl) B.list (by rfl) B.range (pa_cons (pv 6) (pa_cons (pv 4) (pa_cons (pe_un un_neg pe_int) pa_nil)))) pa_nil)))
        (pss_one (ps_expr (pe_bm PySem.F.plainAttrs_list PySem.F.slot_list_insert PySem.F.type_list_insert mt_insert (pv 2) (pa_cons (pv 4) (pa_cons (pe_bm PySem.F.plainAttrs_list PySem.F.slot_list_pop PySem.F.type_list_pop mt_popAt (pv 2) (pa_cons (pv 6) pa_nil)) pa_nil))))))))
      (pss_one (ps_ret (pe_tupleF (by rfl) B.tuple (pv 3))))))), ?_⟩
    refine ⟨_, rfl, _, rfl, a, b, S, Bk, n, rfl, t, fun H1 s1 => ?_⟩
    have t1 := t.same s1
    refine ⟨_, rfl, _, invR S, n, rfl, ⟨a, rfl, t1.fa⟩, invR_perm t.ps, n40, fun H2 u s2 hu => ?_⟩
    obtain ⟨sb, rfl, hsb⟩ := hu
    rw [invInv t.ps] at hsb
    refine ⟨sb, _, rfl, .inr hsb.sq, fun l hl => ?_⟩
    have s3 : Same H2 (upd H2 l (.lst (S.map V.int))) := same_new hl
    refine ⟨Nat.zero_le _, fun g hg => ?_⟩
    have hlg : l ≠ g := ne_of_none upd_same hg
    have s4 : Same (upd H2 l (.lst (S.map V.int))) (upd (upd H2 l (.lst (S.map V.int))) g (.lst [])) := same_new hg
    have hgH : H2 g = none := by
      rw [upd_ne (Ne.symm hlg)] at hg
      exact hg
    have t4 := (t1.same s2).same (s3.trans s4)
    refine ⟨_, rfl, _, invR Bk, n, rfl, ⟨b, rfl, t4.fb⟩, invR_perm t.pb, n40, fun H5 u s5 hu => ?_⟩
    obtain ⟨bk, rfl, hbk⟩ := hu
    rw [invInv t.pb] at hbk
    have eL0 := s5 _ _ (s4 _ _ upd_same)
    have eG0 := s5 _ _ (upd_same (H := upd H2 l (.lst (S.map V.int))) (a := g) (o := .lst []))
    have few0 : prs (bef Bk) S ≤ 1600 := Nat.le_trans (prs_few _ _) (by rw [perm_len t.ps]; exact Nat.mul_le_mul n40 n40)
    obtain ⟨obk, hk1, hk2⟩ := hbk
    have bkl : bk ≠ l := fun z => by rw [z, eL0] at hk1; cases hk1
    have bkg : bk ≠ g := fun z => by rw [z, eG0] at hk1; cases hk1
    refine ⟨bk, _, rfl, FT.sq ⟨obk, hk1, hk2⟩, ?_⟩
    refine for_enumT (xs := Bk.map V.int) (fun i σ H' => (∀ z o, z ≠ l → z ≠ g → H5 z = some o → H' z = some o) ∧ ∃ y4 y5 y6 T W, σ = [some (.ref a), some (.ref b), some (.ref l), some (.ref g), y4, y5, y6] ∧ H' l = some (.lst (T.map V.int)) ∧ H' g = some (.lst (W.map V.int)) ∧ NbW n S Bk i T W)
      ⟨fun z o _ _ e => e, none, none, none, S, [], rfl, eL0, eG0, ⟨⟨S, by simp⟩, t.ps, by simp, (fun p hp => absurd hp List.not_mem_nil), fun _ => rfl⟩⟩ (fun i σ H' h' => ?_) (fun i x T0 σ H' hx h' hT => ?_) (fun σ H' h' => ?_)
    · exact FT.sq ⟨obk, h'.1 bk _ bkl bkg hk1, hk2⟩
    · obtain ⟨z, hz, rfl⟩ := map_at hx
      obtain ⟨keep, y4, y5, y6, T, W, rfl, eL, eG, nb⟩ := h'
      obtain ⟨M, C, rfl, ez, small, nb2⟩ := nb.next t.pb hz
      have pT := nb.perm
      have lT := perm_len pT
      have hi := (List.getElem?_eq_some_iff.mp hz).1
      have li : (Bk.take i).length = i := by rw [List.length_take]; omega
      have zT : z ∈ Bk.take i ++ (M ++ z :: C) := List.mem_append_right _ (List.mem_append_right _ (List.mem_cons_self ..))
      have gz := idx_get zT
      rw [ez] at gz
      have wl := nb.len
      have T0l : T0 ≠ l := fun e => by rw [e, eL] at hT; cases hT
      have T0g : T0 ≠ g := fun e => by rw [e, eG] at hT; cases hT
      have eL1 : (upd H' T0 (.tup [.int (i : Nat), .int z])) l = some (.lst ((Bk.take i ++ (M ++ z :: C)).map V.int)) := by rw [upd_ne (Ne.symm T0l)]; exact eL
      have eG1 : (upd H' T0 (.tup [.int (i : Nat), .int z])) g = some (.lst (W.map V.int)) := by rw [upd_ne (Ne.symm T0g)]; exact eG
      have firstz : ∀ (m : Nat) (v : V), m < i + M.length → ((Bk.take i ++ (M ++ z :: C)).map V.int)[m]? = some v → eqV v (.int z) = false := fun m v hm hv => eqV_first m v (by rw [ez]; exact hm) hv
      refine ⟨T0, _, rfl, tupAt upd_same, rfl, _, _, rfl, _, _, rfl, rfl, ?_⟩
      refine ⟨_, rfl, .inl ⟨rfl, _, lstAt eL1⟩, _, rfl, l, _, _, i + M.length, .int z, rfl, rfl, lstAt eL1, rfl, flat_ints _, at_map gz, eqV_same z, firstz, ?_⟩
      refine ⟨_, rfl, .inl ⟨rfl, _, lstAt eG1⟩, _, rfl, _, rfl, 1, rfl, ((i + M.length : Nat) : Int), (i : Int), rfl, by omega, by omega, by omega, by omega, fun r hr0 => ?_⟩
      have sr := same_new (o := .lst ((List.range ((((i + M.length : Nat) : Int) - (i : Int)).toNat)).map fun k : Nat => V.int (((i + M.length : Nat) : Int) - (k : Int)))) hr0
      have er : (List.range ((((i + M.length : Nat) : Int) - (i : Int)).toNat)).map (fun k : Nat => V.int (((i + M.length : Nat) : Int) - (k : Int))) = (dwn i M.length).map V.int := by
        rw [show (((i + M.length : Nat) : Int) - (i : Int)).toNat = M.length by omega]
        exact dwn_get i M.length
      rw [er] at sr ⊢
      have eL2 := sr _ _ eL1
      have eG2 := sr _ _ eG1
      refine ⟨g, r, _, _, rfl, rfl, eG2, upd_same, ?_, ?_⟩
      · rw [List.length_map, List.length_map, dwn_len, sizeLine_eq]
        omega
      have eL3 : (upd (upd (upd H' T0 (.tup [.int (i : Nat), .int z])) r (.lst ((dwn i M.length).map V.int))) g (.lst (W.map V.int ++ (dwn i M.length).map V.int))) l = some (.lst ((Bk.take i ++ (M ++ z :: C)).map V.int)) := by
        rw [upd_ne hlg]
        exact eL2
      refine ⟨_, rfl, .inl ⟨rfl, _, lstAt eL3⟩, _, rfl, _, rfl, .inl ⟨rfl, _, lstAt eL3⟩, _, rfl, l, _, _, i + M.length, .int z, rfl, rfl, eL3, by omega, by omega, ?_, at_map gz, l, _, (i : Int), .int z, rfl, rfl, upd_same, ?_, by omega, by omega, ?_⟩
      · rw [List.length_map, lT]
        exact ix_nat (by omega) (by omega)
      · rw [List.length_eraseIdx_of_lt (by rw [List.length_map]; omega), List.length_map]
        exact small1000 (by omega)
      · have rl : r ≠ l := fun e => by rw [e, eL1] at hr0; cases hr0
        have rg' : r ≠ g := fun e => by rw [e, eG1] at hr0; cases hr0
        have em : ((Bk.take i ++ (M ++ z :: C)).map V.int).eraseIdx (i + M.length) = (Bk.take i ++ (M ++ C)).map V.int := by
          have := mid_erase (Bk.take i) M C z
          rw [li] at this
          rw [map_erase, this]
        refine ⟨fun c' o hc1 hc2 e => ?_, some (.int (i : Nat)), some (.int z), some (.int ((i + M.length : Nat) : Int)), Bk.take i ++ z :: (M ++ C), W ++ dwn i M.length, rfl, ?_, ?_, nb2⟩
        · have e' := keep c' o hc1 hc2 e
          have n1 : c' ≠ T0 := ne_of_none e' hT
          have e2 : (upd H' T0 (.tup [.int (i : Nat), .int z])) c' = some o := by rw [upd_ne n1]; exact e'
          rw [upd_ne hc1, upd_ne hc1, upd_ne hc2]
          exact sr _ _ e2
        · rw [upd_same, em, Int.toNat_natCast, List.map_append, List.take_append_of_le_length (by rw [List.length_map]; omega), List.drop_append_of_le_length (by rw [List.length_map]; omega), List.take_of_length_le (by rw [List.length_map]; omega), List.drop_of_length_le (by rw [List.length_map]; omega), List.map_append]
          simp
        · rw [upd_ne (Ne.symm hlg), upd_ne (Ne.symm hlg), upd_same, List.map_append]
    · obtain ⟨keep, y4, y5, y6, T, W, rfl, eL, eG, nb⟩ := h'
      rw [List.length_map] at nb
      obtain ⟨⟨R, eT⟩, pT, wl, win, wg⟩ := nb
      rw [List.take_length] at eT
      have eR : R = [] := by
        have := perm_len pT
        rw [eT, List.length_append] at this
        exact List.eq_nil_of_length_eq_zero (by omega)
      rw [eR, List.append_nil] at eT
      rw [eT] at wl wg
      rw [prs_self (perm_nd t.pb), Nat.add_zero] at wl
      refine ⟨_, rfl, g, _, rfl, lstAt eG, fun v ob hv hob => ?_⟩
      refine q _ v W (fun z o e => ?_) wl win wg ⟨ob, upd_same, hob⟩
      have z2 := (s1.trans s2) z o e
      have nl : z ≠ l := ne_of_none z2 hl
      have ng : z ≠ g := ne_of_none z2 hgH
      have e7 := keep z o nl ng (s5 _ _ ((s3.trans s4) z o z2))
      rw [upd_ne (ne_of_none e7 hv)]
      exact e7
def spNDist (K : PySem.W.Frag) : Sp := fun vs H Q _ => ∃ (a b : Addr) (S B : List Int) (n : Nat), vs = [.ref a, .ref b] ∧ TwoL K H a b S B n ∧ ∀ H', Same H H' → Q (.int (prs (bef B) S : Nat)) H'
theorem ok_ndist (F : Df K mg "neighbour_distance" st_neighbour_distance ["one", "other"]) (C2 : Cal P w K mg base 7 "check_two_layouts" (spTwoLay K)) (CP : Cal P w K mg base 1 "pairs_crossed" (spPairs K)) : Cal P w K mg base 8 "neighbour_distance" (spNDist K) := by
  refine mkCal F sc_neighbour_distance (fun vs H Q E h => ?_) (fun f cdv A outer s H vs Q E hr h => ?_)
  · obtain ⟨a, b, S, B', n, rfl, _⟩ := h
    rfl
  · obtain ⟨a, b, S, Bk, n, rfl, t, q⟩ := h
    refine ⟨_, pss_cons (ps_expr (pc C2 hr (pa_cons (pv 0) (pa_cons (pv 1) pa_nil)))) (pss_one (ps_ret (pc CP hr (pa_cons (pv 0) (pa_cons (pv 1) pa_nil))))), ?_⟩
    exact ⟨_, rfl, _, rfl, a, b, S, Bk, n, rfl, t, fun H1 s1 => ⟨_, rfl, _, rfl, a, b, S, Bk, n, rfl, (t.fa.same s1).sq, (t.fb.same s1).sq, t.ps, t.pb, t.n40, q H1 s1⟩⟩
end
end RH
set_option Elab.async false
set_option linter.all false
set_option maxRecDepth 100000
set_option maxHeartbeats 2000000
namespace RH
open PySem PySem.Spec PyProof.Rows L2
/-! ### kinds: the turning shelf's word; where the checks refuse -/
theorem eqv_tupI (ns ms : List Int) : PyData.eqv (.tuple (ns.map PyData.int)) (.tuple (ms.map PyData.int)) = decide (ns = ms) := by
  rw [PyData.eqv]
  exact PySem.W.ked_eqvAll ns ms
theorem shaped_tupI (ns : List Int) : SeqAt.shaped (.tuple (ns.map PyData.int)) = true := by
  simp [SeqAt.shaped, PyData.canLay0, PyData.depth, PySem.W.ke_canLayAll0, PySem.W.ke_depthAll]
section
variable {P : Program} {w : World} {K : PySem.W.Frag} {mg : Str → Option Value} {base : Heap} {C : Addr}
def spTurn (K : PySem.W.Frag) : Sp := fun vs H Q _ => ∃ (a b : Addr) (S B : List Int) (n : Nat), vs = [.ref a, .ref b] ∧ TwoL K H a b S B n ∧
  (∀ H' c ws, Same H H' → trn n (invR S) (invR B) = some ws → H' c = some (.tup (ws.map V.int)) → Q (.ref c) H') ∧ (∀ H', Same H H' → trn n (invR S) (invR B) = none → Q .non H')
theorem ok_turn (F : Df K mg "turning_word" st_turning_word ["one", "other"]) (B : Bu mg) (C2 : Cal P w K mg base 7 "check_two_layouts" (spTwoLay K)) : Cal P w K mg base 8 "turning_word" (spTurn K) := by
  refine mkCal F sc_turning_word (fun vs H Q E h => ?_) (fun f cdv A outer s H vs Q E hr h => ?_)
  · obtain ⟨a, b, S, B', n, rfl, _⟩ := h
    rfl
  · obtain ⟨a, b, S, Bk, n, rfl, t, q1, q2⟩ := h
    have n40 := t.n40
    have n1 := t.n1
    have lS := invL_len t.ps
    have lB := invL_len t.pb
    refine ⟨_, pss_cons (ps_expr (pc C2 hr (pa_cons (pv 0) (pa_cons (pv 1) pa_nil)))) (pss_cons (ps_if (pt_cmpR (op_eqD hr.units) (pv 0) (pv 1) (nomark _)) (pss_one (ps_ret (pe_tup pa_nil))) pss_nil)
      (pss_cons (ps_set (i := 2) sc_turning_word.nd rfl (.inr rfl) (pe_callB (cl_len K) (by rfl) B.len PySem.boot_len (pa_cons (pv 0) pa_nil)))
      (pss_cons (ps_set (i := 3) sc_turning_word.nd rfl (.inr rfl) (pe_op op_mod (pe_op op_sub (pe_ix (ixT K) (pv 1) pe_int (fun _ _ => rfl)) (pe_ix (ixT K) (pv 0) pe_int (fun _ _ => rfl))) (pv 2)))
      (pss_one (ps_ret (pe_ifExp (pt_cmpR (op_eqD hr.units) (pe_tupleOf (by rfl) B.tuple (pe_lc (own := [("stood", 4)]) (g := gName 4) (tt := tYes) rfl sc_turning_word.nd (pi_tup (pv 0)) (blkOk_by (N := ["one", "other", "places", "turn", "stood"]) (sc := defScope st_turning_word) (by decide +kernel))
        (fun _ _ _ _ _ => pg_name (i := 4) sc_turning_word.nd rfl (Or.inl rfl)) (fun _ _ _ _ _ => pts_nil) (fun _ _ _ _ _ => pe_op op_mod (pe_op op_add (pv 4) (pv 3)) (pv 2)))) (pv 1) (nomark _)) (pe_tup (pa_cons (pv 3) pa_nil)) pe_non)))))), ?_⟩
    refine ⟨_, rfl, _, rfl, a, b, S, Bk, n, rfl, t, fun H1 s1 => ?_⟩
    have t1 := t.same s1
    refine ⟨_, rfl, _, rfl, _, _, dp_tup t1.fa.sq, dp_tup t1.fb.sq, shaped_tupI _, shaped_tupI _, _, rfl, ?_⟩
    rw [eqv_tupI]
    refine ite2 (fun e => ?_) (fun e => ?_)
    · have e := of_decide_eq_true e
      refine ⟨Nat.zero_le _, fun c hc => ?_⟩
      exact q1 _ c [] (s1.trans (same_new hc)) (if_pos e) upd_same
    · have ne : invR S ≠ invR Bk := fun z => e (decide_eq_true z)
      refine ⟨_, rfl, a, _, rfl, .inr t1.fa.sq, ?_⟩
      obtain ⟨x, hx⟩ : ∃ x, (invR S)[0]? = some x := ⟨_, List.getElem?_eq_getElem (by omega)⟩
      obtain ⟨y, hy⟩ : ∃ y, (invR Bk)[0]? = some y := ⟨_, List.getElem?_eq_getElem (by omega)⟩
      have gx := getD_at (d := 0) hx
      have gy := getD_at (d := 0) hy
      have eT : trnT n (invR S) (invR Bk) = (y - x) % (n : Int) := by
        unfold trnT
        rw [gx, gy]
      have el : (((invR S).map V.int).length : Int) = (n : Int) := by rw [List.length_map, lS]
      refine ⟨_, rfl, b, _, 0, .int y, rfl, rfl, t1.fb.sq, atI_nat (j := 0) (at_map hy), _, rfl, a, _, 0, .int x, rfl, rfl, t1.fa.sq, atI_nat (j := 0) (at_map hx), y, x, rfl, rfl, _, rfl, y - x, _, rfl, rfl, by rw [el]; omega, ?_⟩
      have etz : (y - x) % (((invR S).map V.int).length : Int) = trnT n (invR S) (invR Bk) := by rw [el, eT]
      refine ⟨_, rfl, a, rfl, ⟨_, t1.fa.sq⟩, fun D hD => ?_⟩
      refine lc_tup (xs := (invR S).map V.int) (fun i H' => Same H1 H' ∧ H' D = some (.lst ((((invR S).take i).map fun s => (s + trnT n (invR S) (invR Bk)) % (n : Int)).map V.int))) ⟨same_new hD, upd_same⟩ (fun i H' _ h' => onT h'.1 t1.fa.sq) (fun i v H' hv h' => ?_) (fun H' h' => ?_)
      · obtain ⟨z, hz, rfl⟩ := map_at hv
        obtain ⟨sm, eD⟩ := h'
        refine ⟨rfl, _, rfl, _, rfl, z, _, rfl, rfl, _, rfl, _, _, rfl, rfl, by rw [el]; omega, _, eD, ?_, ?_, ?_⟩
        · rw [List.length_map, List.length_map, List.length_take]
          exact small1000 (by omega)
        · exact fun c o ec => by rw [upd_ne (ne_of_none ec hD)]; exact sm c o ec
        · rw [upd_same, take_more hz, List.map_append, List.map_append, etz, el]
          rfl
      · obtain ⟨sm, eD⟩ := h'
        rw [List.length_map, List.take_length] at eD
        refine .inl ⟨D, _, rfl, lstAt eD, fun tt htt => ⟨_, rfl, _, _, dp_tup (tupAt upd_same), dp_tup ((t1.same sm).same (same_new htt)).fb.sq, shaped_tupI _, shaped_tupI _, _, rfl, ?_⟩⟩
        have s3 := s1.trans (sm.trans (same_new (o := .tup ((((invR S)).map fun s => (s + trnT n (invR S) (invR Bk)) % (n : Int)).map V.int)) htt))
        rw [eqv_tupI]
        refine ite2 (fun e2 => ?_) (fun e2 => ?_)
        · have e2 : shf n (invR S) (trnT n (invR S) (invR Bk)) = invR Bk := of_decide_eq_true e2
          refine ⟨_, rfl, by show 1 ≤ sizeLine; decide, fun c hc => ?_⟩
          refine q1 _ c [trnT n (invR S) (invR Bk)] (s3.trans (same_new hc)) ?_ ?_
          · unfold trn
            rw [if_neg ne, if_pos e2]
          · rw [upd_same, ← etz]
            rfl
        · refine q2 _ s3 ?_
          have e3 : ¬ shf n (invR S) (trnT n (invR S) (invR Bk)) = invR Bk := fun z => e2 (decide_eq_true z)
          unfold trn
          rw [if_neg ne, if_neg e3]
/-! where the checks refuse -/
theorem log40 : ∀ n, n < 41 → ((n : Nat) : Int).natAbs.log2 < 1920 := by decide +kernel
theorem text40 : ∀ n : Nat, n < 41 → (Str.empty ++ Str.ofString "no layout of " ++ Str.ofString (toString (n : Int))).length ≤ sizeLine ∧ (Str.empty ++ Str.ofString "no layout of " ++ Str.ofString (toString (n : Int)) ++ Str.ofString " places").length ≤ sizeLine := by
  rw [sizeLine_eq]
  decide +kernel
def spLayY (K : PySem.W.Frag) (C : Addr) : Sp := fun vs H Q E => ∃ (v : V) (wo : Option (List V)) (n : Nat), vs = [v, .int n] ∧ Wd K H v wo ∧ n ≤ 40 ∧ layW n wo = false ∧ noE C H E
theorem ok_layY (F : Df K mg "check_layout" st_check_layout ["layout", "places"]) (Xn : ExO K mg "BadLayout" C) (C5 : Cal P w K mg base 5 "is_layout" (spIsLayoutW K)) : CalX P w K mg base 6 "check_layout" (spLayY K C) := by
  refine mkCalX F sc_check_layout (fun vs H Q E h => ?_) (fun f cdv A outer s H vs Q E hr h => ?_)
  · obtain ⟨v, wo, n, rfl, _⟩ := h
    rfl
  · obtain ⟨v, wo, n, rfl, hw, n40, bad, q⟩ := h
    refine ⟨_, pss_one (ps_if (pt_not (pt_val (pc C5 hr (pa_cons (pv 0) (pa_cons (pv 1) pa_nil))))) (pss_one (ps_raise rfl takesE (SkE.pmk_own1 PySem.F.excBase_ValueError Xn.q Xn.g Xn.k (raises_own Xn.b Xn.t) rfl
      (pe_joined (.cons pe_str (.cons (pe_fmt (pv 1)) (.cons pe_str .nil))))))) pss_nil), ?_⟩
    refine ⟨_, rfl, _, rfl, v, wo, n, rfl, hw, by omega, fun H1 s1 => ⟨_, rfl, ifT (by rw [bad]; rfl) ?_⟩⟩
    refine ⟨_, rfl, ?_, _, rfl, .inr ⟨(n : Int), rfl, log40 n (by omega), _, rfl, ?_, _, rfl, ?_, q H1 s1⟩⟩
    · rw [sizeLine_eq]
      decide +kernel
    · exact (text40 n (by omega)).1
    · exact (text40 n (by omega)).2
def spTwoY (K : PySem.W.Frag) (C : Addr) : Sp := fun vs H Q E => ∃ (a : Addr) (v : V) (wo : Option (List V)) (L : List Int) (n : Nat), vs = [.ref a, v] ∧ SqT K H a (L.map V.int) ∧ L.Perm (rg n) ∧ 1 ≤ n ∧ n ≤ 40 ∧ Wd K H v wo ∧ layW n wo = false ∧ noE C H E
theorem ok_twoY (F : Df K mg "check_two_layouts" st_check_two_layouts ["one", "other"]) (B : Bu mg) (c40 : ∃ t, mg "MOST_KNOWN_PLACES" = some (.int 40 t)) (CR : Cal P w K mg base 6 "check_row" (spCkR K)) (CL : CalX P w K mg base 6 "check_layout" (spLayY K C)) : CalX P w K mg base 7 "check_two_layouts" (spTwoY K C) := by
  refine mkCalX F sc_check_two_layouts (fun vs H Q E h => ?_) (fun f cdv A outer s H vs Q E hr h => ?_)
  · obtain ⟨a, v, wo, L, n, rfl, _⟩ := h
    rfl
  · obtain ⟨a, v, wo, L, n, rfl, hA, hL, n1, n40, hw, bad, q⟩ := h
    refine ⟨_, pss_cons (ps_expr (pc CR hr (pa_cons (pv 0) (pa_cons (pk c40) pa_nil)))) (pss_one (ps_expr (pcX CL passE hr (pa_cons (pv 1) (pa_cons (pe_callB (cl_len K) (by rfl) B.len PySem.boot_len (pa_cons (pv 0) pa_nil)) pa_nil))))), ?_⟩
    exact ⟨_, rfl, a, L, n, rfl, hA, hL, n1, n40, fun H1 s1 => ⟨_, rfl, _, rfl, a, _, rfl, .inr (onT s1 hA), v, wo, n, by rw [List.length_map, perm_len hL]; rfl, hw.on s1, n40, bad, q.on s1⟩⟩
theorem ok_fwordX (F : Df K mg "front_word" st_front_word ["one", "other"]) (C2 : CalX P w K mg base 7 "check_two_layouts" (spTwoY K C)) : CalX P w K mg base 8 "front_word" (spTwoY K C) := by
  refine mkCalX F sc_front_word (fun vs H Q E h => ?_) (fun f cdv A outer s H vs Q E hr h => ?_)
  · obtain ⟨a, v, wo, L, n, rfl, _⟩ := h
    rfl
  · obtain ⟨a, v, wo, L, n, rfl, h⟩ := h
    exact ⟨_, pss_cons (ps_expr (pcX C2 passE hr (pa_cons (pv 0) (pa_cons (pv 1) pa_nil)))) (pss_cons ps_no (pss_cons ps_no (pss_cons ps_no (pss_cons ps_no (pss_cons ps_no (pss_one ps_no)))))), _, rfl, _, rfl, a, v, wo, L, n, rfl, h⟩
end
end RH
set_option Elab.async false
set_option linter.all false
set_option maxRecDepth 100000
set_option maxHeartbeats 2000000
namespace RH
open PySem PySem.Spec PyProof.Rows L2
/-! ### the known habits -/
section
variable {P : Program} {w : World} {K : PySem.W.Frag} {mg : Str → Option Value} {base : Heap}
/-! the program's habit to the front, walked -/
def spFrP : Sp := fun vs H Q _ => ∃ n p : Nat, vs = [.int n, .int p] ∧ p < n ∧ n ≤ 5 ∧ ∀ q H', Same H H' → H' q = some (.tup ((wF n p).map V.int)) → Q (.ref q) H'
theorem catU_ok {K : PySem.W.Frag} {H : Hp} {a b : Addr} {xs ys : List V} {Q : VK} (ha : H a = some (.tup xs)) (hb : H b = some (.tup ys)) (hl : xs.length + ys.length ≤ 1000) (q : ∀ r H', Same H H' → H' r = some (.tup (xs ++ ys)) → Q (.ref r) H') : rCatA K (.ref a) (.ref b) H Q :=
  ⟨a, b, xs, ys, rfl, rfl, tupAt ha, tupAt hb, Nat.le_of_lt (small1000 hl), fun e => by
    subst e
    exact q b H (Same.refl H) hb, fun _ e => by
    subst e
    exact q a H (Same.refl H) (by rw [List.append_nil]; exact ha), fun _ _ p hp => q p _ (same_new hp) upd_same⟩
theorem ok_frP (F : Df K mg "front_permutation" st_front_permutation ["places", "place"]) (B : Bu mg) : Cal P w K mg base 1 "front_permutation" spFrP := by
  refine mkCal F sc_front_permutation (fun vs H Q E h => ?_) (fun f cdv A outer s H vs Q E hr h => ?_)
  · obtain ⟨n, p, rfl, _⟩ := h
    rfl
  · obtain ⟨n, p, rfl, hp, n5, q⟩ := h
    refine ⟨_, pss_cons (ps_set (i := 2) sc_front_permutation.nd rfl (.inl rfl) (pe_tupRg rfl (by rfl) B.tuple (prg_2 (by rfl) B.range pe_int (pe_op op_add (pv 1) pe_int))))
      (pss_cons (ps_set (i := 3) sc_front_permutation.nd rfl (.inl rfl) (pe_tupRg rfl (by rfl) B.tuple (prg_2 (by rfl) B.range (pe_op op_add (pv 1) pe_int) (pv 0))))
      (pss_one (ps_ret (pe_op op_catA (pe_op op_catA (pv 2) (pe_tup (pa_cons pe_int pa_nil))) (pv 3))))), ?_⟩
    refine ⟨_, rfl, (p : Int), 1, rfl, rfl, 1, (p : Int) + 1, rfl, rfl, ⟨by omega, by omega, by omega, by omega, by omega⟩, fun a1 h1 => ?_⟩
    have s1 := same_new (o := .tup (rgV 1 ((p : Int) + 1))) h1
    refine ⟨_, rfl, (p : Int), 1, rfl, rfl, _, rfl, (p : Int) + 1, n, rfl, rfl, ⟨by omega, by omega, by omega, by omega, by omega⟩, fun a2 h2 => ?_⟩
    have s2 := same_new (o := .tup (rgV ((p : Int) + 1) (n : Int))) h2
    refine ⟨_, rfl, by show 1 ≤ sizeLine; decide, fun a3 h3 => ?_⟩
    have s3 := same_new (o := .tup [.int 0]) h3
    refine catU_ok (s3 _ _ (s2 _ _ upd_same)) upd_same (by rw [rgV_length]; show _ + 1 ≤ 1000; omega) fun r H4 s4 e4 => ⟨_, rfl, ?_⟩
    refine catU_ok e4 (s4 _ _ (s3 _ _ upd_same)) (by rw [List.length_append, rgV_length, rgV_length]; show _ + 1 + _ ≤ 1000; omega) fun r2 H5 s5 e5 => q r2 H5 (s1.trans (s2.trans (s3.trans (s4.trans s5)))) ?_
    rw [e5, rgV_rgI, rgV_rgI]
    unfold wF
    rw [List.map_append, List.map_append]
    rfl
def spFrH (K : PySem.W.Frag) : Sp := fun vs H Q _ => ∃ n : Nat, vs = [.int n] ∧ 2 ≤ n ∧ n ≤ 5 ∧ ∀ v H', Same H H' → TII K H' v (frH n) → Q v H'
theorem ok_frH (F : Df K mg "front_habit" st_front_habit ["places"]) (B : Bu mg) (CP : Cal P w K mg base 4 "check_places" spCheckPlaces) (CF : Cal P w K mg base 1 "front_permutation" spFrP) : Cal P w K mg base 5 "front_habit" (spFrH K) := by
  refine mkCal F sc_front_habit (fun vs H Q E h => ?_) (fun f cdv A outer s H vs Q E hr h => ?_)
  · obtain ⟨n, rfl, _⟩ := h
    rfl
  · obtain ⟨n, rfl, n2, n5, q⟩ := h
    refine ⟨_, pss_cons (ps_expr (pc CP hr (pa_cons (pv 0) pa_nil)))
      (pss_one (ps_ret (pe_tupleOf (by rfl) B.tuple (pe_lc (own := [("place", 1)]) (g := gName 1) (tt := tYes) rfl sc_front_habit.nd (pi_range1 (by rfl) B.range (pa_cons (pv 0) pa_nil))
        (blkOk_by (N := ["places", "place"]) (sc := defScope st_front_habit) (by decide +kernel)) (fun _ _ _ _ _ => pg_name (i := 1) sc_front_habit.nd rfl (Or.inl rfl)) (fun _ _ _ _ _ => pts_nil)
        (fun _ _ _ _ _ => pc CF hr (pa_cons (pv 0) (pa_cons (pv 1) pa_nil))))))), ?_⟩
    refine ⟨_, rfl, n, rfl, n2, n5, _, rfl, n, rfl, by omega, by omega, fun D hD => ?_⟩
    rw [Int.toNat_natCast]
    refine lc_range (lo := 0) (n := n) (fun i H' => ∃ xs, Same H H' ∧ H' D = some (.lst xs) ∧ Each (TI K H') xs ((List.range i).map (wF n))) ⟨[], same_new hD, upd_same, .nil⟩ (fun i H1 hi h' => ?_) (fun H1 h' => ?_)
    · obtain ⟨xs, sm, eD, hE⟩ := h'
      have hl := hE.len
      rw [List.length_map, List.length_range] at hl
      rw [Int.zero_add]
      refine ⟨rfl, _, rfl, _, rfl, n, i, rfl, hi, n5, fun r H2 s2 e2 => ⟨xs, s2 _ _ eD, small1000 (by omega), xs ++ [.ref r], ?_, upd_same, ?_⟩⟩
      · intro b o e
        rw [upd_ne (ne_of_none e hD)]
        exact s2 _ _ (sm b o e)
      · have f1 : Fix H2 (upd H2 D (.lst (xs ++ [.ref r]))) := Fix.lst (s2 _ _ eD)
        rw [List.range_succ, List.map_append]
        exact Each.snoc ⟨r, rfl, f1.tups _ _ (tupAt e2)⟩ (hE.imp fun _ _ z => (z.on (Same.tups s2)).on f1.tups)
    · obtain ⟨xs, sm, eD, hE⟩ := h'
      refine .inl ⟨D, xs, rfl, lstAt eD, fun t ht => q _ _ (sm.trans (same_new ht)) ⟨t, xs, rfl, tupAt upd_same, hE.imp fun _ _ z => z.on (Same.tups (same_new ht))⟩⟩
def spPerm (F : Nat → Nat → List Int) : Sp := fun vs H Q _ => ∃ n p : Nat, vs = [.int n, .int p] ∧ p < n ∧ n ≤ 5 ∧ ∀ q H', Same H H' → H' q = some (.tup ((F n p).map V.int)) → Q (.ref q) H'
theorem ok_neigh_perm (F : Df K mg "neighbour_permutation" st_neighbour_permutation ["places", "place"]) (B : Bu mg) : Cal P w K mg base 1 "neighbour_permutation" (spPerm neighP) := by
  refine mkCal F sc_neighbour_permutation (fun vs H Q E h => ?_) (fun f cdv A outer s H vs Q E hr h => ?_)
  · obtain ⟨n, p, rfl, _⟩ := h
    rfl
  · obtain ⟨n, p, rfl, hp, n5, q⟩ := h
    refine ⟨_, pss_cons (ps_set (i := 2) sc_neighbour_permutation.nd rfl (.inl rfl) (pe_listRg rfl (by rfl) B.list (prg_1 (by rfl) B.range (pv 0))))
      (pss_cons (ps_if (pt_cmpR op_gt (pv 1) pe_int (nomark _))
        (pss_one (ps_asg (pe_tup (pa_cons (pv 1) (pa_cons (pe_op op_sub (pv 1) pe_int) pa_nil))) (pg_tup rfl (pgs_cons (pg_sub (pv 2) (pe_op op_sub (pv 1) pe_int) set_list) (pgs_cons (pg_sub (pv 2) (pv 1) set_list) pgs_nil))))) pss_nil)
      (pss_one (ps_ret (pe_tupleOf (by rfl) B.tuple (pv 2))))), ?_⟩
    refine ⟨_, rfl, n, rfl, ⟨by omega, by omega, by omega, by omega, by omega⟩, fun m hm => ?_⟩
    rw [rgV_rg] at *
    have s1 := same_new (o := .lst ((rg n).map V.int)) hm
    have ll : ((rg n).map V.int).length = n := by rw [List.length_map, rg_len]
    have fin : ∀ (H2 : Hp), (∀ b o, H b = some o → b ≠ m → H2 b = some o) → H2 m = some (.lst ((neighP n p).map V.int)) → ∀ t, H2 t = none → Q (.ref t) (upd H2 t (.tup ((neighP n p).map V.int))) := fun H2 s2 e2 t ht => by
      refine q t _ (fun b o e => ?_) upd_same
      have e3 := s2 b o e (ne_of_none e hm)
      rw [upd_ne (ne_of_none e3 ht)]
      exact e3
    refine ⟨_, rfl, (p : Int), 0, rfl, rfl, _, rfl, ite2 (fun e => ?_) (fun e => ?_)⟩
    · have hp0 : 0 < p := by
        have : (p : Int) > 0 := by simpa using e
        omega
      have sub1 : (p : Int) - 1 = ((p - 1 : Nat) : Int) := by omega
      refine ⟨_, rfl, _, rfl, (p : Int), 1, rfl, rfl, by show 2 ≤ sizeLine; decide, fun t ht => ?_⟩
      have s2 := same_new (o := .tup [.int (p : Int), .int ((p : Int) - 1)]) ht
      have em := s2 _ _ (upd_same (H := H) (a := m) (o := .lst ((rg n).map V.int)))
      refine ⟨t, _, rfl, tupAt upd_same, rfl, _, _, rfl, _, rfl, _, rfl, (p : Int), 1, rfl, rfl, m, _, (p : Int) - 1, p - 1, rfl, rfl, em, ?_, ?_⟩
      · have := ixN_int (n := ((rg n).map V.int).length) (k := (p : Int) - 1) (by omega) (by omega)
        rw [this, sub1]
        rfl
      refine ⟨_, _, rfl, _, rfl, _, rfl, m, _, (p : Int), p, rfl, rfl, upd_same, ?_, rfl, ?_⟩
      · have := ixN_int (n := (((rg n).map V.int).set (p - 1) (.int (p : Int))).length) (k := (p : Int)) (by omega) (by rw [List.length_set]; omega)
        exact this
      have et : (((rg n).map V.int).set (p - 1) (.int (p : Int))).set p (.int ((p : Int) - 1)) = (neighP n p).map V.int := by
        unfold neighP
        rw [if_pos hp0, List.map_set, List.map_set, sub1]
      rw [et]
      refine ⟨_, rfl, .inl ⟨m, _, rfl, lstAt upd_same, fun t2 ht2 => fin _ (fun b o e1 ne => ?_) upd_same t2 ht2⟩⟩
      rw [upd_ne ne, upd_ne ne]
      exact s2 _ _ (s1 _ _ e1)
    · have hp0 : ¬ 0 < p := by
        intro z
        apply e
        simp
        exact z
      have et : neighP n p = rg n := if_neg hp0
      rw [et] at fin
      refine ⟨_, rfl, .inl ⟨m, _, rfl, lstAt upd_same, fun t2 ht2 => fin _ (fun b o e1 ne => s1 _ _ e1) upd_same t2 ht2⟩⟩
def spHab (K : PySem.W.Frag) (F : Nat → List (List Int)) : Sp := fun vs H Q _ => ∃ n : Nat, vs = [.int n] ∧ 2 ≤ n ∧ n ≤ 5 ∧ ∀ v H', Same H H' → TII K H' v (F n) → Q v H'
theorem ok_neigh_habit (F : Df K mg "neighbour_habit" st_neighbour_habit ["places"]) (B : Bu mg) (CP : Cal P w K mg base 4 "check_places" spCheckPlaces) (CF : Cal P w K mg base 1 "neighbour_permutation" (spPerm neighP)) : Cal P w K mg base 5 "neighbour_habit" (spHab K neighH) := by
  refine mkCal F sc_neighbour_habit (fun vs H Q E h => ?_) (fun f cdv A outer s H vs Q E hr h => ?_)
  · obtain ⟨n, rfl, _⟩ := h
    rfl
  · obtain ⟨n, rfl, n2, n5, q⟩ := h
    refine ⟨_, pss_cons (ps_expr (pc CP hr (pa_cons (pv 0) pa_nil)))
      (pss_one (ps_ret (pe_tupleOf (by rfl) B.tuple (pe_lc (own := [("place", 1)]) (g := gName 1) (tt := tYes) rfl sc_neighbour_habit.nd (pi_range1 (by rfl) B.range (pa_cons (pv 0) pa_nil))
        (blkOk_by (N := ["places", "place"]) (sc := defScope st_neighbour_habit) (by decide +kernel)) (fun _ _ _ _ _ => pg_name (i := 1) sc_neighbour_habit.nd rfl (Or.inl rfl)) (fun _ _ _ _ _ => pts_nil)
        (fun _ _ _ _ _ => pc CF hr (pa_cons (pv 0) (pa_cons (pv 1) pa_nil))))))), ?_⟩
    refine ⟨_, rfl, n, rfl, n2, n5, _, rfl, n, rfl, by omega, by omega, fun D hD => ?_⟩
    rw [Int.toNat_natCast]
    refine lc_range (lo := 0) (n := n) (fun i H' => ∃ xs, Same H H' ∧ H' D = some (.lst xs) ∧ Each (TI K H') xs ((List.range i).map (neighP n))) ⟨[], same_new hD, upd_same, .nil⟩ (fun i H1 hi h' => ?_) (fun H1 h' => ?_)
    · obtain ⟨xs, sm, eD, hE⟩ := h'
      have hl := hE.len
      rw [List.length_map, List.length_range] at hl
      rw [Int.zero_add]
      refine ⟨rfl, _, rfl, _, rfl, n, i, rfl, hi, n5, fun r H2 s2 e2 => ⟨xs, s2 _ _ eD, small1000 (by omega), xs ++ [.ref r], ?_, upd_same, ?_⟩⟩
      · intro b o e
        rw [upd_ne (ne_of_none e hD)]
        exact s2 _ _ (sm b o e)
      · have f1 : Fix H2 (upd H2 D (.lst (xs ++ [.ref r]))) := Fix.lst (s2 _ _ eD)
        rw [List.range_succ, List.map_append]
        exact Each.snoc ⟨r, rfl, f1.tups _ _ (tupAt e2)⟩ (hE.imp fun _ _ z => (z.on (Same.tups s2)).on f1.tups)
    · obtain ⟨xs, sm, eD, hE⟩ := h'
      refine .inl ⟨D, xs, rfl, lstAt eD, fun t ht => q _ _ (sm.trans (same_new ht)) ⟨t, xs, rfl, tupAt upd_same, hE.imp fun _ _ z => z.on (Same.tups (same_new ht))⟩⟩
theorem pe_tupleK {X : Cx} {a : Expr} {ta : TE} {p pos : Pos} (K : PySem.W.Frag) (hg : Gl X "tuple") (hm : X.mg "tuple" = none) (ha : PE X a ta) (h : X.K = K := by rfl) (na : starEach [a] X.env = (false, eval a X.env) :: starEach [] X.env := by rfl) : PE X (.Call (.Name "tuple" p) [a] [] pos) (tThen ta (kTup K)) := by
  subst h
  exact pe_tupleOf hg hm ha na
def scT1 : Scope := { kind := .function, names := [(".0", .local), ("place", .cell), ("tuple", .globalImplicit), ("range", .globalImplicit), ("places", .cell)], isGenerator := false, isCoroutine := false }
theorem ok_turn_habit (F : Df K mg "turning_habit" st_turning_habit ["places"]) (B : Bu mg) (CP : Cal P w K mg base 4 "check_places" spCheckPlaces) : Cal P w K mg base 5 "turning_habit" (spHab K turnH) := by
  refine mkCal F sc_turning_habit (fun vs H Q E h => ?_) (fun f cdv A outer s H vs Q E hr h => ?_)
  · obtain ⟨n, rfl, _⟩ := h
    rfl
  · obtain ⟨n, rfl, n2, n5, q⟩ := h
    refine ⟨_, pss_cons (ps_expr (pc CP hr (pa_cons (pv 0) pa_nil)))
      (pss_one (ps_ret (pe_tupleOf (by rfl) B.tuple (pe_lc (own := [("place", 1)]) (g := gName 1) (tt := tYes) rfl sc_turning_habit.nd (pi_range1 (by rfl) B.range (pa_cons (pv 0) pa_nil))
        (blkOk_by (N := ["places", "place", "stood"]) (sc := defScope st_turning_habit) (by decide +kernel)) (fun _ _ _ _ _ => pg_name (i := 1) sc_turning_habit.nd rfl (Or.inr rfl)) (fun _ _ _ _ _ => pts_nil)
        (fun _ _ _ _ _ => pe_tupleK K (by rfl) B.tuple (pe_lc (own := [("stood", 2)]) (g := gName 2) (tt := tYes) rfl sc_turning_habit.nd (pi_range1 (by rfl) B.range (pa_cons (pv 0) pa_nil))
          (blkOk_by (N := ["places", "place", "stood"]) (sc := scT1) (by decide +kernel)) (fun _ _ _ _ _ => pg_name (i := 2) sc_turning_habit.nd rfl (Or.inl rfl)) (fun _ _ _ _ _ => pts_nil)
          (fun _ _ _ _ _ => pe_op op_mod (pe_op op_add (pv 2) (pv 1)) (pv 0)))))))), ?_⟩
    refine ⟨_, rfl, n, rfl, n2, n5, _, rfl, n, rfl, by omega, by omega, fun D hD => ?_⟩
    rw [Int.toNat_natCast]
    refine lc_range (lo := 0) (n := n) (fun i H' => ∃ xs, Same H H' ∧ H' D = some (.lst xs) ∧ Each (TI K H') xs ((List.range i).map (turnP n))) ⟨[], same_new hD, upd_same, .nil⟩ (fun i H1 hi h' => ?_) (fun H1 h' => ?_)
    · obtain ⟨xs, sm, eD, hE⟩ := h'
      have hl := hE.len
      rw [List.length_map, List.length_range] at hl
      rw [Int.zero_add]
      refine ⟨rfl, _, rfl, n, rfl, by omega, by omega, fun D2 hD2 => ?_⟩
      rw [Int.toNat_natCast]
      refine lc_range (lo := 0) (n := n) (fun j H' => Same H1 H' ∧ H' D2 = some (.lst (((List.range j).map fun s : Nat => ((s : Int) + (i : Int)) % (n : Int)).map V.int))) ⟨same_new hD2, upd_same⟩ (fun j H' hj h' => ?_) (fun H' h' => ?_)
      · obtain ⟨sm2, eD2⟩ := h'
        refine ⟨rfl, _, rfl, _, rfl, _, _, rfl, rfl, _, rfl, _, n, rfl, rfl, by omega, _, eD2, ?_, ?_, ?_⟩
        · rw [List.length_map, List.length_map, List.length_range]
          exact small1000 (by omega)
        · intro b o e
          rw [upd_ne (ne_of_none e hD2)]
          exact sm2 b o e
        · rw [upd_same, range_more, Int.zero_add]
      · obtain ⟨sm2, eD2⟩ := h'
        refine .inl ⟨D2, _, rfl, lstAt eD2, fun t ht => ?_⟩
        have sT := sm2.trans (same_new (o := .tup ((turnP n i).map V.int)) ht)
        refine ⟨xs, sT _ _ eD, small1000 (by omega), xs ++ [.ref t], ?_, upd_same, ?_⟩
        · intro b o e
          rw [upd_ne (ne_of_none e hD)]
          exact sT _ _ (sm b o e)
        · have f1 : Fix (upd H' t (.tup ((turnP n i).map V.int))) (upd (upd H' t (.tup ((turnP n i).map V.int))) D (.lst (xs ++ [.ref t]))) := Fix.lst (sT _ _ eD)
          rw [List.range_succ, List.map_append]
          exact Each.snoc ⟨t, rfl, f1.tups _ _ (tupAt upd_same)⟩ (hE.imp fun _ _ z => (z.on (Same.tups sT)).on f1.tups)
    · obtain ⟨xs, sm, eD, hE⟩ := h'
      refine .inl ⟨D, xs, rfl, lstAt eD, fun t ht => q _ _ (sm.trans (same_new ht)) ⟨t, xs, rfl, tupAt upd_same, hE.imp fun _ _ z => z.on (Same.tups (same_new ht))⟩⟩
end
end RH
set_option Elab.async false
set_option linter.all false
set_option maxRecDepth 100000
set_option maxHeartbeats 2000000
namespace RH
open PySem PySem.Spec PyProof.Rows L2
open NdefX (NScope CellsAt Caps slotAt cells_of startF ncx)
/-! ### a touch as a function that is handed on -/
section
variable {P : Program} {w : World} {K : PySem.W.Frag} {mg : Str → Option Value} {base : Heap} {CX : CXT} {k : Nat} {f : Addr} {live live' : Hp → Prop} {sp sp' : Sp} {outer : List Env} {s : Shared} {H : Hp}
theorem Callable.imp (c : Callable P w K mg base CX k f live sp outer s H) (hl : ∀ H, live' H → live H) (hs : ∀ vs H Q E, live' H → sp' vs H Q E → sp vs H Q E) : Callable P w K mg base CX k f live' sp' outer s H :=
  ⟨fun X e1 e2 e3 e4 e5 e6 pins σ H' s' I l => c.at_ X e1 e2 e3 e4 e5 e6 pins σ H' s' I (hl _ l),
    fun X e1 e2 e3 e4 e5 e6 e7 e8 e9 hr pins σ H' s' us vs Q E I l r hx q => c.run X e1 e2 e3 e4 e5 e6 e7 e8 e9 hr pins σ H' s' us vs Q E I (hl _ l) r hx (hs _ _ _ _ l q)⟩
end
def retArg (st : Stmt) (i : Nat) : Expr := match defBody st with
  | [.Return (some (.Call _ as _ _)) _] => as.getD i (.Constant .none 0 ⟨0, 0, 0, 0⟩)
  | _ => .Constant .none 0 ⟨0, 0, 0, 0⟩
def lamP : Expr → Arguments
  | .Lambda p _ _ _ => p
  | _ => defArgs st_law
def lamB : Expr → Expr
  | .Lambda _ b _ _ => b
  | e => e
def lamS : Expr → Scope
  | .Lambda _ _ sc _ => sc
  | _ => defScope st_law
def lamO : Expr → Pos
  | .Lambda _ _ _ p => p
  | _ => ⟨0, 0, 0, 0⟩
abbrev lam2 : Expr := retArg st_word_to_layout 2
abbrev lam3 : Expr := retArg st_word_to_layout 3
theorem ns2 : NScope ["layout", "place", "habit"] ["layout", "place"] ["habit"] (lamS lam2) := NdefX.nscope_by (by decide +kernel)
theorem ns3 : NScope ["layout", "other"] ["layout"] ["other"] (lamS lam3) := NdefX.nscope_by (by decide +kernel)
section
variable {P : Program} {w : World} {K : PySem.W.Frag} {mg : Str → Option Value} {base : Heap}
/-- what a step promises -/
def spStep (h : List (List Int)) (n : Nat) : Sp := fun vs H Q _ => ∃ (a : Addr) (L : List Int) (p : Int), vs = [.ref a, .int p] ∧ KX H a L ∧ (∀ i ∈ L, InR n i) ∧ L.length ≤ 1000 ∧ InR n p ∧
  ∀ H' q, Same H H' → H q = none → FT H' q (stp h p L) → Q (.ref q) H'
def spLam1 (K : PySem.W.Frag) (h : List (List Int)) (n : Nat) : List (Option V) → Sp := fun ws vs H Q E => ∃ v, ws = [some v] ∧ TII K H v h ∧ Hb n h ∧ spStep h n vs H Q E
theorem lok2 (CM : Cal P w K mg base 1 "move" (spMove K)) (h : List (List Int)) (n : Nat) (q : Str) (cl : List (Str × Addr)) (c f : Addr) : LOk P w K mg base CX0 2 f ⟨q, lamP lam2, lamB lam2, lamS lam2, cl, c⟩ ["layout", "place"] ["habit"] (spLam1 K h n) := by
  refine lok_of ns2 (fun pm ctv us hl => ?_) (fun ws vs H Q E hq => ?_) (fun A outer s H vs ws Q E hr _ hsp => ?_)
  · match us, hl with
    | [_, _], _ => rfl
  · obtain ⟨v, _, _, _, a, L, p, rfl, _⟩ := hq
    rfl
  · obtain ⟨v, rfl, hT, hb, a, L, p, rfl, ha, hin, hlen, hp, q⟩ := hsp
    refine ⟨_, pc CM hr (pa_cons (pv 2) (pa_cons (pv 0) (pa_cons (pv 1) pa_nil))), ?_⟩
    exact ⟨_, rfl, _, rfl, _, rfl, v, h, n, a, L, p, rfl, hT, hb, .inl ha, hin, hlen, hp, q⟩
/-- is it the goal? -/
def spGoal (g : List Int) : Sp := fun vs H Q _ => ∃ (a : Addr) (L : List Int), vs = [.ref a] ∧ KX H a L ∧ L.length ≤ 1000 ∧ Q (.bl (decide (L = g))) H
def spLam3 (g : List Int) : List (Option V) → Sp := fun ws vs H Q E => ∃ b, ws = [some (.ref b)] ∧ KX H b g ∧ g.length ≤ 1000 ∧ spGoal g vs H Q E
theorem lok3 (g : List Int) (q : Str) (cl : List (Str × Addr)) (c f : Addr) : LOk P w K mg base CX0 1 f ⟨q, lamP lam3, lamB lam3, lamS lam3, cl, c⟩ ["layout"] ["other"] (spLam3 g) := by
  refine lok_of ns3 (fun pm ctv us hl => ?_) (fun ws vs H Q E hq => ?_) (fun A outer s H vs ws Q E hr _ hsp => ?_)
  · match us, hl with
    | [_], _ => rfl
  · obtain ⟨b, _, _, _, a, L, rfl, _⟩ := hq
    rfl
  · obtain ⟨b, rfl, hg, hgl, a, L, rfl, ha, hlen, q⟩ := hsp
    refine ⟨_, pe_cmpR (op_eqD hr.units) (pv 0) (pv 1) (nomark _), ?_⟩
    refine ⟨_, rfl, _, rfl, _, _, dp_tup (K := K) (ns := L) (.inl ha), dp_tup (K := K) (ns := g) (.inl hg), shaped_tup L, shaped_tup g, ?_⟩
    rw [eqv_tup]
    exact q
end
end RH
set_option Elab.async false
set_option linter.all false
set_option maxRecDepth 100000
set_option maxHeartbeats 2000000
namespace RH
open PySem PySem.Spec PyProof.Rows L2
/-! ### the search for depths -/
/-- tuples stay -/
def TK (H H' : Hp) : Prop := ∀ b xs, Rd H b (.tup xs) → Rd H' b (.tup xs)
theorem TK.refl (H : Hp) : TK H H := fun _ _ e => e
theorem TK.trans {H H1 H2 : Hp} (a : TK H H1) (b : TK H1 H2) : TK H H2 := fun c xs e => b c xs (a c xs e)
theorem TK.same {H H1 : Hp} (a : Same H H1) : TK H H1 := fun c xs e => by
  rcases e with e | ⟨o, e⟩
  · exact .inl (a c _ e)
  · exact .inr ⟨o, a c _ e⟩
/-- what holds no tuple -/
def NoT (o : HO) : Prop := (∀ xs, o ≠ .tup xs) ∧ ∀ ob u, o ≠ .frz ob u
theorem TK.upd {H : Hp} {p : Addr} {o o' : HO} (h : H p = some o) (n : NoT o) : TK H (upd H p o') := fun b xs e => by
  by_cases z : b = p
  · subst z
    rcases e with e | ⟨ob, e⟩
    · rw [h] at e
      exact absurd (Option.some.inj e) (n.1 xs)
    · rw [h] at e
      exact absurd (Option.some.inj e) (n.2 ob _)
  · rcases e with e | ⟨ob, e⟩
    · exact .inl (by rw [upd_ne z]; exact e)
    · exact .inr ⟨ob, by rw [upd_ne z]; exact e⟩
theorem EX.on {H H' : Hp} {xs : List V} {ls : List (List Int)} (e : TK H H') (h : EX H xs ls) : EX H' xs ls := h.imp fun b s z => e b _ z
theorem KB.on {H H' : Hp} {as : List (List Int × V)} {bs : List Addr} (e : TK H H') (h : KB H as bs) : KB H' as bs := h.imp fun b s z => e b _ z
theorem Same.upd {H H' : Hp} {p : Addr} {o : HO} (a : Same H H') (h : H p = none) : Same H (upd H' p o) := fun b u e => by
  rw [upd_ne (ne_of_none e h)]
  exact a b u e
theorem not_tup_l {xs : List V} : NoT (.lst xs) := ⟨fun _ z => (nomatch z), fun _ _ z => (nomatch z)⟩
theorem not_tup_d {φ : Heap → Prop} : NoT (.ext φ) := ⟨fun _ z => (nomatch z), fun _ _ z => (nomatch z)⟩
/-- what a search is handed: the step, what keeps it alive, the habit -/
structure GD where
  f : Addr
  live : Hp → Prop
  h : List (List Int)
  n : Nat
section
variable {P : Program} {w : World} {K : PySem.W.Frag} {mg : Str → Option Value} {base : Heap}
theorem fst_snoc {bs : List (List Int × V)} {ls : List SW} {x : List Int × V} {y : SW} (h : bs.map Prod.fst = ls.map Prod.fst) (e : x.1 = y.1) : (bs ++ [x]).map Prod.fst = (ls ++ [y]).map Prod.fst := by
  rw [List.map_append, List.map_append, h, List.map_singleton, List.map_singleton, e]
/-- what stands within a level -/
def MidB (P : Program) (w : World) (H : Hp) (h : List (List Int)) (n : Nat) (L : List Int) (R : Hp → List SW → List (List Int × V) → Prop) (k : Nat) (d l u : Addr) (xs : List V) (i j : Nat) (H' : Hp) : Prop :=
  ∃ (as : List (List Int × V)) (ks : List Addr) (us : List V), Same H H' ∧ H' d = some (DE P w as ks d) ∧ KB H' as ks ∧ as.map Prod.fst = (fd h n L k ++ prt h n L k (i * n + j)).map Prod.fst ∧ R H' (fd h n L k ++ prt h n L k (i * n + j)) as ∧
    H' l = some (.lst xs) ∧ EX H' xs ((lv h n L k).map Prod.fst) ∧ H' u = some (.lst us) ∧ EX H' us ((prt h n L k (i * n + j)).map Prod.fst)
theorem lv_row {h : List (List Int)} {n : Nat} {L : List Int} {k i : Nat} {xs : List V} {x : V} {H : Hp} (hE : EX H xs ((lv h n L k).map Prod.fst)) (hx : xs[i]? = some x) : ∃ (q : SW) (b : Addr), (lv h n L k)[i]? = some q ∧ x = .ref b ∧ KX H b q.1 := by
  have hi : i < (lv h n L k).length := by
    have h1 := (List.getElem?_eq_some_iff.mp hx).1
    rw [hE.len, List.length_map] at h1
    exact h1
  have hq : (lv h n L k)[i]? = some (lv h n L k)[i] := List.getElem?_eq_getElem hi
  have hs : ((lv h n L k).map Prod.fst)[i]? = some ((lv h n L k)[i]).1 := by
    rw [List.getElem?_map, hq]
    rfl
  obtain ⟨b, h1, h2⟩ := hE.at hs
  rw [hx] at h1
  exact ⟨_, b, hq, Option.some.inj h1, h2⟩
theorem MidB.row {P : Program} {w : World} {H H' : Hp} {h : List (List Int)} {n : Nat} {L : List Int} {R : Hp → List SW → List (List Int × V) → Prop} {k : Nat} {d l u : Addr} {xs : List V} {i : Nat} (m : MidB P w H h n L R k d l u xs i n H') : MidB P w H h n L R k d l u xs (i + 1) 0 H' := by
  unfold MidB at m ⊢
  rw [show (i + 1) * n + 0 = i * n + n by rw [Nat.succ_mul]; rfl]
  exact m
end
end RH
set_option Elab.async false
set_option linter.all false
set_option maxRecDepth 100000
set_option maxHeartbeats 2000000
namespace RH
open PySem PySem.Spec PyProof.Rows L2
/-! ### the way back, the least word -/
theorem nd_val {s w w' : List Int} : ∀ {l : List SW}, (l.map Prod.fst).Nodup → (s, w) ∈ l → (s, w') ∈ l → w = w'
  | [], _, z, _ => nomatch z
  | x :: l, nd, a, b => by
    rw [List.map_cons, List.nodup_cons] at nd
    rcases List.mem_cons.mp a with e1 | a
    · rcases List.mem_cons.mp b with e2 | b
      · rw [← e1] at e2
        exact (Prod.mk.inj e2).2.symm
      · rw [← e1] at nd
        exact absurd (List.mem_map.mpr ⟨_, b, rfl⟩) nd.1
    · rcases List.mem_cons.mp b with e2 | b
      · rw [← e2] at nd
        exact absurd (List.mem_map.mpr ⟨_, a, rfl⟩) nd.1
      · exact nd_val nd.2 a b
theorem low {h : List (List Int)} {n : Nat} {L : List Int} : ∀ k : Nat, lv h n L k ≠ [] → k + 1 ≤ (fd h n L k).length
  | 0, _ => Nat.le_refl _
  | k + 1, e => by
    have e1 : lv h n L k ≠ [] := fun z => e (by rw [lv_succ, z]; rfl)
    have := low k e1
    have h2 : 0 < (lv h n L (k + 1)).length := List.length_pos_iff.mpr e
    rw [fd_succ, List.length_append]
    omega
/-- from where each state was come to -/
def CW (L : List Int) (H : Hp) (l : List SW) (as : List (List Int × V)) : Prop := as.map Prod.fst = l.map Prod.fst ∧ ∀ q ∈ as, (q.1 = L ∧ q.2 = .non ∧ (L, []) ∈ l) ∨
  ∃ (t b : Addr) (p : Int) (s' w' : List Int), q.2 = .ref t ∧ Rd H t (.tup [.ref b, .int p]) ∧ KX H b s' ∧ (s', w') ∈ l ∧ (q.1, w' ++ [p]) ∈ l
theorem CW.on {L : List Int} {H H' : Hp} {l : List SW} {as : List (List Int × V)} (e : TK H H') (c : CW L H l as) : CW L H' l as := ⟨c.1, fun q hq => by
  rcases c.2 q hq with z | ⟨t, b, p, s', w', h1, h2, h3, h4⟩
  · exact .inl z
  · exact .inr ⟨t, b, p, s', w', h1, e _ _ h2, e _ _ h3, h4⟩⟩
theorem CW.snoc {L : List Int} {H : Hp} {l : List SW} {as : List (List Int × V)} {s s' w' : List Int} {t b : Addr} {p : Int} (c : CW L H l as) (h2 : Rd H t (.tup [.ref b, .int p])) (h3 : KX H b s') (h4 : (s', w') ∈ l) : CW L H (l ++ [(s, w' ++ [p])]) (as ++ [(s, .ref t)]) := by
  refine ⟨fst_snoc c.1 rfl, fun q hq => ?_⟩
  rcases List.mem_append.mp hq with hq | hq
  · rcases c.2 q hq with ⟨z1, z2, z3⟩ | ⟨t, b, p, s', w', h1, h2, h3, h4, h5⟩
    · exact .inl ⟨z1, z2, List.mem_append_left _ z3⟩
    · exact .inr ⟨t, b, p, s', w', h1, h2, h3, List.mem_append_left _ h4, List.mem_append_left _ h5⟩
  · rw [List.mem_singleton.mp hq]
    exact .inr ⟨t, b, p, s', w', rfl, h2, h3, List.mem_append_left _ h4, List.mem_append_right _ (List.mem_singleton.mpr rfl)⟩
theorem fns : ∀ {as : List (List Int × V)} {s : List Int} {v w : V}, (as.map Prod.fst).Nodup → (s, v) ∈ as → (s, w) ∈ as → v = w
  | q :: as, s, v, w, nd, h1, h2 => by
    rw [List.map_cons, List.nodup_cons] at nd
    rcases List.mem_cons.mp h1 with e1 | h1
    · rcases List.mem_cons.mp h2 with e2 | h2
      · exact (Prod.mk.inj (e1.trans e2.symm)).2
      · rw [← e1] at nd
        exact absurd (List.mem_map.mpr ⟨_, h2, rfl⟩) nd.1
    · rcases List.mem_cons.mp h2 with e2 | h2
      · rw [← e2] at nd
        exact absurd (List.mem_map.mpr ⟨_, h1, rfl⟩) nd.1
      · exact fns nd.2 h1 h2
theorem ref_non (t : Addr) : decide (V.ref t = V.non) = false := decide_eq_false fun z => nomatch z
section
variable {P : Program} {w : World} {K : PySem.W.Frag} {mg : Str → Option Value} {base : Heap}
def spTraced (P : Program) (w : World) : Sp := fun vs H Q _ => ∃ (c b : Addr) (as : List (List Int × V)) (ks : List Addr) (s L wd : List Int) (l : List SW), vs = [.ref c, .ref b] ∧ H c = some (DE P w as ks c) ∧ KB H as ks ∧ KX H b s ∧ (l.map Prod.fst).Nodup ∧ CW L H l as ∧ (s, wd) ∈ l ∧ wd.length ≤ 1000 ∧
  ∀ (H' : Hp) (q : Addr), Same H H' → H' q = some (.tup (wd.map V.int)) → Q (.ref q) H'
theorem ok_traced (F : Df K mg "traced" st_traced ["came", "state"]) (B : Bu mg) : Cal P w K mg base 1 "traced" (spTraced P w) := by
  refine mkCal F sc_traced (fun vs H Q E h => ?_) (fun f cdv A outer s H vs Q E hr h => ?_)
  · obtain ⟨c, b, as, ks, s, L, wd, l, rfl, _⟩ := h
    rfl
  · obtain ⟨c, b, as, ks, s, L, wd, sl, rfl, hc, hkb, hb, hnd, hR, hs, hd, q⟩ := h
    refine ⟨_, pss_cons (ps_set (i := 2) sc_traced.nd rfl (.inl rfl) (pe_lst pa_nil))
      (pss_cons (ps_while PassesOwn.never (pt_cmp (pc_notN (pe_dgetE (hu_of hr) (pv 0) (pv 1) (fun _ _ => rfl))))
        (pss_cons (ps_asg (pe_dgetE (hu_of hr) (pv 0) (pv 1) (fun _ _ => rfl)) (pg_tup rfl (pgs_cons (pg_name (i := 1) sc_traced.nd rfl (Or.inl rfl)) (pgs_cons (pg_name (i := 3) sc_traced.nd rfl (Or.inl rfl)) pgs_nil))))
        (pss_one (ps_expr (pe_bm PySem.F.plainAttrs_list PySem.F.slot_list_append PySem.F.type_list_append mt_append (pv 2) (pa_cons (pv 3) pa_nil))))))
      (pss_cons (ps_expr (pe_bm0 PySem.F.plainAttrs_list PySem.F.slot_list_reverse PySem.F.type_list_reverse mt_reverse (pv 2)))
      (pss_one (ps_ret (pe_tupleOf (by rfl) B.tuple (pv 2)))))), ?_⟩
    have hnd2 : (as.map Prod.fst).Nodup := by rw [hR.1]; exact hnd
    have has : ∀ {x y : List Int}, (x, y) ∈ sl → x ∈ as.map Prod.fst := fun hx => by
      rw [hR.1]
      exact List.mem_map.mpr ⟨_, hx, rfl⟩
    refine ⟨Nat.zero_le _, fun l hl => ?_⟩
    refine ⟨fun m σ H' => ∃ (b' : Addr) (s' w' ws : List Int), m = w'.length ∧ (∃ y, σ = [some (.ref c), some (.ref b'), some (.ref l), y]) ∧ Same H H' ∧ KX H' b' s' ∧ (s', w') ∈ sl ∧ H' l = some (.lst (ws.map V.int)) ∧ wd = w' ++ ws.reverse,
      ⟨wd.length, b, s, wd, [], rfl, ⟨none, rfl⟩, same_new hl, TK.same (same_new hl) _ _ hb, hs, upd_same, (List.append_nil _).symm⟩, ?_⟩
    rintro m σ H1 ⟨b', s', w', ws, rfl, ⟨y, rfl⟩, sm, eb, hs', eL, hlen⟩
    have hkb1 := hkb.on (TK.same sm)
    have hl2 : wd.length = w'.length + ws.length := by rw [hlen, List.length_append, List.length_reverse]
    refine ⟨_, rfl, _, rfl, c, b', as, ks, s', rfl, rfl, sm _ _ hc, hkb1, eb, has hs', fun v hvm => ⟨_, rfl, ?_⟩⟩
    rcases hR.2 _ hvm with ⟨e1, e2, e3⟩ | ⟨t, b2, p, s2, w2, e1, h2, h3, h4, h5⟩
    · have e2 : v = .non := e2
      have e1' : s' = L := e1
      subst e2
      have ew : w' = [] := nd_val hnd hs' (by rw [e1']; exact e3)
      refine ifF rfl ⟨_, rfl, .inl ⟨rfl, _, lstAt eL⟩, l, _, rfl, rfl, eL, ?_⟩
      have el : (upd H1 l (.lst (ws.map V.int).reverse)) l = some (.lst (ws.map V.int).reverse) := upd_same
      refine ⟨_, rfl, .inl ⟨l, _, rfl, lstAt el, fun r hr2 => q _ r ((Same.upd sm hl).trans (same_new hr2)) ?_⟩⟩
      rw [upd_same, hlen, ew, List.nil_append, List.map_reverse]
    · have e1 : v = .ref t := e1
      subst e1
      have h5 : (s', w2 ++ [p]) ∈ sl := h5
      have ew : w' = w2 ++ [p] := nd_val hnd hs' h5
      have ewl : w'.length = w2.length + 1 := by rw [ew, List.length_append]; rfl
      refine ifT (by rw [ref_non]; rfl) ⟨fun σ' H' => ∃ m', m' < w'.length ∧ ∃ (b' : Addr) (s' w' ws : List Int), m' = w'.length ∧ (∃ y, σ' = [some (.ref c), some (.ref b'), some (.ref l), y]) ∧ Same H H' ∧ KX H' b' s' ∧ (s', w') ∈ sl ∧ H' l = some (.lst (ws.map V.int)) ∧ wd = w' ++ ws.reverse, fun _ _ h => h, ?_⟩
      refine ⟨_, rfl, _, rfl, c, b', as, ks, s', rfl, rfl, sm _ _ hc, hkb1, eb, has hs', fun v2 hvm2 => ?_⟩
      have ev2 : v2 = .ref t := fns hnd2 hvm2 hvm
      subst ev2
      refine ⟨t, _, rfl, .inl (TK.same sm _ _ h2), rfl, _, _, rfl, _, _, rfl, rfl, ?_⟩
      refine ⟨_, rfl, .inl ⟨rfl, _, lstAt eL⟩, _, rfl, l, _, .int p, rfl, rfl, eL, by rw [List.length_map]; exact small1000 (by omega), ?_⟩
      refine ⟨w2.length, by omega, b2, s2, w2, ws ++ [p], rfl, ⟨_, rfl⟩, Same.upd sm hl, ?_, h4, ?_, ?_⟩
      · exact TK.upd eL not_tup_l _ _ (TK.same sm _ _ h3)
      · rw [upd_same, List.map_append]
        rfl
      · rw [hlen, ew, List.reverse_append, List.append_assoc]
        rfl
end
/-- what the search for a goal is handed -/
structure GL extends GD where
  f2 : Addr
  live2 : Hp → Prop
  goal : List Int
section
variable {P : Program} {w : World} {K : PySem.W.Frag} {mg : Str → Option Value} {base : Heap}
def preL (P : Program) (w : World) (K : PySem.W.Frag) (mg : Str → Option Value) (base : Heap) (g : GL) : List Env → Shared → Hp → Prop := fun outer s H =>
  Callable P w K mg base CX0 2 g.f g.live (spStep g.h g.n) outer s H ∧ Callable P w K mg base CX0 1 g.f2 g.live2 (spGoal g.goal) outer s H
def spLeast (K : PySem.W.Frag) (g : GL) : Sp := fun vs H Q _ => ∃ (a t : Addr) (L : List Int), vs = [.ref a, .ref t, .ref g.f, .ref g.f2] ∧ KX H a L ∧ SqT K H t ((rg g.n).map V.int) ∧
  (∀ H', Same H H' → g.live H') ∧ (∀ H', Same H H' → g.live2 H') ∧ Hb g.n g.h ∧ L.Perm (rg g.n) ∧
  (∀ (H' : Hp) (q : Addr) (wd : List Int) (k : Nat), Same H H' → (g.goal, wd) ∈ fd g.h g.n L k → H' q = some (.tup (wd.map V.int)) → Q (.ref q) H') ∧
  (∀ (H' : Hp) (k : Nat), Same H H' → lv g.h g.n L k = [] → g.goal ∉ (fd g.h g.n L k).map Prod.fst → Q .non H')
theorem ok_least {f : Addr} {fdat : FuncData} (F : Fun K "least_word" "least_word" st_least_word f fdat) (B : Bu mg) (CT : Cal P w K mg base 1 "traced" (spTraced P w)) (g : GL) : FnC P w K mg base CX0 3 f fdat ["start", "touches", "step", "is_goal"] (preL P w K mg base g) (spLeast K g) := by
  refine fnC_of F sc_least_word (fun vs H Q E h => ?_) (fun cdv A outer s H vs Q E hr hP h => ?_)
  · obtain ⟨a, t, L, rfl, _⟩ := h
    rfl
  · obtain ⟨a, t, L, rfl, ha, ht, hlive, hlive2, hb, hL, qy, qn0⟩ := h
    obtain ⟨hP1, hP2⟩ := hP
    have n5 := hb.hi
    refine ⟨_, pss_cons (ps_if (pt_val (pe_can hP2 rfl hr (by decide) pass0 (i := 3) rfl (Or.inl rfl) (pa_cons (pv 0) pa_nil))) (pss_one (ps_ret (pe_tup pa_nil))) pss_nil)
      (pss_cons (ps_set (i := 4) sc_least_word.nd rfl (.inl rfl) (pe_disp1E hr.units0 (pv 0) pe_non))
      (pss_cons (ps_set (i := 5) sc_least_word.nd rfl (.inl rfl) (pe_lst (pa_cons (pv 0) pa_nil)))
      (pss_cons (ps_while PassesOwn.never (pt_truth (pv 5) (by intro _; rfl))
        (pss_cons (ps_set (i := 6) sc_least_word.nd rfl (.inl rfl) (pe_lst pa_nil))
        (pss_cons (ps_for PassesOwn.never rfl (pi_list (pv 5)) (pg_name (i := 7) sc_least_word.nd rfl (Or.inl rfl))
          (pss_one (ps_for PassesOwn.never rfl (pi_tup (pv 1)) (pg_name (i := 8) sc_least_word.nd rfl (Or.inl rfl))
            (pss_cons (ps_set (i := 9) sc_least_word.nd rfl (.inl rfl) (pe_can hP1 rfl hr (by decide) pass0 (i := 2) rfl (Or.inl rfl) (pa_cons (pv 7) (pa_cons (pv 8) pa_nil))))
            (pss_one (ps_if (pt_cmp (pc_dnotinE (hu_of hr) (pv 9) (pv 4)))
              (pss_cons (ps_dputE (hu_of hr) (pv 4) (pv 9) (pe_tup (pa_cons (pv 7) (pa_cons (pv 8) pa_nil))) rfl)
              (pss_cons (ps_if (pt_val (pe_can hP2 rfl hr (by decide) pass0 (i := 3) rfl (Or.inl rfl) (pa_cons (pv 9) pa_nil))) (pss_one (ps_ret (pc CT hr (pa_cons (pv 4) (pa_cons (pv 9) pa_nil))))) pss_nil)
              (pss_one (ps_expr (pe_bm PySem.F.plainAttrs_list PySem.F.slot_list_append PySem.F.type_list_append mt_append (pv 6) (pa_cons (pv 9) pa_nil)))))) pss_nil))))))
        (pss_one (ps_set (i := 5) sc_least_word.nd rfl (.inl rfl) (pv 6))))))
      (pss_one (ps_ret pe_non))))), ?_⟩
    refine ⟨rfl, hlive2 _ (Same.refl H), _, rfl, hlive2 _ (Same.refl H), a, L, rfl, ha, by rw [perm_len hL]; omega, _, rfl, ite2 (fun eg => ?_) (fun eg => ?_)⟩
    · have eg : L = g.goal := of_decide_eq_true eg
      exact ⟨Nat.zero_le _, fun r hr2 => qy _ r [] 0 (same_new hr2) (by rw [← eg]; exact fd_start 0) upd_same⟩
    have eg : L ≠ g.goal := fun z => eg (decide_eq_true z)
    intro d hd
    refine ⟨_, rfl, upd_same, a, L, rfl, TK.same (same_new hd) _ _ ha, ?_⟩
    have hd1 : Same H (upd (upd H d (DE P w [] [] d)) d (DE P w [(L, .non)] [a] d)) := Same.upd (same_new hd) hd
    refine ⟨_, rfl, by show 1 ≤ sizeLine; decide, fun l hl => ?_⟩
    refine ⟨fun m σ H' => ∃ (k : Nat) (as : List (List Int × V)) (ks : List Addr) (xs : List V) (l : Addr), m = mea g.h g.n L k ∧ (∃ y6 y7 y8 y9, σ = [some (.ref a), some (.ref t), some (.ref g.f), some (.ref g.f2), some (.ref d), some (.ref l), y6, y7, y8, y9]) ∧
      Same H H' ∧ H' d = some (DE P w as ks d) ∧ KB H' as ks ∧ CW L H' (fd g.h g.n L k) as ∧ g.goal ∉ (fd g.h g.n L k).map Prod.fst ∧ H' l = some (.lst xs) ∧ EX H' xs ((lv g.h g.n L k).map Prod.fst), ⟨mea g.h g.n L 0, 0, [(L, .non)], [a], [.ref a], l, rfl, ⟨none, none, none, none, rfl⟩, hd1.trans (same_new hl), same_new hl _ _ upd_same, ?_, ?_, ?_, upd_same, ?_⟩, ?_⟩
    · exact .cons (TK.same (hd1.trans (same_new hl)) _ _ ha) .nil
    · refine ⟨rfl, fun q hq => .inl ?_⟩
      rw [List.mem_singleton.mp hq]
      exact ⟨rfl, rfl, fd_start 0⟩
    · exact fun z => eg (List.mem_singleton.mp z).symm
    · exact .cons (TK.same (hd1.trans (same_new hl)) _ _ ha) .nil
    rintro m σ H1 ⟨k, as, ks, xs, l, rfl, ⟨y6, y7, y8, y9, rfl⟩, sm, eD, kb, hv, hg, eL, hE⟩
    have lx : xs.length = (lv g.h g.n L k).length := hE.len.trans (List.length_map ..)
    refine ⟨_, rfl, !xs.isEmpty, .inl ⟨xs, lstAt eL, rfl⟩, ite2 (fun ex => ?_) (fun ex => ?_)⟩
    · have hne : lv g.h g.n L k ≠ [] := by
        intro z
        rw [z] at lx
        rw [List.eq_nil_of_length_eq_zero lx] at ex
        cases ex
      have hk : k ≤ 120 := by
        have h1 := low k hne
        have h2 := hb.fd_few hL k
        omega
      refine ⟨fun σ' H' => ∃ m', m' < mea g.h g.n L k ∧ ∃ (k : Nat) (as : List (List Int × V)) (ks : List Addr) (xs : List V) (l : Addr), m' = mea g.h g.n L k ∧ (∃ y6 y7 y8 y9, σ' = [some (.ref a), some (.ref t), some (.ref g.f), some (.ref g.f2), some (.ref d), some (.ref l), y6, y7, y8, y9]) ∧
        Same H H' ∧ H' d = some (DE P w as ks d) ∧ KB H' as ks ∧ CW L H' (fd g.h g.n L k) as ∧ g.goal ∉ (fd g.h g.n L k).map Prod.fst ∧ H' l = some (.lst xs) ∧ EX H' xs ((lv g.h g.n L k).map Prod.fst), fun _ _ h => h, ?_⟩
      refine ⟨Nat.zero_le _, fun u hu => ?_⟩
      have su := same_new (o := .lst []) hu
      have hlu : l ≠ u := ne_of_none eL hu
      have huH := none_of sm hu
      refine ⟨_, rfl, l, rfl, ⟨_, lstAt (su _ _ eL)⟩, ?_⟩
      refine for_list (xs := xs) (fun i σ H' => MidB P w H g.h g.n L (fun H' l as => CW L H' l as ∧ g.goal ∉ l.map Prod.fst) k d l u xs i 0 H' ∧ ∃ y7 y8 y9, σ = [some (.ref a), some (.ref t), some (.ref g.f), some (.ref g.f2), some (.ref d), some (.ref l), some (.ref u), y7, y8, y9])
        ⟨⟨as, ks, [], sm.trans su, su _ _ eD, kb.on (TK.same su), ?_, ?_, su _ _ eL, hE.on (TK.same su), upd_same, ?_⟩, _, _, _, rfl⟩ (fun i σ H' _ h' => ?_) (fun i x σ H2 hx h' => ?_) (fun σ H2 h' => ?_)
      · rw [Nat.zero_mul, prt_zero, List.append_nil]
        exact hv.1
      · rw [Nat.zero_mul, prt_zero, List.append_nil]
        exact ⟨hv.on (TK.same su), hg⟩
      · rw [Nat.zero_mul, prt_zero]
        exact .nil
      · obtain ⟨⟨_, _, _, _, _, _, _, _, e, _⟩, _⟩ := h'
        exact lstAt e
      · obtain ⟨hM, z7, z8, z9, rfl⟩ := h'
        obtain ⟨q0, b, hq0, rfl, _⟩ := lv_row hE hx
        have hp0 := hb.lv_perm hL k q0 (List.mem_of_getElem? hq0)
        refine ⟨_, rfl, t, rfl, ⟨_, onT (hM.choose_spec.choose_spec.choose_spec.1) ht⟩, ?_⟩
        refine for_tup (xs := (rg g.n).map V.int) (fun j σ H' => MidB P w H g.h g.n L (fun H' l as => CW L H' l as ∧ g.goal ∉ l.map Prod.fst) k d l u xs i j H' ∧ ∃ y8 y9, σ = [some (.ref a), some (.ref t), some (.ref g.f), some (.ref g.f2), some (.ref d), some (.ref l), some (.ref u), some (.ref b), y8, y9])
          ⟨hM, _, _, rfl⟩ (fun j σ H' _ h' => onT (h'.1.choose_spec.choose_spec.choose_spec.1) ht) (fun j x2 σ H3 hx2 h' => ?_) (fun σ H3 h' => ?_)
        · obtain ⟨⟨bs, ks, us, sm3, eD3, kb3, hf3, hv3, eL3, hE3, eU3, hF3⟩, w8, w9, rfl⟩ := h'
          obtain ⟨pj, hpj, rfl⟩ := map_at hx2
          have hj : j < g.n := by
            have := (List.getElem?_eq_some_iff.mp hpj).1
            rw [rg_len] at this
            exact this
          have epj : pj = (j : Int) := by
            rw [rg_at hj] at hpj
            exact (Option.some.inj hpj).symm
          subst epj
          obtain ⟨q0', b', hq0', eb', hb3⟩ := lv_row hE3 hx
          cases eb'
          rw [hq0] at hq0'
          cases hq0'
          have hfew := hb.prt_few hL k (i * g.n + j)
          have blen : bs.length ≤ 120 := by
            have := congrArg List.length hf3
            rw [List.length_map, List.length_map] at this
            omega
          have ulen : us.length ≤ 120 := by
            have h1 := hF3.len
            rw [List.length_map] at h1
            rw [List.length_append] at hfew
            omega
          have hin0 : (q0.1, q0.2) ∈ fd g.h g.n L k ++ prt g.h g.n L k (i * g.n + j) := List.mem_append_left _ (lv_fd (List.mem_of_getElem? hq0))
          refine ⟨rfl, hlive _ sm3, _, rfl, _, rfl, hlive _ sm3, b, q0.1, (j : Int), rfl, hb3, fun z hz => perm_in hp0 hz, by rw [perm_len hp0]; omega, ⟨by omega, by omega⟩, fun H4 qn s4 nq eq4 => ?_⟩
          have sm4 := sm3.trans s4
          have eD4 := s4 _ _ eD3
          have eU4 := s4 _ _ eU3
          have kb4 := kb3.on (TK.same s4)
          have hv4 := hv3.1.on (TK.same s4)
          refine ⟨_, rfl, _, rfl, d, qn, bs, ks, stp g.h (j : Int) q0.1, rfl, rfl, eD4, kb4, eq4.kx, _, rfl, ?_⟩
          by_cases hm : stp g.h (j : Int) q0.1 ∈ bs.map Prod.fst
          · have hm2 := hm
            rw [hf3] at hm2
            have ep := prt_old hq0 hj hm2
            refine ifF (by rw [decide_eq_true hm]; rfl) ⟨⟨bs, ks, us, sm4, eD4, kb4, ?_, ?_, s4 _ _ eL3, hE3.on (TK.same s4), eU4, ?_⟩, _, _, rfl⟩
            · rw [show i * g.n + (j + 1) = i * g.n + j + 1 from rfl, ep]
              exact hf3
            · rw [show i * g.n + (j + 1) = i * g.n + j + 1 from rfl, ep]
              exact ⟨hv4, hv3.2⟩
            · rw [show i * g.n + (j + 1) = i * g.n + j + 1 from rfl, ep]
              exact hF3.on (TK.same s4)
          · have hm2 := hm
            rw [hf3] at hm2
            have ep := prt_new hq0 hj hm2
            refine ifT (by rw [decide_eq_false hm]; rfl) ?_
            refine ⟨_, rfl, _, rfl, by show 2 ≤ sizeLine; decide, fun T hT => ?_⟩
            have sT := same_new (o := .tup [.ref b, .int (j : Int)]) hT
            have eT : Rd (upd H4 T (.tup [.ref b, .int (j : Int)])) T (.tup [.ref b, .int (j : Int)]) := .inl upd_same
            have smT := sm4.trans sT
            have eDT := sT _ _ eD4
            have eUT := sT _ _ eU4
            have eLT := sT _ _ (s4 _ _ eL3)
            have eqT := TK.same sT _ _ eq4.kx
            have kbT := kb4.on (TK.same sT)
            have tk4T := TK.same (s4.trans sT)
            have hbT := tk4T _ _ hb3
            have hvT := hv4.on (TK.same sT)
            generalize (upd H4 T (.tup [.ref b, .int (j : Int)])) = HT at *
            refine ⟨_, rfl, _, rfl, d, qn, bs, ks, stp g.h (j : Int) q0.1, rfl, rfl, eDT, kbT, eqT, hm, small1000 (by omega), ?_⟩
            have hv5 : CW L HT (fd g.h g.n L k ++ prt g.h g.n L k (i * g.n + j + 1)) (bs ++ [(stp g.h (j : Int) q0.1, V.ref T)]) := by
              rw [ep, ← List.append_assoc]
              exact hvT.snoc eT hbT hin0
            have tk5 : TK HT (upd HT d (DE P w (bs ++ [(stp g.h (j : Int) q0.1, V.ref T)]) (ks ++ [qn]) d)) := TK.upd eDT not_tup_d
            have eU5 : (upd HT d (DE P w (bs ++ [(stp g.h (j : Int) q0.1, V.ref T)]) (ks ++ [qn]) d)) u = some (.lst us) := by
              rw [upd_ne (ne_of eUT eDT (fun z => nomatch z))]
              exact eUT
            have eL5 : (upd HT d (DE P w (bs ++ [(stp g.h (j : Int) q0.1, V.ref T)]) (ks ++ [qn]) d)) l = some (.lst xs) := by
              rw [upd_ne (ne_of eLT eDT (fun z => nomatch z))]
              exact eLT
            have sm5 : Same H (upd HT d (DE P w (bs ++ [(stp g.h (j : Int) q0.1, V.ref T)]) (ks ++ [qn]) d)) := Same.upd smT hd
            have eD5 : (upd HT d (DE P w (bs ++ [(stp g.h (j : Int) q0.1, V.ref T)]) (ks ++ [qn]) d)) d = some (DE P w (bs ++ [(stp g.h (j : Int) q0.1, V.ref T)]) (ks ++ [qn]) d) := upd_same
            have hv6 := hv5.on tk5
            have eq5 := tk5 _ _ eqT
            have tk45 := tk4T.trans tk5
            have kb5 : KB (upd HT d (DE P w (bs ++ [(stp g.h (j : Int) q0.1, V.ref T)]) (ks ++ [qn]) d)) (bs ++ [(stp g.h (j : Int) q0.1, V.ref T)]) (ks ++ [qn]) := (kbT.on tk5).snoc (q := (stp g.h (j : Int) q0.1, V.ref T)) (b := qn) eq5
            have hnew : (stp g.h (j : Int) q0.1, q0.2 ++ [(j : Int)]) ∈ fd g.h g.n L k ++ prt g.h g.n L k (i * g.n + j + 1) := by
              rw [ep]
              exact List.mem_append_right _ (List.mem_append_right _ (List.mem_singleton.mpr rfl))
            have hp2 := hb.fd_perm hL (k + 1) _ (prt_fd hnew)
            have hwl : (q0.2 ++ [(j : Int)]).length ≤ 1000 := by
              have := fd_len (k + 1) _ (prt_fd hnew)
              have : (q0.2 ++ [(j : Int)]).length ≤ k + 1 := this
              omega
            refine ⟨rfl, hlive2 _ sm5, _, rfl, hlive2 _ sm5, qn, _, rfl, eq5, by rw [perm_len hp2]; omega, _, rfl, ite2 (fun e2 => ?_) (fun e2 => ?_)⟩
            · have e2 : stp g.h (j : Int) q0.1 = g.goal := of_decide_eq_true e2
              exact ⟨_, rfl, _, rfl, d, qn, _, _, stp g.h (j : Int) q0.1, L, q0.2 ++ [(j : Int)], _, rfl, eD5, kb5, eq5, prt_nd k (i * g.n + j + 1), hv6, hnew, hwl, fun H' r s' er => qy H' r _ (k + 1) (sm5.trans s') (by rw [← e2]; exact prt_fd hnew) er⟩
            · have e2 : stp g.h (j : Int) q0.1 ≠ g.goal := fun z => e2 (decide_eq_true z)
              refine ⟨_, rfl, .inl ⟨rfl, _, lstAt eU5⟩, _, rfl, u, us, .ref qn, rfl, rfl, eU5, small1000 (by omega), ?_⟩
              have tk6 : TK (upd HT d (DE P w (bs ++ [(stp g.h (j : Int) q0.1, V.ref T)]) (ks ++ [qn]) d)) (upd (upd HT d (DE P w (bs ++ [(stp g.h (j : Int) q0.1, V.ref T)]) (ks ++ [qn]) d)) u (.lst (us ++ [.ref qn]))) := TK.upd eU5 not_tup_l
              have tk46 := tk45.trans tk6
              refine ⟨⟨bs ++ [(stp g.h (j : Int) q0.1, V.ref T)], ks ++ [qn], us ++ [.ref qn], Same.upd sm5 huH, ?_, kb5.on tk6, ?_, ⟨hv6.on tk6, ?_⟩, ?_, hE3.on tk46, upd_same, ?_⟩, _, _, rfl⟩
              · rw [upd_ne (ne_of eD5 eU5 (fun z => nomatch z))]
                exact eD5
              · exact hv6.1
              · rw [show i * g.n + (j + 1) = i * g.n + j + 1 from rfl, ep, ← List.append_assoc, List.map_append]
                intro z
                rcases List.mem_append.mp z with z | z
                · exact hv3.2 z
                · exact e2 (List.mem_singleton.mp z).symm
              · rw [upd_ne hlu]
                exact eL5
              · rw [show i * g.n + (j + 1) = i * g.n + j + 1 from rfl, ep, List.map_append]
                exact EX.snoc (tk6 _ _ eq5) (hF3.on tk46)
        · obtain ⟨hM3, w8, w9, rfl⟩ := h'
          rw [List.length_map, rg_len] at hM3
          exact ⟨hM3.row, _, _, _, rfl⟩
      · obtain ⟨⟨bs, ks, us, sm3, eD3, kb3, hf3, hv3, eL3, hE3, eU3, hF3⟩, w7, w8, w9, rfl⟩ := h'
        rw [lx, Nat.add_zero, prt_all] at hv3 hF3
        exact ⟨_, rfl, mea g.h g.n L (k + 1), hb.mea_less hL hne, k + 1, bs, ks, us, u, rfl, ⟨_, _, _, _, rfl⟩, sm3, eD3, kb3, hv3.1, hv3.2, eU3, hF3⟩
    · have hnil : lv g.h g.n L k = [] := by
        cases xs with
        | nil => exact List.eq_nil_of_length_eq_zero lx.symm
        | cons x r => exact absurd rfl ex
      exact qn0 H1 k sm hnil hg
end
end RH
set_option Elab.async false
set_option linter.all false
set_option maxRecDepth 100000
set_option maxHeartbeats 2000000
namespace RH
open PySem PySem.Spec PyProof.Rows L2
open NdefX (NScope CellsAt Caps slotAt slotAt_of cells_of startF ncx)
open LamX (Tabs TabS TabB ExtN CodeO codeO_ne)
/-! ### the defs that make a step -/
theorem frs_free {X : Cx} {pins : List (Addr × Obj)} {σ : L2.St} {H : Hp} {s : Shared} (I : Inv X pins σ H s) (hf : ∀ x, X.fn x = true) {y : Str} {c : Addr} (h : X.env.cells.lookup y = some c) : c ∉ frs X.stack := by
  have out : c ∉ frs X.outer := fun z => by
    obtain ⟨_, o, e, _⟩ := I.ok.funs.mem z
    have h1 := Heap.lt_size e
    exact absurd (Nat.lt_of_lt_of_le h1 (I.ok.cab y c (hf y) h)) (Nat.lt_irrefl _)
  rcases I.ok.stk with e | ⟨e, ef⟩
  · rw [e]
    exact out
  · rw [e]
    intro z
    have z2 : c = X.env.locals ∨ c ∈ frs X.outer := by
      unfold frs at z ⊢
      rw [List.filterMap_cons, ef] at z
      exact List.mem_cons.mp z
    rcases z2 with z2 | z2
    · obtain ⟨m, hn, _⟩ := I.loc
      obtain ⟨o, es, ep, e1, e2, _⟩ := hn
      obtain ⟨v, o2, e3, e4⟩ := I.cell y c h
      rw [z2, e1] at e3
      cases e3
      rw [e2] at e4
      cases e4
    · exact out z2
/-- a def of the text with its code object -/
structure DfC (K : PySem.W.Frag) (mg : Str → Option Value) (x : Str) (st : Stmt) (ps : List Str) (c : Addr) : Prop where
  ex : ∃ (f : Addr) (oc : Value) (od : Option Addr) (kV doc pm : Value) (an : Option Addr) (ct : Value) (osl : Array (Option Value)), K.lookup f = some ⟨oc, od, .func (PySem.W.fnOf x x (defArgs st) (defBody st) (defScope st) .none kV doc pm an (.ref c) ct), osl⟩ ∧
    PySem.W.codeIn K (.ref c) x = true ∧ PySem.W.keepIn K (.ref f) = true ∧ mg x = some (.ref f) ∧ Binds K (PySem.W.fnOf x x (defArgs st) (defBody st) (defScope st) .none kV doc pm an (.ref c) ct) ps []
section
variable {P : Program} {w : World} {K : PySem.W.Frag} {mg : Str → Option Value} {base : Heap}
theorem mkCalC {x : Str} {st : Stmt} {N ps : List Str} {k : Nat} {sp : Sp} {c : Addr} (F : DfC K mg x st ps c) (S : FnScope N ps (defScope st)) (len : ∀ vs H Q E, sp vs H Q E → vs.length = ps.length)
    (hbody : ∀ (f : Addr) (A : Around) (outer : List Env) (s : Shared) (H : Hp) (vs : List V) (Q : VK) (E : XK), Room k (A.deeper (envOfC x (defScope st) s.heap.objs.size f (.ref c))) → sp vs H Q E →
      ∃ t, PSs (cxOf CX0 P w K mg base N x (defScope st) f (.ref c) A outer s H E).nox (defBody st) t ∧ t { nx := fun _ H' => Q .non H', rt := Q } (start N vs) H) : Cal P w K mg base (k + 1) x sp := by
  obtain ⟨f, oc, od, kV, doc, pm, an, ct, osl, lk, hcd, kp, g, b⟩ := F.ex
  refine ⟨f, _, ps, fn_of lk hcd S len fun A outer s H vs Q E hr hsp => ?_, g, kp, b⟩
  obtain ⟨t, h, q⟩ := hbody f A outer s H vs Q E hr hsp
  exact ⟨t, h.nox, q⟩
/-- the name that a lambda of the def x bears -/
def lamQ (x : Str) : Str := (envOfC x (defScope st_word_to_layout) 0 0 .none).qual ++ "<lambda>"
def tabs82 (P1 P2 P3 : Addr) : List (Addr × Str) := [(P1, lamQ "word_to_layout"), (P2, lamQ "_law_end"), (P3, lamQ "_law_goes")]
end
end RH
set_option Elab.async false
set_option linter.all false
set_option maxRecDepth 100000
set_option maxHeartbeats 2000000
namespace RH
open PySem PySem.Spec PyProof.Rows L2
open NdefX (NScope CellsAt Caps slotAt slotAt_of cells_of startF ncx)
open LamX (Tabs TabS TabB ExtN CodeO codeO_ne)
/-! ### words and distances -/
section
variable {P : Program} {w : World} {K : PySem.W.Frag} {mg : Str → Option Value} {base : Heap}
theorem extN_tups {K : PySem.W.Frag} {H H' : Hp} (e : ExtN H H') : Tups K H H' := fun a xs hs => by
  rcases hs with (hs | ⟨o, hs⟩) | hs
  · exact .inl (.inl (e _ _ hs (fun ps z => nomatch z)))
  · exact .inl (.inr ⟨o, e _ _ hs (fun ps z => nomatch z)⟩)
  · exact .inr hs
theorem extN_tk {H H' : Hp} (e : ExtN H H') : TK H H' := fun b xs h => by
  rcases h with h | ⟨ob, h⟩
  · exact .inl (e _ _ h (fun ps z => nomatch z))
  · exact .inr ⟨ob, e _ _ h (fun ps z => nomatch z)⟩
theorem extN_same {H H' : Hp} (e : Same H H') : ExtN H H' := ExtN.of fun b o h => e b o h
theorem tabs_same {T : List (Addr × Str)} {H H' : Hp} (t : Tabs T H) (e : Same H H') : Tabs T H' := t.ext fun b o h => e b o h
def spWtl (K : PySem.W.Frag) (T : List (Addr × Str)) : Sp := fun vs H Q _ => ∃ (v : V) (h : List (List Int)) (n : Nat) (a o : Addr) (L gl : List Int), vs = [v, .ref a, .ref o] ∧ TII K H v h ∧ Hb n h ∧
  KX H a L ∧ KX H o gl ∧ L.Perm (rg n) ∧ gl.Perm (rg n) ∧ Tabs T H ∧
  (∀ (H' : Hp) (q : Addr) (wd : List Int) (k : Nat), ExtN H H' → Tabs T H' → (gl, wd) ∈ fd h n L k → H' q = some (.tup (wd.map V.int)) → Q (.ref q) H') ∧
  (∀ (H' : Hp) (k : Nat), ExtN H H' → Tabs T H' → lv h n L k = [] → gl ∉ (fd h n L k).map Prod.fst → Q .non H')
theorem ok_wtl {c P1 P2 P3 : Addr} (F : DfC K mg "word_to_layout" st_word_to_layout ["habit", "one", "other"] c) (FD : Df K mg "least_word" st_least_word ["start", "touches", "step", "is_goal"]) (B : Bu mg) (TB : TabB base mg c P1) (h12 : P1 ≠ P2) (h13 : P1 ≠ P3)
    (CP : Cal P w K mg base 1 "places_of_habit" (spPlacesOf K)) (CM : Cal P w K mg base 1 "move" (spMove K)) (CT : Cal P w K mg base 1 "traced" (spTraced P w)) : Cal P w K mg base 4 "word_to_layout" (spWtl K (tabs82 P1 P2 P3)) := by
  obtain ⟨fD, fdD, FunD, gD, bD⟩ := FD.ex
  refine mkCalC F sc_word_to_layout (fun vs H Q E h => ?_) (fun f A outer s H vs Q E hr h => ?_)
  · obtain ⟨v, h, n, a, o, L, gl, rfl, _⟩ := h
    rfl
  · obtain ⟨v, h, n, a, o, L, gl, rfl, hT, hb, ha, ho, hL, hgl, hTb, q1, q2⟩ := h
    have hfr2 : ∀ y ∈ (lamS lam2).names, y.2 = .free → (defScope st_word_to_layout).names.lookup y.1 = some .cell ∨ (defScope st_word_to_layout).names.lookup y.1 = some .free := by decide +kernel
    have hfr3 : ∀ y ∈ (lamS lam3).names, y.2 = .free → (defScope st_word_to_layout).names.lookup y.1 = some .cell ∨ (defScope st_word_to_layout).names.lookup y.1 = some .free := by decide +kernel
    have hc2 : ∀ y ∈ (["habit"] : List Str), (y, NameKind.free) ∈ (lamS lam2).names := by decide +kernel
    have hc3 : ∀ y ∈ (["other"] : List Str), (y, NameKind.free) ∈ (lamS lam3).names := by decide +kernel
    let X : Cx := (cxOf CX0 P w K mg base ["habit", "one", "other"] "word_to_layout" (defScope st_word_to_layout) f (.ref c) A outer s H E).nox
    have hf2 : ∀ y ∈ (lamS lam2).names, y.2 = .free → X.env.scope.names.lookup y.1 = some .cell ∨ X.env.scope.names.lookup y.1 = some .free := hfr2
    have hf3 : ∀ y ∈ (lamS lam3).names, y.2 = .free → X.env.scope.names.lookup y.1 = some .cell ∨ X.env.scope.names.lookup y.1 = some .free := hfr3
    let mk2 : Addr → LF := fun c' => ⟨X.env.qual ++ "<lambda>", lamP lam2, lamB lam2, lamS lam2, cloFrom X.env.cells (lamS lam2).names [], c'⟩
    let mk3 : Addr → LF := fun c' => ⟨X.env.qual ++ "<lambda>", lamP lam3, lamB lam3, lamS lam3, cloFrom X.env.cells (lamS lam3).names [], c'⟩
    let preS : GL → L2.St → Hp → Prop := fun g σ H => ∃ (c1 c2 : Addr) (hv : V) (ob : Addr), σ[0]? = some (some hv) ∧ σ[2]? = some (some (.ref ob)) ∧ H g.f = some (FnL g.f (mk2 c1)) ∧ H c1 = some (CodeO c1 (mk2 c1).qual) ∧ H g.f2 = some (FnL g.f2 (mk3 c2)) ∧ H c2 = some (CodeO c2 (mk3 c2).qual) ∧
      g.live = (fun H' => liveL g.f (mk2 c1) H' ∧ TII K H' hv g.h) ∧ g.live2 = (fun H' => liveL g.f2 (mk3 c2) H' ∧ KX H' ob g.goal) ∧ Hb g.n g.h ∧ g.goal.length ≤ 1000
    have hP : ∀ (g : GL) (pins : List (Addr × Obj)) (σ : L2.St) (H : Hp) (s : Shared), Inv X pins σ H s → preS g σ H → preL P w K mg base g X.stack s H := by
      rintro g pins σ H s I ⟨c1, c2, hv, ob, h0, h2, h3, h4, h5, h6, h7, h8, h9, h10⟩
      have C2 : CellsAt (mk2 c1).cl ["habit"] [some hv] s.heap H := by
        have := cells_of I (Caps.made (X := X) (fr := ["habit"]) (js := [0]) I.ok hf2 hc2 rfl)
        rw [show ([0].map (slotAt σ)) = [some hv] from by rw [List.map_cons, slotAt_of h0]; rfl] at this
        exact this
      have C3 : CellsAt (mk3 c2).cl ["other"] [some (.ref ob)] s.heap H := by
        have := cells_of I (Caps.made (X := X) (fr := ["other"]) (js := [2]) I.ok hf3 hc3 rfl)
        rw [show ([2].map (slotAt σ)) = [some (.ref ob)] from by rw [List.map_cons, slotAt_of h2]; rfl] at this
        exact this
      have Fn2 := lok2 (P := P) (w := w) (mg := mg) (base := base) CM g.h g.n (mk2 c1).qual (mk2 c1).cl c1 g.f
      have Fn3 := lok3 (P := P) (w := w) (K := K) (mg := mg) (base := base) g.goal (mk3 c2).qual (mk3 c2).cl c2 g.f2
      refine ⟨(callable_lam Fn2 C2 fun y c0 e => frs_free I (fun _ => rfl) (NdefX.clo_cm (fun y hy e => (hf2 y hy e).elim (fun z => I.ok.has _ (.inl z)) fun z => I.ok.has _ (.inr z)) e)).imp (fun H' l => ?_) (fun vs H' Q E l hs => ?_),
        (callable_lam Fn3 C3 fun y c0 e => frs_free I (fun _ => rfl) (NdefX.clo_cm (fun y hy e => (hf3 y hy e).elim (fun z => I.ok.has _ (.inl z)) fun z => I.ok.has _ (.inr z)) e)).imp (fun H' l => ?_) (fun vs H' Q E l hs => ?_)⟩
      · rw [h7] at l
        exact l.1
      · rw [h7] at l
        exact ⟨hv, rfl, l.2, h9, hs⟩
      · rw [h8] at l
        exact l.1
      · rw [h8] at l
        exact ⟨ob, rfl, l.2, h10, hs⟩
    have huT : ∀ p ∈ tabs82 P1 P2 P3, p.1 = P1 → p.2 = X.env.qual ++ "<lambda>" := fun p hp e => by
      rcases List.mem_cons.mp hp with rfl | hp
      · rfl
      · rcases List.mem_cons.mp hp with rfl | hp
        · exact absurd e.symm h12
        · rw [List.mem_singleton.mp hp] at e
          exact absurd e.symm h13
    refine ⟨_, pss_one (ps_ret (pe_callC (X := X) (preS := preS) (fun g => ok_least FunD B CT g) hP hr (by decide) rfl gD FunD.kp bD pass0 (pa_cons (pv 1) (pa_cons (pc CP hr (pa_cons (pv 0) pa_nil))
      (pa_cons (pe_lam (T := tabs82 P1 P2 P3) (params := lamP lam2) (body := lamB lam2) (scope := lamS lam2) (pos := lamO lam2) TB rfl (by exact List.Mem.head _) huT rfl hf2)
      (pa_cons (pe_lam (T := tabs82 P1 P2 P3) (params := lamP lam3) (body := lamB lam3) (scope := lamS lam3) (pos := lamO lam3) TB rfl (by exact List.Mem.head _) huT rfl hf3) pa_nil)))))), ?_⟩
    refine ⟨_, rfl, _, rfl, v, h, n, rfl, hT, hb, fun t ht => ⟨tabs_same hTb (same_new ht), fun f1 c1 H1 ex nn T1 nf e1 e2 => ⟨T1, fun f2 c2 H2 ex2 nn2 T2 nf2 e3 e4 => ?_⟩⟩⟩
    have ex0 : ExtN H H2 := ((extN_same (same_new ht)).trans ex).trans ex2
    have e1' := ex2 _ _ e1 (fun ps z => fnL_ne ps z)
    have e2' := ex2 _ _ e2 (fun ps z => codeO_ne ps z)
    have hT2 := hT.on (extN_tups (K := K) ex0)
    have n5 := hb.hi
    refine ⟨⟨⟨f1, fun H' => liveL f1 (mk2 c1) H' ∧ TII K H' v h, h, n⟩, f2, fun H' => liveL f2 (mk3 c2) H' ∧ KX H' o gl, gl⟩, ⟨c1, c2, v, o, rfl, rfl, e1', e2', e3, e4, rfl, rfl, hb, by show gl.length ≤ 1000; rw [perm_len hgl]; omega⟩,
      a, t, L, rfl, extN_tk ex0 _ _ ha, (.inl (extN_tk (ex.trans ex2) _ _ (.inl upd_same))), fun H' sm => ⟨⟨sm _ _ e1', sm _ _ e2'⟩, hT2.on (Same.tups sm)⟩, fun H' sm => ⟨⟨sm _ _ e3, sm _ _ e4⟩, TK.same sm _ _ (extN_tk ex0 _ _ ho)⟩, hb, hL, fun H' q' wd k sm hm e => ?_, fun H' k sm en hn => ?_⟩
    · exact q1 H' q' wd k (ex0.trans (extN_same sm)) (tabs_same T2 sm) hm e
    · exact q2 H' k (ex0.trans (extN_same sm)) (tabs_same T2 sm) en hn
theorem ok_between {T : List (Addr × Str)} (F : Df K mg "word_between" st_word_between ["habit", "one", "other"]) (B : Bu mg) (CH : Cal P w K mg base 6 "check_habit" (spCheckHabit K)) (CL : Cal P w K mg base 6 "check_layout" (spCheckLayout K)) (CW : Cal P w K mg base 4 "word_to_layout" (spWtl K T)) :
    Cal P w K mg base 7 "word_between" (spWtl K T) := by
  refine mkCal F sc_word_between (fun vs H Q E h => ?_) (fun f cdv A outer s H vs Q E hr h => ?_)
  · obtain ⟨v, h, n, a, o, L, gl, rfl, _⟩ := h
    rfl
  · obtain ⟨v, h, n', a, o, L', gl', rfl, hT, hb, ha, ho, hp1, hp2, hTb, q1, q2⟩ := h
    obtain ⟨ah, xs, rfl, hS, hE⟩ := id hT
    have hxl : xs.length = n' := hE.len.trans hb.len
    have n5 := hb.hi
    refine ⟨_, pss_cons (ps_expr (pc CH hr (pa_cons (pv 0) pa_nil)))
      (pss_cons (ps_expr (pc CL hr (pa_cons (pv 1) (pa_cons (pe_callB (cl_len K) (by rfl) B.len PySem.boot_len (pa_cons (pv 0) pa_nil)) pa_nil))))
      (pss_cons (ps_expr (pc CL hr (pa_cons (pv 2) (pa_cons (pe_callB (cl_len K) (by rfl) B.len PySem.boot_len (pa_cons (pv 0) pa_nil)) pa_nil))))
      (pss_one (ps_ret (pc CW hr (pa_cons (pv 0) (pa_cons (pv 1) (pa_cons (pv 2) pa_nil)))))))), ?_⟩
    refine ⟨_, rfl, _, h, n', rfl, hT, hb, fun H1 s1 => ?_⟩
    refine ⟨_, rfl, _, rfl, ah, xs, rfl, .inr (onT s1 hS), _, L', n', by rw [hxl]; rfl, ⟨a, rfl, .inl (TK.same s1 _ _ ha)⟩, hp1, n5, fun H2 s2 => ?_⟩
    have s12 := s1.trans s2
    refine ⟨_, rfl, _, rfl, ah, xs, rfl, .inr (onT s12 hS), _, gl', n', by rw [hxl]; rfl, ⟨o, rfl, .inl (TK.same s12 _ _ ho)⟩, hp2, n5, fun H3 s3 => ?_⟩
    have s13 := s12.trans s3
    exact ⟨_, rfl, _, rfl, _, rfl, _, h, n', a, o, L', gl', rfl, hT.on (Same.tups s13), hb, TK.same s13 _ _ ha, TK.same s13 _ _ ho, hp1, hp2, tabs_same hTb s13, fun H' q' wd k ex t' hm e => q1 H' q' wd k ((extN_same s13).trans ex) t' hm e, fun H' k ex t' en hn => q2 H' k ((extN_same s13).trans ex) t' en hn⟩
def spDist (K : PySem.W.Frag) (T : List (Addr × Str)) : Sp := fun vs H Q _ => ∃ (v : V) (h : List (List Int)) (n : Nat) (a o : Addr) (L gl : List Int), vs = [v, .ref a, .ref o] ∧ TII K H v h ∧ Hb n h ∧
  KX H a L ∧ KX H o gl ∧ L.Perm (rg n) ∧ gl.Perm (rg n) ∧ Tabs T H ∧
  (∀ (H' : Hp) (wd : List Int) (k : Nat), ExtN H H' → Tabs T H' → (gl, wd) ∈ fd h n L k → Q (.int (wd.length : Nat)) H') ∧
  (∀ (H' : Hp) (k : Nat), ExtN H H' → Tabs T H' → lv h n L k = [] → gl ∉ (fd h n L k).map Prod.fst → Q .non H')
theorem ok_distance {T : List (Addr × Str)} (F : Df K mg "distance" st_distance ["habit", "one", "other"]) (B : Bu mg)
    (CB : Cal P w K mg base 7 "word_between" (spWtl K T)) :
    Cal P w K mg base 8 "distance" (spDist K T) := by
  refine mkCal F sc_distance (fun vs H Q E h => ?_) (fun f cdv A outer s H vs Q E hr h => ?_)
  · obtain ⟨v, h, n, a, o, L, gl, rfl, _⟩ := h
    rfl
  · obtain ⟨v, h, n, a, o, L, gl, rfl, hT, hb, ha, ho, hp1, hp2, hTb, q1, q2⟩ := h
    refine ⟨_, pss_cons (ps_set (i := 3) sc_distance.nd rfl (.inl rfl) (pc CB hr (pa_cons (pv 0) (pa_cons (pv 1) (pa_cons (pv 2) pa_nil)))))
      (pss_one (ps_ret (pe_ifExp (pt_cmp (pc_isN (pv 3))) pe_non (pe_callB (cl_len K) (by rfl) B.len PySem.boot_len (pa_cons (pv 3) pa_nil))))), ?_⟩
    refine ⟨_, rfl, _, rfl, _, rfl, v, h, n, a, o, L, gl, rfl, hT, hb, ha, ho, hp1, hp2, hTb, fun H' q' wd k ex t' hm e => ?_, fun H' k ex t' en hn => ?_⟩
    · refine ⟨_, rfl, _, rfl, ifF (ref_non _) ⟨_, rfl, q', wd.map V.int, rfl, .inr (tupAt e), ?_⟩⟩
      rw [List.length_map]
      exact q1 H' wd k ex t' hm
    · exact ⟨_, rfl, _, rfl, ifT (decide_eq_true rfl) (q2 H' k ex t' en hn)⟩
/-- m is the greatest length -/
def Mx (l : List SW) (m : Int) : Prop := m ∈ l.map (fun q => ((q.2.length : Nat) : Int)) ∧ ∀ x ∈ l.map (fun q => ((q.2.length : Nat) : Int)), x ≤ m
theorem Mx.one {l : List SW} {m m' : Int} (a : Mx l m) (b : Mx l m') : m = m' := Int.le_antisymm (b.2 _ a.1) (a.2 _ b.1)
def spAfter (K : PySem.W.Frag) : Sp := fun vs H Q _ => ∃ (v : V) (h : List (List Int)) (n : Nat) (a : Addr) (L : List Int) (wv : V) (ws : List Int), vs = [v, .ref a, wv] ∧ HLW K H v h n a L wv ws ∧ ∀ H' q, Same H H' → FT H' q (mvs h L ws) → Q (.ref q) H'
theorem ok_after (F : Df K mg "after" st_after ["habit", "layout", "word"]) (B : Bu mg) (CH : Cal P w K mg base 6 "check_habit" (spCheckHabit K)) (CL : Cal P w K mg base 6 "check_layout" (spCheckLayout K)) (CW : Cal P w K mg base 6 "check_word" (spCheckWord K)) (CA : Cal P w K mg base 2 "move_along" (spMoveAlong K)) :
    Cal P w K mg base 7 "after" (spAfter K) := by
  refine mkCal F sc_after (fun vs H Q E h => ?_) (fun f cdv A outer s H vs Q E hr h => ?_)
  · obtain ⟨v, h, n, a, L, wv, ws, rfl, _⟩ := h
    rfl
  · obtain ⟨v, h, n, a, L, wv, ws, rfl, g, q⟩ := h
    obtain ⟨ah, xs, rfl, hS, hE⟩ := id g.hT
    have hxl : xs.length = n := hE.len.trans g.hb.len
    have n5 := g.hb.hi
    refine ⟨_, pss_cons (ps_expr (pc CH hr (pa_cons (pv 0) pa_nil)))
      (pss_cons (ps_expr (pc CL hr (pa_cons (pv 1) (pa_cons (pe_callB (cl_len K) (by rfl) B.len PySem.boot_len (pa_cons (pv 0) pa_nil)) pa_nil))))
      (pss_cons (ps_expr (pc CW hr (pa_cons (pv 2) (pa_cons (pe_callB (cl_len K) (by rfl) B.len PySem.boot_len (pa_cons (pv 0) pa_nil)) pa_nil))))
      (pss_one (ps_ret (pc CA hr (pa_cons (pv 0) (pa_cons (pv 1) (pa_cons (pv 2) pa_nil)))))))), ?_⟩
    refine ⟨_, rfl, _, h, n, rfl, g.hT, g.hb, fun H1 s1 => ?_⟩
    refine ⟨_, rfl, _, rfl, ah, xs, rfl, .inr (onT s1 hS), _, L, n, by rw [hxl]; rfl, ⟨a, rfl, (g.same s1).fL.sq⟩, g.hL, n5, fun H2 s2 => ?_⟩
    have s12 := s1.trans s2
    refine ⟨_, rfl, _, rfl, ah, xs, rfl, .inr (onT s12 hS), wv, ws, n, by rw [hxl]; rfl, (g.same s12).hW, g.len, g.hw, fun H3 s3 => ?_⟩
    have s13 := s12.trans s3
    exact ⟨_, rfl, _, rfl, _, rfl, _, h, n, a, L, wv, ws, rfl, g.same s13, fun H4 q4 s4 f4 => q H4 q4 (s13.trans s4) f4⟩
end
end RH
set_option Elab.async false
set_option linter.all false
set_option maxRecDepth 100000
set_option maxHeartbeats 2000000
namespace RH
open PySem PySem.Spec PyProof.Rows L2
open NdefX (NScope CellsAt Caps slotAt slotAt_of cells_of startF ncx)
open LamX (Tabs TabS TabB ExtN CodeO codeO_ne)
/-! ### the law's own sorted books -/
def kdI (S : List Int) (v : V) : PyData := .int ((S.idxOf (valI v) : Nat) : Int)
theorem srt_spec {S E : List Int} (nd : E.Nodup) (hin : ∀ x ∈ E, x ∈ S) : ∃ R, (E.map V.int).mergeSort (PySem.W.dataLe false (kdI S)) = R.map V.int ∧ R.Perm E ∧ Inc S R := by
  have le : PySem.W.dataLe false (kdI S) = fun p q : V => decide (((S.idxOf (valI p) : Nat) : Int) ≤ ((S.idxOf (valI q) : Nat) : Int)) := PySem.W.dataLe_int fun v => ((S.idxOf (valI v) : Nat) : Int)
  have pm := List.mergeSort_perm (E.map V.int) (PySem.W.dataLe false (kdI S))
  have pw := List.pairwise_mergeSort (le := PySem.W.dataLe false (kdI S)) (fun a b c h1 h2 => by
    rw [le] at h1 h2 ⊢
    have h1 := of_decide_eq_true h1
    have h2 := of_decide_eq_true h2
    exact decide_eq_true (by omega)) (fun a b => by
    rw [le]
    simp only [Bool.or_eq_true, decide_eq_true_eq]
    omega) (E.map V.int)
  generalize (E.map V.int).mergeSort (PySem.W.dataLe false (kdI S)) = M at pm pw
  have e1 : (M.map valI).Perm E := by
    have := pm.map valI
    rw [List.map_map, show E.map (valI ∘ V.int) = E from List.map_id' E] at this
    exact this
  have e2 : M = (M.map valI).map V.int := by
    rw [List.map_map]
    refine ((List.map_congr_left (g := id) fun v hv => ?_).trans (List.map_id _)).symm
    obtain ⟨i, _, rfl⟩ := List.mem_map.mp (pm.mem_iff.mp hv)
    rfl
  refine ⟨M.map valI, e2, e1, ?_⟩
  have ndM : (M.map valI).Nodup := e1.nodup_iff.mpr nd
  unfold Inc
  refine List.Pairwise.imp_of_mem (R := fun x y => S.idxOf x ≤ S.idxOf y ∧ x ≠ y) (fun {x y} hx hy q => ?_) (List.Pairwise.and ?_ ndM)
  · have ne : S.idxOf x ≠ S.idxOf y := fun z => q.2 (idx_inj (hin x (e1.mem_iff.mp hx)) z)
    have := q.1
    omega
  · rw [List.pairwise_map]
    refine pw.imp fun {a b} q => ?_
    rw [le] at q
    have := of_decide_eq_true q
    omega
theorem srt_all {n : Nat} {B : List Int} (hB : B.Perm (rg n)) : ((rg n).map V.int).mergeSort (PySem.W.dataLe false (kdI B)) = B.map V.int := by
  obtain ⟨R, e, p, i⟩ := srt_spec (S := B) (rg_nd n) fun x hx => hB.mem_iff.mpr hx
  rw [e, sorted_eq (p.trans hB.symm) i (idx_rise (perm_nd hB))]
theorem kdI_alike (S xs : List Int) : PySem.W.AllAlike ((xs.map V.int).map (kdI S)) := by
  intro d hd d' hd'
  obtain ⟨v, _, rfl⟩ := List.mem_map.mp hd
  obtain ⟨v', _, rfl⟩ := List.mem_map.mp hd'
  unfold kdI
  simp [PySem.W.alike]
theorem kdI_sort (S xs : List Int) : PySem.W.Sortable ((xs.map V.int).map (kdI S)) := .inr fun d hd => by
  obtain ⟨v, _, rfl⟩ := List.mem_map.mp hd
  exact ⟨fun z => (by cases z), fun ys z => (by cases z)⟩
theorem kdI_depth (S : List Int) (v : V) : (kdI S v).depth < 60 := by
  unfold kdI
  simp [PyData.depth]
def keyIn : Expr → Expr
  | .Call _ _ (k :: _) _ => k.value
  | e => e
def valOf : Stmt → Expr
  | .Assign _ v _ => v
  | _ => .Constant .none 0 ⟨0, 0, 0, 0⟩
def loopTest : Stmt → Expr
  | .For _ _ [_, .If (.Compare c _ _ _) _ _ _] _ _ => c
  | _ => .Constant .none 0 ⟨0, 0, 0, 0⟩
abbrev lamG : Expr := keyIn (valOf ((defBody st__law_goes).getD 0 (.Pass ⟨0, 0, 0, 0⟩)))
abbrev lamE1 : Expr := keyIn (valOf ((defBody st__law_end).getD 1 (.Pass ⟨0, 0, 0, 0⟩)))
abbrev lamE2 : Expr := keyIn (loopTest ((defBody st__law_end).getD 2 (.Pass ⟨0, 0, 0, 0⟩)))
theorem nsG : NScope ["name", "layout"] ["name"] ["layout"] (lamS lamG) := NdefX.nscope_by (by decide +kernel)
theorem nsE1 : NScope ["name", "other"] ["name"] ["other"] (lamS lamE1) := NdefX.nscope_by (by decide +kernel)
theorem nsE2 : NScope ["book", "one"] ["book"] ["one"] (lamS lamE2) := NdefX.nscope_by (by decide +kernel)
section
variable {P : Program} {w : World} {K : PySem.W.Frag} {mg : Str → Option Value} {base : Heap}
def spKeyI (K : PySem.W.Frag) (S : List Int) : List (Option V) → Sp := fun ws vs H Q _ => ∃ (b : Addr) (x : Int) (n : Nat), ws = [some (.ref b)] ∧ vs = [.int x] ∧ FT H b (invR S) ∧ S.Perm (rg n) ∧ x ∈ rg n ∧ Q (.int ((S.idxOf x : Nat) : Int)) H
theorem key_at {n : Nat} {S : List Int} {x : Int} (hS : S.Perm (rg n)) (hx : x ∈ rg n) : atI ((invR S).map V.int) x = some (V.int ((S.idxOf x : Nat) : Int)) := by
  have r := rg_mem.mp hx
  exact at_int r.1 (at_map (by rw [inv_at hS (by omega), show ((x.toNat : Nat) : Int) = x by omega]))
theorem lokG (S : List Int) (q : Str) (cl : List (Str × Addr)) (c f : Addr) : LOk P w K mg base CX0 1 f ⟨q, lamP lamG, lamB lamG, lamS lamG, cl, c⟩ ["name"] ["layout"] (spKeyI K S) := by
  refine lok_of nsG (fun pm ctv us hl => ?_) (fun ws vs H Q E hq => ?_) (fun A outer s H vs ws Q E hr _ hsp => ?_)
  · match us, hl with
    | [_], _ => rfl
  · obtain ⟨_, _, _, _, rfl, _⟩ := hq
    rfl
  · obtain ⟨b, x, n, rfl, rfl, hF, hS, hx, q⟩ := hsp
    exact ⟨_, pe_ix (ixT K) (pv 1) (pv 0) (fun _ _ => rfl), _, rfl, _, rfl, b, _, x, _, rfl, rfl, hF.sq, key_at hS hx, q⟩
theorem lokE1 (S : List Int) (q : Str) (cl : List (Str × Addr)) (c f : Addr) : LOk P w K mg base CX0 1 f ⟨q, lamP lamE1, lamB lamE1, lamS lamE1, cl, c⟩ ["name"] ["other"] (spKeyI K S) := by
  refine lok_of nsE1 (fun pm ctv us hl => ?_) (fun ws vs H Q E hq => ?_) (fun A outer s H vs ws Q E hr _ hsp => ?_)
  · match us, hl with
    | [_], _ => rfl
  · obtain ⟨_, _, _, _, rfl, _⟩ := hq
    rfl
  · obtain ⟨b, x, n, rfl, rfl, hF, hS, hx, q⟩ := hsp
    exact ⟨_, pe_ix (ixT K) (pv 1) (pv 0) (fun _ _ => rfl), _, rfl, _, rfl, b, _, x, _, rfl, rfl, hF.sq, key_at hS hx, q⟩
theorem lokE2 (S : List Int) (q : Str) (cl : List (Str × Addr)) (c f : Addr) : LOk P w K mg base CX0 1 f ⟨q, lamP lamE2, lamB lamE2, lamS lamE2, cl, c⟩ ["book"] ["one"] (spKeyI K S) := by
  refine lok_of nsE2 (fun pm ctv us hl => ?_) (fun ws vs H Q E hq => ?_) (fun A outer s H vs ws Q E hr _ hsp => ?_)
  · match us, hl with
    | [_], _ => rfl
  · obtain ⟨_, _, _, _, rfl, _⟩ := hq
    rfl
  · obtain ⟨b, x, n, rfl, rfl, hF, hS, hx, q⟩ := hsp
    exact ⟨_, pe_ix (ixT K) (pv 1) (pv 0) (fun _ _ => rfl), _, rfl, _, rfl, b, _, x, _, rfl, rfl, hF.sq, key_at hS hx, q⟩
/-- xs.index(e) in a comprehension -/
theorem pe_lidxK {X : Cx} {o e : Expr} {to te : TE} {apos cpos : Pos} (K : PySem.W.Frag) (ho : PE X o to) (he : PE X e te)
    (hbase : attributeBase o "index" X.env (eval o X.env) = eval o X.env := by rfl)
    (hfew : ((backTo cpos (starEach [e] X.env)).all (fun x => !x.1) && (backToKw cpos (keywordEach [] X.env)).all (fun x => x.1.isSome)
      && decide ([e].length + ([] : List Keyword).length + (if ([] : List Keyword).isEmpty then 0 else 1) < 30)) = true := by rfl)
    (hline : (apos.endLine == cpos.line) = true := by rfl) (hs : starEach [e] X.env = (false, eval e X.env) :: starEach [] X.env := by rfl) (hplain : (backTo cpos (starEach [] X.env)).any (·.1) = false := by rfl) (h : X.K = K := by rfl) :
    PE X (.Call (.Attribute o "index" apos) [e] [] cpos) (tBM K "list" (rIndex K) to (tCons te tNil)) := by
  subst h
  exact pe_bm PySem.F.plainAttrs_list PySem.F.slot_list_index PySem.F.type_list_index mt_index ho (pa_cons he pa_nil hs) hbase hfew hline hs hplain
theorem posW_get : ∀ {ns S : List Int} {i : Nat} {p : Int}, (posW S ns)[i]? = some p → ∃ x, ns[i]? = some x ∧ p = ((((ns.take i).foldl mtf S).idxOf x : Nat) : Int)
  | [], _, _, _, h => by simp [posW] at h
  | x :: ns, S, 0, p, h => ⟨x, rfl, (Option.some.inj h).symm⟩
  | x :: ns, S, i + 1, p, h => by
    obtain ⟨y, hy, e⟩ := posW_get (ns := ns) (S := mtf S x) (i := i) (p := p) (by simpa [posW] using h)
    exact ⟨y, by simpa using hy, e⟩
def spGoes (K : PySem.W.Frag) (T : List (Addr × Str)) : Sp := fun vs H Q _ => ∃ (a b : Addr) (S ns : List Int) (n : Nat), vs = [.ref a, .ref b] ∧ FT H a (invR S) ∧ SqT K H b ((posW S ns).map V.int) ∧ S.Perm (rg n) ∧ (∀ x ∈ ns, x ∈ rg n) ∧ 1 ≤ n ∧ n ≤ 40 ∧ Tabs T H ∧
  ∀ H' c, ExtN H H' → Tabs T H' → H' c = some (.tup ((invR (ns.foldl mtf S)).map V.int)) → Q (.ref c) H'
theorem ok_goes {c P1 P2 P3 : Addr} (F : DfC K mg "_law_goes" st__law_goes ["layout", "word"] c) (B : Bu mg) (TB : TabB base mg c P3) (h13 : P1 ≠ P3) (h23 : P2 ≠ P3) : Cal P w K mg base 4 "_law_goes" (spGoes K (tabs82 P1 P2 P3)) := by
  refine mkCalC F sc__law_goes (fun vs H Q E h => ?_) (fun f A outer s H vs Q E hr h => ?_)
  · obtain ⟨a, b, S, ns, n, rfl, _⟩ := h
    rfl
  · obtain ⟨a, b, S, ns, n, rfl, hA, hB, hS, hin, n1, n40, hTb, q⟩ := h
    have hfree : ∀ y ∈ (lamS lamG).names, y.2 = .free → (defScope st__law_goes).names.lookup y.1 = some .cell ∨ (defScope st__law_goes).names.lookup y.1 = some .free := by decide +kernel
    have hfr : ∀ y ∈ (["layout"] : List Str), (y, NameKind.free) ∈ (lamS lamG).names := by decide +kernel
    let X : Cx := (cxOf CX0 P w K mg base ["layout", "word", "line", "place", "name"] "_law_goes" (defScope st__law_goes) f (.ref c) A outer s H E).nox
    have hfX : ∀ y ∈ (lamS lamG).names, y.2 = .free → X.env.scope.names.lookup y.1 = some .cell ∨ X.env.scope.names.lookup y.1 = some .free := hfree
    have huT : ∀ p ∈ tabs82 P1 P2 P3, p.1 = P3 → p.2 = X.env.qual ++ "<lambda>" := fun p hp e => by
      rcases List.mem_cons.mp hp with rfl | hp
      · exact absurd e h13
      · rcases List.mem_cons.mp hp with rfl | hp
        · exact absurd e h23
        · rw [List.mem_singleton.mp hp]
          rfl
    let mk : Addr → LF := fun c' => ⟨X.env.qual ++ "<lambda>", lamP lamG, lamB lamG, lamS lamG, cloFrom X.env.cells (lamS lamG).names [], c'⟩
    have hr2 : Room (1 + 2) X.A := hr
    refine ⟨_, pss_cons (ps_set (i := 2) sc__law_goes.nd rfl (.inr rfl) (pe_sortK (X := X) rfl hr2.in1.in1.units (by rfl) B.sorted (pe_callTy cr_range1 (by rfl) B.range boot_range (pa_cons (pe_callB (cl_len K) (by rfl) B.len PySem.boot_len (pa_cons (pv 0) pa_nil)) pa_nil))
        (pe_lam (T := tabs82 P1 P2 P3) (params := lamP lamG) (body := lamB lamG) (scope := lamS lamG) (pos := lamO lamG) TB rfl (by exact List.Mem.tail _ (List.Mem.tail _ (List.Mem.head _))) huT rfl hfX)))
      (pss_cons (ps_for PassesOwn.never rfl (pi_tup (pv 1)) (pg_name (i := 3) sc__law_goes.nd rfl (.inl rfl))
        (pss_one (ps_set (i := 2) sc__law_goes.nd rfl (.inr rfl) (pe_op op_cat (pe_op op_cat (pe_lst (pa_cons (pe_ix ix_list (pv 2) (pv 3) (fun _ _ => rfl)) pa_nil)) (pe_slice sl_list (pv 2) po_none (po_some (pv 3)))) (pe_slice sl_list (pv 2) (po_some (pe_op op_add (pv 3) pe_int)) po_none)))))
      (pss_one (ps_ret (pe_tupleOf (by rfl) B.tuple (pe_lc (own := [("name", 4)]) (g := gName 4) (tt := tYes) rfl sc__law_goes.nd (pi_range1 (by rfl) B.range (pa_cons (pe_callB (cl_len K) (by rfl) B.len PySem.boot_len (pa_cons (pv 0) pa_nil)) pa_nil))
        (blkOk_by (N := ["layout", "word", "line", "place", "name"]) (sc := defScope st__law_goes) (by decide +kernel)) (fun _ _ _ _ _ => pg_name (i := 4) sc__law_goes.nd rfl (Or.inl rfl)) (fun _ _ _ _ _ => pts_nil)
        (fun _ _ _ _ _ => pe_lidxK K (pv 2) (pv 4))))))), ?_⟩
    have lI : (((invR S).map V.int).length : Int) = (n : Int) := by rw [List.length_map, invL_len hS]
    refine ⟨_, rfl, a, _, rfl, .inr hA.sq, _, rfl, fun r hrg => ⟨r, rfl, ?_⟩⟩
    have s2 : Same H (upd H r (.rng 0 (((invR S).map V.int).length : Int))) := same_new hrg
    refine ⟨tabs_same hTb s2, fun f1 c1 H3 ex nn T3 nf e1 e2 => ⟨f1, (rg n).map V.int, kdI S, rfl, .inl ⟨0, (n : Int), (by rw [← lI]; exact ex _ _ upd_same (fun ps z => nomatch z)), ⟨by omega, by omega, by omega, by omega, by omega⟩, (rgV_rg n).symm⟩, ?_⟩⟩
    have ex1 : ExtN H H3 := (extN_same s2).trans ex
    have hA3 : FT H3 a (invR S) := let ⟨ob, h1, h2⟩ := hA; ⟨ob, ex1 _ _ h1 (fun ps z => nomatch z), h2⟩
    refine ⟨by rw [List.length_map, rg_len]; omega, kdI_alike S (rg n), kdI_sort S (rg n), fun x _ => kdI_depth S x, ?_, fun H4 l s4 hl => ?_⟩
    · refine keyAt_lam (X := X) (F := mk c1) (x := "name") (fr := ["layout"]) (ws := [some (.ref a)]) (lokG (P := P) (w := w) (mg := mg) (base := base) S (mk c1).qual (mk c1).cl c1 f1) hr2 (by decide) e1 e2 (fun pins H' s' I => ?_) (fun H' y sm hy => ?_)
      · exact cells_of I (Caps.made (X := X) (fr := ["layout"]) (js := [0]) I.ok hfX hfr rfl)
      · obtain ⟨x, hx, rfl⟩ := List.mem_map.mp hy
        exact ⟨a, x, n, rfl, rfl, hA3.same sm, hS, hx, .int _, Same.refl _⟩
    rw [srt_all hS]
    have s5 := same_new (o := .lst (S.map V.int)) hl
    have ex4 : ExtN H (upd H4 l (.lst (S.map V.int))) := ex1.trans (extN_same (s4.trans s5))
    have T4 := tabs_same T3 (s4.trans s5)
    have hA4 := (hA3.same s4).same s5
    have hB4 := extN_tups (K := K) ex4 _ _ hB
    have eL4 : (upd H4 l (.lst (S.map V.int))) l = some (.lst (S.map V.int)) := upd_same
    generalize (upd H4 l (.lst (S.map V.int))) = H5 at ex4 T4 hA4 hB4 eL4 ⊢
    refine ⟨_, rfl, b, rfl, ⟨_, hB4⟩, ?_⟩
    refine for_tup (xs := (posW S ns).map V.int) (fun i σ H' => Same H5 H' ∧ ∃ (l : Addr) (y3 : Option V), σ = [some (.ref a), some (.ref b), some (.ref l), y3, none] ∧ H' l = some (.lst (((ns.take i).foldl mtf S).map V.int))) ⟨Same.refl _, l, none, rfl, eL4⟩ (fun i σ H' _ h' => onT h'.1 hB4) (fun i x σ H' hx h' => ?_) (fun σ H' h' => ?_)
    · obtain ⟨p, hp, rfl⟩ := map_at hx
      obtain ⟨sm, l, y3, rfl, eL⟩ := h'
      obtain ⟨x, hx2, rfl⟩ := posW_get hp
      have hx3 := hin x (List.mem_of_getElem? hx2)
      have pm := fold_perm (n := n) (ns := ns.take i) hS fun y hy => hin y (List.mem_of_mem_take hy)
      have lM := perm_len pm
      have xM := pm.mem_iff.mpr hx3
      have gx := idx_get xM
      have lt := idx_lt pm hx3
      have mt := @fold_more mtf S ns i x hx2
      generalize (ns.take i).foldl mtf S = T at eL pm lM xM gx lt mt ⊢
      refine ⟨_, rfl, _, rfl, l, _, ((T.idxOf x : Nat) : Int), .int x, rfl, rfl, lstAt eL, atI_nat (at_map gx), by show 1 ≤ sizeLine; decide, fun l1 h1 => ?_⟩
      have s6 := same_new (o := .lst [.int x]) h1
      refine ⟨_, rfl, ?_⟩
      unfold tNoPart
      dsimp only
      refine ⟨_, rfl, _, rfl, l, _, rfl, lstAt (s6 _ _ eL), fun l2 h2 => ?_⟩
      have s7 := same_new (o := .lst (cutV (T.map V.int) none (some ((T.idxOf x : Nat) : Int)))) h2
      refine ⟨l1, l2, _, _, rfl, rfl, s7 _ _ upd_same, upd_same, ?_, fun l3 h3 => ?_⟩
      · rw [cut_to, List.length_take, List.length_map, sizeLine_eq]
        show 1 + _ ≤ _
        omega
      have s8 := same_new (o := .lst ([.int x] ++ cutV (T.map V.int) none (some ((T.idxOf x : Nat) : Int)))) h3
      refine ⟨_, rfl, _, rfl, ((T.idxOf x : Nat) : Int), 1, rfl, rfl, _, rfl, l, _, rfl, lstAt (s8 _ _ (s7 _ _ (s6 _ _ eL))), fun l4 h4 => ?_⟩
      have s9 := same_new (o := .lst (cutV (T.map V.int) (some (((T.idxOf x : Nat) : Int) + 1)) none)) h4
      refine ⟨l3, l4, _, _, rfl, rfl, s9 _ _ upd_same, upd_same, ?_, fun l5 h5 => ?_⟩
      · rw [cut_to, show ((T.idxOf x : Nat) : Int) + 1 = ((T.idxOf x + 1 : Nat) : Int) by omega, cut_from, List.length_append, List.length_take, List.length_drop, List.length_map, sizeLine_eq]
        show 1 + _ + _ ≤ _
        omega
      · refine ⟨sm.trans (s6.trans (s7.trans (s8.trans (s9.trans (same_new h5))))), l5, some (.int ((T.idxOf x : Nat) : Int)), rfl, ?_⟩
        rw [upd_same, mt, cut_to, show ((T.idxOf x : Nat) : Int) + 1 = ((T.idxOf x + 1 : Nat) : Int) by omega, cut_from, ← List.map_take, ← List.map_drop]
        unfold mtf
        rw [List.erase_eq_eraseIdx_of_idxOf rfl, List.eraseIdx_eq_take_drop_succ, List.map_cons, List.map_append]
        rfl
    · obtain ⟨sm, l, y3, rfl, eL⟩ := h'
      have full : ns.take ((posW S ns).map V.int).length = ns := by rw [List.length_map, posW_len, List.take_length]
      rw [full] at eL
      have pm := fold_perm (n := n) (ns := ns) hS hin
      have lM := perm_len pm
      generalize ns.foldl mtf S = T at eL pm lM q
      refine ⟨_, rfl, a, _, rfl, .inr (hA4.same sm).sq, _, rfl, by rw [lI]; omega, by rw [lI]; omega, fun D hD => ?_⟩
      rw [List.length_map, invL_len hS, Int.toNat_natCast]
      refine lc_range (lo := 0) (n := n) (fun i H2 => Same H' H2 ∧ H2 D = some (.lst (((List.range i).map fun j : Nat => ((T.idxOf (j : Int) : Nat) : Int)).map V.int))) ⟨same_new hD, upd_same⟩ (fun i H2 hi h2 => ?_) (fun H2 h2 => ?_)
      · obtain ⟨s2', eD⟩ := h2
        rw [Int.zero_add]
        have mi : (i : Int) ∈ T := pm.mem_iff.mpr (rg_mem.mpr ⟨by omega, by omega⟩)
        have gi := idx_get mi
        have eL2 := s2' _ _ eL
        refine ⟨rfl, _, rfl, .inl ⟨rfl, _, lstAt eL2⟩, _, rfl, l, _, _, T.idxOf (i : Int), .int (i : Int), rfl, rfl, lstAt eL2, rfl, flat_ints _, at_map gi, eqV_same _, eqV_first, _, eD, by rw [List.length_map, List.length_map, List.length_range]; exact small1000 (by omega), ?_, ?_⟩
        · exact fun c o ec => by rw [upd_ne (ne_of_none ec hD)]; exact s2' c o ec
        · rw [upd_same, List.range_succ, List.map_append, List.map_append]
          rfl
      · obtain ⟨s2', eD⟩ := h2
        refine .inl ⟨D, _, rfl, lstAt eD, fun t ht => ?_⟩
        have s3' := sm.trans (s2'.trans (same_new (o := .tup (((List.range n).map fun j : Nat => ((T.idxOf (j : Int) : Nat) : Int)).map V.int)) ht))
        refine q _ t (ex4.trans (extN_same s3')) (tabs_same T4 s3') ?_
        rw [upd_same]
        unfold invR
        rw [lM]
end
end RH
set_option Elab.async false
set_option linter.all false
set_option maxRecDepth 100000
set_option maxHeartbeats 2000000
namespace RH
open PySem PySem.Spec PyProof.Rows L2
open NdefX (NScope CellsAt Caps slotAt slotAt_of cells_of startF ncx)
open LamX (Tabs TabS TabB ExtN CodeO codeO_ne)
/-! ### the law's own end in order -/
section
variable {P : Program} {w : World} {K : PySem.W.Frag} {mg : Str → Option Value} {base : Heap}
theorem FT.ext {H H' : Hp} {a : Addr} {ns : List Int} (e : ExtN H H') (h : FT H a ns) : FT H' a ns := let ⟨ob, h1, h2⟩ := h; ⟨ob, e _ _ h1 (fun ps z => nomatch z), h2⟩
def spLEnd (K : PySem.W.Frag) (T : List (Addr × Str)) : Sp := fun vs H Q _ => ∃ (a b : Addr) (S B : List Int) (n : Nat), vs = [.ref a, .ref b] ∧ TwoL K H a b S B n ∧ Tabs T H ∧ ∀ H' c k, ExtN H H' → Tabs T H' → EndAt S B k → k < n → H' c = some (.tup ((B.drop k).map V.int)) → Q (.ref c) H'
theorem ok_lend {c P1 P2 P3 : Addr} (F : DfC K mg "_law_end" st__law_end ["one", "other"] c) (B : Bu mg) (TB : TabB base mg c P2) (h12 : P1 ≠ P2) (h23 : P2 ≠ P3) : Cal P w K mg base 4 "_law_end" (spLEnd K (tabs82 P1 P2 P3)) := by
  refine mkCalC F sc__law_end (fun vs H Q E h => ?_) (fun f A outer s H vs Q E hr h => ?_)
  · obtain ⟨a, b, S, Bk, n, rfl, _⟩ := h
    rfl
  · obtain ⟨a, b, S, Bk, n, rfl, t, hTb, q⟩ := h
    have n40 := t.n40
    have n1 := t.n1
    have lB := perm_len t.pb
    have hfree1 : ∀ y ∈ (lamS lamE1).names, y.2 = .free → (defScope st__law_end).names.lookup y.1 = some .cell ∨ (defScope st__law_end).names.lookup y.1 = some .free := by decide +kernel
    have hfree2 : ∀ y ∈ (lamS lamE2).names, y.2 = .free → (defScope st__law_end).names.lookup y.1 = some .cell ∨ (defScope st__law_end).names.lookup y.1 = some .free := by decide +kernel
    have hfr1 : ∀ y ∈ (["other"] : List Str), (y, NameKind.free) ∈ (lamS lamE1).names := by decide +kernel
    have hfr2 : ∀ y ∈ (["one"] : List Str), (y, NameKind.free) ∈ (lamS lamE2).names := by decide +kernel
    let X : Cx := (cxOf CX0 P w K mg base ["one", "other", "many", "names", "size", "end"] "_law_end" (defScope st__law_end) f (.ref c) A outer s H E).nox
    have hf1 : ∀ y ∈ (lamS lamE1).names, y.2 = .free → X.env.scope.names.lookup y.1 = some .cell ∨ X.env.scope.names.lookup y.1 = some .free := hfree1
    have hf2 : ∀ y ∈ (lamS lamE2).names, y.2 = .free → X.env.scope.names.lookup y.1 = some .cell ∨ X.env.scope.names.lookup y.1 = some .free := hfree2
    have huT : ∀ p ∈ tabs82 P1 P2 P3, p.1 = P2 → p.2 = X.env.qual ++ "<lambda>" := fun p hp e => by
      rcases List.mem_cons.mp hp with rfl | hp
      · exact absurd e h12
      · rcases List.mem_cons.mp hp with rfl | hp
        · rfl
        · rw [List.mem_singleton.mp hp] at e
          exact absurd e.symm h23
    let mk1 : Addr → LF := fun c' => ⟨X.env.qual ++ "<lambda>", lamP lamE1, lamB lamE1, lamS lamE1, cloFrom X.env.cells (lamS lamE1).names [], c'⟩
    let mk2 : Addr → LF := fun c' => ⟨X.env.qual ++ "<lambda>", lamP lamE2, lamB lamE2, lamS lamE2, cloFrom X.env.cells (lamS lamE2).names [], c'⟩
    have hr2 : Room (1 + 2) X.A := hr
    refine ⟨_, pss_cons (ps_set (i := 2) sc__law_end.nd rfl (.inl rfl) (pe_callB (cl_len K) (by rfl) B.len PySem.boot_len (pa_cons (pv 0) pa_nil)))
      (pss_cons (ps_set (i := 3) sc__law_end.nd rfl (.inl rfl) (pe_sortK (X := X) rfl hr2.in1.in1.units (by rfl) B.sorted (pe_callTy cr_range1 (by rfl) B.range boot_range (pa_cons (pv 2) pa_nil))
        (pe_lam (T := tabs82 P1 P2 P3) (params := lamP lamE1) (body := lamB lamE1) (scope := lamS lamE1) (pos := lamO lamE1) TB rfl (by exact List.Mem.tail _ (List.Mem.head _)) huT rfl hf1)))
      (pss_cons (ps_for PassesOwn.never rfl (pi_range3 (by rfl) B.range (pa_cons (pv 2) (pa_cons pe_int (pa_cons (pe_op op_sub pe_int pe_int) pa_nil)))) (pg_name (i := 4) sc__law_end.nd rfl (.inl rfl))
        (pss_cons (ps_set (i := 5) sc__law_end.nd rfl (.inl rfl) (pe_slice sl_list (pv 3) (po_some (pe_op op_sub (pv 2) (pv 4))) po_none))
        (pss_one (ps_if (pt_cmpR (op_eqD hr.units) (pe_sortK (X := X) rfl hr2.in1.in1.units (by rfl) B.sorted (pv 5)
          (pe_lam (T := tabs82 P1 P2 P3) (params := lamP lamE2) (body := lamB lamE2) (scope := lamS lamE2) (pos := lamO lamE2) TB rfl (by exact List.Mem.tail _ (List.Mem.head _)) huT rfl hf2)) (pv 5) (nomark _))
          (pss_one (ps_ret (pe_tupleOf (by rfl) B.tuple (pv 5)))) pss_nil))))
      (pss_one (ps_ret (pe_tup pa_nil))))), ?_⟩
    have lI : (((invR S).map V.int).length : Int) = (n : Int) := by rw [List.length_map, invL_len t.ps]
    refine ⟨_, rfl, a, _, rfl, .inr t.fa.sq, ?_⟩
    rw [List.length_map, invL_len t.ps]
    refine ⟨_, rfl, (n : Int), rfl, fun r hrg => ⟨r, rfl, ?_⟩⟩
    have s2 : Same H (upd H r (.rng 0 (n : Int))) := same_new hrg
    refine ⟨tabs_same hTb s2, fun f1 c1 H3 ex nn T3 nf e1 e2 => ⟨f1, (rg n).map V.int, kdI Bk, rfl, .inl ⟨0, (n : Int), ex _ _ upd_same (fun ps z => nomatch z), ⟨by omega, by omega, by omega, by omega, by omega⟩, (rgV_rg n).symm⟩, ?_⟩⟩
    have ex1 : ExtN H H3 := (extN_same s2).trans ex
    have hb3 := t.fb.ext ex1
    refine ⟨by rw [List.length_map, rg_len]; omega, kdI_alike Bk (rg n), kdI_sort Bk (rg n), fun x _ => kdI_depth Bk x, ?_, fun H4 l s4 hl => ?_⟩
    · refine keyAt_lam (X := X) (F := mk1 c1) (x := "name") (fr := ["other"]) (ws := [some (.ref b)]) (lokE1 (P := P) (w := w) (mg := mg) (base := base) Bk (mk1 c1).qual (mk1 c1).cl c1 f1) hr2 (by decide) e1 e2 (fun pins H' s' I => ?_) (fun H' y sm hy => ?_)
      · exact cells_of I (Caps.made (X := X) (fr := ["other"]) (js := [1]) I.ok hf1 hfr1 rfl)
      · obtain ⟨x, hx, rfl⟩ := List.mem_map.mp hy
        exact ⟨b, x, n, rfl, rfl, hb3.same sm, t.pb, hx, .int _, Same.refl _⟩
    rw [srt_all t.pb]
    have s5 := same_new (o := .lst (Bk.map V.int)) hl
    have ex4 : ExtN H (upd H4 l (.lst (Bk.map V.int))) := ex1.trans (extN_same (s4.trans s5))
    have T4 := tabs_same T3 (s4.trans s5)
    have eL4 : (upd H4 l (.lst (Bk.map V.int))) l = some (.lst (Bk.map V.int)) := upd_same
    generalize (upd H4 l (.lst (Bk.map V.int))) = H5 at ex4 T4 eL4 ⊢
    refine ⟨_, rfl, 0, 1, rfl, rfl, (n : Int), 0, -1, n, rfl, RgC.neg (by omega) (by omega) (by omega) (by omega), ?_⟩
    refine for_rangeC (lo := (n : Int)) (c := -1) (n := n) (fun i σ H' => ExtN H5 H' ∧ Tabs (tabs82 P1 P2 P3) H' ∧ (∀ t, t < i → ¬ Inc S (Bk.drop t)) ∧ ∃ y4 y5, σ = [some (.ref a), some (.ref b), some (.int (n : Int)), some (.ref l), y4, y5]) ⟨extN_same (Same.refl _), T4, fun t ht => absurd ht (Nat.not_lt_zero _), none, none, rfl⟩ (fun i σ H' hi h' => ?_) (fun σ H' h' => ?_)
    · obtain ⟨ex5, T5, no, y4, y5, rfl⟩ := h'
      have eL5 := ex5 _ _ eL4 (fun ps z => nomatch z)
      refine ⟨_, rfl, _, rfl, _, rfl, (n : Int), (n : Int) + (i : Int) * -1, rfl, rfl, _, rfl, l, _, rfl, lstAt eL5, fun e he => ?_⟩
      have ez : (n : Int) - ((n : Int) + (i : Int) * -1) = (i : Int) := by omega
      rw [ez, cut_from, ← List.map_drop]
      have s6 := same_new (o := .lst ((Bk.drop i).map V.int)) he
      have T6 := tabs_same T5 s6
      refine ⟨_, rfl, e, rfl, T6, fun f2 c2 H7 ex7 nn7 T7 nf7 e3 e4 => ⟨f2, (Bk.drop i).map V.int, kdI S, rfl, .inr (lstAt (ex7 _ _ upd_same (fun ps z => nomatch z))), ?_⟩⟩
      have eE7 := ex7 _ _ (upd_same (H := H') (a := e) (o := .lst ((Bk.drop i).map V.int))) (fun ps z => nomatch z)
      have ex57 : ExtN H5 H7 := (ex5.trans (extN_same s6)).trans ex7
      have ha7 := t.fa.ext (ex4.trans ex57)
      have ndE : (Bk.drop i).Nodup := (perm_nd t.pb).sublist (List.drop_sublist ..)
      have inE : ∀ x ∈ Bk.drop i, x ∈ rg n := fun x hx => t.pb.mem_iff.mp (List.mem_of_mem_drop hx)
      refine ⟨by rw [List.length_map, List.length_drop]; omega, kdI_alike S _, kdI_sort S _, fun x _ => kdI_depth S x, ?_, fun H8 p s8 hp => ?_⟩
      · refine keyAt_lam (X := X) (F := mk2 c2) (x := "book") (fr := ["one"]) (ws := [some (.ref a)]) (lokE2 (P := P) (w := w) (mg := mg) (base := base) S (mk2 c2).qual (mk2 c2).cl c2 f2) hr2 (by decide) e3 e4 (fun pins H' s' I => ?_) (fun H' y sm hy => ?_)
        · exact cells_of I (Caps.made (X := X) (fr := ["one"]) (js := [0]) I.ok hf2 hfr2 rfl)
        · obtain ⟨x, hx, rfl⟩ := List.mem_map.mp hy
          exact ⟨a, x, n, rfl, rfl, ha7.same sm, t.ps, inE x hx, .int _, Same.refl _⟩
      obtain ⟨R, eR, pR, iR⟩ := srt_spec (S := S) ndE fun x hx => t.ps.mem_iff.mpr (inE x hx)
      rw [eR]
      have s9 := same_new (o := .lst (R.map V.int)) hp
      have eE9 := s9 _ _ (s8 _ _ eE7)
      have ex59 : ExtN H5 _ := ex57.trans (extN_same (s8.trans s9))
      have T9 := tabs_same T7 (s8.trans s9)
      refine ⟨_, rfl, _, _, dp_lst (lstAt upd_same), dp_lst (lstAt eE9), PySem.W.ke_shaped_ints _, PySem.W.ke_shaped_ints _, _, rfl, ?_⟩
      rw [eqv_lst]
      refine ite2 (fun e => ?_) (fun e => ?_)
      · have e : R = Bk.drop i := of_decide_eq_true e
        rw [e] at iR
        have EA : EndAt S Bk i := ⟨by omega, iR, fun u hu => Nat.le_of_not_lt fun lt => no u lt hu⟩
        refine ⟨_, rfl, .inl ⟨_, _, rfl, lstAt eE9, fun u hu => ?_⟩⟩
        have s10 := same_new (o := .tup ((Bk.drop i).map V.int)) hu
        exact q _ u i (ex4.trans (ex59.trans (extN_same s10))) (tabs_same T9 s10) EA hi upd_same
      · have e : ¬ R = Bk.drop i := fun z => e (decide_eq_true z)
        refine ⟨ex59, T9, fun u hu => ?_, _, _, rfl⟩
        rcases Nat.lt_succ_iff_lt_or_eq.mp hu with hu | rfl
        · exact no u hu
        · exact fun z => e (sorted_eq pR iR z)
    · obtain ⟨_, _, no, _⟩ := h'
      exact absurd (inc_last (S := S) (B := Bk) (i := n - 1) (by omega)) (no (n - 1) (by omega))
end
end RH
set_option Elab.async false
set_option linter.all false
set_option maxRecDepth 100000
set_option maxHeartbeats 2000000
namespace RH
open PySem PySem.Spec PyProof.Rows L2
/-! ### what the law compares: lengths of words -/
theorem from_lay {n : Nat} {L : List Int} (h : L.Perm (rg n)) : ∃ S : List Int, S.Perm (rg n) ∧ L = invR S := ⟨invR L, invR_perm h, (invInv h).symm⟩
/-- a word that leads from one order to another, and none that does is shorter -/
structure Least82 (n : Nat) (h : List (List Int)) (S B ws : List Int) : Prop where
  in_ : ∀ p ∈ ws, p ∈ rg n
  goes : mvs h (invR S) ws = invR B
  least : ∀ us : List Int, (∀ p ∈ us, p ∈ rg n) → mvs h (invR S) us = invR B → ws.length ≤ us.length
theorem Least82.dist {n k : Nat} {h : List (List Int)} {S B ws wd : List Int} (g : Least82 n h S B ws) (hq : (invR B, wd) ∈ fd h n (invR S) k) : wd.length = ws.length := by
  have a := fd_short hq g.in_ g.goes
  obtain ⟨e, hin⟩ := fd_mvs k _ hq
  have b := g.least wd hin e
  omega
theorem Least82.found {n k : Nat} {h : List (List Int)} {S B ws : List Int} (g : Least82 n h S B ws) (hk : lv h n (invR S) k = []) (hn : invR B ∉ (fd h n (invR S) k).map Prod.fst) : False := by
  have := fd_reach (h := h) (L := invR S) ws g.in_
  rw [g.goes] at this
  obtain ⟨q, h1, e1⟩ := List.mem_map.mp this
  exact hn (List.mem_map.mpr ⟨q, fd_all hk h1, e1⟩)
theorem fold_perm82 {n : Nat} : ∀ {ns S : List Int}, S.Perm (rg n) → (∀ x ∈ ns, x ∈ rg n) → (ns.foldl mtf S).Perm (rg n)
  | [], _, hS, _ => hS
  | x :: ns, S, hS, h => fold_perm82 (ns := ns) ((mtf_perm (hS.mem_iff.mpr (h x (List.mem_cons_self ..)))).trans hS) fun y hy => h y (List.mem_cons_of_mem _ hy)
/-- the shelf to the front -/
theorem EndAt.names {n k : Nat} {S B : List Int} (hB : B.Perm (rg n)) : ∀ x ∈ (B.take k).reverse, x ∈ rg n := fun _ hx => hB.mem_iff.mp (List.mem_of_mem_take (List.mem_reverse.mp hx))
theorem EndAt.size {k : Nat} {S B : List Int} (E : EndAt S B k) : (posW S (B.take k).reverse).length = k := by
  rw [posW_len, List.length_reverse, List.length_take, Nat.min_eq_left E.lt]
theorem EndAt.one {S B : List Int} {k j : Nat} (E : EndAt S B k) (F : EndAt S B j) : k = j := Nat.le_antisymm (E.top j F.inc) (F.top k E.inc)
theorem least_front {n k : Nat} (n5 : n ≤ 5) {S B : List Int} (hS : S.Perm (rg n)) (hB : B.Perm (rg n)) (E : EndAt S B k) : Least82 n (frH n) S B (posW S (B.take k).reverse) where
  in_ := posW_in _ _ hS (EndAt.names (S := S) hB)
  goes := by rw [posW_mvs n5 _ _ hS (EndAt.names (S := S) hB), E.to (perm_nd hB) (hB.trans hS.symm)]
  least := fun us hu e => by
    obtain ⟨ns, l, hin, e2⟩ := front_names n5 us S hS hu
    rw [e] at e2
    have hp : (ns.foldl mtf S).Perm (rg n) := (fold_perm82 hS hin)
    have e3 : ns.foldl mtf S = B := (invR_inj hB hp e2).symm
    rw [E.size, ← l]
    exact E.le (perm_nd hS) (fun x hx => hS.mem_iff.mpr (hin x hx)) e3
/-- the shelf to the neighbour -/
theorem least_neigh {n : Nat} (n5 : n ≤ 5) {S B W : List Int} (hS : S.Perm (rg n)) (hB : B.Perm (rg n)) (l : W.length = prs (bef B) S) (hin : ∀ p ∈ W, p ∈ rg n) (goes : mvs (neighH n) (invR S) W = invR B) : Least82 n (neighH n) S B W where
  in_ := hin
  goes := goes
  least := fun us hu e => by
    rw [l]
    exact neigh_le n5 hB us S hS hu e
end RH
set_option Elab.async false
set_option linter.all false
set_option maxRecDepth 100000
set_option maxHeartbeats 2000000
namespace RH
open PySem PySem.Spec PyProof.Rows L2
open NdefX (NScope CellsAt Caps slotAt slotAt_of cells_of startF ncx)
open LamX (Tabs TabS TabB ExtN CodeO codeO_ne)
/-! ### a def of the module that is handed on as a value -/
section
variable {P : Program} {w : World} {K : PySem.W.Frag} {mg : Str → Option Value} {base : Heap}
structure CalV (P : Program) (w : World) (K : PySem.W.Frag) (mg : Str → Option Value) (base : Heap) (k : Nat) (x : Str) (f : Addr) (sp : Sp) : Prop where
  glob : mg x = some (.ref f)
  can : ∀ outer s H, Callable P w K mg base CX0 k f (fun _ => True) sp outer s H
theorem calV {x : Str} {st : Stmt} {ps : List Str} {k : Nat} {sp : Sp} (F : Df K mg x st ps) (c : Cal P w K mg base k x sp) : ∃ f, CalV P w K mg base k x f sp := by
  obtain ⟨f, fd, D, g, _⟩ := F.ex
  obtain ⟨f2, fd2, ps2, Fn, g2, kp, b⟩ := c.ex
  have e : f = f2 := by
    have := g.symm.trans g2
    cases this
    rfl
  subst e
  refine ⟨f, g, fun outer s H => ⟨fun X _ _ e3 _ _ _ pins σ H' s' I _ => ?_, fun X e1 e2 e3 e4 e5 e6 e7 e8 e9 hr pins σ H' s' us vs Q E I _ r hx q => ?_⟩⟩
  · subst e3
    obtain ⟨oc, od, kV, doc, pm, an, cdv, ct, osl, rfl, lk, _⟩ := D.ex
    exact ⟨_, od, _, osl, I.kIn _ _ lk⟩
  · subst e1 e2 e3 e4 e5
    exact run_fn Fn hr b .nil hx I r (by rw [List.append_nil]; exact q)
theorem Callable.weak {CX : CXT} {k j : Nat} {f : Addr} {live : Hp → Prop} {sp sp' : Sp} {outer : List Env} {s : Shared} {H : Hp} (c : Callable P w K mg base CX k f live sp outer s H) (hk : k ≤ j) (h : ∀ vs H Q E, sp' vs H Q E → sp vs H Q E) : Callable P w K mg base CX j f live sp' outer s H :=
  ⟨c.at_, fun X e1 e2 e3 e4 e5 e6 e7 e8 e9 hr pins σ H' s' us vs Q E I l r hx q => c.run X e1 e2 e3 e4 e5 e6 e7 e8 e9 (hr.mono hk) pins σ H' s' us vs Q E I l r hx (h _ _ _ _ q)⟩
end
section
variable {X : Cx}
/-- a tuple behind a tuple, the new one told by its very object -/
def rCatF (K : PySem.W.Frag) : R2 := fun x y H Q => ∃ a b xs ys, x = .ref a ∧ y = .ref b ∧ SqT K H a xs ∧ SqT K H b ys ∧ xs ≠ [] ∧ xs.length + ys.length ≤ sizeLine ∧
  (ys = [] → Q (.ref a) H) ∧ (ys ≠ [] → ∀ p ob, H p = none → ob.dict = none → Q (.ref p) (upd H p (.frz ob (.tup (xs ++ ys)))))
theorem op_catF : OpR X (binaryOp .Add) (rCatF X.K) := by
  intro pins s σ H x y v u Q I rx ry h
  obtain ⟨a, b, xs, ys, rfl, rfl, ha, hb, hx, hz, q1, q2⟩ := h
  cases rx
  cases ry
  obtain ⟨its, r1, p1, _⟩ := I.tuple ha
  obtain ⟨its2, r2, p2, _⟩ := I.tuple hb
  refine HT.cat_tup p1 p2 (fun z => hx (r1.nil_iff.mp z)) (fun z => ⟨.ref a, H, I, rfl, q1 (r2.nil_iff.mp z)⟩) (fun z => ?_) (by rw [← r1.length, ← r2.length]; exact hz)
  have e : (s.heap.push { cls := .type "tuple", data := .seq (its ++ its2).toArray }).get? s.heap.objs.size = some { cls := .type "tuple", data := .seq (its ++ its2).toArray } := Heap.get?_push_size _ rfl
  have I4 : Inv X pins σ (upd H s.heap.objs.size (.frz { cls := .type "tuple", data := .seq (its ++ its2).toArray } (.tup (xs ++ ys)))) { s with heap := s.heap.push { cls := .type "tuple", data := .seq (its ++ its2).toArray } } :=
    I.laid (t' := s.toks) (fun b o q => Heap.get?_push_of_some _ q) (Nat.le_refl _) ⟨e, by rw [List.length_append]; exact hz, _, r1.append r2, IsTup.new _ _⟩
  exact ⟨.ref s.heap.objs.size, _, I4, rfl, q2 (fun w => z (r2.nil_iff.mpr w)) _ _ (I.hok.fresh (Nat.le_refl _)) rfl⟩
end
end RH
set_option Elab.async false
set_option linter.all false
set_option maxRecDepth 100000
set_option maxHeartbeats 2000000
namespace RH
open PySem PySem.Spec PyProof.Rows L2
open NdefX (NScope CellsAt Caps slotAt slotAt_of cells_of startF ncx)
open LamX (Tabs TabS TabB ExtN CodeO codeO_ne)
/-! ### the law: what stands -/
/-- a statement's way on, told -/
theorem ps_cutM {X : Cx} {st : Stmt} {t : TS} (h : PS X st t) : PS X st (fun D σ H => ∃ G : L2.St → Hp → Prop, (∀ σ' H', G σ' H' → D.nx σ' H') ∧ t { D with nx := G } σ H) := by
  refine ⟨fun pins s σ H D I hw => ?_⟩
  obtain ⟨G, hG, hw⟩ := hw
  refine thn (h.run pins s σ H { D with nx := G } I hw) fun fl s1 q => ?_
  cases fl with
  | next =>
    obtain ⟨σ', H', I', q⟩ := q
    exact ⟨σ', H', I', hG _ _ q⟩
  | ret v => exact q
  | brk => exact q
  | cont => exact q
theorem Fix.tabs {T : List (Addr × Str)} {H H' : Hp} (f : Fix H H') (t : Tabs T H) : Tabs T H' := fun p hp => by
  obtain ⟨ps, h1, h2, h3⟩ := t p hp
  refine ⟨ps, f _ _ h1 (fun xs z => nomatch z), h2, fun pos cv hc => ?_⟩
  obtain ⟨c, e1, e2⟩ := h3 pos cv hc
  exact ⟨c, e1, f _ _ e2 (fun xs z => by unfold CodeO at z; cases z)⟩
theorem Row.ext {K : PySem.W.Frag} {H H' : Hp} {p : Addr} (e : ExtN H H') (h : Row K H p) : Row K H' p := by
  obtain ⟨a, ns, i, r, c, h⟩ := h
  refine ⟨a, ns, i, r, c, e _ _ h.at_ (fun ps z => nomatch z), ?_, h.pos⟩
  rcases h.fz with ⟨o, z⟩ | z
  · exact .inl ⟨o, e _ _ z (fun ps z => nomatch z)⟩
  · exact .inr z
/-- a call inside a try -/
theorem pcS {X : Cx} {k j : Nat} {x : Str} {sp : Sp} {W : WX} {p pos : Pos} {e : Expr} {es : List Expr} {t : TA} (c : CalX X.prog X.w X.K X.mg X.base k x sp) (tk : Takes X W) (hr : Room j X.A) (ha : PA X (e :: es) t) (hk : k ≤ j := by decide) (hg : Gl X x := by rfl)
    (hdb : (x == ("__debug__" : Str)) = false := by decide) (he : starEach (e :: es) X.env = (false, eval e X.env) :: starEach es X.env := by rfl) (hpl : (backTo pos (starEach es X.env)).any (·.1) = false := by rfl) :
    PE X (.Call (.Name x p) (e :: es) [] pos) (tCallS sp (WE W) t) := by
  obtain ⟨f, fd, ps, F, hm, kp, b⟩ := c.ex
  exact pe_callS F (hr.mono hk) hg hm kp b (fun σ => passAt tk σ) ha hdb he hpl
theorem op_repK {X : Cx} (K : PySem.W.Frag) (h : X.K = K := by rfl) : OpR X (binaryOp .Mult) (rRepT K) := by
  subst h
  exact op_repT
theorem op_catK {X : Cx} (K : PySem.W.Frag) (h : X.K = K := by rfl) : OpR X (binaryOp .Add) (rCatA K) := by
  subst h
  exact op_catA
theorem wd_none {K : PySem.W.Frag} {H : Hp} {v : V} (h : Tk K H v none) : Wd K H v none := ⟨h, (fun _ z => nomatch z), (fun _ z => nomatch z)⟩
/-- the law's row, its tables, two layouts told by their orders -/
structure Two82 (K : PySem.W.Frag) (T : List (Addr × Str)) (p a b : Addr) (S O : List Int) (n : Nat) (H : Hp) : Prop where
  row : Row K H p
  tab : Tabs T H
  fa : FT H a (invR S)
  fb : FT H b (invR O)
  ps : S.Perm (rg n)
  pb : O.Perm (rg n)
  n1 : 1 ≤ n
  n40 : n ≤ 40
section
variable {K : PySem.W.Frag} {T : List (Addr × Str)} {p a b : Addr} {S O : List Int} {n : Nat} {H H' : Hp}
theorem Two82.two (h : Two82 K T p a b S O n H) : TwoL K H a b S O n := ⟨h.fa, h.fb, h.ps, h.pb, h.n1, h.n40⟩
theorem Two82.same (h : Two82 K T p a b S O n H) (e : Same H H') : Two82 K T p a b S O n H' := ⟨h.row.same e, tabs_same h.tab e, h.fa.same e, h.fb.same e, h.ps, h.pb, h.n1, h.n40⟩
theorem Two82.but (h : Two82 K T p a b S O n H) (e : But p H H') (r : Row K H' p) : Two82 K T p a b S O n H' := ⟨r, (h.row.fix e).tabs h.tab, h.fa.fix (h.row.fix e), h.fb.fix (h.row.fix e), h.ps, h.pb, h.n1, h.n40⟩
theorem Two82.ext (h : Two82 K T p a b S O n H) (e : ExtN H H') (t : Tabs T H') : Two82 K T p a b S O n H' := ⟨h.row.ext e, t, h.fa.ext e, h.fb.ext e, h.ps, h.pb, h.n1, h.n40⟩
end
/-- the list of kinds: two tuples of three defs -/
structure Kd82 (kl t1 t2 f1 f2 f3 f4 f5 f6 : Addr) (H : Hp) : Prop where
  lst : H kl = some (.lst [.ref t1, .ref t2])
  one : H t1 = some (.tup [.ref f1, .ref f2, .ref f3])
  two : H t2 = some (.tup [.ref f4, .ref f5, .ref f6])
theorem Kd82.same {kl t1 t2 f1 f2 f3 f4 f5 f6 : Addr} {H H' : Hp} (h : Kd82 kl t1 t2 f1 f2 f3 f4 f5 f6 H) (e : Same H H') : Kd82 kl t1 t2 f1 f2 f3 f4 f5 f6 H' := ⟨e _ _ h.lst, e _ _ h.one, e _ _ h.two⟩
theorem Kd82.ext {kl t1 t2 f1 f2 f3 f4 f5 f6 : Addr} {H H' : Hp} (h : Kd82 kl t1 t2 f1 f2 f3 f4 f5 f6 H) (e : ExtN H H') : Kd82 kl t1 t2 f1 f2 f3 f4 f5 f6 H' := ⟨e _ _ h.lst (fun _ z => nomatch z), e _ _ h.one (fun _ z => nomatch z), e _ _ h.two (fun _ z => nomatch z)⟩
theorem Kd82.at_ {kl t1 t2 f1 f2 f3 f4 f5 f6 : Addr} {H : Hp} {i : Nat} {x : V} (h : Kd82 kl t1 t2 f1 f2 f3 f4 f5 f6 H) (hx : [V.ref t1, V.ref t2][i]? = some x) : ∃ (g : Bool) (t : Addr), x = .ref t ∧ H t = some (.tup [.ref (cond g f1 f4), .ref (cond g f2 f5), .ref (cond g f3 f6)]) := by
  match i, hx with
  | 0, hx =>
    cases hx
    exact ⟨true, t1, rfl, h.one⟩
  | 1, hx =>
    cases hx
    exact ⟨false, t2, rfl, h.two⟩
/-- the word of a kind, and its length -/
structure Wk82 (g : Bool) (n : Nat) (S O ws : List Int) : Prop where
  least : Least82 n (cond g (frH n) (neighH n)) S O ws
  frt : g = true → EndAt S O ws.length
  nei : g = false → ws.length = prs (bef O) S
section
variable {K : PySem.W.Frag} {H : Hp} {Q : VK} {E : XK} {a b : Addr} {S O ws : List Int} {n : Nat}
theorem kind_ok (g : Bool) (n2 : 2 ≤ n) (n5 : n ≤ 5) (q : ∀ v H', Same H H' → TII K H' v (cond g (frH n) (neighH n)) → Q v H') : (cond g (spFrH K) (spHab K neighH) : Sp) [.int n] H Q E := by
  cases g with
  | true => exact ⟨n, rfl, n2, n5, q⟩
  | false => exact ⟨n, rfl, n2, n5, q⟩
theorem word_ok (g : Bool) (h : TwoL K H a b S O n) (n5 : n ≤ 5) (q : ∀ H' c ws, Same H H' → FT H' c ws → Wk82 g n S O ws → Q (.ref c) H') : (cond g (spFWord K) (spNWord K) : Sp) [.ref a, .ref b] H Q E := by
  cases g with
  | true => exact ⟨a, b, S, O, n, rfl, h, fun H' c k s hE _ hc => q H' c _ s hc ⟨least_front n5 h.ps h.pb hE, (fun _ => by rw [hE.size]; exact hE), (fun z => nomatch z)⟩⟩
  | false => exact ⟨a, b, S, O, n, rfl, h, fun H' c W s l hin goes hc => q H' c W s hc ⟨least_neigh n5 h.ps h.pb l hin (goes n5), (fun z => nomatch z), (fun _ => l)⟩⟩
theorem far_ok (g : Bool) (h : TwoL K H a b S O n) (hw : Wk82 g n S O ws) (q : ∀ H', Same H H' → Q (.int (ws.length : Nat)) H') : (cond g (spFDist K) (spNDist K) : Sp) [.ref a, .ref b] H Q E := by
  cases g with
  | true => exact ⟨a, b, S, O, n, rfl, h, fun H' k s hE _ => by rw [hE.one (hw.frt rfl)]; exact q H' s⟩
  | false => exact ⟨a, b, S, O, n, rfl, h, fun H' s => by rw [← hw.nei rfl]; exact q H' s⟩
theorem kind_hb (g : Bool) (n2 : 2 ≤ n) (n5 : n ≤ 5) : Hb n (cond g (frH n) (neighH n)) := by
  cases g with
  | true => exact frH_hb n2 n5
  | false => exact neighH_hb n2 n5
end
theorem Wk82.few {g : Bool} {n : Nat} {S O ws : List Int} (h : Wk82 g n S O ws) (hS : S.Perm (rg n)) (hO : O.Perm (rg n)) (n5 : n ≤ 5) : ws.length ≤ 400 := by
  cases g with
  | true =>
    have := (h.frt rfl).lt
    rw [perm_len hO] at this
    omega
  | false =>
    have a := h.nei rfl
    have b := prs_few (bef O) S
    rw [perm_len hS] at b
    have c : n * n ≤ 5 * 5 := Nat.mul_le_mul n5 n5
    omega
theorem trn_few {n : Nat} {L O ws : List Int} (h : trn n L O = some ws) : ws.length ≤ 1 := by
  unfold trn at h
  split at h
  · cases h
    exact Nat.zero_le _
  · split at h
    · cases h
      exact Nat.le_refl _
    · cases h
/-- what turning answers, and how far it is -/
def Tn82 (n : Nat) (S O : List Int) (vt vd : V) (H : Hp) : Prop :=
  (∃ (b : Addr) (ws : List Int), vt = .ref b ∧ vd = .int ((ws.length : Nat) : Int) ∧ H b = some (.tup (ws.map V.int)) ∧ mvs (turnH n) (invR S) ws = invR O ∧ (∀ p ∈ ws, p ∈ rg n) ∧ ws.length ≤ 1) ∨ (vt = .non ∧ vd = .non)
theorem Tn82.same {n : Nat} {S O : List Int} {vt vd : V} {H H' : Hp} (h : Tn82 n S O vt vd H) (e : Same H H') : Tn82 n S O vt vd H' :=
  h.imp (fun ⟨b, ws, h1, h2, h3, h4⟩ => ⟨b, ws, h1, h2, e _ _ h3, h4⟩) id
/-! ### the law: a row joined out of its two parts, ends, crossings -/
theorem slA_one {K : PySem.W.Frag} {H : Hp} {a : Addr} {L : List Int} {Q : VK} (h : FT H a L) (q : ∀ b H2, Same H H2 → SqT K H2 b ((L.take 1).map V.int) → (L.length = 1 → b = a) → Q (.ref b) H2) : rSlA K (.ref a) none (some 1) H Q := by
  refine ⟨a, _, rfl, h.sq, fun hf => q a H (Same.refl _) ?_ (fun _ => rfl), fun hn p hp => q p _ (same_new hp) (tupAt ?_) (fun e => absurd ⟨rfl, ?_⟩ hn)⟩
  · have e := hf.2
    rw [show (1 : Int) = ((1 : Nat) : Int) from rfl, HT.sIx_nat, List.length_map] at e
    rw [List.take_of_length_le (by omega)]
    exact h.sq
  · rw [upd_same, show (1 : Int) = ((1 : Nat) : Int) from rfl, cut_to, List.map_take]
  · rw [show (1 : Int) = ((1 : Nat) : Int) from rfl, HT.sIx_nat, List.length_map, e]
    rfl
theorem join82 {K : PySem.W.Frag} {H : Hp} {a b c : Addr} {L : List Int} {Q : VK} (hl : 1 ≤ L.length) (h40 : L.length ≤ 40) (h : FT H a L) (hb : SqT K H b ((L.take 1).map V.int)) (e : L.length = 1 → b = a) (hc : SqT K H c ((L.drop 1).map V.int)) (q : ∀ d H2, Same H H2 → FT H2 d L → Q (.ref d) H2) : rCatF K (.ref b) (.ref c) H Q := by
  refine ⟨b, c, _, _, rfl, rfl, hb, hc, fun z => ?_, ?_, fun z => ?_, fun z p ob hp hob => ?_⟩
  · have := congrArg List.length z
    rw [List.length_map, List.length_take, List.length_nil] at this
    omega
  · rw [List.length_map, List.length_map, ← List.length_append, List.take_append_drop]
    exact Nat.le_of_lt (small1000 (by omega))
  · have l1 := congrArg List.length z
    rw [List.length_map, List.length_drop, List.length_nil] at l1
    rw [e (by omega)]
    exact q a H (Same.refl _) h
  · refine q p _ (same_new hp) ⟨ob, ?_, hob⟩
    rw [upd_same, ← List.map_append, List.take_append_drop]
theorem sum_more82 {f : Int → Nat} {n i : Nat} (hi : i < n) : (((rg n).take (i + 1)).map f).sum = (((rg n).take i).map f).sum + f (i : Int) := by
  rw [List.take_add_one, rg_at hi, List.map_append, List.sum_append]
  show _ + (f (i : Int) + 0) = _
  rw [Nat.add_zero]
theorem take_more82 {n j : Nat} {f : Int → Bool} (hj : j < n) : ((rg n).take (j + 1)).filter f = ((rg n).take j).filter f ++ (if f (j : Int) = true then [(j : Int)] else []) := by
  rw [List.take_add_one, rg_at hj, List.filter_append]
  show _ ++ [(j : Int)].filter f = _
  split
  · rw [List.filter_cons_of_pos ‹_›, List.filter_nil]
  · rw [List.filter_cons_of_neg ‹_›, List.filter_nil]
theorem filter_more82 {L : List Int} {j : Nat} {y : Int} {f : Int → Bool} (hy : L[j]? = some y) : (L.take (j + 1)).filter f = (L.take j).filter f ++ (if f y = true then [y] else []) := by
  rw [List.take_add_one, hy, List.filter_append]
  show _ ++ [y].filter f = _
  split
  · rw [List.filter_cons_of_pos ‹_›, List.filter_nil]
  · rw [List.filter_cons_of_neg ‹_›, List.filter_nil]
theorem EndAt.eqn {S B : List Int} {k j n : Nat} (E : EndAt S B k) (F : EndAt S B j) (hk : k < n) (l : B.length = n) : (n : Int) - (((B.drop j).map V.int).length : Nat) = (k : Int) := by
  rw [E.one F, List.length_map, List.length_drop]
  have := E.one F
  omega
theorem okD_flat (ns : List Int) (h : ns.length ≤ 1000) : okD 2 (.tuple (ns.map PyData.int)) := by
  refine ⟨by rw [List.length_map]; exact h, fun d hd => ?_⟩
  obtain ⟨i, _, rfl⟩ := List.mem_map.mp hd
  exact True.intro
end RH
set_option Elab.async false
set_option linter.all false
set_option maxRecDepth 100000
set_option maxHeartbeats 2000000
namespace RH
open PySem PySem.Spec PyProof.Rows L2
open NdefX (NScope CellsAt Caps slotAt slotAt_of cells_of startF ncx)
open LamX (Tabs TabS TabB ExtN CodeO codeO_ne)
/-! ### the law -/
abbrev NL82 : List Str := ["script", "row", "many", "one", "other", "kinds", "kind", "word", "far", "due", "told", "turn", "shift", "great", "near", "end", "crossed", "name", "behind", "e", "place", "later"]
def spLaw (K : PySem.W.Frag) (T : List (Addr × Str)) : Sp := fun vs H Q _ => ∃ (a : Addr) (ns : List Int), vs = [.ref a] ∧ Fz K H a (ns.map V.int) ∧ Tabs T H ∧ ∀ H', Q (.bl true) H'
section
variable {P : Program} {w : World} {K : PySem.W.Frag} {mg : Str → Option Value} {base : Heap} {Cl : Addr}
theorem ok_law {P1 P2 P3 f f1 f2 f3 f4 f5 f6 : Addr} {fd : FuncData} (F : Fun K "law" "law" st_law f fd) (B : Bu mg) (gl : mg "BadLayout" = some (.ref Cl)) (el : PySem.W.exmOne K (.ref Cl) (.ref Cl) = some true)
    (CT : Cal P w K mg base 1 "_law_taken" (spTaken K)) (CPk : Cal P w K mg base 2 "_law_pick" (spPick K)) (CP : Cal P w K mg base 2 "_law_permutation" (spPermL K)) (CA : Cal P w K mg base 3 "_law_alike" (spAlike K 2))
    (CDi : Cal P w K mg base 8 "distance" (spDist K (tabs82 P1 P2 P3))) (CAf : Cal P w K mg base 7 "after" (spAfter K)) (CTw : Cal P w K mg base 8 "turning_word" (spTurn K)) (CTh : Cal P w K mg base 5 "turning_habit" (spHab K turnH))
    (CLE : Cal P w K mg base 4 "_law_end" (spLEnd K (tabs82 P1 P2 P3))) (CLG : Cal P w K mg base 4 "_law_goes" (spGoes K (tabs82 P1 P2 P3))) (CK : Cal P w K mg base 8 "kept_end" (spKept K)) (CFD : Cal P w K mg base 9 "front_distance" (spFDist K)) (CFW : Cal P w K mg base 8 "front_word" (spFWord K))
    (CND : Cal P w K mg base 8 "neighbour_distance" (spNDist K)) (CNW : Cal P w K mg base 8 "neighbour_word" (spNWord K)) (CFX : CalX P w K mg base 8 "front_word" (spTwoY K Cl))
    (V1 : CalV P w K mg base 5 "front_habit" f1 (spFrH K)) (V2 : CalV P w K mg base 8 "front_word" f2 (spFWord K)) (V3 : CalV P w K mg base 9 "front_distance" f3 (spFDist K))
    (V4 : CalV P w K mg base 5 "neighbour_habit" f4 (spHab K neighH)) (V5 : CalV P w K mg base 8 "neighbour_word" f5 (spNWord K)) (V6 : CalV P w K mg base 8 "neighbour_distance" f6 (spNDist K)) : FnOk P w K mg base CX0 10 f fd ["script"] (spLaw K (tabs82 P1 P2 P3)) := by
  refine F.ok sc_law (fun vs H Q E h => ?_) (fun cdv A outer s H vs Q E hr h => ?_)
  · obtain ⟨a, ns, rfl, _⟩ := h
    rfl
  · obtain ⟨a, scr, rfl, hZ, hTb, q⟩ := h
    let X : Cx := (cxOf CX0 P w K mg base NL82 "law" (defScope st_law) f cdv A outer s H E).nox
    have K1 : ∀ g : Bool, Callable P w K mg base CX0 5 (cond g f1 f4) (fun _ => True) (cond g (spFrH K) (spHab K neighH)) outer s H := fun g => match g with
      | true => V1.can outer s H
      | false => V4.can outer s H
    have K2 : ∀ g : Bool, Callable P w K mg base CX0 8 (cond g f2 f5) (fun _ => True) (cond g (spFWord K) (spNWord K)) outer s H := fun g => match g with
      | true => V2.can outer s H
      | false => V5.can outer s H
    have K3 : ∀ g : Bool, Callable P w K mg base CX0 9 (cond g f3 f6) (fun _ => True) (cond g (spFDist K) (spNDist K)) outer s H := fun g => match g with
      | true => V3.can outer s H
      | false => (V6.can outer s H).weak (by decide) fun _ _ _ _ h => h
    refine ⟨_, PSs.nox (pss_cons (ps_set (i := 1) sc_law.nd rfl (.inl rfl) (pe_lst (pa_cons (pv 0) (pa_cons pe_int (pa_cons pe_int (pa_cons pe_int pa_nil))))))
      (pss_cons (ps_cutM (ps_set (i := 2) sc_law.nd rfl (.inr rfl) (pe_op op_add pe_int (pc CT hr (pa_cons (pv 1) (pa_cons pe_int pa_nil))))))
      (pss_cons (ps_cutM (ps_par (i := 3) (j := 4) rfl sc_law.nd rfl rfl (by decide) rfl rfl (pa_cons (pc CP hr (pa_cons (pv 1) (pa_cons (pv 2) pa_nil))) (pa_cons (pc CP hr (pa_cons (pv 1) (pa_cons (pv 2) pa_nil))) pa_nil)) rfl))
      (pss_cons (ps_cutM (ps_set (i := 5) sc_law.nd rfl (.inl rfl) (pe_lst (pa_cons (pe_tup (pa_cons (pe_glob rfl V1.glob (show RelV (.ref _) _ from rfl)) (pa_cons (pe_glob rfl V2.glob (show RelV (.ref _) _ from rfl)) (pa_cons (pe_glob rfl V3.glob (show RelV (.ref _) _ from rfl)) pa_nil)))) (pa_cons (pe_tup (pa_cons (pe_glob rfl V4.glob (show RelV (.ref _) _ from rfl)) (pa_cons (pe_glob rfl V5.glob (show RelV (.ref _) _ from rfl)) (pa_cons (pe_glob rfl V6.glob (show RelV (.ref _) _ from rfl)) pa_nil)))) pa_nil)))))
      (pss_cons (ps_cutM (ps_for PassesOwn.never rfl (pi_list (pv 5)) (pg_tup rfl (pgs_cons (pg_name (i := 6) sc_law.nd rfl (.inl rfl)) (pgs_cons (pg_name (i := 7) sc_law.nd rfl (.inl rfl)) (pgs_cons (pg_name (i := 8) sc_law.nd rfl (.inr rfl)) pgs_nil)))) (pss_cons (ps_cutM (ps_par (i := 9) (j := 10) rfl sc_law.nd rfl rfl (by decide) rfl rfl (pa_cons (pc CDi hr (pa_cons (pe_canK (X := X) (fa := fun g : Bool => cond g f1 f4) (live := fun _ _ => True) (i := 6) (sp := fun g => cond g (spFrH K) (spHab K neighH)) K1 rfl hr (by decide) pass0 rfl (Or.inl rfl) (pa_cons (pv 2) pa_nil)) (pa_cons (pv 3) (pa_cons (pv 4) pa_nil)))) (pa_cons (pe_canK (X := X) (fa := fun g : Bool => cond g f2 f5) (live := fun _ _ => True) (i := 7) (sp := fun g => cond g (spFWord K) (spNWord K)) K2 rfl hr (by decide) pass0 rfl (Or.inl rfl) (pa_cons (pv 3) (pa_cons (pv 4) pa_nil))) pa_nil)) rfl))
        (pss_one (ps_if (PW.pt (pw_or (pt_not (pt_val (pc CA hr (pa_cons (pe_canK (X := X) (fa := fun g : Bool => cond g f3 f6) (live := fun _ _ => True) (i := 8) (sp := fun g => cond g (spFDist K) (spNDist K)) K3 rfl hr (by decide) pass0 rfl (Or.inr (Or.inl rfl)) (pa_cons (pv 3) (pa_cons (pv 4) pa_nil))) (pa_cons (pv 9) pa_nil))))) (pw_or (pt_cmpR op_ne (pe_callB (cl_len K) (by rfl) B.len PySem.boot_len (pa_cons (pv 10) pa_nil)) (pv 9) (nomark _)) (pw_or1 (pt_cmpR (op_neD hr.units) (pc CAf hr (pa_cons (pe_canK (X := X) (fa := fun g : Bool => cond g f1 f4) (live := fun _ _ => True) (i := 6) (sp := fun g => cond g (spFrH K) (spHab K neighH)) K1 rfl hr (by decide) pass0 rfl (Or.inl rfl) (pa_cons (pv 2) pa_nil)) (pa_cons (pv 3) (pa_cons (pv 10) pa_nil)))) (pv 4) (nomark _)))))) (pss_one (ps_ret pe_bl)) pss_nil)))))
      (pss_cons (ps_cutM (ps_par (i := 11) (j := 9) rfl sc_law.nd rfl rfl (by decide) rfl rfl (pa_cons (pc CTw hr (pa_cons (pv 3) (pa_cons (pv 4) pa_nil))) (pa_cons (pc CDi hr (pa_cons (pc CTh hr (pa_cons (pv 2) pa_nil)) (pa_cons (pv 3) (pa_cons (pv 4) pa_nil)))) pa_nil)) rfl))
      (pss_cons (ps_cutM (ps_if (PW.pt (pw_or (pt_cmpR op_ne (pe_cmpR op_isN (pv 11) pe_non (nomark _)) (pe_cmpR op_isN (pv 9) pe_non (nomark _)) (nomark _)) (pw_or1 (PW.pt (pw_and (pt_cmpR op_notN (pv 11) pe_non (nomark _)) (pw_and1 (pt_cmpR op_ne (pe_callB (cl_len K) (by rfl) B.len PySem.boot_len (pa_cons (pv 11) pa_nil)) (pv 9) (nomark _)))))))) (pss_one (ps_ret pe_bl)) pss_nil))
      (pss_cons (ps_cutM (ps_if (PW.pt (pw_and (pt_cmpR op_notN (pv 11) pe_non (nomark _)) (pw_and1 (pt_cmpR (op_neD hr.units) (pc CAf hr (pa_cons (pc CTh hr (pa_cons (pv 2) pa_nil)) (pa_cons (pv 3) (pa_cons (pv 11) pa_nil)))) (pv 4) (nomark _))))) (pss_one (ps_ret pe_bl)) pss_nil))
      (pss_cons (ps_cutM (ps_set (i := 12) sc_law.nd rfl (.inr rfl) (pc CT hr (pa_cons (pv 1) (pa_cons (pv 2) pa_nil)))))
      (pss_cons (ps_cutM (ps_if (pt_cmpR (op_neD hr.units) (pc CTw hr (pa_cons (pv 3) (pa_cons (pe_tupleF (by rfl) B.tuple (pe_lc (own := [("place", 20)]) (g := gName 20) (tt := tYes) rfl sc_law.nd (pi_tup (pv 3)) (blkOk_by (N := NL82) (sc := defScope st_law) (by decide +kernel)) (fun _ _ _ _ _ => pg_name (i := 20) sc_law.nd rfl (Or.inl rfl)) (fun _ _ _ _ _ => pts_nil) (fun _ _ _ _ _ => (pe_op op_mod (pe_op op_add (pv 20) (pv 12)) (pv 2))))) pa_nil))) (pe_ifExp (pt_cmpR op_gt (pv 12) pe_int (nomark _)) (pe_tup (pa_cons (pv 12) pa_nil)) (pe_tup pa_nil)) (nomark _)) (pss_one (ps_ret pe_bl)) pss_nil))
      (pss_cons (ps_cutM (ps_set (i := 13) sc_law.nd rfl (.inl rfl) (pe_op op_add pe_int (pc CT hr (pa_cons (pv 1) (pa_cons pe_int pa_nil))))))
      (pss_cons (ps_cutM (ps_asg (pe_tup (pa_cons (pc CP hr (pa_cons (pv 1) (pa_cons (pv 13) pa_nil))) (pa_cons (pc CP hr (pa_cons (pv 1) (pa_cons (pv 13) pa_nil))) pa_nil))) (pg_tup rfl (pgs_cons (pg_name (i := 14) sc_law.nd rfl (.inr rfl)) (pgs_cons (pg_name (i := 8) sc_law.nd rfl (.inr rfl)) pgs_nil)))))
      (pss_cons (ps_cutM (ps_if (pt_cmpR op_eq (pc CT hr (pa_cons (pv 1) (pa_cons pe_int pa_nil))) pe_int (nomark _)) (pss_one (ps_set (i := 8) sc_law.nd rfl (.inr rfl) (pe_op op_catF (pe_slice sl_tupA (pv 14) po_none (po_some pe_int)) (pe_slice sl_tupA (pv 14) (po_some pe_int) po_none)))) pss_nil))
      (pss_cons (ps_cutM (ps_set (i := 15) sc_law.nd rfl (.inl rfl) (pc CLE hr (pa_cons (pv 14) (pa_cons (pv 8) pa_nil)))))
      (pss_cons (ps_cutM (ps_if (PW.pt (pw_or (pt_not (pt_val (pc CA hr (pa_cons (pc CK hr (pa_cons (pv 14) (pa_cons (pv 8) pa_nil))) (pa_cons (pv 15) pa_nil))))) (pw_or1 (pt_not (pt_val (pc CA hr (pa_cons (pc CFD hr (pa_cons (pv 14) (pa_cons (pv 8) pa_nil))) (pa_cons (pe_op op_sub (pv 13) (pe_callB (cl_len K) (by rfl) B.len PySem.boot_len (pa_cons (pv 15) pa_nil))) pa_nil)))))))) (pss_one (ps_ret pe_bl)) pss_nil))
      (pss_cons (ps_cutM (ps_set (i := 7) sc_law.nd rfl (.inl rfl) (pc CFW hr (pa_cons (pv 14) (pa_cons (pv 8) pa_nil)))))
      (pss_cons (ps_cutM (ps_if (PW.pt (pw_or (pt_cmpR op_ne (pe_callB (cl_len K) (by rfl) B.len PySem.boot_len (pa_cons (pv 7) pa_nil)) (pe_op op_sub (pv 13) (pe_callB (cl_len K) (by rfl) B.len PySem.boot_len (pa_cons (pv 15) pa_nil))) (nomark _)) (pw_or1 (pt_cmpR (op_neD hr.units) (pc CLG hr (pa_cons (pv 14) (pa_cons (pv 7) pa_nil))) (pv 8) (nomark _))))) (pss_one (ps_ret pe_bl)) pss_nil))
      (pss_cons (ps_cutM (ps_set (i := 16) sc_law.nd rfl (.inl rfl) pe_int))
      (pss_cons (ps_cutM (ps_for PassesOwn.never rfl (pi_range1 (by rfl) B.range (pa_cons (pv 13) pa_nil)) (pg_name (i := 17) sc_law.nd rfl (.inr rfl)) (pss_cons (ps_setLc (i := 18) (own := [("later", 21)]) (g := gName 21) rfl sc_law.nd rfl rfl (sw_true rfl rfl rfl (by decide +kernel)) (pi_range1 (by rfl) B.range (pa_cons (pv 13) pa_nil)) (blkOk_by (N := NL82) (sc := defScope st_law) (by decide +kernel)) (fun _ _ _ _ _ => pg_name (i := 21) sc_law.nd rfl (Or.inl rfl)) (fun _ _ _ _ _ => pts_one (pt_cmpR op_lt (pe_ix (ixT K) (pv 14) (pv 17) (fun _ _ => rfl)) (pe_ix (ixT K) (pv 14) (pv 21) (fun _ _ => rfl)) (nomark _))) (fun _ _ _ _ _ => (pv 21)))
        (pss_one (ps_set (i := 16) sc_law.nd rfl (.inl rfl) (pe_op op_add (pv 16) (pe_callB (cl_len K) (by rfl) B.len PySem.boot_len (pa_cons (pe_lc (own := [("later", 21)]) (g := gName 21) rfl sc_law.nd (pi_list (pv 18)) (blkOk_by (N := NL82) (sc := defScope st_law) (by decide +kernel)) (fun _ _ _ _ _ => pg_name (i := 21) sc_law.nd rfl (Or.inl rfl)) (fun _ _ _ _ _ => pts_one (pt_cmpR op_gt (pe_ix (ixT K) (pv 8) (pv 17) (fun _ _ => rfl)) (pe_ix (ixT K) (pv 8) (pv 21) (fun _ _ => rfl)) (nomark _))) (fun _ _ _ _ _ => (pv 21))) pa_nil))))))))
      (pss_cons (ps_cutM (ps_if (PW.pt (pw_or (pt_not (pt_val (pc CA hr (pa_cons (pc CND hr (pa_cons (pv 14) (pa_cons (pv 8) pa_nil))) (pa_cons (pv 16) pa_nil))))) (pw_or1 (pt_cmpR op_ne (pe_callB (cl_len K) (by rfl) B.len PySem.boot_len (pa_cons (pc CNW hr (pa_cons (pv 14) (pa_cons (pv 8) pa_nil))) pa_nil)) (pv 16) (nomark _))))) (pss_one (ps_ret pe_bl)) pss_nil))
      (pss_cons (ps_try_as (i := 19) (c := .ref Cl) (ts := fun a cls d => fun D σ H => D.rt (.bl true) H) (Wout := fun _ _ _ _ => False) rfl rfl sc_law.nd rfl rfl ⟨rfl, by decide, .inl gl⟩ takes0
        (fun W pn xe tk _ => pss_one (ps_expr (pcS CFX tk hr (pa_cons (pv 14) (pa_cons (pc CPk hr (pa_cons (pv 1) (pa_cons (pe_lst (pa_cons pe_non (pa_cons (pe_op (op_catK K) (pv 14) (pe_tup (pa_cons (pv 13) pa_nil))) (pa_cons (pe_op (op_repK K) (pe_tup (pa_cons pe_int pa_nil)) (pe_op op_add (pv 13) pe_int)) (pa_cons (pe_callTy (cl_listOf K) (by rfl) B.list (by decide +kernel) (pa_cons (pv 14) pa_nil)) pa_nil))))) pa_nil))) pa_nil)))))
        (fun a oe cls d pn hz hf => pss_one (ps_ret pe_bl)))
      (pss_one (ps_ret pe_bl))))))))))))))))))))))), ?_⟩
    -- row
    refine ⟨_, rfl, by show 4 ≤ sizeLine; decide, fun p hp => ?_⟩
    have sp := same_new (o := .lst [.ref a, .int 0, .int 7482, .int 0]) hp
    have hR1 : Row K (upd H p (.lst [.ref a, .int 0, .int 7482, .int 0])) p := ⟨a, scr, 0, 7482, 0, upd_same, hZ.on (Fix.same sp), Int.le_refl _⟩
    have tb1 : Tabs (tabs82 P1 P2 P3) (upd H p (.lst [.ref a, .int 0, .int 7482, .int 0])) := tabs_same hTb sp
    generalize (upd H p (.lst [.ref a, .int 0, .int 7482, .int 0])) = H1 at hR1 tb1 ⊢
    -- many
    refine ⟨fun σ' H' => ∃ n : Nat, σ' = [some (.ref a), some (.ref p), some (.int (n : Int)), none, none, none, none, none, none, none, none, none, none, none, none, none, none, none, none, none, none, none] ∧ Row K H' p ∧ Tabs (tabs82 P1 P2 P3) H' ∧ 2 ≤ n ∧ n ≤ 5, fun σ2 H2 g2 => ?_, ?_⟩
    case refine_2 =>
      refine ⟨_, rfl, p, 4, rfl, hR1, by decide, by decide, fun k H2 k0 k1 hB hR => ⟨2, k, rfl, rfl, ?_⟩⟩
      obtain ⟨n, hn⟩ : ∃ n : Nat, 2 + k = (n : Int) := ⟨(2 + k).toNat, by omega⟩
      exact ⟨n, by rw [← hn]; rfl, hR, (hR1.fix hB).tabs tb1, by omega, by omega⟩
    obtain ⟨n, rfl, hR2, tb2, n2, n5⟩ := g2
    -- one, other
    refine ⟨fun σ' H' => ∃ (oa ta : Addr) (S O : List Int), σ' = [some (.ref a), some (.ref p), some (.int (n : Int)), some (.ref oa), some (.ref ta), none, none, none, none, none, none, none, none, none, none, none, none, none, none, none, none, none] ∧ Two82 K (tabs82 P1 P2 P3) p oa ta S O n H', fun σ3 H3 g3 => ?_, ?_⟩
    case refine_2 =>
      refine ⟨_, rfl, _, rfl, p, n, rfl, hR2, by omega, fun H3 v1 L1 p1 hB3 hR3 t1 => ?_⟩
      refine ⟨_, rfl, _, rfl, p, n, rfl, hR3, by omega, fun H4 v2 L2 p2 hB4 hR4 t2 => ?_⟩
      obtain ⟨oa, rfl, f1⟩ := t1
      obtain ⟨ta, rfl, f2⟩ := t2
      obtain ⟨S, pS, rfl⟩ := from_lay p1
      obtain ⟨O, pO, rfl⟩ := from_lay p2
      exact ⟨_, _, rfl, oa, ta, S, O, rfl, hR4, (hR3.fix hB4).tabs ((hR2.fix hB3).tabs tb2), f1.fix (hR3.fix hB4), f2, pS, pO, by omega, by omega⟩
    obtain ⟨oa, ta, S, O, rfl, c3⟩ := g3
    -- kinds
    refine ⟨fun σ' H' => ∃ kl t1 t2 : Addr, σ' = [some (.ref a), some (.ref p), some (.int (n : Int)), some (.ref oa), some (.ref ta), some (.ref kl), none, none, none, none, none, none, none, none, none, none, none, none, none, none, none, none] ∧ Two82 K (tabs82 P1 P2 P3) p oa ta S O n H' ∧ Kd82 kl t1 t2 f1 f2 f3 f4 f5 f6 H', fun σ4 H4 g4 => ?_, ?_⟩
    case refine_2 =>
      refine ⟨by show 3 ≤ sizeLine; decide, fun t1 h1 => ⟨by show 3 ≤ sizeLine; decide, fun t2 h2 => ⟨by show 2 ≤ sizeLine; decide, fun kl hk => ?_⟩⟩⟩
      have s1 := same_new (o := .tup [.ref f1, .ref f2, .ref f3]) h1
      have s2 := same_new (o := .tup [.ref f4, .ref f5, .ref f6]) h2
      have s3 := same_new (o := .lst [.ref t1, .ref t2]) hk
      exact ⟨kl, t1, t2, rfl, ((c3.same s1).same s2).same s3, upd_same, s3 _ _ (s2 _ _ upd_same), s3 _ _ upd_same⟩
    obtain ⟨kl, t1, t2, rfl, c4, d4⟩ := g4

    -- the loop over kinds
    refine ⟨fun σ' H' => ∃ y6 y7 y8 y9 y10, σ' = [some (.ref a), some (.ref p), some (.int (n : Int)), some (.ref oa), some (.ref ta), some (.ref kl), y6, y7, y8, y9, y10, none, none, none, none, none, none, none, none, none, none, none] ∧ Two82 K (tabs82 P1 P2 P3) p oa ta S O n H', fun σ5 H5 g5 => ?_, ?_⟩
    case refine_2 =>
      refine ⟨_, rfl, kl, rfl, ⟨_, lstAt d4.lst⟩, ?_⟩
      refine for_list (xs := [.ref t1, .ref t2]) (fun i σ' H' => ∃ y6 y7 y8 y9 y10, σ' = [some (.ref a), some (.ref p), some (.int (n : Int)), some (.ref oa), some (.ref ta), some (.ref kl), y6, y7, y8, y9, y10, none, none, none, none, none, none, none, none, none, none, none] ∧ Two82 K (tabs82 P1 P2 P3) p oa ta S O n H' ∧ Kd82 kl t1 t2 f1 f2 f3 f4 f5 f6 H') ⟨none, none, none, none, none, rfl, c4, d4⟩ (fun i σ' H' _ h' => ?_) (fun i x σ' H' hx h' => ?_) (fun σ' H' h' => ?_)
      · obtain ⟨_, _, _, _, _, _, _, d5⟩ := h'
        exact lstAt d5.lst
      · obtain ⟨y6, y7, y8, y9, y10, rfl, c5, d5⟩ := h'
        obtain ⟨g, t, rfl, ht⟩ := d5.at_ hx
        refine ⟨t, _, rfl, tupAt ht, rfl, _, _, rfl, _, _, rfl, _, _, rfl, rfl, ?_⟩
        -- due, told
        refine ⟨fun σ' H' => ∃ b ws, σ' = [some (.ref a), some (.ref p), some (.int (n : Int)), some (.ref oa), some (.ref ta), some (.ref kl), some (.ref (cond g f1 f4)), some (.ref (cond g f2 f5)), some (.ref (cond g f3 f6)), some (.int ((ws.length : Nat) : Int)), some (.ref b), none, none, none, none, none, none, none, none, none, none, none] ∧ Two82 K (tabs82 P1 P2 P3) p oa ta S O n H' ∧ Kd82 kl t1 t2 f1 f2 f3 f4 f5 f6 H' ∧ FT H' b ws ∧ Wk82 g n S O ws, fun σ6 H6 g6 => ?_, ?_⟩
        case refine_2 =>
          refine ⟨g, rfl, True.intro, _, rfl, True.intro, kind_ok g n2 n5 fun v H7 s7 hT => ?_⟩
          have c7 := c5.same s7
          refine ⟨_, rfl, _, rfl, v, _, n, oa, ta, invR S, invR O, rfl, hT, kind_hb g n2 n5, c7.fa.kx, c7.fb.kx, invR_perm c7.ps, invR_perm c7.pb, c7.tab, fun H8 wd k e8 tb8 hq => ?_, fun H8 k e8 tb8 hk hn => ?_⟩
          · have c8 := c7.ext e8 tb8
            refine ⟨g, rfl, True.intro, _, rfl, _, rfl, True.intro, word_ok g c8.two n5 fun H9 b ws s9 hF hw => ⟨_, _, rfl, b, ws, ?_, c8.same s9, ((d5.same s7).ext e8).same s9, hF, hw⟩⟩
            rw [← hw.least.dist hq]
            rfl
          · have c8 := c7.ext e8 tb8
            exact ⟨g, rfl, True.intro, _, rfl, _, rfl, True.intro, word_ok g c8.two n5 fun H9 b ws s9 hF hw => (hw.least.found hk hn).elim⟩
        obtain ⟨b, ws, rfl, c6, d6, hF, hw⟩ := g6
        refine ⟨g, rfl, True.intro, _, rfl, _, rfl, True.intro, far_ok g c6.two hw fun H7 s7 => ⟨_, rfl, _, _, .int _, rfl, .int _, .int _, True.intro, fun H8 s8 => ⟨_, rfl, ifF rfl ?_⟩⟩⟩
        have s78 := s7.trans s8
        refine ⟨_, rfl, b, ws.map V.int, rfl, .inr (hF.same s78).sq, _, rfl, rfl, _, rfl, ifF (by rw [List.length_map]; simp) ?_⟩
        refine ⟨g, rfl, True.intro, _, rfl, True.intro, kind_ok g n2 n5 fun v H9 s9 hT => ?_⟩
        have s79 := s78.trans s9
        have c9 := c6.same s79
        refine ⟨_, rfl, _, rfl, v, _, n, oa, invR S, .ref b, ws, rfl, ⟨hT, kind_hb g n2 n5, c9.fa, invR_perm c9.ps, ⟨b, rfl, (hF.same s79).sq⟩, fun t ht => rg_mem.mp (hw.least.in_ t ht), hw.few c9.ps c9.pb n5⟩, fun Hz z sz hz => ?_⟩
        have cz := c9.same sz
        rw [hw.least.goes] at hz
        exact ⟨_, rfl, _, _, dp_tup hz.sq, dp_tup cz.fb.sq, shaped_tupI _, shaped_tupI _, _, rfl, ifF (by rw [eqv_tupI]; simp) ⟨_, _, _, _, _, rfl, cz, d6.same (s79.trans sz)⟩⟩
      · obtain ⟨y6, y7, y8, y9, y10, rfl, c5, d5⟩ := h'
        exact ⟨y6, y7, y8, y9, y10, rfl, c5⟩
    obtain ⟨y6, y7, y8, y9, y10, rfl, c5⟩ := g5
    -- turn, due
    have n0 : 0 < n := by omega
    refine ⟨fun σ' H' => ∃ vt vd, σ' = [some (.ref a), some (.ref p), some (.int (n : Int)), some (.ref oa), some (.ref ta), some (.ref kl), y6, y7, y8, some vd, y10, some vt, none, none, none, none, none, none, none, none, none, none] ∧ Two82 K (tabs82 P1 P2 P3) p oa ta S O n H' ∧ Tn82 n S O vt vd H', fun σ6 H6 g6 => ?_, ?_⟩
    case refine_2 =>
      refine ⟨_, rfl, _, rfl, oa, ta, S, O, n, rfl, c5.two, fun H6 c ws s6 e6 h6 => ?_, fun H6 s6 e6 => ?_⟩
      · have c6 := c5.same s6
        refine ⟨_, rfl, n, rfl, n2, n5, fun v H7 s7 hT => ?_⟩
        have c7 := c6.same s7
        refine ⟨_, rfl, _, rfl, v, _, n, oa, ta, invR S, invR O, rfl, hT, turnH_hb n2 n5, c7.fa.kx, c7.fb.kx, invR_perm c7.ps, invR_perm c7.pb, c7.tab, fun H8 wd k e8 tb8 hq => ?_, fun H8 k e8 tb8 hk hn => ?_⟩
        · obtain ⟨ws', e', l', g', i'⟩ := trn_some n0 n5 (invR_perm c7.ps) hq
          rw [e6] at e'
          cases e'
          exact ⟨_, _, rfl, .ref c, .int _, rfl, c7.ext e8 tb8, .inl ⟨c, ws, rfl, by rw [l'], e8 _ _ (s7 _ _ h6) (fun _ z => nomatch z), g', i', trn_few e6⟩⟩
        · rw [trn_none n0 n5 (invR_perm c7.ps) hk hn] at e6
          cases e6
      · have c6 := c5.same s6
        refine ⟨_, rfl, n, rfl, n2, n5, fun v H7 s7 hT => ?_⟩
        have c7 := c6.same s7
        refine ⟨_, rfl, _, rfl, v, _, n, oa, ta, invR S, invR O, rfl, hT, turnH_hb n2 n5, c7.fa.kx, c7.fb.kx, invR_perm c7.ps, invR_perm c7.pb, c7.tab, fun H8 wd k e8 tb8 hq => ?_, fun H8 k e8 tb8 hk hn => ?_⟩
        · obtain ⟨ws', e', _⟩ := trn_some n0 n5 (invR_perm c7.ps) hq
          rw [e6] at e'
          cases e'
        · exact ⟨_, _, rfl, .non, .non, rfl, c7.ext e8 tb8, .inr ⟨rfl, rfl⟩⟩
    obtain ⟨vt, vd, rfl, c6, d6⟩ := g6
    -- turn and due
    refine ⟨fun σ' H' => σ' = [some (.ref a), some (.ref p), some (.int (n : Int)), some (.ref oa), some (.ref ta), some (.ref kl), y6, y7, y8, some vd, y10, some vt, none, none, none, none, none, none, none, none, none, none] ∧ Two82 K (tabs82 P1 P2 P3) p oa ta S O n H' ∧ Tn82 n S O vt vd H', fun σ7 H7 g7 => ?_, ?_⟩
    case refine_2 =>
      rcases d6 with ⟨b, ws, rfl, rfl, h6, g6, i6, f6⟩ | ⟨rfl, rfl⟩
      · refine ⟨_, rfl, rfl, _, rfl, rfl, rfl, _, rfl, ifF (by simp) ⟨_, rfl, rfl, _, rfl, ifT (by simp) ⟨_, rfl, b, ws.map V.int, rfl, .inr (tupAt h6), _, rfl, rfl, _, rfl, ifF (by rw [List.length_map]; simp) ⟨rfl, c6, .inl ⟨b, ws, rfl, rfl, h6, g6, i6, f6⟩⟩⟩⟩⟩
      · refine ⟨_, rfl, rfl, _, rfl, rfl, rfl, _, rfl, ifF (by simp) ⟨_, rfl, rfl, _, rfl, ifF (by simp) ⟨rfl, c6, .inr ⟨rfl, rfl⟩⟩⟩⟩
    obtain ⟨rfl, c7, d7⟩ := g7
    -- turned
    refine ⟨fun σ' H' => σ' = [some (.ref a), some (.ref p), some (.int (n : Int)), some (.ref oa), some (.ref ta), some (.ref kl), y6, y7, y8, some vd, y10, some vt, none, none, none, none, none, none, none, none, none, none] ∧ Two82 K (tabs82 P1 P2 P3) p oa ta S O n H', fun σ8 H8 g8 => ?_, ?_⟩
    case refine_2 =>
      rcases d7 with ⟨b, ws, rfl, rfl, h7, g7, i7, f7⟩ | ⟨rfl, rfl⟩
      · refine ⟨_, rfl, rfl, _, rfl, ifT (by simp) ⟨_, rfl, n, rfl, n2, n5, fun v H9 s9 hT => ?_⟩⟩
        have c9 := c7.same s9
        refine ⟨_, rfl, _, rfl, v, _, n, oa, invR S, .ref b, ws, rfl, ⟨hT, turnH_hb n2 n5, c9.fa, invR_perm c9.ps, ⟨b, rfl, tupAt (s9 _ _ h7)⟩, fun t ht => rg_mem.mp (i7 t ht), by omega⟩, fun Hz z sz hz => ?_⟩
        have cz := c9.same sz
        rw [g7] at hz
        exact ⟨_, rfl, _, _, dp_tup hz.sq, dp_tup cz.fb.sq, shaped_tupI _, shaped_tupI _, _, rfl, ifF (by rw [eqv_tupI]; simp) ⟨rfl, cz⟩⟩
      · exact ⟨_, rfl, rfl, _, rfl, ifF (by simp) ⟨rfl, c7⟩⟩
    obtain ⟨rfl, c8⟩ := g8
    -- shift
    refine ⟨fun σ' H' => ∃ sh : Int, σ' = [some (.ref a), some (.ref p), some (.int (n : Int)), some (.ref oa), some (.ref ta), some (.ref kl), y6, y7, y8, some vd, y10, some vt, some (.int sh), none, none, none, none, none, none, none, none, none] ∧ Two82 K (tabs82 P1 P2 P3) p oa ta S O n H' ∧ 0 ≤ sh ∧ sh < n, fun σ9 H9 g9 => ?_, ?_⟩
    case refine_2 => exact ⟨_, rfl, _, rfl, p, (n : Int), rfl, c8.row, by omega, by omega, fun k H9 k0 k1 hB hR => ⟨k, rfl, c8.but hB hR, k0, k1⟩⟩
    obtain ⟨sh, rfl, c9, h0, h1⟩ := g9
    -- turned by shift
    refine ⟨fun σ' H' => σ' = [some (.ref a), some (.ref p), some (.int (n : Int)), some (.ref oa), some (.ref ta), some (.ref kl), y6, y7, y8, some vd, y10, some vt, some (.int sh), none, none, none, none, none, none, none, none, none] ∧ Two82 K (tabs82 P1 P2 P3) p oa ta S O n H', fun σ10 H10 g10 => ?_, ?_⟩
    case refine_2 =>
      have lS := invL_len c9.ps
      refine ⟨_, rfl, _, rfl, oa, rfl, ⟨_, c9.fa.sq⟩, fun D hD => ?_⟩
      refine lc_tup (xs := (invR S).map V.int) (fun i H' => Same H9 H' ∧ H' D = some (.lst ((((invR S).take i).map fun s => (s + sh) % (n : Int)).map V.int))) ⟨same_new hD, upd_same⟩ (fun i H' _ h' => onT h'.1 c9.fa.sq) (fun i v H' hv h' => ?_) (fun H' h' => ?_)
      · obtain ⟨z, hz, rfl⟩ := map_at hv
        obtain ⟨sm, eD⟩ := h'
        refine ⟨rfl, _, rfl, _, rfl, z, sh, rfl, rfl, _, rfl, _, _, rfl, rfl, by omega, _, eD, ?_, ?_, ?_⟩
        · rw [List.length_map, List.length_map, List.length_take]
          exact small1000 (by omega)
        · exact fun c o ec => by rw [upd_ne (ne_of_none ec hD)]; exact sm c o ec
        · rw [upd_same, take_more hz, List.map_append, List.map_append]
          rfl
      · obtain ⟨sm, eD⟩ := h'
        rw [List.length_map, List.take_length] at eD
        have hsh : sh ∈ rg n := rg_mem.mpr ⟨h0, h1⟩
        have pS : (shf n (invR S) sh).Perm (rg n) := by
          rw [← turn_step n5 (fun s hs => (invR_perm c9.ps).mem_iff.mp hs) hsh]
          exact (turnH_hb n2 n5).stp_perm (rg_mem.mp hsh) (invR_perm c9.ps)
        have eT := trn_shift n0 (invR_perm c9.ps) hsh
        obtain ⟨Z, pZ, eZ⟩ := from_lay pS
        refine ⟨D, _, rfl, lstAt eD, fun t ob ht hob => ?_⟩
        have s6 := sm.trans (same_new (o := .frz ob (.tup (((invR S).map fun s => (s + sh) % (n : Int)).map V.int))) ht)
        have c10 := c9.same s6
        have hZ' : FT (upd H' t (.frz ob (.tup (((invR S).map fun s => (s + sh) % (n : Int)).map V.int)))) t (invR Z) := by
          rw [← eZ]
          exact ⟨ob, upd_same, hob⟩
        rw [eZ] at eT
        refine ⟨oa, t, S, Z, n, rfl, ⟨c10.fa, hZ', c10.ps, pZ, c10.n1, c10.n40⟩, fun H11 c ws s11 e11 h11 => ?_, fun H11 s11 e11 => ?_⟩
        · rw [eT] at e11
          have ew : ws = (if sh > 0 then [sh] else []) := (Option.some.inj e11).symm
          refine ⟨_, rfl, sh, 0, rfl, rfl, _, rfl, ite2 (fun t => ?_) (fun t => ?_)⟩
          · have h0 : sh > 0 := by simpa using t
            rw [if_pos h0] at ew
            refine ⟨_, rfl, by show 1 ≤ sizeLine; decide, fun u hu => ?_⟩
            subst ew
            have sn := same_new (o := .tup [.int sh]) hu
            exact ⟨_, _, dp_tup (ns := [sh]) (onT sn (tupAt h11)), dp_tup (ns := [sh]) (tupAt upd_same), shaped_tupI _, shaped_tupI _, _, rfl, ifF (by rw [eqv_tupI]; simp) ⟨rfl, (c10.same s11).same sn⟩⟩
          · have h0 : ¬ sh > 0 := by simpa using t
            rw [if_neg h0] at ew
            refine ⟨by show 0 ≤ sizeLine; decide, fun u hu => ?_⟩
            subst ew
            have sn := same_new (o := .tup []) hu
            exact ⟨_, _, dp_tup (ns := []) (onT sn (tupAt h11)), dp_tup (ns := []) (tupAt upd_same), shaped_tupI _, shaped_tupI _, _, rfl, ifF (by rw [eqv_tupI]; simp) ⟨rfl, (c10.same s11).same sn⟩⟩
        · rw [eT] at e11
          cases e11
    obtain ⟨rfl, c10⟩ := g10
    -- great
    refine ⟨fun σ' H' => ∃ m : Nat, σ' = [some (.ref a), some (.ref p), some (.int (n : Int)), some (.ref oa), some (.ref ta), some (.ref kl), y6, y7, y8, some vd, y10, some vt, some (.int sh), some (.int (m : Int)), none, none, none, none, none, none, none, none] ∧ Two82 K (tabs82 P1 P2 P3) p oa ta S O n H' ∧ 1 ≤ m ∧ m ≤ 40, fun σ11 H11 g11 => ?_, ?_⟩
    case refine_2 =>
      refine ⟨_, rfl, p, 40, rfl, c10.row, by decide, by decide, fun k H2 k0 k1 hB hR => ⟨1, k, rfl, rfl, ?_⟩⟩
      obtain ⟨m, hm⟩ : ∃ m : Nat, 1 + k = (m : Int) := ⟨(1 + k).toNat, by omega⟩
      exact ⟨m, by rw [← hm]; rfl, c10.but hB hR, by omega, by omega⟩
    obtain ⟨m, rfl, c11, m1, m40⟩ := g11
    -- near, far
    refine ⟨fun σ' H' => ∃ (na fa : Addr) (N F : List Int), σ' = [some (.ref a), some (.ref p), some (.int (n : Int)), some (.ref oa), some (.ref ta), some (.ref kl), y6, y7, some (.ref fa), some vd, y10, some vt, some (.int sh), some (.int (m : Int)), some (.ref na), none, none, none, none, none, none, none] ∧ Two82 K (tabs82 P1 P2 P3) p na fa N F m H', fun σ12 H12 g12 => ?_, ?_⟩
    case refine_2 =>
      refine ⟨_, rfl, _, rfl, p, m, rfl, c11.row, by omega, fun H3 v1 L1 p1 hB3 hR3 t1 => ?_⟩
      refine ⟨_, rfl, _, rfl, p, m, rfl, hR3, by omega, fun H4 v2 L2 p2 hB4 hR4 t2 => ?_⟩
      obtain ⟨na, rfl, f1⟩ := t1
      obtain ⟨fa, rfl, f2⟩ := t2
      obtain ⟨N, pN, rfl⟩ := from_lay p1
      obtain ⟨F, pF, rfl⟩ := from_lay p2
      refine ⟨by show 2 ≤ sizeLine; decide, fun t ht => ?_⟩
      have sn := same_new (o := .tup [.ref na, .ref fa]) ht
      have c12 : Two82 K (tabs82 P1 P2 P3) p na fa N F m H4 := ⟨hR4, (hR3.fix hB4).tabs ((c11.row.fix hB3).tabs c11.tab), f1.fix (hR3.fix hB4), f2, pN, pF, m1, m40⟩
      exact ⟨t, _, rfl, tupAt upd_same, rfl, _, _, rfl, _, _, rfl, rfl, na, fa, N, F, rfl, c12.same sn⟩
    obtain ⟨na, fa, N, F, rfl, c12⟩ := g12
    -- far like near
    refine ⟨fun σ' H' => ∃ (fa : Addr) (F : List Int), σ' = [some (.ref a), some (.ref p), some (.int (n : Int)), some (.ref oa), some (.ref ta), some (.ref kl), y6, y7, some (.ref fa), some vd, y10, some vt, some (.int sh), some (.int (m : Int)), some (.ref na), none, none, none, none, none, none, none] ∧ Two82 K (tabs82 P1 P2 P3) p na fa N F m H', fun σ13 H13 g13 => ?_, ?_⟩
    case refine_2 =>
      refine ⟨_, rfl, p, 2, rfl, c12.row, by decide, by decide, fun k H2 k0 k1 hB hR => ?_⟩
      have c13 := c12.but hB hR
      refine ⟨rfl, _, rfl, ite2 (fun t => ?_) (fun t => ?_)⟩
      case refine_2 => exact ⟨fa, F, rfl, c13⟩
      have lN := invL_len c13.ps
      refine ⟨_, rfl, ?_⟩
      unfold tNoPart
      dsimp only
      refine ⟨_, rfl, slA_one c13.fa fun b H3 s3 hb eb => ?_⟩
      have c14 := c13.same s3
      refine ⟨_, rfl, _, rfl, ?_⟩
      dsimp only
      refine slT_from 1 1 rfl c14.fa.sq fun c H4 s4 hc => ?_
      have c15 := c14.same s4
      rw [← List.map_drop] at hc
      refine join82 (by omega) (by omega) c15.fa (onT s4 hb) eb hc fun d H5 s5 hd => ?_
      have c16 := c15.same s5
      exact ⟨d, N, rfl, c16.row, c16.tab, c16.fa, hd, c16.ps, c16.ps, c16.n1, c16.n40⟩
    obtain ⟨fa, F, rfl, c13⟩ := g13
    -- end
    refine ⟨fun σ' H' => ∃ (en : Addr) (k : Nat), σ' = [some (.ref a), some (.ref p), some (.int (n : Int)), some (.ref oa), some (.ref ta), some (.ref kl), y6, y7, some (.ref fa), some vd, y10, some vt, some (.int sh), some (.int (m : Int)), some (.ref na), some (.ref en), none, none, none, none, none, none] ∧ Two82 K (tabs82 P1 P2 P3) p na fa N F m H' ∧ SqT K H' en ((F.drop k).map V.int) ∧ EndAt N F k ∧ k < m, fun σ14 H14 g14 => ?_, ?_⟩
    case refine_2 => exact ⟨_, rfl, _, rfl, na, fa, N, F, m, rfl, c13.two, c13.tab, fun H' c k ex tb E hk hc => ⟨c, k, rfl, c13.ext ex tb, tupAt hc, E, hk⟩⟩
    obtain ⟨en, k, rfl, c14, hen, E, hk⟩ := g14
    have lF := perm_len c14.pb
    -- kept_end, front_distance
    refine ⟨fun σ' H' => σ' = [some (.ref a), some (.ref p), some (.int (n : Int)), some (.ref oa), some (.ref ta), some (.ref kl), y6, y7, some (.ref fa), some vd, y10, some vt, some (.int sh), some (.int (m : Int)), some (.ref na), some (.ref en), none, none, none, none, none, none] ∧ Two82 K (tabs82 P1 P2 P3) p na fa N F m H' ∧ SqT K H' en ((F.drop k).map V.int), fun σ15 H15 g15 => ?_, ?_⟩
    case refine_2 =>
      refine ⟨_, rfl, _, rfl, na, fa, N, F, m, rfl, c14.two, fun H2 c k2 s2 E2 hk2 hc => ?_⟩
      rw [← E.one E2] at hc
      refine ⟨_, rfl, _, _, .tuple ((F.drop k).map PyData.int), rfl, dp_tup hc, dp_tup (onT s2 hen), okD_flat _ (by rw [List.length_drop]; omega), fun H3 s3 => ⟨_, rfl, ifF rfl ?_⟩⟩
      have s23 := s2.trans s3
      have c15 := c14.same s23
      refine ⟨_, rfl, _, rfl, na, fa, N, F, m, rfl, c15.two, fun H4 k4 s4 E4 hk4 => ?_⟩
      refine ⟨_, rfl, _, rfl, en, _, rfl, .inr (onT (s23.trans s4) hen), _, _, rfl, rfl, _, _, .int ((k : Nat) : Int), rfl, ?_, ?_, True.intro, fun H5 s5 => ⟨_, rfl, ifF rfl ⟨rfl, (c15.same s4).same s5, onT (s23.trans (s4.trans s5)) hen⟩⟩⟩
      · rw [E4.one E]
        exact .int _
      · show Dp K H4 (V.int ((m : Int) - (((F.drop k).map V.int).length : Nat))) _
        rw [E.eqn E hk lF]
        exact .int _
    obtain ⟨rfl, c15, hen⟩ := g15
    -- word
    refine ⟨fun σ' H' => ∃ wa : Addr, σ' = [some (.ref a), some (.ref p), some (.int (n : Int)), some (.ref oa), some (.ref ta), some (.ref kl), y6, some (.ref wa), some (.ref fa), some vd, y10, some vt, some (.int sh), some (.int (m : Int)), some (.ref na), some (.ref en), none, none, none, none, none, none] ∧ Two82 K (tabs82 P1 P2 P3) p na fa N F m H' ∧ SqT K H' en ((F.drop k).map V.int) ∧ FT H' wa (posW N (F.take k).reverse), fun σ16 H16 g16 => ?_, ?_⟩
    case refine_2 => exact ⟨_, rfl, _, rfl, na, fa, N, F, m, rfl, c15.two, fun H2 c k2 s2 E2 hk2 hc => ⟨c, rfl, c15.same s2, onT s2 hen, by rw [E.one E2]; exact hc⟩⟩
    obtain ⟨wa, rfl, c16, hen, hw⟩ := g16
    -- as long, and where it goes
    refine ⟨fun σ' H' => σ' = [some (.ref a), some (.ref p), some (.int (n : Int)), some (.ref oa), some (.ref ta), some (.ref kl), y6, some (.ref wa), some (.ref fa), some vd, y10, some vt, some (.int sh), some (.int (m : Int)), some (.ref na), some (.ref en), none, none, none, none, none, none] ∧ Two82 K (tabs82 P1 P2 P3) p na fa N F m H', fun σ17 H17 g17 => ?_, ?_⟩
    case refine_2 =>
      refine ⟨_, rfl, wa, _, rfl, .inr hw.sq, _, rfl, _, rfl, en, _, rfl, .inr hen, _, _, rfl, rfl, rfl, _, rfl, ifF ?_ ?_⟩
      · have e1 := E.eqn E hk lF
        have e2 : ((posW N (F.take k).reverse).map V.int).length = k := by rw [List.length_map, E.size]
        have e3 : V.int ((((posW N (F.take k).reverse).map V.int).length : Nat) : Int) = V.int ((m : Int) - (((F.drop k).map V.int).length : Nat)) := by rw [e1, e2]
        exact (congrArg not (decide_eq_true e3))
      refine ⟨_, rfl, _, rfl, na, wa, N, (F.take k).reverse, m, rfl, c16.fa, hw.sq, c16.ps, EndAt.names (S := N) c16.pb, m1, m40, c16.tab, fun H2 c ex tb hc => ?_⟩
      rw [E.to (perm_nd c16.pb) (c16.pb.trans c16.ps.symm)] at hc
      have c17 := c16.ext ex tb
      exact ⟨_, rfl, _, _, dp_tup (tupAt hc), dp_tup c17.fb.sq, shaped_tupI _, shaped_tupI _, _, rfl, ifF (by rw [eqv_tupI]; simp) ⟨rfl, c17⟩⟩
    obtain ⟨rfl, c17⟩ := g17
    -- crossed
    refine ⟨fun σ' H' => σ' = [some (.ref a), some (.ref p), some (.int (n : Int)), some (.ref oa), some (.ref ta), some (.ref kl), y6, some (.ref wa), some (.ref fa), some vd, y10, some vt, some (.int sh), some (.int (m : Int)), some (.ref na), some (.ref en), some (.int 0), none, none, none, none, none] ∧ Two82 K (tabs82 P1 P2 P3) p na fa N F m H', fun σ18 H18 g18 => ?_, ⟨rfl, c17⟩⟩
    obtain ⟨rfl, c18⟩ := g18
    -- the loop over names
    have ecr := cross_lay c18.ps c18.pb
    refine ⟨fun σ' H' => ∃ (cr : Nat) (z17 z18 : Option V), σ' = [some (.ref a), some (.ref p), some (.int (n : Int)), some (.ref oa), some (.ref ta), some (.ref kl), y6, some (.ref wa), some (.ref fa), some vd, y10, some vt, some (.int sh), some (.int (m : Int)), some (.ref na), some (.ref en), some (.int ((cr : Nat) : Int)), z17, z18, none, none, none] ∧ Two82 K (tabs82 P1 P2 P3) p na fa N F m H' ∧ cr = prs (bef F) N, fun σ19 H19 g19 => ?_, ?_⟩
    case refine_2 =>
      refine ⟨_, rfl, (m : Int), rfl, by omega, by omega, ?_⟩
      rw [Int.toNat_natCast]
      refine for_range (lo := 0) (n := m) (fun i σ' H' => ∃ (cr : Nat) (z17 z18 : Option V), σ' = [some (.ref a), some (.ref p), some (.int (n : Int)), some (.ref oa), some (.ref ta), some (.ref kl), y6, some (.ref wa), some (.ref fa), some vd, y10, some vt, some (.int sh), some (.int (m : Int)), some (.ref na), some (.ref en), some (.int ((cr : Nat) : Int)), z17, z18, none, none, none] ∧ Two82 K (tabs82 P1 P2 P3) p na fa N F m H' ∧ cr = (((rg m).take i).map (fun x : Int => ((rg m).filter fun y => decide (N.idxOf x < N.idxOf y)).countP fun y => decide (F.idxOf y < F.idxOf x))).sum) ⟨0, none, none, rfl, c18, rfl⟩ (fun i σ' H' hi h' => ?_) (fun σ' H' h' => ?_)
      · obtain ⟨cr, z17, z18, rfl, c19, hcr⟩ := h'
        rw [Int.zero_add]
        have hm := sum_more82 (f := fun x : Int => ((rg m).filter fun y => decide (N.idxOf x < N.idxOf y)).countP fun y => decide (F.idxOf y < F.idxOf x)) hi
        have ix : (i : Int) ∈ rg m := rg_mem.mpr ⟨by omega, by omega⟩
        refine ⟨_, rfl, (m : Int), rfl, by omega, by omega, fun D hD => ?_⟩
        rw [Int.toNat_natCast]
        refine lc_range (lo := 0) (n := m) (fun j H3 => Same H' H3 ∧ H3 D = some (.lst ((((rg m).take j).filter fun y => decide (N.idxOf (i : Int) < N.idxOf y)).map V.int))) ⟨same_new hD, upd_same⟩ (fun j H3 hj h3 => ?_) (fun H3 h3 => ?_)
        · obtain ⟨sm, eD⟩ := h3
          rw [Int.zero_add]
          have c20 := c19.same sm
          have jx : (j : Int) ∈ rg m := rg_mem.mpr ⟨by omega, by omega⟩
          refine ⟨rfl, _, rfl, _, rfl, na, _, (i : Int), _, rfl, rfl, c20.fa.sq, key_at c20.ps ix, _, rfl, _, rfl, na, _, (j : Int), _, rfl, rfl, c20.fa.sq, key_at c20.ps jx, _, _, rfl, rfl, _, rfl, ite2 (fun t => ?_) (fun t => ?_)⟩
          · have lt : decide (N.idxOf (i : Int) < N.idxOf (j : Int)) = true := by simpa using t
            refine ⟨_, rfl, _, eD, ?_, ?_, ?_⟩
            · rw [List.length_map]
              refine Nat.lt_of_le_of_lt (List.length_filter_le ..) ?_
              rw [List.length_take]
              exact small1000 (by omega)
            · exact fun c o ec => by rw [upd_ne (ne_of_none ec hD)]; exact sm c o ec
            · rw [upd_same, take_more82 hj, if_pos lt, List.map_append]
              rfl
          · have lt : ¬ decide (N.idxOf (i : Int) < N.idxOf (j : Int)) = true := by simpa using t
            exact ⟨sm, by rw [take_more82 hj, if_neg lt, List.append_nil]; exact eD⟩
        · obtain ⟨sm, eD⟩ := h3
          rw [List.take_of_length_le (by rw [rg_len]; exact Nat.le_refl _)] at eD
          have c20 := c19.same sm
          have bx : ∀ y ∈ (rg m).filter fun y => decide (N.idxOf (i : Int) < N.idxOf y), y ∈ rg m := fun y hy => (List.mem_filter.mp hy).1
          have bl : ((rg m).filter fun y => decide (N.idxOf (i : Int) < N.idxOf y)).length ≤ m := Nat.le_trans (List.length_filter_le ..) (by rw [rg_len]; exact Nat.le_refl _)
          refine ⟨_, rfl, _, rfl, D, rfl, ⟨_, lstAt eD⟩, fun D2 hD2 => ?_⟩
          generalize eB : (rg m).filter (fun y => decide (N.idxOf (i : Int) < N.idxOf y)) = Bh at hm eD bx bl
          refine lc_list (xs := Bh.map V.int) (fun j H4 => Same H3 H4 ∧ H4 D2 = some (.lst (((Bh.take j).filter fun y => decide (F.idxOf y < F.idxOf (i : Int))).map V.int))) ⟨same_new hD2, upd_same⟩ (fun j H4 _ h4 => lstAt (h4.1 _ _ eD)) (fun j x H4 hx h4 => ?_) (fun H4 h4 => ?_)
          · obtain ⟨y, hy, rfl⟩ := map_at hx
            obtain ⟨sm2, eD2⟩ := h4
            have c21 := c20.same sm2
            have yx := bx y (List.mem_of_getElem? hy)
            refine ⟨rfl, _, rfl, _, rfl, fa, _, (i : Int), _, rfl, rfl, c21.fb.sq, key_at c21.pb ix, _, rfl, _, rfl, fa, _, y, _, rfl, rfl, c21.fb.sq, key_at c21.pb yx, _, _, rfl, rfl, _, rfl, ite2 (fun t => ?_) (fun t => ?_)⟩
            · have lt : decide (F.idxOf y < F.idxOf (i : Int)) = true := by simpa using t
              refine ⟨_, rfl, _, eD2, ?_, ?_, ?_⟩
              · rw [List.length_map]
                refine Nat.lt_of_le_of_lt (List.length_filter_le ..) ?_
                rw [List.length_take]
                exact small1000 (by omega)
              · exact fun c o ec => by rw [upd_ne (ne_of_none ec hD2)]; exact sm2 c o ec
              · rw [upd_same, filter_more82 hy, if_pos lt, List.map_append]
                rfl
            · have lt : ¬ decide (F.idxOf y < F.idxOf (i : Int)) = true := by simpa using t
              exact ⟨sm2, by rw [filter_more82 hy, if_neg lt, List.append_nil]; exact eD2⟩
          · obtain ⟨sm2, eD2⟩ := h4
            rw [List.length_map, List.take_length] at eD2
            refine ⟨D2, _, rfl, .inl (lstAt eD2), _, _, rfl, rfl, ?_⟩
            refine ⟨cr + Bh.countP (fun y => decide (F.idxOf y < F.idxOf (i : Int))), some (.int (i : Int)), some (.ref D), ?_, c20.same sm2, ?_⟩
            · rw [List.length_map, ← List.countP_eq_length_filter]
              rfl
            · rw [hm, hcr]
      · obtain ⟨cr, z17, z18, rfl, c19, hcr⟩ := h'
        refine ⟨cr, z17, z18, rfl, c19, ?_⟩
        rw [hcr, ← ecr, List.take_of_length_le (by rw [rg_len]; exact Nat.le_refl _)]
    obtain ⟨cr, z17, z18, rfl, c19, hcr⟩ := g19
    -- neighbours
    refine ⟨fun σ' H' => σ' = [some (.ref a), some (.ref p), some (.int (n : Int)), some (.ref oa), some (.ref ta), some (.ref kl), y6, some (.ref wa), some (.ref fa), some vd, y10, some vt, some (.int sh), some (.int (m : Int)), some (.ref na), some (.ref en), some (.int ((cr : Nat) : Int)), z17, z18, none, none, none] ∧ Two82 K (tabs82 P1 P2 P3) p na fa N F m H', fun σ20 H20 g20 => ?_, ?_⟩
    case refine_2 =>
      refine ⟨_, rfl, _, rfl, na, fa, N, F, m, rfl, c19.two, fun H2 s2 => ?_⟩
      have c20 := c19.same s2
      refine ⟨_, rfl, _, _, .int (cr : Int), rfl, by rw [hcr]; exact .int _, .int _, True.intro, fun H3 s3 => ⟨_, rfl, ifF rfl ?_⟩⟩
      have c21 := c20.same s3
      refine ⟨_, rfl, _, rfl, na, fa, N, F, m, rfl, c21.two, fun H4 c W s4 lW _ _ hc => ⟨c, _, rfl, .inr hc.sq, _, rfl, rfl, _, rfl, ifF ?_ ⟨rfl, c21.same s4⟩⟩⟩
      rw [List.length_map, lW, hcr]
      simp
    obtain ⟨rfl, c20⟩ := g20
    -- an order that is none
    refine ⟨_, rfl, _, rfl, _, rfl, _, rfl, by show 1 ≤ sizeLine; decide, fun t1 h1 => ?_⟩
    have s1 := same_new (o := .tup [.int (m : Int)]) h1
    have lN := invL_len c20.ps
    refine catT_ok (c20.same s1).fa.sq (tupAt upd_same) (by rw [List.length_map, lN]; show m + 1 ≤ 1000; omega) fun r H3 s2 hr3 => ?_
    refine ⟨by show 1 ≤ sizeLine; decide, fun t2 h2 => ⟨_, rfl, (m : Int), 1, rfl, rfl, ?_⟩⟩
    have s3 := same_new (o := .tup [.int 0]) h2
    refine ⟨t2, (m : Int) + 1, [.int 0], rfl, rfl, tupAt upd_same, (fun z => nomatch z), by omega, by omega, by show 1 ≤ 1000; decide, fun t3 h3 => ?_⟩
    have eR : (List.replicate ((m : Int) + 1).toNat [V.int 0]).flatten = (List.replicate (m + 1) (0 : Int)).map V.int := by
      rw [show ((m : Int) + 1).toNat = m + 1 by omega, List.map_replicate, List.flatten_replicate_singleton]
    rw [eR]
    have s4 := same_new (o := .tup ((List.replicate (m + 1) (0 : Int)).map V.int)) h3
    have sB := s1.trans (s2.trans (s3.trans s4))
    refine ⟨_, rfl, na, _, rfl, .inr (c20.same sB).fa.sq, fun t4 h4 => ⟨by show 4 ≤ sizeLine; decide, fun l hl => ?_⟩⟩
    have s5 := same_new (o := .lst ((invR N).map V.int)) h4
    have s6 := same_new (o := .lst [.non, .ref r, .ref t3, .ref t4]) hl
    have sA := sB.trans (s5.trans s6)
    have c21 := c20.same sA
    have hlp : l ≠ p := Ne.symm ((c20.same (sB.trans s5)).row.ne hl)
    refine ⟨p, l, _, rfl, c21.row, upd_same, hlp, by show 0 < 4; decide, by show 4 ≤ 1000; decide, fun i x H4 hi hB hR => ?_⟩
    have c22 := c21.but hB hR
    have fx := (c21.row.fix hB).tups (K := K)
    suffices hh : ∃ wo, Wd K H4 x wo ∧ layW m wo = false by
      obtain ⟨wo, hw, hb⟩ := hh
      exact ⟨na, x, wo, invR N, m, rfl, c22.fa.sq, invR_perm c22.ps, m1, m40, hw, hb, fun H5 s7 => ⟨true, el, (fun _ a ha => q H5), (fun z => nomatch z)⟩⟩
    match i, hi with
    | 0, hi =>
      cases hi
      exact ⟨none, wd_none .non, rfl⟩
    | 1, hi =>
      cases hi
      have hr4 : SqT K H4 r ((invR N ++ [(m : Int)]).map V.int) := fx _ _ (onT s6 (onT s5 (onT s4 (onT s3 (by rw [List.map_append]; exact hr3)))))
      exact ⟨_, wd_ints hr4 (by rw [List.length_append, lN]; show m + 1 < 64; omega), lay_len (by rw [List.length_map, List.length_append, lN]; show m + 1 ≠ m; omega)⟩
    | 2, hi =>
      cases hi
      exact ⟨_, wd_ints (fx _ _ (tupAt (s6 _ _ (s5 _ _ upd_same)))) (by rw [List.length_replicate]; omega), lay_len (by rw [List.length_map, List.length_replicate]; omega)⟩
    | 3, hi =>
      cases hi
      have h4p : t4 ≠ p := Ne.symm ((c20.same sB).row.ne h4)
      exact ⟨none, wd_none (.lst (lstAt (hB _ _ (s6 _ _ upd_same) h4p))), rfl⟩
    | i + 4, hi => simp at hi
end
end RH
set_option Elab.async false
set_option linter.all false
set_option maxRecDepth 100000
set_option maxHeartbeats 2000000
namespace RH
open PySem PySem.Spec PyProof.Rows L2
open LamX (Tabs TabS TabB ExtN CodeO codeO_ne)
/-! ### what the top has left -/
theorem df_mk {K : PySem.W.Frag} {h : Heap} {mg : Str → Option Value} (X : K.In h) (G : h.Ns mainGlobals mg) {x : Str} {st : Stmt} {ps : List Str} {f : Addr} {od an : Option Addr} {sl : Array (Option Value)} {oc kV dc pm cd ct : Value}
    (a : PySem.W.nsIn K mainGlobals x = some (some (.ref f))) (l : K.lookup f = some ⟨oc, od, .func (PySem.W.fnOf x x (defArgs st) (defBody st) (defScope st) .none kV dc pm an cd ct), sl⟩) (c : PySem.W.codeIn K cd x = true) (k : PySem.W.keepIn K (.ref f) = true)
    (b : ∀ (kV doc pm : Value) (an : Option Addr) (cdv ct : Value) (us : List Value), us.length = ps.length → bindArgs (PySem.W.fnOf x x (defArgs st) (defBody st) (defScope st) .none kV doc pm an cdv ct) ⟨us, []⟩ = pure (ps.zip us)) : Df K mg x st ps := by
  have F := fun_mk (st := st) l c k
  exact ⟨f, _, F, PySem.W.mg_of X G a, F.binds b⟩
theorem dfc_mk {K : PySem.W.Frag} {h : Heap} {mg : Str → Option Value} (X : K.In h) (G : h.Ns mainGlobals mg) {x : Str} {st : Stmt} {ps : List Str} {f c : Addr} {od an : Option Addr} {sl : Array (Option Value)} {oc kV dc pm ct : Value}
    (a : PySem.W.nsIn K mainGlobals x = some (some (.ref f))) (l : K.lookup f = some ⟨oc, od, .func (PySem.W.fnOf x x (defArgs st) (defBody st) (defScope st) .none kV dc pm an (.ref c) ct), sl⟩) (cc : PySem.W.codeIn K (.ref c) x = true) (k : PySem.W.keepIn K (.ref f) = true)
    (b : ∀ (kV doc pm : Value) (an : Option Addr) (cdv ct : Value) (us : List Value), us.length = ps.length → bindArgs (PySem.W.fnOf x x (defArgs st) (defBody st) (defScope st) .none kV doc pm an cdv ct) ⟨us, []⟩ = pure (ps.zip us)) : DfC K mg x st ps c := by
  have F := fun_mk (st := st) l cc k
  exact ⟨f, oc, od, kV, dc, pm, an, ct, sl, l, cc, k, PySem.W.mg_of X G a, F.binds b⟩
/-- where a code object's table stands -/
def tabOf (o : Obj) : Option Value := match o.data with
  | .fields vs => vs.toList[11]?
  | _ => none
/-- a maker: its code object, its table -/
structure Mkr (K : PySem.W.Frag) (h : Heap) (mg : Str → Option Value) (x : Str) (st : Stmt) (ps : List Str) (c p : Addr) : Prop where
  df : DfC K mg x st ps c
  hd : PySem.W.CodeHd h c p
  no : K.lookup p = none
  tab : h.get? p = some (PySem.W.tabObj #[])
theorem mkr {K : PySem.W.Frag} {h : Heap} {mg : Str → Option Value} (X : K.In h) (G : h.Ns mainGlobals mg) {x : Str} {st : Stmt} {ps : List Str} {f c p : Addr} {od an : Option Addr} {sl : Array (Option Value)} {oc kV dc pm ct : Value} {o : Obj}
    (a : PySem.W.nsIn K mainGlobals x = some (some (.ref f))) (l : K.lookup f = some ⟨oc, od, .func (PySem.W.fnOf x x (defArgs st) (defBody st) (defScope st) .none kV dc pm an (.ref c) ct), sl⟩) (cc : PySem.W.codeIn K (.ref c) x = true) (k : PySem.W.keepIn K (.ref f) = true)
    (lc : K.lookup c = some o) (t : tabOf o = some (.ref p)) (d : ∀ K' : PySem.W.Frag, K'.lookup c = some o → PySem.W.codeHdIn K' c p = true) (e : K.lookup p = none) (g : h.get? p = some (PySem.W.tabObj #[]))
    (b : ∀ (kV doc pm : Value) (an : Option Addr) (cdv ct : Value) (us : List Value), us.length = ps.length → bindArgs (PySem.W.fnOf x x (defArgs st) (defBody st) (defScope st) .none kV doc pm an cdv ct) ⟨us, []⟩ = pure (ps.zip us)) :
    Mkr K h mg x st ps c p := ⟨dfc_mk X G a l cc k b, PySem.W.codeHd_of_K X (d K lc), e, g⟩
theorem two {A B : Addr → Addr → Prop} {c p c2 p2 : Addr} (a : A c p) (b : B c2 p2) (n : (p != p2) = true) : ∃ c p c2 p2, A c p ∧ B c2 p2 ∧ p ≠ p2 := ⟨c, p, c2, p2, a, b, fun z => by
  rw [z] at n
  simp at n⟩
theorem many3 {A1 A2 A3 : Addr → Addr → Prop} {c1 p1 c2 p2 c3 p3 : Addr} (a1 : A1 c1 p1) (a2 : A2 c2 p2) (a3 : A3 c3 p3) (n12 : (p1 != p2) = true) (n13 : (p1 != p3) = true) (n23 : (p2 != p3) = true) : ∃ c1 p1 c2 p2 c3 p3, A1 c1 p1 ∧ A2 c2 p2 ∧ A3 c3 p3 ∧ p1 ≠ p2 ∧ p1 ≠ p3 ∧ p2 ≠ p3 := ⟨c1, p1, c2, p2, c3, p3, a1, a2, a3, fun z => by rw [z] at n12; simp at n12, fun z => by rw [z] at n13; simp at n13, fun z => by rw [z] at n23; simp at n23⟩
/-- the written part that is meant -/
abbrev kOf {K : PySem.W.Frag} {h : Heap} (_ : K.In h) : PySem.W.Frag := K
theorem const_mk {K : PySem.W.Frag} {h : Heap} {mg : Str → Option Value} (X : K.In h) (G : h.Ns mainGlobals mg) {x : Str} {i : Int} {t : Tok} (a : PySem.W.nsIn K mainGlobals x = some (some (.int i t))) : ∃ t, mg x = some (.int i t) := ⟨t, PySem.W.mg_of X G a⟩
/-- what the end asks of the law -/
def spTopE (K : PySem.W.Frag) (T : List (Addr × Str)) : Sp := fun vs H Q _ => ∃ (a : Addr) (ns : List Int), vs = [.ref a] ∧ SqL K H a (ns.map V.int) ∧ Tabs T H ∧ ∀ H', Q (.bl true) H'
/-- a list that no one writes may be told by its very object -/
theorem frozen {P : Program} {w : World} {K : PySem.W.Frag} {mg : Str → Option Value} {base : Heap} {k : Nat} {f : Addr} {fd : FuncData} {T : List (Addr × Str)} (F : FnOk P w K mg base CX0 k f fd ["script"] (spLaw K T)) : FnOk P w K mg base CX0 k f fd ["script"] (spTopE K T) := by
  refine ⟨fun vs H Q E h => ?_, fun A outer s H args us vs Q E hr e0 hb r h => ?_⟩
  · obtain ⟨a, ns, rfl, _⟩ := h
    rfl
  obtain ⟨a, ns, rfl, hS, hT, q⟩ := h
  rcases hS with (hS | ⟨o, hS⟩) | hS
  · obtain ⟨z, its, n, rv, ho⟩ := (show ObjOk P w H s.heap a (.lst (ns.map V.int)) from e0.hok a _ hS)
    have hne : ∀ b, H b = none ↔ upd H a (.frz { cls := .type "list", data := .seq its.toArray n } (.lst (ns.map V.int))) b = none := fun b => by
      by_cases e : b = a
      · subst e
        rw [hS, upd_same]
        exact ⟨fun z => (nomatch z), fun z => (nomatch z)⟩
      · rw [upd_ne e]
    have ext : ∀ b u, H b = some u → (∀ xs, u ≠ .lst xs) → upd H a (.frz { cls := .type "list", data := .seq its.toArray n } (.lst (ns.map V.int))) b = some u := fun b u e nu => by
      rw [upd_ne (fun z => by subst z; rw [hS] at e; exact nu _ (Option.some.inj e).symm)]
      exact e
    have hok : HOk P w (upd H a (.frz { cls := .type "list", data := .seq its.toArray n } (.lst (ns.map V.int)))) s.heap := fun b u e => by
      by_cases eb : b = a
      · subst eb
        rw [upd_same] at e
        cases e
        exact ⟨ho, z, its, n, rv, ho⟩
      · rw [upd_ne eb] at e
        exact (e0.hok b u e).stay (fun c v _ h => h) (fun c h => ext _ _ h (fun xs z => nomatch z)) (fun c xs h => ext _ _ h (fun xs z => nomatch z))
    have e1 : Env0 P w K mg base A outer s (upd H a (.frz { cls := .type "list", data := .seq its.toArray n } (.lst (ns.map V.int)))) :=
      ⟨e0.frames, e0.mod, fun b o e => ⟨(e0.bs b o e).1, (hne b).mp (e0.bs b o e).2⟩, e0.bsz, e0.funs, fun b h => (hne b).mp (e0.frf b h), hok, e0.bare⟩
    have hT1 : Tabs T (upd H a (.frz { cls := .type "list", data := .seq its.toArray n } (.lst (ns.map V.int)))) := Fix.tabs (fun b u e nu => ext b u e nu) hT
    refine codeAny_mono (F.run A outer s _ args us [.ref a] Q E hr e1 hb r ⟨a, ns, rfl, .inl ⟨_, upd_same⟩, hT1, q⟩) fun rr s' h => ?_
    cases rr with
    | error e => exact h
    | ok fl =>
      cases fl with
      | ret u =>
        obtain ⟨v, H', os, bare, un, hok', r', q'⟩ := h
        refine ⟨v, H', os, bare, ⟨fun b o e n => un.keep b o e ((hne b).mp n), fun b o e n => un.slot b o e ((hne b).mp n), fun b o e n => un.free b o e ((hne b).mp n), un.there, fun b xs e => un.tups b xs (ext b _ e (fun ys z => nomatch z)), fun b o u e => un.frzs b o u (ext b _ e (fun ys z => nomatch z)), fun b ps e => un.tbls b ps (ext b _ e (fun ys z => nomatch z))⟩, hok', r', q'⟩
      | next => exact h
      | brk => exact h
      | cont => exact h
  · exact F.run A outer s H args us [.ref a] Q E hr e0 hb r ⟨a, ns, rfl, .inl ⟨o, hS⟩, hT, q⟩
  · exact F.run A outer s H args us [.ref a] Q E hr e0 hb r ⟨a, ns, rfl, .inr fun H' => .inr hS, hT, q⟩
/-- the errors, as the top has left them -/
theorem errs_mk {K : PySem.W.Frag} {h : Heap} {mg : Str → Option Value} (P : Program) (X : K.In h) (G : h.Ns mainGlobals mg) {S c0 : Addr} (aS : PySem.W.nsIn K mainGlobals "ShelfError" = some (some (.ref S)))
    (a0 : PySem.W.nsIn K mainGlobals "BadLayout" = some (some (.ref c0)))
    (q0 : PySem.W.excIn K c0 [.type "ValueError", .type "Exception", .type "BaseException", .type "object"] "ValueError.__new__" = true)
    (kp0 : PySem.W.keepIn K (.ref c0) = true) (b0 : PySem.W.subIn K (.ref c0) (.type "BaseException") = some true) (t0 : PySem.W.typeIn K (.ref c0) = some (.type "type"))
    (xg0 : PySem.W.findIn K (.ref c0) "__getattribute__" = some (some (.builtin "BaseException.__getattribute__"))) (xk0 : PySem.W.findIn K (.ref c0) "__getattr__" = some none) (xd0 : PySem.W.hasDictIn K c0 = true) (xa0 : PySem.W.findIn K (.ref c0) "__class__" = some (some (.builtin "object.__class__"))) (xm0 : PySem.W.mroIn K c0 (.type "object") = some true) (es0 : PySem.W.exmOne K (.ref c0) (.ref S) = some true)
    (ex0_0 : PySem.W.exmOne K (.ref c0) (.ref c0) = some true)
    (xn : PySem.W.specialIn K (.builtin "object.__class__") "__get__" = some (some (.builtin "getset_descriptor.__get__"))) (xt : PySem.W.takesIn K (.builtin "object.__class__") = some true)
    : ∃ (S c0 : Addr), (mg "BadLayout" = some (.ref c0)) ∧ (PySem.W.exmOne K (.ref c0) (.ref c0) = some true) ∧ (ExO K mg "BadLayout" c0) := by
  have mS := PySem.W.mg_of X G aS
  have m0 := PySem.W.mg_of X G a0
  have x0 : ExcC K c0 := ⟨xg0, xk0, b0, xd0, xa0, xn, xt, xm0⟩
  have X0 : ExO K mg "BadLayout" c0 := ⟨q0, m0, kp0, b0, t0⟩
  exact ⟨S, c0, m0, ex0_0, X0⟩
theorem top {P : Program} {w : World} {K : PySem.W.Frag} {mg : Str → Option Value} {fa : Addr} (hfa : mg "law" = some (.ref fa)) (B : Bu mg) (c_FEWEST_PLACES : ∃ t, mg "FEWEST_PLACES" = some (.int 2 t)) (c_MOST_PLACES : ∃ t, mg "MOST_PLACES" = some (.int 5 t)) (c_MOST_TOUCHES : ∃ t, mg "MOST_TOUCHES" = some (.int 400 t)) (c_MOST_KNOWN_PLACES : ∃ t, mg "MOST_KNOWN_PLACES" = some (.int 40 t))
    {k1 p1 k2 p2 k3 p3 : Addr} (h12 : p1 ≠ p2) (h13 : p1 ≠ p3) (h23 : p2 ≠ p3)
    {S c0 : Addr} (gl : mg "BadLayout" = some (.ref c0)) (el : PySem.W.exmOne K (.ref c0) (.ref c0) = some true) (Xl : ExO K mg "BadLayout" c0)
    (F_is_integer : Df K mg "is_integer" st_is_integer ["value"])
    (F_is_number : Df K mg "is_number" st_is_number ["value", "low", "high"])
    (F_is_row : Df K mg "is_row" st_is_row ["value", "low", "high"])
    (F_is_place : Df K mg "is_place" st_is_place ["value", "places"])
    (F_are_places : Df K mg "are_places" st_are_places ["value", "places"])
    (F_is_layout : Df K mg "is_layout" st_is_layout ["value", "places"])
    (F_is_word : Df K mg "is_word" st_is_word ["value", "places"])
    (F_check_number : Df K mg "check_number" st_check_number ["value", "low", "high"])
    (F_check_places : Df K mg "check_places" st_check_places ["places"])
    (F_check_habit : Df K mg "check_habit" st_check_habit ["habit"])
    (F_check_layout : Df K mg "check_layout" st_check_layout ["layout", "places"])
    (F_check_row : Df K mg "check_row" st_check_row ["row", "most"])
    (F_check_word : Df K mg "check_word" st_check_word ["word", "places"])
    (F_inverse : Df K mg "inverse" st_inverse ["row"])
    (F_pairs_crossed : Df K mg "pairs_crossed" st_pairs_crossed ["one", "other"])
    (F_kept_end : Df K mg "kept_end" st_kept_end ["one", "other"])
    (F_front_word : Df K mg "front_word" st_front_word ["one", "other"])
    (F_front_distance : Df K mg "front_distance" st_front_distance ["one", "other"])
    (F_neighbour_word : Df K mg "neighbour_word" st_neighbour_word ["one", "other"])
    (F_neighbour_distance : Df K mg "neighbour_distance" st_neighbour_distance ["one", "other"])
    (F_turning_word : Df K mg "turning_word" st_turning_word ["one", "other"])
    (F_check_two_layouts : Df K mg "check_two_layouts" st_check_two_layouts ["one", "other"])
    (F_end_in_order : Df K mg "end_in_order" st_end_in_order ["layout", "books"])
    (F_places_of_habit : Df K mg "places_of_habit" st_places_of_habit ["habit"])
    (F_move : Df K mg "move" st_move ["habit", "layout", "place"])
    (F_move_along : Df K mg "move_along" st_move_along ["habit", "layout", "word"])
    (F_traced : Df K mg "traced" st_traced ["came", "state"])
    (F_least_word : Df K mg "least_word" st_least_word ["start", "touches", "step", "is_goal"])
    (F_word_to_layout : DfC K mg "word_to_layout" st_word_to_layout ["habit", "one", "other"] k1)
    (F_after : Df K mg "after" st_after ["habit", "layout", "word"])
    (F_word_between : Df K mg "word_between" st_word_between ["habit", "one", "other"])
    (F_distance : Df K mg "distance" st_distance ["habit", "one", "other"])
    (F_front_habit : Df K mg "front_habit" st_front_habit ["places"])
    (F_front_permutation : Df K mg "front_permutation" st_front_permutation ["places", "place"])
    (F_neighbour_habit : Df K mg "neighbour_habit" st_neighbour_habit ["places"])
    (F_neighbour_permutation : Df K mg "neighbour_permutation" st_neighbour_permutation ["places", "place"])
    (F_turning_habit : Df K mg "turning_habit" st_turning_habit ["places"])
    (F__law_taken : Df K mg "_law_taken" st__law_taken ["row", "many"])
    (F__law_pick : Df K mg "_law_pick" st__law_pick ["row", "things"])
    (F__law_alike : Df K mg "_law_alike" st__law_alike ["found", "due"])
    (F__law_permutation : Df K mg "_law_permutation" st__law_permutation ["row", "many"])
    (F__law_end : DfC K mg "_law_end" st__law_end ["one", "other"] k2)
    (F__law_goes : DfC K mg "_law_goes" st__law_goes ["layout", "word"] k3)
    (F_law : Df K mg "law" st_law ["script"])
    : ∃ fd : FuncData, (∀ (s : Shared) (v : Value), BindsTo s fd ⟨[v], []⟩ [("script", v)]) ∧ ∀ base : Heap, TabB base mg k1 p1 → TabB base mg k2 p2 → TabB base mg k3 p3 → FnOk P w K mg base CX0 10 fa fd ["script"] (spTopE K (tabs82 p1 p2 p3)) := by
  obtain ⟨f, fd, F, g, b⟩ := F_law.ex
  have e := hfa.symm.trans g
  cases e
  refine ⟨fd, fun s v => ?_, fun base T1 T2 T3 => ?_⟩
  · obtain ⟨oc, od, kV, doc, pm, an, cdv, ct, osl, rfl, _⟩ := F.ex
    exact .of_eq rfl
  · have C1 := ok_is_integer (P := P) (w := w) (K := K) (base := base) F_is_integer B
    have C2 := ok_is_number F_is_number C1
    have CR := ok_is_row (P := P) (w := w) (K := K) (base := base) F_is_row B
    have C3 := ok_is_place F_is_place C2
    have C4 := ok_are_places F_are_places B C3
    have C5 := ok_is_layout F_is_layout B C4
    have CWd := ok_is_word F_is_word c_MOST_TOUCHES CR C4
    have D1 := ok_is_integerW (P := P) (w := w) (K := K) (base := base) F_is_integer B
    have D2 := ok_is_numberW F_is_number D1
    have D3 := ok_is_placeW F_is_place D2
    have D4 := ok_are_placesW F_are_places B D3
    have D5 := ok_is_layoutW F_is_layout B D4
    have CNum := ok_check_number F_check_number C2
    have CPs := ok_check_places F_check_places c_FEWEST_PLACES c_MOST_PLACES CNum
    have CHb := ok_check_habit F_check_habit B c_FEWEST_PLACES c_MOST_PLACES CR C5
    have CLy := ok_check_layout F_check_layout C5
    have CCW := ok_check_word F_check_word CWd
    have CkR := ok_ckR F_check_row B CR C5
    have CkL := ok_ckL F_check_layout C5
    have CTw := ok_twoLay F_check_two_layouts B c_MOST_KNOWN_PLACES CkR CkL
    have CI := ok_inverse (P := P) (w := w) (K := K) (base := base) F_inverse B
    have CEo := ok_end (P := P) (w := w) (K := K) (base := base) F_end_in_order B
    have CK := ok_kept F_kept_end CTw CI CEo
    have CFD := ok_fdist F_front_distance B CK
    have CFW := ok_fword F_front_word B CTw CI CEo
    have CNW := ok_nword F_neighbour_word B CTw CI
    have CND := ok_ndist F_neighbour_distance CTw (ok_pairs (P := P) (w := w) (K := K) (base := base) F_pairs_crossed B)
    have CTn := ok_turn F_turning_word B CTw
    have CFX := ok_fwordX F_front_word (ok_twoY F_check_two_layouts B c_MOST_KNOWN_PLACES CkR (ok_layY F_check_layout Xl D5))
    have CO := ok_places_of (P := P) (w := w) (K := K) (base := base) F_places_of_habit B
    have CM := ok_move (P := P) (w := w) (K := K) (base := base) F_move B
    have CMA := ok_move_along F_move_along CM
    have CWl := ok_wtl F_word_to_layout F_least_word B T1 h12 h13 CO CM (ok_traced (P := P) (w := w) (K := K) (base := base) F_traced B)
    have CDi := ok_distance F_distance B (ok_between F_word_between B CHb CLy CWl)
    have CAf := ok_after F_after B CHb CLy CCW CMA
    have CFH := ok_frH F_front_habit B CPs (ok_frP (P := P) (w := w) (base := base) F_front_permutation B)
    have CNH := ok_neigh_habit (P := P) (w := w) (K := K) (base := base) F_neighbour_habit B CPs (ok_neigh_perm (P := P) (w := w) (base := base) F_neighbour_permutation B)
    have CTH := ok_turn_habit F_turning_habit B CPs
    have CT := ok_taken (P := P) (w := w) (K := K) (base := base) F__law_taken B
    have CP := ok_lperm F__law_permutation B CT
    have CA := ok_alikeS 1 F__law_alike B (ok_alikeS 0 F__law_alike B (ok_alike0 (P := P) (w := w) (K := K) (base := base) F__law_alike B))
    have CLE := ok_lend (P := P) (w := w) (K := K) (base := base) F__law_end B T2 h12 h23
    have CLG := ok_goes (P := P) (w := w) (K := K) (base := base) F__law_goes B T3 h13 h23
    obtain ⟨f1, V1⟩ := calV F_front_habit CFH
    obtain ⟨f2, V2⟩ := calV F_front_word CFW
    obtain ⟨f3, V3⟩ := calV F_front_distance CFD
    obtain ⟨f4, V4⟩ := calV F_neighbour_habit CNH
    obtain ⟨f5, V5⟩ := calV F_neighbour_word CNW
    obtain ⟨f6, V6⟩ := calV F_neighbour_distance CND
    exact frozen (ok_law F B gl el CT (ok_pick F__law_pick B CT) CP CA CDi CAf CTn CTH CLE CLG CK CFD CFW CND CNW CFX V1 V2 V3 V4 V5 V6)
end RH
set_option Elab.async false
set_option linter.all false
open PySem PySem.W PyProof.Rows
set_option maxRecDepth 100000 in
set_option maxHeartbeats 0 in
theorem PySem.Challenge.cw_restlesshelf_k82_whole_kinds_holds : PySem.Challenge.rw_restlesshelf_k82_whole_kinds.Holds := by
  w_on; o_law; k_head; (case hw => w_witness2)
  k_fill
  refine LamX.walk_ofTs (l := PySem.Challenge.rw_restlesshelf_k82_whole_kinds) (n := 63) (k := 10) (x := "script") (CX := fun _ => L2.CX0) rfl (by decide) rfl ⟨rfl, by decide, by decide⟩ (fun w h Y => PySem.W.km_in_of Y) ?F (fun _ _ _ _ _ h => h)
  case F =>
    intro w mg fa h Y KX G hmg
    have TT := PySem.W.km_tabs_of Y
    have B : RH.Bu mg := by
      refine' RH.Bu.mk (PySem.W.mg_none_of KX G ?z0) (PySem.W.mg_none_of KX G ?z1) (PySem.W.mg_none_of KX G ?z2) (PySem.W.mg_none_of KX G ?z3) (PySem.W.mg_none_of KX G ?z4) (PySem.W.mg_none_of KX G ?z5) (PySem.W.mg_none_of KX G ?z6) (PySem.W.mg_none_of KX G ?z7) (PySem.W.mg_none_of KX G ?z8) (PySem.W.mg_none_of KX G ?z9) (PySem.W.mg_none_of KX G ?z10) (PySem.W.mg_none_of KX G ?z11) (PySem.W.mg_none_of KX G ?z12)
      (case z0 => k_is); (case z1 => k_is); (case z2 => k_is); (case z3 => k_is); (case z4 => k_is); (case z5 => k_is); (case z6 => k_is); (case z7 => k_is); (case z8 => k_is); (case z9 => k_is); (case z10 => k_is); (case z11 => k_is); (case z12 => k_is)
    have c_FEWEST_PLACES : ∃ t, mg "FEWEST_PLACES" = some (.int 2 t) := by
      refine' RH.const_mk KX G ?a
      (case a => k_is)
    have c_MOST_PLACES : ∃ t, mg "MOST_PLACES" = some (.int 5 t) := by
      refine' RH.const_mk KX G ?a
      (case a => k_is)
    have c_MOST_TOUCHES : ∃ t, mg "MOST_TOUCHES" = some (.int 400 t) := by
      refine' RH.const_mk KX G ?a
      (case a => k_is)
    have c_MOST_KNOWN_PLACES : ∃ t, mg "MOST_KNOWN_PLACES" = some (.int 40 t) := by
      refine' RH.const_mk KX G ?a
      (case a => k_is)
    have F_is_integer : RH.Df (RH.kOf KX) mg "is_integer" RH.st_is_integer ["value"] := by
      refine' RH.df_mk KX G ?a ?l ?c ?k (fun _ _ _ _ _ _ us hl => match us, hl with | [_], _ => rfl)
      (case a => k_is); (case l => k_is); (case c => k_is); (case k => k_is)
    have F_is_number : RH.Df (RH.kOf KX) mg "is_number" RH.st_is_number ["value", "low", "high"] := by
      refine' RH.df_mk KX G ?a ?l ?c ?k (fun _ _ _ _ _ _ us hl => match us, hl with | [_, _, _], _ => rfl)
      (case a => k_is); (case l => k_is); (case c => k_is); (case k => k_is)
    have F_is_row : RH.Df (RH.kOf KX) mg "is_row" RH.st_is_row ["value", "low", "high"] := by
      refine' RH.df_mk KX G ?a ?l ?c ?k (fun _ _ _ _ _ _ us hl => match us, hl with | [_, _, _], _ => rfl)
      (case a => k_is); (case l => k_is); (case c => k_is); (case k => k_is)
    have F_is_place : RH.Df (RH.kOf KX) mg "is_place" RH.st_is_place ["value", "places"] := by
      refine' RH.df_mk KX G ?a ?l ?c ?k (fun _ _ _ _ _ _ us hl => match us, hl with | [_, _], _ => rfl)
      (case a => k_is); (case l => k_is); (case c => k_is); (case k => k_is)
    have F_are_places : RH.Df (RH.kOf KX) mg "are_places" RH.st_are_places ["value", "places"] := by
      refine' RH.df_mk KX G ?a ?l ?c ?k (fun _ _ _ _ _ _ us hl => match us, hl with | [_, _], _ => rfl)
      (case a => k_is); (case l => k_is); (case c => k_is); (case k => k_is)
    have F_is_layout : RH.Df (RH.kOf KX) mg "is_layout" RH.st_is_layout ["value", "places"] := by
      refine' RH.df_mk KX G ?a ?l ?c ?k (fun _ _ _ _ _ _ us hl => match us, hl with | [_, _], _ => rfl)
      (case a => k_is); (case l => k_is); (case c => k_is); (case k => k_is)
    have F_is_word : RH.Df (RH.kOf KX) mg "is_word" RH.st_is_word ["value", "places"] := by
      refine' RH.df_mk KX G ?a ?l ?c ?k (fun _ _ _ _ _ _ us hl => match us, hl with | [_, _], _ => rfl)
      (case a => k_is); (case l => k_is); (case c => k_is); (case k => k_is)
    have F_check_number : RH.Df (RH.kOf KX) mg "check_number" RH.st_check_number ["value", "low", "high"] := by
      refine' RH.df_mk KX G ?a ?l ?c ?k (fun _ _ _ _ _ _ us hl => match us, hl with | [_, _, _], _ => rfl)
      (case a => k_is); (case l => k_is); (case c => k_is); (case k => k_is)
    have F_check_places : RH.Df (RH.kOf KX) mg "check_places" RH.st_check_places ["places"] := by
      refine' RH.df_mk KX G ?a ?l ?c ?k (fun _ _ _ _ _ _ us hl => match us, hl with | [_], _ => rfl)
      (case a => k_is); (case l => k_is); (case c => k_is); (case k => k_is)
    have F_check_habit : RH.Df (RH.kOf KX) mg "check_habit" RH.st_check_habit ["habit"] := by
      refine' RH.df_mk KX G ?a ?l ?c ?k (fun _ _ _ _ _ _ us hl => match us, hl with | [_], _ => rfl)
      (case a => k_is); (case l => k_is); (case c => k_is); (case k => k_is)
    have F_check_layout : RH.Df (RH.kOf KX) mg "check_layout" RH.st_check_layout ["layout", "places"] := by
      refine' RH.df_mk KX G ?a ?l ?c ?k (fun _ _ _ _ _ _ us hl => match us, hl with | [_, _], _ => rfl)
      (case a => k_is); (case l => k_is); (case c => k_is); (case k => k_is)
    have F_check_row : RH.Df (RH.kOf KX) mg "check_row" RH.st_check_row ["row", "most"] := by
      refine' RH.df_mk KX G ?a ?l ?c ?k (fun _ _ _ _ _ _ us hl => match us, hl with | [_, _], _ => rfl)
      (case a => k_is); (case l => k_is); (case c => k_is); (case k => k_is)
    have F_check_word : RH.Df (RH.kOf KX) mg "check_word" RH.st_check_word ["word", "places"] := by
      refine' RH.df_mk KX G ?a ?l ?c ?k (fun _ _ _ _ _ _ us hl => match us, hl with | [_, _], _ => rfl)
      (case a => k_is); (case l => k_is); (case c => k_is); (case k => k_is)
    have F_inverse : RH.Df (RH.kOf KX) mg "inverse" RH.st_inverse ["row"] := by
      refine' RH.df_mk KX G ?a ?l ?c ?k (fun _ _ _ _ _ _ us hl => match us, hl with | [_], _ => rfl)
      (case a => k_is); (case l => k_is); (case c => k_is); (case k => k_is)
    have F_pairs_crossed : RH.Df (RH.kOf KX) mg "pairs_crossed" RH.st_pairs_crossed ["one", "other"] := by
      refine' RH.df_mk KX G ?a ?l ?c ?k (fun _ _ _ _ _ _ us hl => match us, hl with | [_, _], _ => rfl)
      (case a => k_is); (case l => k_is); (case c => k_is); (case k => k_is)
    have F_kept_end : RH.Df (RH.kOf KX) mg "kept_end" RH.st_kept_end ["one", "other"] := by
      refine' RH.df_mk KX G ?a ?l ?c ?k (fun _ _ _ _ _ _ us hl => match us, hl with | [_, _], _ => rfl)
      (case a => k_is); (case l => k_is); (case c => k_is); (case k => k_is)
    have F_front_word : RH.Df (RH.kOf KX) mg "front_word" RH.st_front_word ["one", "other"] := by
      refine' RH.df_mk KX G ?a ?l ?c ?k (fun _ _ _ _ _ _ us hl => match us, hl with | [_, _], _ => rfl)
      (case a => k_is); (case l => k_is); (case c => k_is); (case k => k_is)
    have F_front_distance : RH.Df (RH.kOf KX) mg "front_distance" RH.st_front_distance ["one", "other"] := by
      refine' RH.df_mk KX G ?a ?l ?c ?k (fun _ _ _ _ _ _ us hl => match us, hl with | [_, _], _ => rfl)
      (case a => k_is); (case l => k_is); (case c => k_is); (case k => k_is)
    have F_neighbour_word : RH.Df (RH.kOf KX) mg "neighbour_word" RH.st_neighbour_word ["one", "other"] := by
      refine' RH.df_mk KX G ?a ?l ?c ?k (fun _ _ _ _ _ _ us hl => match us, hl with | [_, _], _ => rfl)
      (case a => k_is); (case l => k_is); (case c => k_is); (case k => k_is)
    have F_neighbour_distance : RH.Df (RH.kOf KX) mg "neighbour_distance" RH.st_neighbour_distance ["one", "other"] := by
      refine' RH.df_mk KX G ?a ?l ?c ?k (fun _ _ _ _ _ _ us hl => match us, hl with | [_, _], _ => rfl)
      (case a => k_is); (case l => k_is); (case c => k_is); (case k => k_is)
    have F_turning_word : RH.Df (RH.kOf KX) mg "turning_word" RH.st_turning_word ["one", "other"] := by
      refine' RH.df_mk KX G ?a ?l ?c ?k (fun _ _ _ _ _ _ us hl => match us, hl with | [_, _], _ => rfl)
      (case a => k_is); (case l => k_is); (case c => k_is); (case k => k_is)
    have F_check_two_layouts : RH.Df (RH.kOf KX) mg "check_two_layouts" RH.st_check_two_layouts ["one", "other"] := by
      refine' RH.df_mk KX G ?a ?l ?c ?k (fun _ _ _ _ _ _ us hl => match us, hl with | [_, _], _ => rfl)
      (case a => k_is); (case l => k_is); (case c => k_is); (case k => k_is)
    have F_end_in_order : RH.Df (RH.kOf KX) mg "end_in_order" RH.st_end_in_order ["layout", "books"] := by
      refine' RH.df_mk KX G ?a ?l ?c ?k (fun _ _ _ _ _ _ us hl => match us, hl with | [_, _], _ => rfl)
      (case a => k_is); (case l => k_is); (case c => k_is); (case k => k_is)
    have F_places_of_habit : RH.Df (RH.kOf KX) mg "places_of_habit" RH.st_places_of_habit ["habit"] := by
      refine' RH.df_mk KX G ?a ?l ?c ?k (fun _ _ _ _ _ _ us hl => match us, hl with | [_], _ => rfl)
      (case a => k_is); (case l => k_is); (case c => k_is); (case k => k_is)
    have F_move : RH.Df (RH.kOf KX) mg "move" RH.st_move ["habit", "layout", "place"] := by
      refine' RH.df_mk KX G ?a ?l ?c ?k (fun _ _ _ _ _ _ us hl => match us, hl with | [_, _, _], _ => rfl)
      (case a => k_is); (case l => k_is); (case c => k_is); (case k => k_is)
    have F_move_along : RH.Df (RH.kOf KX) mg "move_along" RH.st_move_along ["habit", "layout", "word"] := by
      refine' RH.df_mk KX G ?a ?l ?c ?k (fun _ _ _ _ _ _ us hl => match us, hl with | [_, _, _], _ => rfl)
      (case a => k_is); (case l => k_is); (case c => k_is); (case k => k_is)
    have F_traced : RH.Df (RH.kOf KX) mg "traced" RH.st_traced ["came", "state"] := by
      refine' RH.df_mk KX G ?a ?l ?c ?k (fun _ _ _ _ _ _ us hl => match us, hl with | [_, _], _ => rfl)
      (case a => k_is); (case l => k_is); (case c => k_is); (case k => k_is)
    have F_least_word : RH.Df (RH.kOf KX) mg "least_word" RH.st_least_word ["start", "touches", "step", "is_goal"] := by
      refine' RH.df_mk KX G ?a ?l ?c ?k (fun _ _ _ _ _ _ us hl => match us, hl with | [_, _, _, _], _ => rfl)
      (case a => k_is); (case l => k_is); (case c => k_is); (case k => k_is)
    have F_after : RH.Df (RH.kOf KX) mg "after" RH.st_after ["habit", "layout", "word"] := by
      refine' RH.df_mk KX G ?a ?l ?c ?k (fun _ _ _ _ _ _ us hl => match us, hl with | [_, _, _], _ => rfl)
      (case a => k_is); (case l => k_is); (case c => k_is); (case k => k_is)
    have F_word_between : RH.Df (RH.kOf KX) mg "word_between" RH.st_word_between ["habit", "one", "other"] := by
      refine' RH.df_mk KX G ?a ?l ?c ?k (fun _ _ _ _ _ _ us hl => match us, hl with | [_, _, _], _ => rfl)
      (case a => k_is); (case l => k_is); (case c => k_is); (case k => k_is)
    have F_distance : RH.Df (RH.kOf KX) mg "distance" RH.st_distance ["habit", "one", "other"] := by
      refine' RH.df_mk KX G ?a ?l ?c ?k (fun _ _ _ _ _ _ us hl => match us, hl with | [_, _, _], _ => rfl)
      (case a => k_is); (case l => k_is); (case c => k_is); (case k => k_is)
    have F_front_habit : RH.Df (RH.kOf KX) mg "front_habit" RH.st_front_habit ["places"] := by
      refine' RH.df_mk KX G ?a ?l ?c ?k (fun _ _ _ _ _ _ us hl => match us, hl with | [_], _ => rfl)
      (case a => k_is); (case l => k_is); (case c => k_is); (case k => k_is)
    have F_front_permutation : RH.Df (RH.kOf KX) mg "front_permutation" RH.st_front_permutation ["places", "place"] := by
      refine' RH.df_mk KX G ?a ?l ?c ?k (fun _ _ _ _ _ _ us hl => match us, hl with | [_, _], _ => rfl)
      (case a => k_is); (case l => k_is); (case c => k_is); (case k => k_is)
    have F_neighbour_habit : RH.Df (RH.kOf KX) mg "neighbour_habit" RH.st_neighbour_habit ["places"] := by
      refine' RH.df_mk KX G ?a ?l ?c ?k (fun _ _ _ _ _ _ us hl => match us, hl with | [_], _ => rfl)
      (case a => k_is); (case l => k_is); (case c => k_is); (case k => k_is)
    have F_neighbour_permutation : RH.Df (RH.kOf KX) mg "neighbour_permutation" RH.st_neighbour_permutation ["places", "place"] := by
      refine' RH.df_mk KX G ?a ?l ?c ?k (fun _ _ _ _ _ _ us hl => match us, hl with | [_, _], _ => rfl)
      (case a => k_is); (case l => k_is); (case c => k_is); (case k => k_is)
    have F_turning_habit : RH.Df (RH.kOf KX) mg "turning_habit" RH.st_turning_habit ["places"] := by
      refine' RH.df_mk KX G ?a ?l ?c ?k (fun _ _ _ _ _ _ us hl => match us, hl with | [_], _ => rfl)
      (case a => k_is); (case l => k_is); (case c => k_is); (case k => k_is)
    have F__law_taken : RH.Df (RH.kOf KX) mg "_law_taken" RH.st__law_taken ["row", "many"] := by
      refine' RH.df_mk KX G ?a ?l ?c ?k (fun _ _ _ _ _ _ us hl => match us, hl with | [_, _], _ => rfl)
      (case a => k_is); (case l => k_is); (case c => k_is); (case k => k_is)
    have F__law_pick : RH.Df (RH.kOf KX) mg "_law_pick" RH.st__law_pick ["row", "things"] := by
      refine' RH.df_mk KX G ?a ?l ?c ?k (fun _ _ _ _ _ _ us hl => match us, hl with | [_, _], _ => rfl)
      (case a => k_is); (case l => k_is); (case c => k_is); (case k => k_is)
    have F__law_alike : RH.Df (RH.kOf KX) mg "_law_alike" RH.st__law_alike ["found", "due"] := by
      refine' RH.df_mk KX G ?a ?l ?c ?k (fun _ _ _ _ _ _ us hl => match us, hl with | [_, _], _ => rfl)
      (case a => k_is); (case l => k_is); (case c => k_is); (case k => k_is)
    have F__law_permutation : RH.Df (RH.kOf KX) mg "_law_permutation" RH.st__law_permutation ["row", "many"] := by
      refine' RH.df_mk KX G ?a ?l ?c ?k (fun _ _ _ _ _ _ us hl => match us, hl with | [_, _], _ => rfl)
      (case a => k_is); (case l => k_is); (case c => k_is); (case k => k_is)
    have F_law : RH.Df (RH.kOf KX) mg "law" RH.st_law ["script"] := by
      refine' RH.df_mk KX G ?a ?l ?c ?k (fun _ _ _ _ _ _ us hl => match us, hl with | [_], _ => rfl)
      (case a => k_is); (case l => k_is); (case c => k_is); (case k => k_is)
    obtain ⟨S, c0, gl, el, Xl⟩ : ∃ (S c0 : PySem.Addr), (mg "BadLayout" = some (.ref c0)) ∧ (PySem.W.exmOne (RH.kOf KX) (.ref c0) (.ref c0) = some true) ∧ (RH.ExO (RH.kOf KX) mg "BadLayout" c0) := by
      refine' Exists.elim (RH.errs_mk (PySem.Challenge.rw_restlesshelf_k82_whole_kinds).prog KX G ?aS ?a0 ?q0 ?kp0 ?b0 ?t0 ?xg0 ?xk0 ?xd0 ?xa0 ?xm0 ?es0 ?ex0_0 ?xn ?xt) (fun C hC => ⟨C, hC⟩)
      (case aS => k_is); (case a0 => k_is); (case q0 => k_exc); (case kp0 => k_is); (case b0 => k_is); (case t0 => k_is); (case xg0 => k_is); (case xk0 => k_is)
      (case xd0 => k_is); (case xa0 => k_is); (case xm0 => k_is); (case es0 => kts_exm); (case ex0_0 => kts_exm); (case xn => k_is); (case xt => k_is)
    obtain ⟨k1, p1, k2, p2, k3, p3, M1, M2, M3, h12, h13, h23⟩ : ∃ k1 p1 k2 p2 k3 p3, RH.Mkr (RH.kOf KX) h mg "word_to_layout" RH.st_word_to_layout ["habit", "one", "other"] k1 p1 ∧ RH.Mkr (RH.kOf KX) h mg "_law_end" RH.st__law_end ["one", "other"] k2 p2 ∧ RH.Mkr (RH.kOf KX) h mg "_law_goes" RH.st__law_goes ["layout", "word"] k3 p3 ∧ p1 ≠ p2 ∧ p1 ≠ p3 ∧ p2 ≠ p3 := by
      refine' RH.many3 (RH.mkr KX G ?a ?l ?c ?k ?lc ?t ?d ?e ?g (fun _ _ _ _ _ _ us hl => match us, hl with | [_, _, _], _ => rfl)) (RH.mkr KX G ?a2 ?l2 ?c2 ?k2 ?lc2 ?t2 ?d2 ?e2 ?g2 (fun _ _ _ _ _ _ us hl => match us, hl with | [_, _], _ => rfl)) (RH.mkr KX G ?a3 ?l3 ?c3 ?k3 ?lc3 ?t3 ?d3 ?e3 ?g3 (fun _ _ _ _ _ _ us hl => match us, hl with | [_, _], _ => rfl)) ?n12 ?n13 ?n23
      (case a => k_is); (case l => k_is); (case c => k_is); (case k => k_is); (case lc => k_is); (case t => rfl); (case e => first | rfl | kernel_rfl | (with_unfolding_all rfl)); (case g => exact TT _ (by decide)); (case d => exact fun K' e => by unfold PySem.W.codeHdIn; rw [e]; rfl)
      (case a2 => k_is); (case l2 => k_is); (case c2 => k_is); (case k2 => k_is); (case lc2 => k_is); (case t2 => rfl); (case e2 => first | rfl | kernel_rfl | (with_unfolding_all rfl)); (case g2 => exact TT _ (by decide)); (case d2 => exact fun K' e => by unfold PySem.W.codeHdIn; rw [e]; rfl)
      (case a3 => k_is); (case l3 => k_is); (case c3 => k_is); (case k3 => k_is); (case lc3 => k_is); (case t3 => rfl); (case e3 => first | rfl | kernel_rfl | (with_unfolding_all rfl)); (case g3 => exact TT _ (by decide)); (case d3 => exact fun K' e => by unfold PySem.W.codeHdIn; rw [e]; rfl)
      (case n12 => decide)
      (case n13 => decide)
      (case n23 => decide)
    obtain ⟨F_word_to_layout, hk1, hl1, hm1⟩ := M1
    obtain ⟨F__law_end, hk2, hl2, hm2⟩ := M2
    obtain ⟨F__law_goes, hk3, hl3, hm3⟩ := M3
    obtain ⟨fd, hb, hF⟩ := RH.top (P := (PySem.Challenge.rw_restlesshelf_k82_whole_kinds).prog) (w := w) (S := S) hmg B c_FEWEST_PLACES c_MOST_PLACES c_MOST_TOUCHES c_MOST_KNOWN_PLACES h12 h13 h23 gl el Xl F_is_integer F_is_number F_is_row F_is_place F_are_places F_is_layout F_is_word F_check_number F_check_places F_check_habit F_check_layout F_check_row F_check_word F_inverse F_pairs_crossed F_kept_end F_front_word F_front_distance F_neighbour_word F_neighbour_distance F_turning_word F_check_two_layouts F_end_in_order F_places_of_habit F_move F_move_along F_traced F_least_word F_word_to_layout F_after F_word_between F_distance F_front_habit F_front_permutation F_neighbour_habit F_neighbour_permutation F_turning_habit F__law_taken F__law_pick F__law_alike F__law_permutation F__law_end F__law_goes F_law
    refine ⟨fd, [(k1, p1), (k2, p2), (k3, p3)], RH.spTopE (RH.kOf KX) (RH.tabs82 p1 p2 p3), ?_, ?_, ?_, hb, ?_, ?_⟩
    · intro p hp
      rcases List.mem_cons.mp hp with e | hp
      · rw [e]; exact hm1
      rcases List.mem_cons.mp hp with e | hp
      · rw [e]; exact hm2
      rw [List.mem_singleton.mp hp]; exact hm3
    · intro p hp
      rcases List.mem_cons.mp hp with e | hp
      · rw [e]; exact hl1
      rcases List.mem_cons.mp hp with e | hp
      · rw [e]; exact hl2
      rw [List.mem_singleton.mp hp]; exact hl3
    · intro p hp
      rcases List.mem_cons.mp hp with e | hp
      · rw [e]; exact hk1
      rcases List.mem_cons.mp hp with e | hp
      · rw [e]; exact hk2
      rw [List.mem_singleton.mp hp]; exact hk3
    · intro H a ns _ _ hH hS
      refine ⟨a, ns, rfl, hS, fun p hp => ?_, fun _ => rfl⟩
      rcases List.mem_cons.mp hp with e | hp
      · rw [e]; exact LamX.TabS.nil (hH (k1, p1) (List.mem_cons_self ..))
      rcases List.mem_cons.mp hp with e | hp
      · rw [e]; exact LamX.TabS.nil (hH (k2, p2) (List.mem_cons_of_mem _ (List.mem_cons_self ..)))
      rw [List.mem_singleton.mp hp]; exact LamX.TabS.nil (hH (k3, p3) (List.mem_cons_of_mem _ (List.mem_cons_of_mem _ (List.mem_singleton.mpr rfl))))
    · intro base _ _ TB
      exact hF base (TB (k1, p1) (List.mem_cons_self ..)) (TB (k2, p2) (List.mem_cons_of_mem _ (List.mem_cons_self ..))) (TB (k3, p3) (List.mem_cons_of_mem _ (List.mem_cons_of_mem _ (List.mem_singleton.mpr rfl))))
