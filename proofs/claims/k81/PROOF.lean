import PyProof.Rows.All
import Wide.All
import OpenK.AllK
import Wide.FinOn
import HandS.ForMost
import HandS.Exc
import HandS.TryOnly
import HandS.ExcOwn
import HandS.WordsExc
import HandS.IsInst
import HandS.Conv
import HandS.Sort
import HandS.SortInts
import HandS.Zip
import HandS.Zip0
import HandS.Wide
import HandS.Deep
import HandS.Flow
import HandS.Style
import HandS.TupAny
import KE.GoesEnum
import KE.KEqSeq
import KE.KEqDeep
import PyProof.TupleOfSeq
import HandS.Lambda
import HandS.Nested
import HandS.EndTab
import KE.KDictDisplayH
import KE.KDictCopyH
import KE.KIndexOf
import HandS.Dict
import HandS.DictTup
import HandS.TupLen
import HandS.Defaults
import HandS.SortRule
import KE.GoesZip
import HandS.ExcIs
import HandS.RaiseMore
import HandS.FStr
import HandS.Property
import KE.KExcSuper
import HandS.ExcInit
import HandS.ExcField
import HandS.TupMul
import PyProof.FString2
import HandS.Strs
import HandS.SetFor
import HandS.SetBool
import HandS.SetIn
import HandS.More
import KE.KDictSum
import KE.KDflt
import HandS.TryMany
import KE.SortKeyHeap
import HandS.SortKw
import HandS.ExcValue
import KE.DataFind
import PySem.Challenge.RW_restlesshelf_k81_whole_walks
set_option Elab.async false
set_option linter.all false
set_option maxRecDepth 100000
set_option maxHeartbeats 2000000
/-! Two rules more: a walk over enumerate of a tuple, sorted of a tuple of ints. -/
namespace RH
open PySem PySem.Spec PyProof.Rows L2
theorem made_enumB {v : Value} {o : Obj} {H : Heap → Prop} (B : Begins v o H) :
    Meets (Builtin.«enumerate.__new__» ⟨[.type "enumerate", v], []⟩) (fun _ R s => H s.heap ∧
      R (.ok (.ret (.ref (s.heap.push o).objs.size))) { s with heap := (s.heap.push o).push { cls := .type "enumerate", data := .fields #[.none, .bool false, .ref s.heap.objs.size, rawInt 0, .none, .none] } }) :=
  .of_wp fun prog w A R s h => by
    obtain ⟨hp, g, d, tz, oz⟩ := s; obtain ⟨h1, h⟩ := h
    have hsub := sub_enumerate
    have q1 : ∀ {A' : Around} {E : Value → Shared → Prop} {Q : Value → Shared → Prop}, Q (.ref hp.objs.size) ⟨hp.push o, g, d, tz, oz⟩ → wpAny (model prog w) A' (pyIter v) Q E ⟨hp, g, d, tz, oz⟩ :=
      fun q => B.iter prog w _ _ ⟨hp, g, d, tz, oz⟩ _ h1 q
    wp_walk using q1
    refine wpAny_stack_any fun st => wpAny_pure ?_
    split
    · rename_i c _ _ _ _ _
      cases (c == Value.type "enumerate")
      · wp_walk using q1
        exact ⟨_, rfl, h⟩
      · wp_walk using q1
        exact ⟨_, rfl, h⟩
    · wp_walk using q1
      exact ⟨_, rfl, h⟩
section
variable {prog : Program} {w : World} {A : Around} {E : Value → Shared → Prop} {s : Shared}
theorem enum_one {v : Value} {o : Obj} {H : Heap → Prop} {Q : Value → Shared → Prop} (B : Begins v o H) (h1 : H s.heap)
    (h : ∀ h', IsEnum h' (s.heap.objs.size + 1) s.heap.objs.size 0 .none → h'.get? s.heap.objs.size = some o → h'.objs.size = s.heap.objs.size + 2 →
      (∀ b o, s.heap.get? b = some o → h'.get? b = some o) → Q (.ref (s.heap.objs.size + 1)) { s with heap := h' }) :
    wpAny (model prog w) A (call (.type "enumerate") [v]) Q E s := by
  refine callType_new F.called_enumerate (by decide) (F.typeCall_enumerate_1 _) (F.newCall_enumerate_1 _) (fun obj => F.args_object_init_2 obj _) F.entry_enumerate_new
    (made_enumB B) ⟨h1, ?_⟩
  have hZ : (s.heap.push o).objs.size = s.heap.objs.size + 1 := Heap.size_push ..
  show _ ∧ _
  rw [hZ]
  have he : IsEnum ((s.heap.push o).push { cls := .type "enumerate", data := .fields #[.none, .bool false, .ref s.heap.objs.size, rawInt 0, .none, .none] }) (s.heap.objs.size + 1) s.heap.objs.size 0 .none := by
    have := Heap.get?_push_size (s.heap.push o) (o := { cls := .type "enumerate", data := .fields #[.none, .bool false, .ref s.heap.objs.size, rawInt 0, .none, .none] }) rfl
    rw [hZ] at this; exact this
  refine ⟨⟨_, he, rfl⟩, h _ he (Heap.get?_push_of_some _ (Heap.get?_push_size _ B.free)) (by rw [Heap.size_push, hZ]) fun b o x => Heap.get?_push_of_some _ (Heap.get?_push_of_some _ x)⟩
end
/-- the tuple at a, each item with vz number in a new pair -/
def IteT (K : PySem.W.Frag) (a : Addr) : It :=
  ⟨fun i H => ∃ (xs : List V) (x : V), SqT K H a xs ∧ xs[i]? = some x, fun i H v H' => ∃ T x, v = .ref T ∧ H T = none ∧ H' = upd H T (.tup [.int (i : Nat), x]) ∧ ∀ xs, SqT K H a xs → xs[i]? = some x, fun i H => ∃ xs : List V, SqT K H a xs ∧ xs.length ≤ i⟩
theorem ne_enum {h : Heap} {e it a : Addr} {i : Int} {old : Value} {vz : Array Value} (he : IsEnum h e it i old) (p : IsTup h a vz) : e ≠ a := fun z => by
  obtain ⟨o, hO, hC, _⟩ := p
  rw [← z, he] at hO
  cases hO
  exact absurd (Value.type.inj hC) (by decide)
theorem turn_enumT {P : Program} {w : World} {K : PySem.W.Frag} {elts : List Expr} {kk : Nat} {tpos : Pos} (a e it : Addr) :
    Turn P w K (.Tuple elts kk tpos) (IteT K a) [e, it] e (fun i h => (∃ old, IsEnum h e it ((i : Nat) : Int) old) ∧ h.IsTupleIter it a i ∧ e ≠ it ∧ a ≠ it) where
  mem := by simp
  obj := fun i h st b hb => by
    obtain ⟨⟨old, he⟩, ⟨o, hO, hC, hD⟩, _⟩ := st
    have e' : b = e ∨ b = it := by simpa using hb
    rcases e' with z | z
    · rw [z]; exact ⟨_, he, fun v q => nomatch q⟩
    · rw [z]; exact ⟨o, hO, fun v q => by rw [hD] at q; cases q⟩
  keep := fun i h h' st k => let ⟨⟨old, he⟩, hi, nEI⟩ := st; ⟨⟨old, k e (by simp) _ he⟩, hi.at fun o q => k it (by simp) o q, nEI⟩
  item := by
    intro X hP hw hK hC i pins s σ H E I hf st hg
    subst hP hw hK
    obtain ⟨⟨old, he⟩, hIt, nEI, nAI⟩ := st
    obtain ⟨xs, x, hSq, hx⟩ := hg
    obtain ⟨vz, rz, p, hZ⟩ := I.tuple hSq
    obtain ⟨u, hu, ru⟩ := rz.get hx
    have ltE : e < s.heap.objs.size := Heap.lt_size he
    have ltI : it < s.heap.objs.size := by obtain ⟨_, q, _⟩ := hIt; exact Heap.lt_size q
    have hlt : i < vz.toArray.size := by
      have := (List.getElem?_eq_some_iff.mp hu).1
      simpa using this
    refine wpAny_pyNext_enum_itemD (Draws.tuple (show X.A.in1.handled = none from I.ok.hd hC) it a nAI vz.toArray) he ⟨hIt, p⟩ hlt nEI (by
      intro hm
      have e' : e = it ∨ e = a := by simpa using hm
      rcases e' with z | z
      · exact nEI z
      · exact ne_enum he p z) fun x' h' tz hP' hO hit' hT hSz kp => ?_
    have ex : x' = u := by
      have h2 : vz.toArray[i]? = some u := by simpa using hu
      rw [h2] at hP'
      exact (Option.some.inj hP').symm
    subst ex
    refine ⟨_, rfl, wpAny_letOwnedTupleGo_enum (s := { s with heap := h', toks := tz + 1 }) hO fun h'' he' sbu => ?_⟩
    have hT2 : h''.get? s.heap.objs.size = some { cls := .type "tuple", data := .seq #[.int i tz, x'] } := (sbu.2 _ (Nat.ne_of_gt ltE)).trans hT
    have new : ObjOk X.prog X.w (upd H s.heap.objs.size (.tup [.int (i : Nat), x])) h'' s.heap.objs.size (.tup [.int (i : Nat), x]) :=
      ⟨by show 2 ≤ sizeLine; decide, [.int i tz, x'], .cons ⟨_, rfl⟩ (.cons ru .nil), ⟨_, hT2, rfl, _, rfl⟩⟩
    have I1 : Inv X pins σ (upd H s.heap.objs.size (.tup [.int (i : Nat), x])) { s with heap := h'', toks := tz + 1 } :=
      I.turnedNew (ch := [e, it]) (fun b ob hb q => (sbu.2 b (fun z => hb (by simp [z]))).trans (kp b ob (fun z => hb (by simp [z])) (fun z => hb (by simp [z])) q)) hf (Nat.le_refl _) new
    refine ⟨.ref s.heap.objs.size, _, I1, rfl, ⟨_, x, rfl, I.hok.fresh (Nat.le_refl _), rfl, fun ys hy => by rw [I.tuple_inj hy hSq]; exact hx⟩, ⟨⟨x', ?_⟩, hit'.1.at fun o q => (sbu.2 it (Ne.symm nEI)).trans q, nEI, nAI⟩, fun b hb => ?_⟩
    · have e1 : ((i + 1 : Nat) : Int) = (i : Int) + 1 := by omega
      rw [e1]; exact he'
    · have hb' : b < s.heap.objs.size := by
        have e' : b = e ∨ b = it := by simpa using hb
        rcases e' with z | z
        · rw [z]; exact ltE
        · rw [z]; exact ltI
      rw [upd_ne (Nat.ne_of_lt hb')]
      exact (hf b hb).1
  done := by
    intro X hP hw hK hC i pins s σ H E I hf st hg
    subst hP hw hK
    obtain ⟨⟨old, he⟩, hIt, nEI, nAI⟩ := st
    obtain ⟨xs, hSq, hx⟩ := hg
    obtain ⟨vz, rz, p, hZ⟩ := I.tuple hSq
    obtain ⟨f0, f1, f2, f3, f4, f5⟩ := hf it (by simp)
    have hl := rz.length
    have hT : s.TypeIs (.ref e) "enumerate" := ⟨_, he, rfl⟩
    unfold pyNext
    refine wpAny_bind (wpAny_attempt (wpAny_callSpecial?_slot (name := Str.ofString "__next__") hT F.slot_enumerate_next
      (wpAny_call_entry F.slot_enumerate_next hT F.entry_enumerate_next ?_ (F.args_enumerate_next_1 _))))
    show wpAny _ _ (field (.ref e) 2 >>= _) _ _ _
    refine wpAny_bind (wpAny_field he rfl (x := .ref it) rfl ?_)
    refine wpAny_bind (wpAny_nextOf_tuple_end (show X.A.in1.handled = none from I.ok.hd hC) hIt p (by simp; omega) fun h' x he' hx' => ?_)
    obtain ⟨o, hO, hc'⟩ := hx'
    refine wpAny_bind (wpAny_isInstance (T := "StopIteration") (b := true) ⟨o, hO, hc'⟩ isSubtype_stop ?_)
    exact wpAny_pure ⟨rfl, I.turned (t' := s.toks) (fun b o hb q => he' b o hb q) f0 f1 f3 f4 f5⟩
  self := fun A i s Q E st h => let ⟨⟨_, he⟩, _⟩ := st; wpAny_pyIter_enum he h
def iEnumT (K : PySem.W.Frag) (ta : TA) : TI := fun σ H R => ta σ H fun vs H1 => ∃ a xs, vs = [.ref a] ∧ SqT K H1 a xs ∧ R (IteT K a) H1
theorem pi_enumT {X : Cx} {e : Expr} {ta : TA} {p pos tpos : Pos} {elts : List Expr} {kk : Nat} (hg : Gl X "enumerate") (hm : X.mg "enumerate" = none) (ha : PA X [e] ta) (hs : starEach [e] X.env = [(false, eval e X.env)] := by rfl) :
    PI X (.Tuple elts kk tpos) (.Call (.Name "enumerate" p) [e] [] pos) (iEnumT X.K ta) := by
  refine ⟨fun pins s σ H R I h => ?_⟩
  refine Call_ (ld_blt I hg hm boot_enumerate (PyProof.Rows.callWith_type1 (thn (ha.run pos pins s σ H _ I h) fun us s1 ⟨vs, H1, I1, r1, q1⟩ => ?_) hs rfl))
  obtain ⟨a, xs, ex, hSq, q⟩ := q1
  subst ex
  cases r1 with
  | cons r rr =>
    cases rr
    cases r
    obtain ⟨vz, rz, p', hZ⟩ := I1.tuple hSq
    have hal : a < s1.heap.objs.size := by obtain ⟨_, q', _⟩ := id p'; exact Heap.lt_size q'
    refine enum_one (begins_tuple a vz.toArray) p' fun h' he hIt hSz kp => wpAny_pyIter_enum he ?_
    have I2 : Inv X pins σ H1 { s1 with heap := h' } := I1.kept (t' := s1.toks) kp
    refine ⟨s1.heap.objs.size + 1, [s1.heap.objs.size + 1, s1.heap.objs.size], _, _, H1, rfl, I2, turn_enumT a (s1.heap.objs.size + 1) s1.heap.objs.size, ⟨⟨.none, he⟩, ⟨_, hIt, rfl, rfl⟩, Nat.succ_ne_self _, Nat.ne_of_lt hal⟩, fun b hb => ?_, q⟩
    have e' : b = s1.heap.objs.size + 1 ∨ b = s1.heap.objs.size := by simpa using hb
    have hle : s1.heap.objs.size ≤ b := by
      rcases e' with z | z
      · rw [z]; exact Nat.le_add_right _ _
      · rw [z]; exact Nat.le_refl _
    exact I1.fpOk hle (I1.hok.fresh hle)
/-! ### sorted(a tuple of ints) -/
def rSortedTup (K : PySem.W.Frag) : List V → Hp → VK → Prop := fun vs H Q => ∃ (a : Addr) (ns : List Int), vs = [V.ref a] ∧ SqT K H a (ns.map V.int) ∧ ns.length < 64 ∧
  ∀ (ns' : List Int) (p : Addr), ns'.Perm ns → ns'.Pairwise (· ≤ ·) → H p = none → Q (.ref p) (upd H p (.lst (ns'.map V.int)))
section
variable {prog : Program} {w : World} {A : Around} {E : Value → Shared → Prop} {s : Shared}
theorem collect_tup {l : Addr} {vs : List Value} {Q : List Value → Shared → Prop} (hl : IsTup s.heap l vs.toArray)
    (h : Q vs { s with heap := (s.heap.push (seqObj "list" #[] 0)).update s.heap.objs.size (Obj.mapSeq (· ++ vs.toArray)) }) (hSz : vs.length ≤ sizeLine := by size_fits) :
    wpAny (model prog w) A (collect (.ref l)) Q E s := by
  obtain ⟨o, hO, hC, n, hD⟩ := id hl
  unfold collect
  refine wpAny_bind (wpAny_runValue (codeAny_builtin F.entry_proto_collect ?_))
  rw [Around.under_plainId F.plain_proto_collect _]
  show wpAny _ A.in1 (newList [] >>= fun l' => again (.builtin "list.__iadd__" ⟨[l', .ref l], []⟩)) _ _ s
  refine wpAny_bind (wpAny_newList (wpAny_pure ⟨plainId_quiet F.plain_list_iadd _, codeAny_builtin F.entry_list_iadd ?_⟩))
  rw [Around.under_plainId F.plain_list_iadd _]
  show wpAny _ _ (Builtin.List.listExtendWith (.ref s.heap.objs.size) (.ref l) (.ref s.heap.objs.size)) _ _ { s with heap := s.heap.push (seqObj "list" #[] 0) }
  unfold Builtin.List.listExtendWith
  have ho' : (s.heap.push (seqObj "list" #[] 0)).get? l = some o := Heap.get?_push_of_some _ hO
  refine wpAny_bind (wpAny_typeOf (T := "tuple") ⟨o, ho', hC⟩ ?_)
  have hT0 : (Value.type "tuple" == Value.type "tuple") = true := by rfl
  rw [if_pos (by rw [hT0]; simp)]
  refine wpAny_bind (listItems_at ho' hD ?_)
  refine wpAny_bind (listItems_at (xs := #[]) (n := 0) (Heap.get?_push_size _ rfl) rfl ?_)
  rw [if_neg (by simp)]
  refine wpAny_bind (listUpdate_at (xs := #[]) (n := 0) (Heap.get?_push_size _ rfl) rfl ?_ (Nat.zero_le _) (by show (#[] ++ vs.toArray).size ≤ sizeLine + 1; simp only [Array.size_append, List.size_toArray, List.length_nil]; omega))
  refine wpAny_pure ?_
  show wpAny (model prog w) A (do
      let o ← load s.heap.objs.size
      match o.data with
      | .seq xs _ => pure xs.toList
      | _ => unsupported "internal:collect") Q E { s with heap := (s.heap.push (seqObj "list" #[] 0)).update s.heap.objs.size (Obj.mapSeq (· ++ vs.toArray)) }
  refine wpAny_bind (wpAny_load (get?_update_seq (Heap.get?_push_size _ rfl) _) ?_)
  show wpAny _ _ (pure ((#[] : Array Value) ++ vs.toArray).toList) Q E _
  rw [show ((#[] : Array Value) ++ vs.toArray).toList = vs by simp]
  exact wpAny_pure h
theorem sorted_intsT {l : Addr} {vs : List Value} {ns : List Int} {Q : Value → Shared → Prop} (hl : IsTup s.heap l vs.toArray) (hI : IntsAre vs ns) (h64 : vs.length < 64)
    (h : ∀ (out : Array Value) (ns' : List Int), IntsAre out.toList ns' → ns'.Perm ns → ns'.Pairwise (· ≤ ·) → Q (.ref (s.heap.objs.size + 1)) { s with heap := sortedAll s.heap vs out }) :
    wpAny (model prog w) A (call (.builtin "sorted") [.ref l]) Q E s := by
  refine Calls.call_function_entry kind_sorted plain_sorted entry_sorted (args_sorted1 _) ?_
  unfold Builtin.«sorted»
  refine wpAny_bind (m := checkCount "sorted" 1 1 _) (wpAny_pure ?_)
  have hsz0 : vs.length ≤ sizeLine := by
    rw [sizeLine_eq]
    omega
  refine wpAny_bind (collect_tup (hSz := hsz0) hl ?_)
  refine wpAny_bind (wpAny_newList ?_)
  have hSz : ((s.heap.push (seqObj "list" #[] 0)).update s.heap.objs.size (Obj.mapSeq (· ++ vs.toArray))).objs.size = s.heap.objs.size + 1 := by
    rw [Heap.size_update, size_push']
  have hOL : (((s.heap.push (seqObj "list" #[] 0)).update s.heap.objs.size (Obj.mapSeq (· ++ vs.toArray))).push (seqObj "list" vs.toArray 0)).get? (s.heap.objs.size + 1) = some (seqObj "list" vs.toArray 0) := by
    rw [← hSz]; exact Heap.get?_push_size _ rfl
  show wpAny _ _ _ _ _ { s with heap := ((s.heap.push (seqObj "list" #[] 0)).update s.heap.objs.size (Obj.mapSeq (· ++ vs.toArray))).push (seqObj "list" vs.toArray 0) }
  rw [hSz]
  refine wpAny_bind (wpAny_holding (wpAny_call_entry slot_list_sort ⟨_, hOL, rfl⟩ entry_list_sort (list_sort_tree hOL hI h64 fun out ns' a1 a2 a3 => ⟨_, rfl, ?_⟩) (args_list_sort _)))
  exact wpAny_pure ⟨_, rfl, h out ns' a1 a2 a3⟩
end
theorem cr_sortedTup {X : Cx} : CallR X (.builtin "sorted") (rSortedTup X.K) := by
  intro pins s σ H vs us Q I r h
  obtain ⟨a, ns, rfl, hs, h64, q⟩ := h
  obtain ⟨vz, rz, hl, _⟩ := I.tuple hs
  rw [Vals.ref1 r]
  have hi := rz.ints
  refine sorted_intsT hl hi (by rw [hi.length]; exact h64) fun out ns' h1 h2 h3 => ?_
  obtain ⟨ep, he'⟩ := PyProof.Rows.sortedAll_at s.heap vz out
  have hLn : (ns'.map V.int).length ≤ sizeLine := by rw [List.length_map, h2.length_eq]; exact small64 h64
  exact ⟨.ref _, upd H (s.heap.objs.size + 1) (.lst (ns'.map V.int)), I.laid (t' := s.toks) (fun _ _ => PyProof.Rows.sortedAll_old) (Nat.le_succ _) ⟨hLn, out.toList, ep, vals_of_ints h1, he'⟩, rfl, q ns' _ h2 h3 (I.hok.fresh (Nat.le_succ _))⟩
end RH
set_option Elab.async false
set_option linter.all false
set_option maxRecDepth 100000
set_option maxHeartbeats 2000000
/-! Lambdas with parameters and captured names, as values: made, handed to a def of the text, called there. -/
namespace RH
open PySem PySem.Spec PyProof.Rows L2
open LamX (Tabs TabS TabB ExtN CodeO codeO_ne inv_table among_app)
open NdefX (NF CellsAt NScope startF ncx inv_startN codeO_at slotAt Caps cells_of upd_none)
/-- a lambda's words, what it captured, its code object -/
structure LF where
  qual : Str
  params : Arguments
  body : Expr
  scope : Scope
  cl : List (Str × Addr)
  c : Addr
abbrev LF.fd (F : LF) (pm ctv : Value) : FuncData := PySem.W.kla_fn "<lambda>" F.qual F.params F.body F.scope F.cl pm (.ref F.c) ctv
abbrev LF.nf (F : LF) : NF := ⟨"<lambda>", F.qual, F.params, [], F.scope, F.cl, F.c⟩
/-- the object at f is this lambda -/
def FnL (f : Addr) (F : LF) : HO := .ext fun h => ∃ (od : Option Addr) (sl : Array (Option Value)) (pm ctv : Value), h.get? f = some (⟨.type "function", od, .func (F.fd pm ctv), sl⟩ : Obj)
theorem fnL_ne {f : Addr} {F : LF} (ps : Array Value) : FnL f F ≠ .tbl ps := fun z => by
  unfold FnL at z
  cases z
theorem fnL_at {P : Program} {w : World} {H : Hp} {h : Heap} {f : Addr} {F : LF} (hok : HOk P w H h) (e : H f = some (FnL f F)) : ∃ (od : Option Addr) (sl : Array (Option Value)) (pm ctv : Value), h.get? f = some (⟨.type "function", od, .func (F.fd pm ctv), sl⟩ : Obj) := (hok f _ e).1
section
variable {X : Cx} {pins : List (Addr × Obj)} {σ : L2.St} {H : Hp} {s : Shared}
theorem inv_lam {F : LF} {h' : Heap} {t' : Nat} {pm ctv : Value} (I : Inv X pins σ H { s with heap := h', toks := t' }) :
    Inv X pins σ (upd H h'.objs.size (FnL h'.objs.size F)) { s with heap := h'.push { cls := .type "function", data := .func (F.fd pm ctv) }, toks := t' } := by
  refine I.laid (t' := t') (a := h'.objs.size) (fun b u e => Heap.get?_push_of_some _ e) (Nat.le_refl _) ?_
  have e : (h'.push ({ cls := .type "function", data := .func (F.fd pm ctv) } : Obj)).get? h'.objs.size = some ({ cls := .type "function", data := .func (F.fd pm ctv) } : Obj) := Heap.get?_push_size _ rfl
  exact ⟨⟨_, _, pm, ctv, e⟩, ⟨_, e⟩, fun h1 h2 ⟨od, sl, p, t, z⟩ st => ⟨od, sl, p, t, st _ z⟩⟩
/-- the lambda is made -/
theorem lam_made {T : List (Addr × Str)} {c P : Addr} {params : Arguments} {body : Expr} {scope : Scope} {pos : Pos} {E : Value → Shared → Prop} {Q : Value → Shared → Prop} (I : Inv X pins σ H s) (TB : TabB X.base X.mg c P) (hcode : X.env.code = .ref c)
    (hm : (P, X.env.qual ++ "<lambda>") ∈ T) (hu : ∀ p ∈ T, p.1 = P → p.2 = X.env.qual ++ "<lambda>") (hT : Tabs T H) (hdef : defaultsOf params X.env = ([], [])) (hfree : ∀ y ∈ scope.names, y.2 = .free → ∃ c, X.env.cells.lookup y.1 = some c)
    (h : ∀ (f c' : Addr) (H1 : Hp) (s' : Shared), Inv X pins σ H1 s' → ExtN H H1 → (∀ b, H1 b = none → H b = none) → Tabs T H1 → H f = none →
      H1 f = some (FnL f ⟨X.env.qual ++ "<lambda>", params, body, scope, cloFrom X.env.cells scope.names [], c'⟩) → H1 c' = some (CodeO c' (X.env.qual ++ "<lambda>")) → Q (.ref f) s') :
    wpAny (model X.prog X.w) X.A (eval (.Lambda params body scope pos) X.env) Q E s := by
  obtain ⟨ps, hP, ht, ha⟩ := hT _ hm
  refine PySem.W.kla_eval hdef ?_
  have bP : s.heap.BuiltinsAt X.mg P := TB.bm.keeps I.bk
  have hP' : s.heap.get? P = some { cls := .none, data := .fields ps } := I.hok P _ hP
  cases hc : codeAmong pos ps.toList with
  | none =>
    refine PySem.W.kla_makeFunction (mg := X.mg) (c := c) (P := P) (ps := ps) (closure_ok hfree) I.ok.glob (I.mod.glob.keeps I.bk) hcode (TB.code.keeps I.bk) hP' ht hc TB.gP bP fun c' ctv h' tk hx hge hlt hrec htb => ?_
    obtain ⟨c2, oc, vs, t, e2, hoc, hd, hv⟩ := hrec
    cases e2
    have nC : H c' = none := I.hok.fresh hge
    have I1 := inv_table (t' := tk) (more := #[rawInt pos.line, rawInt pos.col, .ref c']) (h' := h') I hP (fun b o hb e => hx b o hb e) htb hge ⟨oc, vs, t, hoc, hd, hv⟩
    generalize hG : upd (upd H P (.tbl (ps ++ #[rawInt pos.line, rawInt pos.col, .ref c']))) c' (CodeO c' (X.env.qual ++ "<lambda>")) = G at I1
    have hE : ExtN H G := fun b o e n => by
      rw [← hG, upd_ne (ne_of_none e nC), upd_ne (fun z => n ps (Option.some.inj (e.symm.trans (by rw [z]; exact hP))))]
      exact e
    have gP : G P = some (.tbl (ps ++ #[rawInt pos.line, rawInt pos.col, .ref c'])) := by rw [← hG, upd_ne (ne_of_none hP nC), upd_same]
    have gC : G c' = some (CodeO c' (X.env.qual ++ "<lambda>")) := by rw [← hG, upd_same]
    have gO : ∀ b ps', b ≠ P → H b = some (.tbl ps') → G b = some (.tbl ps') := fun b ps' nb e => by
      rw [← hG, upd_ne (ne_of_none e nC), upd_ne nb]
      exact e
    have gN : ∀ b, G b = none → H b = none := fun b e => by
      rw [← hG] at e
      exact upd_none (upd_none e)
    have eL : (ps ++ #[rawInt pos.line, rawInt pos.col, .ref c']).toList = ps.toList ++ [rawInt pos.line, rawInt pos.col, .ref c'] := by simp
    have T1 : Tabs T G := fun p hp => by
      by_cases hb : p.1 = P
      · rw [hu p hp hb, hb]
        refine ⟨_, gP, by rw [eL]; exact PySem.TriplesOk_snoc _ _ _ _ ht, fun p' cv hcv => ?_⟩
        rw [eL] at hcv
        rcases among_app _ ht hcv with z | z
        · obtain ⟨c0, e1, e2⟩ := ha p' cv z
          exact ⟨c0, e1, hE _ _ e2 codeO_ne⟩
        · exact ⟨c', z, gC⟩
      · obtain ⟨ps', a1, a2, a3⟩ := hT p hp
        refine ⟨ps', gO _ _ hb a1, a2, fun p' cv hcv => ?_⟩
        obtain ⟨c0, e1, e2⟩ := a3 p' cv hcv
        exact ⟨c0, e1, hE _ _ e2 codeO_ne⟩
    have nF : G h'.objs.size = none := I1.hok.fresh (Nat.le_refl _)
    have I2 := inv_lam (F := ⟨X.env.qual ++ "<lambda>", params, body, scope, cloFrom X.env.cells scope.names [], c'⟩) (pm := (X.mg "__name__").getD .none) (ctv := ctv) I1
    refine h h'.objs.size c' _ _ I2 (fun b o e n => ?_) (fun b e => gN b (upd_none e)) (T1.ext fun b o e => ?_) (gN _ nF) upd_same ?_
    · have e1 := hE b o e n
      exact (upd_ne (ne_of_none e1 nF)).trans e1
    · exact (upd_ne (ne_of_none e nF)).trans e
    · exact (upd_ne (ne_of_none gC nF)).trans gC
  | some cv =>
    obtain ⟨c', e, hco⟩ := ha pos cv hc
    subst e
    refine PySem.W.kla_makeFunctionHit (mg := X.mg) (c := c) (P := P) (ps := ps) (closure_ok hfree) I.ok.glob (I.mod.glob.keeps I.bk) hcode (TB.code.keeps I.bk) hP' ht hc bP fun ctv h' tk hx hsz => ?_
    have I1 : Inv X pins σ H { s with heap := h', toks := tk } := I.kept hx
    have nF : H h'.objs.size = none := I1.hok.fresh (Nat.le_refl _)
    have I2 := inv_lam (F := ⟨X.env.qual ++ "<lambda>", params, body, scope, cloFrom X.env.cells scope.names [], c'⟩) (pm := (X.mg "__name__").getD .none) (ctv := ctv) I1
    refine h h'.objs.size c' _ _ I2 (fun b o e n => ?_) (fun b e => upd_none e) (hT.ext fun b o e => ?_) nF upd_same ?_
    · exact (upd_ne (ne_of_none e nF)).trans e
    · exact (upd_ne (ne_of_none e nF)).trans e
    · exact (upd_ne (ne_of_none hco nF)).trans hco
end
/-- lambda a, b: .. as a value -/
def tLamE (T : List (Addr × Str)) (mk : Addr → LF) : TE := fun _ H Q => Tabs T H ∧ ∀ (f c' : Addr) (H1 : Hp), ExtN H H1 → (∀ b, H1 b = none → H b = none) → Tabs T H1 → H f = none → H1 f = some (FnL f (mk c')) → H1 c' = some (CodeO c' (mk c').qual) → Q (.ref f) H1
theorem pe_lam {X : Cx} {T : List (Addr × Str)} {c P : Addr} {params : Arguments} {body : Expr} {scope : Scope} {pos : Pos} (TB : TabB X.base X.mg c P) (hcode : X.env.code = .ref c)
    (hm : (P, X.env.qual ++ "<lambda>") ∈ T) (hu : ∀ p ∈ T, p.1 = P → p.2 = X.env.qual ++ "<lambda>") (hdef : defaultsOf params X.env = ([], []))
    (hfree : ∀ y ∈ scope.names, y.2 = .free → X.env.scope.names.lookup y.1 = some .cell ∨ X.env.scope.names.lookup y.1 = some .free) :
    PE X (.Lambda params body scope pos) (tLamE T fun c' => ⟨X.env.qual ++ "<lambda>", params, body, scope, cloFrom X.env.cells scope.names [], c'⟩) := by
  refine ⟨fun pins s σ H Q I h => ?_⟩
  obtain ⟨hT, q⟩ := h
  refine lam_made I TB hcode hm hu hT hdef (fun y hy e => (hfree y hy e).elim (fun z => I.ok.has _ (.inl z)) fun z => I.ok.has _ (.inr z)) fun f c' H1 s' I' e n T' hf h1 h2 => ?_
  exact ⟨.ref f, H1, I', rfl, q f c' H1 e n T' hf h1 h2⟩
/-! ### what a lambda promises -/
structure LOk (P : Program) (w : World) (K : PySem.W.Frag) (mg : Str → Option Value) (base : Heap) (CX : CXT) (k : Nat) (f : Addr) (F : LF) (ps fr : List Str) (sp : List (Option V) → Sp) : Prop where
  len : ∀ ws vs H Q E, sp ws vs H Q E → vs.length = ps.length
  run : ∀ (A : Around) (outer : List Env) (s : Shared) (H : Hp) (us : List Value) (vs : List V) (ws : List (Option V)) (Q : VK) (E : XK), Room k A → Env0 P w K mg base A outer s H → H f = some (FnL f F) → H F.c = some (CodeO F.c F.qual) →
    CellsAt F.cl fr ws s.heap H → Vals vs us → sp ws vs H Q E → codeAny (model P w) A (.call (.ref f) ⟨us, []⟩) (CR CX outer P w H s Q E) s
section
variable {CX : CXT} {P : Program} {w : World} {K : PySem.W.Frag} {mg : Str → Option Value} {base : Heap} {N ps fr : List Str} {F : LF} {f : Addr} {k j : Nat} {sp : List (Option V) → Sp}
/-- a lambda by its body -/
theorem lok_of (S : NScope N ps fr F.scope) (hb : ∀ (pm ctv : Value) (us : List Value), us.length = ps.length → bindArgs (F.fd pm ctv) ⟨us, []⟩ = pure (ps.zip us)) (len : ∀ ws vs H Q E, sp ws vs H Q E → vs.length = ps.length)
    (hbody : ∀ (A : Around) (outer : List Env) (s : Shared) (H : Hp) (vs : List V) (ws : List (Option V)) (Q : VK) (E : XK), Room k (A.deeper (NdefX.envF F.nf f s.heap.objs.size)) → ws.length = fr.length → sp ws vs H Q E →
      ∃ t, PE (ncx CX P w K mg base N F.nf f A outer s H E) F.body t ∧ t (startF N vs ws) H Q) :
    LOk P w K mg base CX (k + 1) f F ps fr sp := by
  refine ⟨len, fun A outer s H us vs ws Q E hr e0 hf hc C r hsp => ?_⟩
  have hl := len _ _ _ _ _ hsp
  have lim : s.heap.NoLimit := e0.mod.nolimit.keeps fun b o e => (e0.bs b o e).1
  obtain ⟨od, sl, pm, ctv, ho⟩ := fnL_at e0.hok hf
  refine PySem.W.kla_callFunE hr.depth ho rfl S.co S.gen rfl (codeO_at e0.hok hc) ?_
  rw [hb pm ctv us (by rw [← r.length]; exact hl)]
  refine wpAny_pure (wpAny_newFunctionEnv S.nocell (fun ⟨n, _⟩ hy => S.par n (List.of_mem_zip hy).1) (fun h₁ hns hsb => ⟨lim.fresh _ hsb, ?_⟩) S.kind)
  show codeAny _ _ (.expr F.body (NdefX.envF F.nf f s.heap.objs.size)) _ _
  have kp : ∀ b o, s.heap.get? b = some o → h₁.get? b = some o := fun b o e => hsb.extBut b o (Nat.ne_of_lt (Heap.lt_size e)) (Heap.get?_push_of_some _ e)
  obtain ⟨t, ht, hq⟩ := hbody A outer s H vs ws Q E (hr.deeper _) C.len hsp
  have I : Inv (ncx CX P w K mg base N F.nf f A outer s H E) [] (startF N vs ws) H { s with heap := h₁, toks := s.toks + (ps.zip us).length } := inv_startN (F := F.nf) S hr.hd e0 hl r C hns kp
  refine PySem.W.kla_codeExpr (wpAny_mono (ht.run [] _ (startF N vs ws) H Q I hq) (fun v s' hs => ?_) fun e s' hs => hs)
  obtain ⟨v', H', J, rv, q⟩ := hs
  exact ⟨v', H', J.os, J.bare, J.base, J.hok, rv, q⟩
end
/-! ### a def that is handed things that can be called -/
end RH
set_option Elab.async false
set_option linter.all false
set_option maxRecDepth 100000
set_option maxHeartbeats 2000000
/-! Dicts with tuples for keys: one pair written out, their values; where an int stands in a tuple. -/
set_option Elab.async false
set_option linter.all false
set_option maxRecDepth 100000
set_option maxHeartbeats 2000000
/-! Tuples told by their very object, and dicts whose keys are such tuples of ints. -/
namespace RH
open PySem PySem.Spec PyProof.Rows L2
def keyOf (s : List Int) : List L2.Key := s.map Sum.inl
theorem keyOf_kV (s : List Int) : (keyOf s).map kV = s.map V.int := by
  unfold keyOf
  rw [List.map_map]
  rfl
theorem mapInt_inj : ∀ {s t : List Int}, s.map V.int = t.map V.int → s = t
  | [], [], _ => rfl
  | [], _ :: _, e => by simp at e
  | _ :: _, [], e => by simp at e
  | a :: s, b :: t, e => by
    rw [List.map_cons, List.map_cons] at e
    injection e with e1 e2
    rw [V.int.inj e1, mapInt_inj e2]
theorem keyOf_inj {s t : List Int} (h : keyOf s = keyOf t) : s = t := by
  have e : (keyOf s).map kV = (keyOf t).map kV := by rw [h]
  rw [keyOf_kV, keyOf_kV] at e
  exact mapInt_inj e
/-- b is a tuple of these ints -/
def KX (H : Hp) (b : Addr) (s : List Int) : Prop := Rd H b (.tup (s.map V.int))
/-- the same, and its very object is known, one without a dict -/
def FT (H : Hp) (b : Addr) (s : List Int) : Prop := ∃ ob, H b = some (.frz ob (.tup (s.map V.int))) ∧ ob.dict = none
theorem FT.kx {H : Hp} {b : Addr} {s : List Int} (h : FT H b s) : KX H b s := let ⟨ob, h, _⟩ := h; .inr ⟨ob, h⟩
inductive XS : List (List Int × V) → List Addr → List (List L2.Key × Addr × Value) → Prop
  | nil : XS [] [] []
  | cons {q : List Int × V} {b : Addr} {u : Value} {as : List (List Int × V)} {bs : List Addr} {xs : List (List L2.Key × Addr × Value)} : RelV q.2 u → XS as bs xs → XS (q :: as) (b :: bs) ((keyOf q.1, b, u) :: xs)
inductive KB (H : Hp) : List (List Int × V) → List Addr → Prop
  | nil : KB H [] []
  | cons {q : List Int × V} {b : Addr} {as : List (List Int × V)} {bs : List Addr} : KX H b q.1 → KB H as bs → KB H (q :: as) (b :: bs)
theorem KB.snoc {H : Hp} {q : List Int × V} {b : Addr} (h : KX H b q.1) : ∀ {as : List (List Int × V)} {bs : List Addr}, KB H as bs → KB H (as ++ [q]) (bs ++ [b])
  | _, _, .nil => .cons h .nil
  | _, _, .cons g t => .cons g (t.snoc h)
theorem KB.imp {H H' : Hp} (f : ∀ b s, KX H b s → KX H' b s) : ∀ {as : List (List Int × V)} {bs : List Addr}, KB H as bs → KB H' as bs
  | _, _, .nil => .nil
  | _, _, .cons g t => .cons (f _ _ g) (t.imp f)
theorem XS.len : ∀ {as : List (List Int × V)} {bs : List Addr} {xs : List (List L2.Key × Addr × Value)}, XS as bs xs → xs.length = as.length
  | _, _, _, .nil => rfl
  | _, _, _, .cons _ t => congrArg (· + 1) t.len
theorem XS.snoc {q : List Int × V} {b : Addr} {u : Value} (h : RelV q.2 u) : ∀ {as : List (List Int × V)} {bs : List Addr} {xs : List (List L2.Key × Addr × Value)}, XS as bs xs → XS (as ++ [q]) (bs ++ [b]) (xs ++ [(keyOf q.1, b, u)])
  | _, _, _, .nil => .cons h .nil
  | _, _, _, .cons g t => .cons g (t.snoc h)
theorem atKey_neg {x : List L2.Key × Addr × Value} {xs : List (List L2.Key × Addr × Value)} {k : List L2.Key} (e : ¬ x.1 = k) : atKey (x :: xs) k = atKey xs k := by simp [atKey, List.find?_cons, e]
theorem XS.no {s : List Int} : ∀ {as : List (List Int × V)} {bs : List Addr} {xs : List (List L2.Key × Addr × Value)}, XS as bs xs → s ∉ as.map Prod.fst → atKey xs (keyOf s) = none
  | _, _, _, .nil, _ => rfl
  | _, _, _, .cons g t, h => (atKey_neg fun e => h (by rw [← keyOf_inj e]; exact List.mem_cons_self ..)).trans (t.no fun z => h (List.mem_cons_of_mem _ z))
/-- the dict at d: as with its values, bs its keys' tuples -/
abbrev DE (P : Program) (w : World) (as : List (List Int × V)) (bs : List Addr) (d : Addr) : HO := .ext fun h => (d == sysModules) = false ∧ as.length ≤ sizeLine ∧ ∃ xs : List (List L2.Key × Addr × Value), XS as bs xs ∧
  ∃ o es ep, h.get? d = some o ∧ o.ExactDict ∧ o.data = .dict es ep ∧ es.toList = xs.map (entryOfKey (tupleKind (mixKind P w))) ∧ (xs.map (·.1)).Nodup
theorem DE.ok {P : Program} {w : World} {H : Hp} {h : Heap} {as : List (List Int × V)} {bs : List Addr} {d : Addr} {xs : List (List L2.Key × Addr × Value)} (hd : (d == sysModules) = false) (hl : as.length ≤ sizeLine) (hx : XS as bs xs) (dd : h.DictOfH (tupleKind (mixKind P w)) d xs) : ObjOk P w H h d (DE P w as bs d) := by
  obtain ⟨o, es, ep, h1, h2, h3, h4, _, h5⟩ := dd
  refine ⟨⟨hd, hl, xs, hx, o, es, ep, h1, h2, h3, h4, h5⟩, ⟨o, h1⟩, fun h1 h2 ⟨a1, a2, xs, a3, o, es, ep, b1, b2⟩ k => ⟨a1, a2, xs, a3, o, es, ep, k _ b1, b2⟩⟩
/-! ### the rules -/
section
variable {X : Cx} {o i k v value : Expr} {pos pos' tpos : Pos} {td ty tk tv : TE}
/-- tuple(xs) of a list, told by its very object -/
def kTupF (K : PySem.W.Frag) (x : V) (H : Hp) (Q : VK) : Prop := ∃ p xs, x = .ref p ∧ SqL K H p xs ∧ ∀ q ob, H q = none → ob.dict = none → Q (.ref q) (upd H q (.frz ob (.tup xs)))
theorem pe_tupleF {a : Expr} {ta : TE} {p : Pos} (hg : Gl X "tuple") (hm : X.mg "tuple" = none) (ha : PE X a ta) (na : starEach [a] X.env = (false, eval a X.env) :: starEach [] X.env := by rfl) : PE X (.Call (.Name "tuple" p) [a] [] pos) (tThen ta (kTupF X.K)) := by
  refine ⟨fun pins s σ H Q I h => ?_⟩
  refine Call_ (ld_blt I hg hm boot_tuple (PyProof.Rows.callWith_type1 (one_arg ha I h (fun v s2 x H2 I2 r q => ?_) na) na))
  obtain ⟨p, xs, rfl, hs, q⟩ := q
  obtain rfl : v = .ref p := r
  obtain ⟨its, rv, pl, hz⟩ := I2.list hs
  refine call_tuple_list pl.isList (fun h' hk => ?_) (by rw [List.size_toArray, ← rv.length]; exact hz)
  have I3 : Inv X pins σ H2 { s2 with heap := h' } := I2.kept (t' := s2.toks) hk
  have e : (h'.push { cls := .type "tuple", data := .seq its.toArray }).get? h'.objs.size = some { cls := .type "tuple", data := .seq its.toArray } := Heap.get?_push_size _ rfl
  have I4 : Inv X pins σ (upd H2 h'.objs.size (.frz { cls := .type "tuple", data := .seq its.toArray } (.tup xs))) { s2 with heap := h'.push { cls := .type "tuple", data := .seq its.toArray } } :=
    I3.laid (t' := s2.toks) (fun b o e => Heap.get?_push_of_some _ e) (Nat.le_refl _) ⟨e, hz, its, rv, IsTup.new _ _⟩
  exact ⟨.ref h'.objs.size, _, I4, rfl, q _ _ (I3.hok.fresh (Nat.le_refl _)) rfl⟩
/-- t.index(k) -/
def tTIdxF (to te : TE) : TE := fun σ H Q => to σ H fun x H1 => ∃ (p : Addr) (ns : List Int), x = .ref p ∧ FT H1 p ns ∧ te σ H1 fun y H2 => ∃ k : Int, y = .int k ∧ FT H2 p ns ∧ k ∈ ns ∧ Q (.int (ns.idxOf k : Nat)) H2
theorem pe_tidxF {e : Expr} {to te : TE} {apos cpos : Pos} (ho : PE X o to) (he : PE X e te)
    (hbase : attributeBase o "index" X.env (eval o X.env) = eval o X.env := by rfl) (hline : (apos.endLine == cpos.line) = true := by rfl) (htrees : backTo cpos (starEach [e] X.env) = [(false, eval e X.env)] := by rfl) :
    PE X (.Call (.Attribute o "index" apos) [e] [] cpos) (tTIdxF to te) := by
  refine ⟨fun pins s σ H Q I h => ?_⟩
  refine wpAny_Call_method1_late hbase hline htrees (thn (ho.run pins s σ H _ I h) fun v s1 ⟨x, H1, I1, r1, p, ns, ex, ⟨ob, hp, hdn⟩, q1⟩ => ?_)
  subst ex
  obtain rfl : v = Value.ref p := r1
  obtain ⟨g, z, its, rv, hl⟩ := (show ObjOk X.prog X.w H1 s1.heap p (.frz ob (.tup (ns.map V.int))) from I1.hok p _ hp)
  have tI : s1.TypeIs (.ref p) "tuple" := let ⟨o, ho, hc, _⟩ := hl; ⟨o, ho, hc⟩
  refine ⟨"tuple", "tuple.index", PySem.F.plainAttrs_tuple, PySem.F.slot_tuple_index, PySem.F.type_tuple_index, tI, fun b eb => by cases eb; exact ⟨ob, g, hdn⟩, ?_⟩
  refine Calls.callWith_builtin rfl (Calls.evalArgs_plain (Calls.spliced_cons (thn (he.run pins s1 σ H1 _ I1 q1) fun iv s2 ⟨y, H2, I2, ry, k, ey, ⟨ob2, hp2, _⟩, hk, q2⟩ => Calls.spliced_nil ?_)))
  subst ey
  obtain ⟨t, rfl⟩ := (show ∃ t, iv = Value.int k t from ry)
  obtain ⟨_, _, its2, rv2, hl2⟩ := (show ObjOk X.prog X.w H2 s2.heap p (.frz ob2 (.tup (ns.map V.int))) from I2.hok p _ hp2)
  exact PySem.SeqAt.tuple_index_ints hl2 rv2.ints hk ⟨.int (ns.idxOf k : Nat), H2, I2.tok _, ⟨_, rfl⟩, q2⟩
end
end RH
set_option Elab.async false
set_option linter.all false
set_option maxRecDepth 100000
set_option maxHeartbeats 2000000
/-! Sorted lists of tuples of ints, of any length; more rules for dicts whose keys are such tuples. -/
namespace RH
open PySem PySem.Spec PyProof.Rows L2
open SrtO (Swo Srtd Stb SortableO Cmp lt2)
open TS (TupInts intsOf code Bd lex_ints firsts_of)
/-- each of xs is a tuple of the ints -/
inductive EX (H : Hp) : List V → List (List Int) → Prop
  | nil : EX H [] []
  | cons {b : Addr} {s : List Int} {xs : List V} {ls : List (List Int)} : KX H b s → EX H xs ls → EX H (.ref b :: xs) (s :: ls)
theorem EX.len {H : Hp} : ∀ {xs : List V} {ls : List (List Int)}, EX H xs ls → xs.length = ls.length
  | _, _, .nil => rfl
  | _, _, .cons _ t => congrArg (· + 1) t.len
theorem EX.imp {H H' : Hp} (f : ∀ b s, KX H b s → KX H' b s) : ∀ {xs : List V} {ls : List (List Int)}, EX H xs ls → EX H' xs ls
  | _, _, .nil => .nil
  | _, _, .cons g t => .cons (f _ _ g) (t.imp f)
theorem EX.snoc {H : Hp} {b : Addr} {s : List Int} (h : KX H b s) : ∀ {xs : List V} {ls : List (List Int)}, EX H xs ls → EX H (xs ++ [.ref b]) (ls ++ [s])
  | _, _, .nil => .cons h .nil
  | _, _, .cons g t => .cons g (t.snoc h)
theorem EX.at {H : Hp} : ∀ {xs : List V} {ls : List (List Int)} {i : Nat} {s : List Int}, EX H xs ls → ls[i]? = some s → ∃ b, xs[i]? = some (V.ref b) ∧ KX H b s
  | _, _, _, _, .nil, e => by simp at e
  | _, _, 0, _, .cons h _, e => by
    cases Option.some.inj e
    exact ⟨_, rfl, h⟩
  | _, _, i + 1, _, .cons _ t, e => t.at (i := i) e
theorem EX.of {P : Program} {w : World} {H : Hp} {h : Heap} : ∀ {out : List Value}, (∀ v ∈ out, ∃ b, v = Value.ref b ∧ KX H b (intsOf h v)) → Vals (out.map backV) out ∧ EX H (out.map backV) (out.map (intsOf h))
  | [], _ => ⟨.nil, .nil⟩
  | v :: out, hv => by
    obtain ⟨r, e⟩ := EX.of (P := P) (w := w) (H := H) (h := h) (out := out) fun u hu => hv u (List.mem_cons_of_mem _ hu)
    obtain ⟨b, rfl, k⟩ := hv v (List.mem_cons_self ..)
    exact ⟨.cons rfl r, .cons k e⟩
end RH
set_option Elab.async false
set_option linter.all false
set_option maxRecDepth 100000
set_option maxHeartbeats 2000000
namespace RH
open PySem PySem.Spec PyProof.Rows L2
open SrtO (Swo Srtd Stb SortableO Cmp lt2)
open TS (TupInts intsOf code Bd lex_ints firsts_of)
theorem KB.ex {H : Hp} : ∀ {as : List (List Int × V)} {bs : List Addr}, KB H as bs → EX H (bs.map V.ref) (as.map Prod.fst)
  | _, _, .nil => .nil
  | _, _, .cons g t => .cons g t.ex
/-! ### get, in, a new one, [..] = -/
end RH
set_option Elab.async false
set_option linter.all false
set_option maxRecDepth 100000
set_option maxHeartbeats 2000000
/-! Lambdas that a def hands back: the cells that they caught are tracked from then on. -/
namespace RH
open PySem PySem.Spec PyProof.Rows L2
open LamX (Tabs TabS TabB ExtN CodeO codeO_ne)
open NdefX (NF CellsAt NScope startF ncx codeO_at slotAt Caps cells_of)
/-- the cell at c holds v -/
def CellO (c : Addr) (v : V) : HO := .ext fun h => ∃ u, L2.RelV v u ∧ h.IsCell c (some u)
theorem cellO_ne {c : Addr} {v : V} : (∀ y, CellO c v ≠ .own y) ∧ (∀ xs, CellO c v ≠ .tup xs) ∧ (∀ o u, CellO c v ≠ .frz o u) ∧ (∀ ps, CellO c v ≠ .tbl ps) := by
  unfold CellO
  exact ⟨fun _ z => (nomatch z), fun _ z => (nomatch z), fun _ _ z => (nomatch z), fun _ z => (nomatch z)⟩
abbrev CL := List (Addr × V)
/-- without the cells, with them -/
def era (l : CL) (H : Hp) : Hp := fun b => match l.lookup b with
  | some _ => none
  | none => H b
def lay (l : CL) (H : Hp) : Hp := fun b => match l.lookup b with
  | some v => some (CellO b v)
  | none => H b
theorem era_in {l : CL} {H : Hp} {b : Addr} {v : V} (e : l.lookup b = some v) : era l H b = none := by
  unfold era
  rw [e]
theorem era_no {l : CL} {H : Hp} {b : Addr} (e : l.lookup b = none) : era l H b = H b := by
  unfold era
  rw [e]
theorem lay_in {l : CL} {H : Hp} {b : Addr} {v : V} (e : l.lookup b = some v) : lay l H b = some (CellO b v) := by
  unfold lay
  rw [e]
theorem lay_no {l : CL} {H : Hp} {b : Addr} (e : l.lookup b = none) : lay l H b = H b := by
  unfold lay
  rw [e]
/-- the cells stand -/
def Stand (l : CL) (H : Hp) : Prop := ∀ b v, l.lookup b = some v → H b = some (CellO b v)
theorem Stand.ext {l : CL} {H H' : Hp} (s : Stand l H) (e : ExtN H H') : Stand l H' := fun b v q => e b _ (s b v q) cellO_ne.2.2.2
theorem Stand.same {l : CL} {H H' : Hp} (s : Stand l H) (e : Same H H') : Stand l H' := fun b v q => e b _ (s b v q)
theorem Stand.cases {l : CL} {H : Hp} (s : Stand l H) {b : Addr} {o : HO} (e : H b = some o) : (∃ v, l.lookup b = some v ∧ o = CellO b v) ∨ (l.lookup b = none ∧ era l H b = some o) := by
  cases q : l.lookup b with
  | some v => exact .inl ⟨v, rfl, Option.some.inj (e.symm.trans (s b v q))⟩
  | none => exact .inr ⟨rfl, (era_no q).trans e⟩
theorem Stand.tup {l : CL} {H : Hp} (s : Stand l H) {b : Addr} {xs : List V} (e : H b = some (.tup xs)) : era l H b = some (.tup xs) := by
  rcases s.cases e with ⟨v, _, z⟩ | ⟨_, z⟩
  · exact absurd z.symm (cellO_ne.2.1 xs)
  · exact z
theorem Stand.frz {l : CL} {H : Hp} (s : Stand l H) {b : Addr} {o : Obj} {u : HO} (e : H b = some (.frz o u)) : era l H b = some (.frz o u) := by
  rcases s.cases e with ⟨v, _, z⟩ | ⟨_, z⟩
  · exact absurd z.symm (cellO_ne.2.2.1 o u)
  · exact z
/-- the heap with the cells goes on as the one without them does -/
theorem Stand.on {l : CL} {H H2 : Hp} (s : Stand l H) (e : Same (era l H) H2) : Same H (RH.lay l H2) := fun b o q => by
  rcases s.cases q with ⟨v, z, rfl⟩ | ⟨z, y⟩
  · exact lay_in z
  · exact (lay_no z).trans (e b o y)
theorem Stand.hok {P : Program} {w : World} {l : CL} {H : Hp} {h : Heap} (s : Stand l H) (k : HOk P w H h) : HOk P w (era l H) h := fun a o e => by
  cases q : l.lookup a with
  | some v =>
    rw [era_in q] at e
    cases e
  | none =>
    rw [era_no q] at e
    refine (k a o e).stay (fun _ _ _ z => z) (fun b z => ?_) fun b xs z => s.tup z
    rcases s.cases z with ⟨v, _, y⟩ | ⟨_, y⟩
    · exact absurd y.symm (cellO_ne.1 a)
    · exact y
/-- the lambda at f stands, with its code and its cells -/
structure LiveK (f : Addr) (F : LF) (l : CL) (H : Hp) : Prop where
  fn : H f = some (FnL f F)
  code : H F.c = some (CodeO F.c F.qual)
  st : Stand l H
theorem LiveK.same {f : Addr} {F : LF} {l : CL} {H H' : Hp} (k : LiveK f F l H) (e : Same H H') : LiveK f F l H' := ⟨e _ _ k.fn, e _ _ k.code, k.st.same e⟩
theorem LiveK.ext {f : Addr} {F : LF} {l : CL} {H H' : Hp} (k : LiveK f F l H) (e : ExtN H H') : LiveK f F l H' := ⟨e _ _ k.fn (fun ps => fnL_ne ps), e _ _ k.code (fun ps => codeO_ne ps), k.st.ext e⟩
/-! ### a body that ends with a return, its names kept -/
end RH
set_option Elab.async false
set_option linter.all false
set_option maxRecDepth 100000
set_option maxHeartbeats 2000000
/-! A walk over zip of a tuple and a list. -/
set_option Elab.async false
set_option linter.all false
set_option maxRecDepth 100000
set_option maxHeartbeats 2000000
/-! Defs and methods that may raise, lambdas handed back that are called without arguments and may raise, what an except suite asks of its error. -/
namespace RH
open PySem PySem.Spec PyProof.Rows L2
open LamX (Tabs TabS TabB ExtN CodeO codeO_ne)
open NdefX (NF CellsAt NScope startF ncx codeO_at slotAt Caps cells_of)
/-! ### a lambda that was handed back, called without arguments -/
/-! ### what an except suite asks of its error -/
/-! ### list.count of flat things -/
/-- what leaves a def that may raise -/
theorem passE {P : Program} {w : World} {K : PySem.W.Frag} {mg : Str → Option Value} {base : Heap} {N : List Str} {qual : Str} {scope : Scope} {f : Addr} {cd : Value} {A : Around} {outer : List Env} {s : Shared} {H : Hp} {E : XK} :
    Passes (L2.CX P w) (cxOf (L2.CX P w) P w K mg base N qual scope f cd A outer s H E) E := passes_call (W := fun cls d _ H => E cls d H) (takes_of rfl rfl rfl rfl) (fun _ _ _ _ h => h)
theorem takesE {P : Program} {w : World} {K : PySem.W.Frag} {mg : Str → Option Value} {base : Heap} {N : List Str} {qual : Str} {scope : Scope} {f : Addr} {cd : Value} {A : Around} {outer : List Env} {s : Shared} {H : Hp} {E : XK} :
    Takes (cxOf (L2.CX P w) P w K mg base N qual scope f cd A outer s H E) (fun cls d _ H => E cls d H) := takes_of rfl rfl rfl rfl
end RH
set_option Elab.async false
set_option linter.all false
set_option maxRecDepth 100000
set_option maxHeartbeats 4000000
/-! own errors whose __init__ asks super().__init__ first -/
namespace L2
open PySem PySem.Calls PySem.Spec PyProof.Rows PySem.W
open NdefX (NScope NF CellsAt startF ncx envF inv_startN)
end L2
/-! ### isinstance of an error with a dict -/
namespace PySem.W
open PySem PySem.Spec PySem.Calls PyProof.Rows
end PySem.W
namespace L2
open PySem PySem.Spec PyProof.Rows
/-! ### f-strings with None -/
end L2
set_option Elab.async false
set_option linter.all false
set_option maxRecDepth 100000
set_option maxHeartbeats 2000000
/-! Sets of ints, made of a list, of a display, of a comprehension; the tuple of a dict's keys. -/
namespace RH
open PySem PySem.Spec PyProof.Rows L2
/-! ### the tuple of a dict's keys -/
/-! ### a set display of two ints -/
/-! ### set(xs) of a list of ints -/
section
variable {M : Program} {w : World} {A : Around} {E : Value → Shared → Prop} {s : Shared}
/-- what a new set is -/
abbrev bare (w : World) : Obj := { cls := .type "set", dict := none, data := .set #[] 0 (.fresh 0 0 (!w.params.followText "set-order")) }
end
end RH
set_option Elab.async false
set_option linter.all false
set_option maxRecDepth 100000
set_option maxHeartbeats 2000000
/-! A set comprehension whose members are ints. -/
namespace RH
open PySem PySem.Spec PyProof.Rows L2
/-! ### tuple(range(..)), told by its very object -/
def tTupRgF (te : L2.St → Hp → (Int → Int → Hp → Prop) → Prop) : TE := fun σ H Q => te σ H fun a b H1 => RgOk a b ∧ ∀ q ob, H1 q = none → ob.dict = none → Q (.ref q) (upd H1 q (.frz ob (.tup (rgV a b))))
theorem pe_tupRgF {X : Cx} {e : Expr} {te : L2.St → Hp → (Int → Int → Hp → Prop) → Prop} {p pos : Pos} (calm : X.calm = true) (gl : Gl X "tuple") (nm : X.mg "tuple" = none) (he : PRg X e te) (na : starEach [e] X.env = (false, eval e X.env) :: starEach [] X.env := by rfl) : PE X (.Call (.Name "tuple" p) [e] [] pos) (tTupRgF te) := by
  refine ⟨fun pins s σ H Q I h => ?_⟩
  refine Call_ (ld_blt I gl nm boot_tuple (PyProof.Rows.callWith_type1 (args_cons (thn (he pins s σ H _ I h) fun x s1 ⟨r, a, b, t, u, v, H1, ex, isr, I1, okr, q⟩ => args_nil ?_) na) na))
  subst ex
  obtain ⟨c1, c2, c3, c4, c5⟩ := okr
  refine call_tuple_range (n := (b - a).toNat) (I1.ok.hd calm) isr (small_one c1 c2 c3 c4) (rangeSize_nat a b) c5 fun h2 k2 out keep items => ?_
  have I2 : Inv X pins σ H1 { s1 with heap := h2, toks := k2 } := I1.kept keep
  have at2 : (h2.push { cls := .type "tuple", data := .seq out }).get? h2.objs.size = some { cls := .type "tuple", data := .seq out } := Heap.get?_push_size _ rfl
  have I3 : Inv X pins σ (upd H1 h2.objs.size (.frz { cls := .type "tuple", data := .seq out } (.tup (rgV a b)))) { s1 with heap := h2.push { cls := .type "tuple", data := .seq out }, toks := k2 } :=
    I2.laid (t' := k2) (fun c o ec => Heap.get?_push_of_some _ ec) (Nat.le_refl _) ⟨at2, by rw [rgV_length, sizeLine_eq]; omega, out.toList, vals_rg items, by rw [Array.toArray_toList]; exact IsTup.new _ _⟩
  exact ⟨.ref h2.objs.size, _, I3, rfl, q _ _ (I2.hok.fresh (Nat.le_refl _)) rfl⟩
end RH
set_option Elab.async false
set_option linter.all false
set_option maxRecDepth 100000
set_option maxHeartbeats 2000000
/-! Lambdas with a default, as values that a def of the text calls without arguments, and that may raise. -/
set_option Elab.async false
set_option linter.all false
set_option maxRecDepth 100000
set_option maxHeartbeats 2000000
/-! try with several except clauses, each with a name. -/
namespace RH
open PySem PySem.Spec PyProof.Rows L2
/-- an error of class cls that has come to the try of X, at the heap h -/
structure Caught (X : Cx) (pins : List (Addr × Obj)) (a : Addr) (cls : Value) (d : Option Addr) (σ : L2.St) (H : Hp) (s : Shared) : Prop where
  ex : ∃ (B : Heap) (sI : Shared), Inv X pins σ H sI ∧ (∀ b o, sI.heap.get? b = some o → b ∉ frs X.stack → B.get? b = some o) ∧ sI.heap.UpToSlots s.heap ∧ HandSPX.FlyingZ B (X.env :: X.outer) a (Zc cls d) s.heap ∧ s.os = sI.os ∧ AllBare s.gens
  na : H a = none
section
variable {X : Cx} {pins : List (Addr × Obj)} {a : Addr} {cls : Value} {d : Option Addr} {σ : L2.St} {H : Hp} {s : Shared}
/-- no clause takes it -/
theorem Caught.on {W : WX} {D : Ends} (c : Caught X pins a cls d σ H s) (hs : X.stack = X.env :: X.outer) (hf : X.env.frame = some X.env.locals) (tk : Takes X W) (w : W cls d σ H) : wpAny (model X.prog X.w) X.A (handleBy (.ref a) X.env []) (SP X pins D) X.xe s := by
  obtain ⟨B, sI, I, nb, up, fl, os, ag⟩ := c.ex
  refine wpAny_handleBy_nil ?_
  obtain ⟨_, _, _, oe, vs, T, oT, ts, at_, z, dat, one, _⟩ := id fl
  unfold PySem.passOn
  refine wpAny_bind (wpAny_field at_ dat one ?_)
  rw [if_neg (by simp : ¬ ((Value.ref T == Value.none) = true)), hf]
  have out : wpAny (model X.prog X.w) X.A (setFlight (.ref a) (some X.env.locals)) (fun _ s4 => wpAny (model X.prog X.w) X.A (throw (.ref a) : Sem Flow) (SP X pins D) X.xe s4) X.xe s :=
    HandSPX.setFlight_upZ fl fun h4 hh up4 => wpAny_throw (tk _ _ ⟨a, B, sI, pins, σ, H, cls, d, rfl, I, nb, up.trans up4, .inr (.inr (hs ▸ hh)), c.na, os, ag, w⟩)
  first
    | exact wpAny_bind (wpAny_pure (wpAny_bind out))
    | exact wpAny_bind out
end
end RH
set_option Elab.async false
set_option linter.all false
set_option maxRecDepth 100000
set_option maxHeartbeats 2000000
/-! sorted(range(n), key=f) and sorted(xs, key=f), f a lambda that may see names of the def; tuple.count. -/
namespace RH
open PySem PySem.Spec PyProof.Rows L2
/-! ### keys that stay -/
section
variable {K : PySem.W.Frag} {H H' : Hp}
theorem rdUp (e : Same H H') {b : Addr} {o : HO} (r : Rd H b o) : Rd H' b o := r.elim (fun z => .inl (e _ _ z)) fun ⟨ob, z⟩ => .inr ⟨ob, e _ _ z⟩
theorem keyUp (e : Same H H') {v : V} {d : PyData} (h : Dp K H v d) : Dp K H' v d :=
  Dp.rec (motive_1 := fun v d _ => Dp K H' v d) (motive_2 := fun vs ds _ => DpAll K H' vs ds) .non .bl .int .str (fun hs _ t => .lst (hs.imp_left (rdUp e)) t) (fun hs _ t => .tup (hs.imp_left (rdUp e)) t) .nil (fun _ _ a b => .cons a b) h
end
/-- the keys made so far: for each value a V, and its data -/
inductive KeysOk (K : PySem.W.Frag) (H : Hp) : List Value → List PyData → Prop
  | nil : KeysOk K H [] []
  | cons {u : Value} {us : List Value} {d : PyData} {ds : List PyData} (v : V) : RelV v u → Dp K H v d → KeysOk K H us ds → KeysOk K H (u :: us) (d :: ds)
section
variable {K : PySem.W.Frag} {H H' : Hp} {us : List Value} {ds : List PyData}
theorem KeysOk.up (e : Same H H') (k : KeysOk K H us ds) : KeysOk K H' us ds := by
  induction k with
  | nil => exact .nil
  | cons v r h _ ih => exact .cons v r (keyUp e h) ih
theorem KeysOk.more {u : Value} {d : PyData} {v : V} (k : KeysOk K H us ds) (r : RelV v u) (h : Dp K H v d) : KeysOk K H (us ++ [u]) (ds ++ [d]) := by
  induction k with
  | nil => exact .cons v r h .nil
  | cons v' r' h' _ ih => exact .cons v' r' h' ih
theorem KeysOk.size (k : KeysOk K H us ds) : us.length = ds.length := by
  induction k with
  | nil => rfl
  | cons _ _ _ _ ih => rw [List.length_cons, List.length_cons, ih]
theorem KeysOk.each {X : Cx} {pins : List (Addr × Obj)} {σ : L2.St} {s : Shared} (I : Inv X pins σ H s) (k : KeysOk X.K H us ds) : PySem.W.EachIs (fun u d => ∃ as, Reads s.heap u d as) us ds := by
  induction k with
  | nil => exact .nil
  | cons v r h _ ih => exact .cons (Dp.reads I _ _ _ h r) ih
end
/-- f gives the key kd x of each item x, from any state that has come since H -/
def KeyAt (X : Cx) (A : Around) (σ : L2.St) (f : Addr) (H : Hp) (xs : List V) (kd : V → PyData) : Prop :=
  ∀ (pins : List (Addr × Obj)) (H' : Hp) (s : Shared) (x : V) (u : Value), Inv X pins σ H' s → Same H H' → x ∈ xs → RelV x u →
    wpAny (model X.prog X.w) A (call (.ref f) [u]) (EP X pins σ fun v H2 => Dp X.K H2 v (kd x) ∧ Same H' H2) (fun _ _ => False) s
theorem pin_get {X : Cx} {pins : List (Addr × Obj)} {σ : L2.St} {H : Hp} {s : Shared} {h : Heap} {fp : List Addr} (I : Inv X (pins ++ pinsAt fp h) σ H s) {b : Addr} {o : Obj} (hb : b ∈ fp) (e : h.get? b = some o) : s.heap.get? b = some o ∧ H b = none := by
  have q := I.pin (b, o) (List.mem_append_right _ (List.mem_append_right _ (mem_pinsAt hb e)))
  exact ⟨q.1, q.2.1⟩
theorem vals_at : ∀ {xs : List V} {us : List Value} {i : Nat} {u : Value}, Vals xs us → us[i]? = some u → ∃ x, xs[i]? = some x ∧ RelV x u
  | _, _, _, _, .nil, e => by simp at e
  | _, _, 0, _, .cons r _, e => ⟨_, rfl, Option.some.inj e ▸ r⟩
  | _, _, i + 1, _, .cons _ t, e => vals_at (i := i) t e
theorem each_vals {xs : List V} {us : List Value} (r : Vals xs us) : PySem.W.EachIs (fun u x => RelV x u) us xs := by
  induction r with
  | nil => exact .nil
  | cons h _ ih => exact .cons h ih
theorem vals_each {xs : List V} {us : List Value} (r : PySem.W.EachIs (fun u x => RelV x u) us xs) : Vals xs us := by
  induction r with
  | nil => exact .nil
  | cons h _ ih => exact .cons h ih
/-! ### list.sort(key=f) over a list of our own -/
section
variable {X : Cx} {A : Around} {pins : List (Addr × Obj)} {σ : L2.St} {H : Hp} {a kS f : Addr} {xs : List V} {kd : V → PyData} {e1 : Nat}
theorem fp_from {H' : Hp} {b : Addr} (h : FpOk X pins H b) (n : H' b = none) : FpOk X pins H' b := ⟨n, h.2⟩
/-- while the keys are made: the list is empty, the keys so far are kept beside -/
structure Making (X : Cx) (pins : List (Addr × Obj)) (σ : L2.St) (H : Hp) (a kS : Addr) (e1 : Nat) (ds : List PyData) (H' : Hp) (ks : Array Value) (e : Nat) (s : Shared) : Prop where
  inv : Inv X pins σ H' s
  same : Same H H'
  na : H' a = none
  nk : H' kS = none
  la : s.heap.get? a = some (seqObj "list" #[] e1)
  lk : s.heap.get? kS = some (seqObj "list" ks e)
  ok : KeysOk X.K H' ks.toList ds
theorem seq_nocell {t : String} {vs : Array Value} {n : Nat} : ∀ v, (seqObj t vs n).data ≠ .cell v := fun v z => by cases z
theorem Making.call {ds : List PyData} {H' : Hp} {ks : Array Value} {e : Nat} {s : Shared} {x : V} {u : Value} (M : Making X pins σ H a kS e1 ds H' ks e s) (fa : FpOk X pins H a) (fk : FpOk X pins H kS) (hK : KeyAt X A σ f H xs kd) (hx : x ∈ xs) (r : RelV x u) :
    wpAny (model X.prog X.w) A (call (.ref f) [u]) (fun w s2 => ∃ H2 v, Making X pins σ H a kS e1 ds H2 ks e s2 ∧ RelV v w ∧ Dp X.K H2 v (kd x)) (fun _ _ => False) s := by
  have J : Inv X (pins ++ pinsAt [a, kS] s.heap) σ H' s := M.inv.pinned (fun b hb => ?_) fun b hb => ?_
  · refine wpAny_mono (hK _ H' s x u J M.same hx r) (fun w s2 ⟨v, H2, I2, rv, dv, sm⟩ => ?_) fun _ _ z => z
    obtain ⟨ga, ha⟩ := pin_get I2 (List.Mem.head _) M.la
    obtain ⟨gk, hk⟩ := pin_get I2 (List.Mem.tail _ (List.Mem.head _)) M.lk
    exact ⟨H2, v, ⟨I2.unpinned, M.same.trans sm, ha, hk, ga, gk, M.ok.up sm⟩, rv, dv⟩
  · rcases List.mem_cons.mp hb with rfl | hb
    · exact fp_from fa M.na
    · rw [List.mem_singleton.mp hb]
      exact fp_from fk M.nk
  · rcases List.mem_cons.mp hb with rfl | hb
    · exact ⟨_, M.la, seq_nocell⟩
    · rw [List.mem_singleton.mp hb]
      exact ⟨_, M.lk, seq_nocell⟩
theorem Making.push {ds : List PyData} {H' : Hp} {ks : Array Value} {e : Nat} {s : Shared} {w : Value} {v : V} {d : PyData} (M : Making X pins σ H a kS e1 ds H' ks e s) (fk : FpOk X pins H kS) (hka : kS ≠ a) (rv : RelV v w) (dv : Dp X.K H' v d) :
    ∃ e', Making X pins σ H a kS e1 (ds ++ [d]) H' (ks.push w) e' { s with heap := s.heap.update kS (Obj.mapSeq (·.push w)) } := by
  have apart := Heap.SameBut.update s.heap kS (Obj.mapSeq (·.push w))
  refine ⟨_, M.inv.turned (t' := s.toks) (it := kS) (fun b o hb z => (apart.2 b hb).trans z) M.nk fk.2.1 fk.2.2.2.1 fk.2.2.2.2.1 fk.2.2.2.2.2, M.same, M.na, M.nk, (apart.2 a hka.symm).trans M.la, get?_update_seq M.lk (·.push w), ?_⟩
  rw [Array.toList_push]
  exact M.ok.more rv dv
/-- the sort over: the list holds what mergeSort makes -/
theorem Making.fin {H' : Hp} {ks : Array Value} {e : Nat} {s : Shared} {us : List Value} (M : Making X pins σ H a kS e1 (xs.map kd) H' ks e s) (fa : FpOk X pins H a) (fk : FpOk X pins H kS) (hka : kS ≠ a) (r : Vals xs us) (hz : us.length ≤ sizeLine)
    (hal : PySem.W.AllAlike (xs.map kd)) (hsk : PySem.W.Sortable (xs.map kd)) (hu : ∀ x ∈ xs, A.units + (kd x).depth < cLine) :
    wpAny (model X.prog X.w) A (ksk_end a false us.toArray e1 (.ref kS) ks) (fun fl s' => fl = .done (.ret .none) ∧ ∃ H2, Inv X pins σ (upd H2 a (.lst (xs.mergeSort (PySem.W.dataLe false kd)))) s' ∧ Same H H2 ∧ H2 a = none) (fun _ _ => False) s := by
  have E := M.ok.each M.inv
  have S := PySem.W.SortsAt.data (prog := X.prog) (w := X.w) (A := A) (s := s) E hal hsk (PySem.W.bound_map hu)
  have hs : ks.size = us.length := by
    rw [← Array.length_toList, M.ok.size, List.length_map, r.length]
  refine PySem.W.keyH_end (h₁ := PySem.W.hideAll s.heap [kS]) (fun b o _ z => PySem.W.of_hideAll _ z) (PySem.W.hideAll_none _ (List.Mem.head _)) M.lk M.la hka S hs hz fun h3 tk c kp g3 => ⟨rfl, H', ?_, M.same, M.na⟩
  have hid : ∀ b o, (PySem.W.hideAll s.heap [kS, a]).get? b = some o → h3.get? b = some o := fun b o z => by
    have ne : b ∉ [kS, a] := fun m => by
      rw [PySem.W.hideAll_none _ m] at z
      cases z
    have q := PySem.W.of_hideAll _ z
    refine kp b o (fun m => ne (by rw [m]; exact List.Mem.tail _ (List.Mem.head _))) (PySem.W.hideAll_get _ q fun m => ne ?_)
    rw [List.mem_singleton.mp m]
    exact List.Mem.head _
  have J : Inv X pins σ H' { s with heap := PySem.W.hideAll s.heap [kS, a], toks := s.toks } := M.inv.turnedL (ch := [kS, a]) (fun b o m z => PySem.W.hideAll_get _ z m) fun b hb => by
    rcases List.mem_cons.mp hb with rfl | hb
    · exact fp_from fk M.nk
    · rw [List.mem_singleton.mp hb]
      exact fp_from fa M.na
  have out := PySem.W.keyedOut_each (R := fun u x => RelV x u) (rev := false) kd ⟨s.heap, ks.toList, hal, rfl, E⟩ (each_vals r)
  have ro := vals_each out
  refine J.laidN (t' := tk) hid (PySem.W.hideAll_none _ (List.Mem.tail _ (List.Mem.head _))) M.na ⟨?_, _, c, ro, g3⟩
  rw [List.length_mergeSort, r.length]
  exact hz
theorem sortK_run {s : Shared} {us : List Value} {n : Nat} (I : Inv X pins σ H s) (ho : s.heap.get? a = some (seqObj "list" us.toArray n)) (fa : FpOk X pins H a) (r : Vals xs us) (hz : us.length ≤ sizeLine)
    (hal : PySem.W.AllAlike (xs.map kd)) (hsk : PySem.W.Sortable (xs.map kd)) (hu : ∀ x ∈ xs, A.units + (kd x).depth < cLine) (hK : KeyAt X A σ f H xs kd) :
    wpAny (model X.prog X.w) A (ksk_tree a (.ref f) false) (fun fl s' => fl = .done (.ret .none) ∧ ∃ H2, Inv X pins σ (upd H2 a (.lst (xs.mergeSort (PySem.W.dataLe false kd)))) s' ∧ Same H H2 ∧ H2 a = none) (fun _ _ => False) s := by
  have emp := Heap.SameBut.update s.heap a (Obj.mapSeq fun _ => (#[] : Array Value))
  have I1 : Inv X pins σ H { s with heap := s.heap.update a (Obj.mapSeq fun _ => #[]), toks := s.toks } := I.turned (it := a) (fun b o hb z => (emp.2 b hb).trans z) fa.1 fa.2.1 fa.2.2.2.1 fa.2.2.2.2.1 fa.2.2.2.2.2
  have g1 : ∃ e1, (s.heap.update a (Obj.mapSeq fun _ => #[])).get? a = some (seqObj "list" #[] e1) := ⟨_, get?_update_seq ho fun _ => #[]⟩
  obtain ⟨e1, g1⟩ := g1
  unfold ksk_tree
  refine wpAny_bind (listItems_at ho rfl ?_)
  refine wpAny_bind (listUpdate_at ho rfl ?_ (by rw [List.size_toArray]; exact hz) (Nat.zero_le _))
  refine wpAny_bind (seqEpoch_at g1 rfl ?_)
  refine wpAny_bind (wpAny_newTuple ?_ (by show us.length ≤ _; exact hz))
  refine wpAny_bind (wpAny_newList ?_ (Nat.zero_le _))
  refine wpAny_holding ?_
  generalize ehe : (s.heap.update a (Obj.mapSeq fun _ => #[])).push (seqObj "tuple" us.toArray 0) = h2
  have up : ∀ b o, (s.heap.update a (Obj.mapSeq fun _ => #[])).get? b = some o → (h2.push (seqObj "list" #[] 0)).get? b = some o := fun b o z => by
    rw [← ehe]
    exact Heap.get?_push_of_some _ (Heap.get?_push_of_some _ z)
  have I2 : Inv X pins σ H { s with heap := h2.push (seqObj "list" #[] 0), toks := s.toks } := I1.kept up
  have big : (s.heap.update a (Obj.mapSeq fun _ => #[])).objs.size ≤ h2.objs.size := by
    rw [← ehe, size_push']
    exact Nat.le_succ _
  have gk : (h2.push (seqObj "list" #[] 0)).get? h2.objs.size = some (seqObj "list" #[] 0) := Heap.get?_push_size _ rfl
  generalize ek : h2.objs.size = kS at gk big
  have fk : FpOk X pins H kS := I1.fpOk big (I1.hok.fresh big)
  have hka : kS ≠ a := fun z => by
    rw [z] at big
    exact absurd (Nat.lt_of_lt_of_le (Heap.lt_size g1) big) (Nat.lt_irrefl _)
  unfold ksk_rest
  refine wpAny_bind (wpAny_rule ?_)
  first
    | rw [List.forIn_toArray]
    | (rw [← Array.forIn_toList]; simp only [List.toList_toArray])
    | rw [← Array.forIn_toList]
  refine wpAny_bind (ksk_fold (fun i s' => ∃ H' ks e, Making X pins σ H a kS e1 ((xs.map kd).take i) H' ks e s') us 0 _ ⟨H, #[], 0, I2, fun _ _ z => z, fa.1, fk.1, up _ _ g1, gk, .nil⟩ (fun j u s' hu' ⟨H', ks, e, M⟩ => ?_) fun s' ⟨H', ks, e, M⟩ => ?_)
  · rw [Nat.zero_add] at M ⊢
    obtain ⟨x, hx, rx⟩ := vals_at r hu'
    have len := M.ok.size
    rw [List.length_take, List.length_map, Array.length_toList] at len
    have lt : j < xs.length := (List.getElem?_eq_some_iff.mp hx).1
    have few : ks.size ≤ sizeLine := by
      rw [r.length] at lt
      omega
    refine wpAny_bind (wpAny_attempt (wpAny_mono (M.call fa fk hK (List.mem_of_getElem? hx) rx) (fun w s2 ⟨H2, v, M2, rv, dv⟩ => ?_) fun _ _ z => z.elim))
    refine wpAny_bind (listUpdate_at M2.lk rfl ?_ few (Nat.le_trans (Nat.le_of_eq (Array.size_push ..)) (Nat.succ_le_succ few)))
    obtain ⟨e', M3⟩ := M2.push fk hka rv dv
    refine wpAny_pure ⟨rfl, H2, ks.push w, e', ?_⟩
    rw [List.take_add_one, List.getElem?_map, hx]
    exact M3
  · rw [Nat.zero_add, List.take_of_length_le (by rw [List.length_map, r.length]; exact Nat.le_refl _)] at M
    refine wpAny_bind (listItems_at M.lk rfl ?_)
    exact M.fin fa fk hka r hz hal hsk hu
end
/-! ### sorted(.., key=f) -/
section
variable {X : Cx} {pins : List (Addr × Obj)} {σ : L2.St} {H : Hp} {f : Addr} {xs : List V} {kd : V → PyData} {Q : VK}
/-- sorted's own list.sort over a new list of the items -/
theorem sortedK_end {s : Shared} {us : List Value} (I : Inv X pins σ H s) (r : Vals xs us) (hz : us.length ≤ sizeLine) (hal : PySem.W.AllAlike (xs.map kd)) (hsk : PySem.W.Sortable (xs.map kd)) (hu : ∀ x ∈ xs, X.A.in1.in1.units + (kd x).depth < cLine)
    (hK : KeyAt X X.A.in1.in1 σ f H xs kd) (q : ∀ H' p, Same H H' → H' p = none → Q (.ref p) (upd H' p (.lst (xs.mergeSort (PySem.W.dataLe false kd))))) :
    wpAny (model X.prog X.w) X.A.in1 (do let l ← newList us; let _ ← holding [l] (call (.builtin "list.sort") [l] [(Str.ofString "key", .ref f)]); PySem.ret l) (fun fl s' => ∃ u, fl = PySem.Fin.done (.ret u) ∧ EP X pins σ Q u s') X.xe s := by
  refine wpAny_bind (wpAny_newList ?_ hz)
  have I1 : Inv X pins σ H { s with heap := s.heap.push (seqObj "list" us.toArray 0), toks := s.toks } := I.kept fun _ _ e => Heap.get?_push_of_some _ e
  have g : (s.heap.push (seqObj "list" us.toArray 0)).get? s.heap.objs.size = some (seqObj "list" us.toArray 0) := Heap.get?_push_size _ rfl
  have fa : FpOk X pins H s.heap.objs.size := I.fpOk (Nat.le_refl _) (I.hok.fresh (Nat.le_refl _))
  refine wpAny_bind (wpAny_holding (wpAny_call_entry_kw slot_list_sort ⟨_, g, rfl⟩ entry_list_sort ?_ (ksk_l1 _ _)))
  have t : Builtin.«list.sort» ⟨[.ref s.heap.objs.size], [(Str.ofString "key", .ref f)]⟩ = ksk_tree s.heap.objs.size (.ref f) false := ksk_t1 _ _
  rw [t]
  refine wpAny_mono (sortK_run I1 g fa r hz hal hsk hu hK) (fun fl s' ⟨e, H2, J, sm, n⟩ => ?_) fun _ _ z => z.elim
  subst e
  exact ⟨.none, rfl, wpAny_pure ⟨_, rfl, .ref s.heap.objs.size, _, J, rfl, q H2 _ sm n⟩⟩
/-- what sorted(.., key=f) wants and gives -/
def rSortK (X : Cx) (σ : L2.St) (f : Addr) (xs : List V) (kd : V → PyData) : Hp → VK → Prop := fun H Q => xs.length ≤ 1000 ∧ PySem.W.AllAlike (xs.map kd) ∧ PySem.W.Sortable (xs.map kd) ∧ (∀ x ∈ xs, (kd x).depth < 60) ∧ KeyAt X X.A.in1.in1 σ f H xs kd ∧
  ∀ H' p, Same H H' → H' p = none → Q (.ref p) (upd H' p (.lst (xs.mergeSort (PySem.W.dataLe false kd))))
/-- sorted(range(a, b), key=f), sorted(xs, key=f) of a list -/
theorem sortedK_call {s : Shared} {a : Addr} (hc : X.calm = true) (hx : X.A.in1.in1.units + 64 < cLine) (I : Inv X pins σ H s) (src : (∃ lo hi, H a = some (.rng lo hi) ∧ RgOk lo hi ∧ xs = rgV lo hi) ∨ SqL X.K H a xs) (h : rSortK X σ f xs kd H Q) :
    wpAny (model X.prog X.w) X.A (call (.builtin "sorted") [.ref a] [(Str.ofString "key", .ref f)]) (EP X pins σ Q) X.xe s := by
  obtain ⟨few, hal, hsk, hd, hK, q⟩ := h
  have hu : ∀ x ∈ xs, X.A.in1.in1.units + (kd x).depth < cLine := fun x m => by
    have := hd x m
    omega
  refine call_function_entry_kw kind_sorted plain_sorted entry_sorted (ksk_s1 _ _) ?_
  unfold Builtin.«sorted»
  refine wpAny_bind (m := checkCount "sorted" 1 1 _) (wpAny_pure ?_)
  rcases src with ⟨lo, hi, ha, ⟨b1, b2, b3, b4, b5⟩, rfl⟩ | hs
  · obtain ⟨t, u, v, ho⟩ := I.hok _ _ ha
    refine wpAny_bind (collect_range (n := (hi - lo).toNat) (I.ok.hd hc) ho (small_one b1 b2 b3 b4) (rangeSize_nat lo hi) b5 fun h' tk acc hk hi' => ?_)
    have r := vals_rg hi'
    exact sortedK_end (I.kept hk) r (by rw [← r.length, sizeLine_eq]; omega) hal hsk hu hK q
  · obtain ⟨its, rv, hl, hz⟩ := I.list hs
    have few' : its.length ≤ sizeLine := by
      rw [← rv.length]
      exact hz
    refine wpAny_bind (collect_list hl.isList ?_ few')
    refine sortedK_end (s := { s with heap := _, toks := s.toks }) (I.kept fun b o e => ?_) rv few' hal hsk hu hK q
    have ne : b ≠ s.heap.objs.size := Nat.ne_of_lt (Heap.lt_size e)
    rw [Heap.get?_update_ne _ _ _ _ ne]
    exact Heap.get?_push_of_some _ e
/-- sorted(e, key=k) -/
def tSortK (X : Cx) (te tk : TE) : TE := fun σ H Q => te σ H fun x H1 => ∃ a, x = .ref a ∧ tk σ H1 fun y H2 => ∃ f xs kd, y = .ref f ∧ ((∃ lo hi, H2 a = some (.rng lo hi) ∧ RgOk lo hi ∧ xs = rgV lo hi) ∨ SqL X.K H2 a xs) ∧ rSortK X σ f xs kd H2 Q
theorem pe_sortK {e k : Expr} {te tk : TE} {p pos kp : Pos} (hc : X.calm = true) (hu : X.A.in1.in1.units + 64 < cLine) (hg : Gl X "sorted") (hm : X.mg "sorted" = none) (he : PE X e te) (hk : PE X k tk)
    (he'' : starEach [e] X.env = (false, eval e X.env) :: starEach [] X.env := by rfl) (he' : backTo pos (starEach [e] X.env) = (false, eval e X.env) :: backTo pos (starEach [] X.env) := by rfl) (hpl : (backTo pos (starEach [e] X.env)).any (·.1) = false := by rfl)
    (hall : (backToKw pos (keywordEach [⟨some (Str.ofString "key"), k, kp⟩] X.env)).all (·.1.isSome) = true := by rfl) (hnone : (backToKw pos (keywordEach [⟨some (Str.ofString "key"), k, kp⟩] X.env)).any (·.1.isNone) = false := by rfl)
    (hks : (backToKw pos (keywordEach [⟨some (Str.ofString "key"), k, kp⟩] X.env)).filterMap (·.1) = [Str.ofString "key"] := by rfl) :
    PE X (.Call (.Name "sorted" p) [e] [⟨some (Str.ofString "key"), k, kp⟩] pos) (tSortK X te tk) := by
  refine ⟨fun pins s σ H Q I h => ?_⟩
  refine wpAny_Call_Name_kw (ld_blt I hg hm boot_sorted ?_)
  refine PyProof.Rows.callWith_kw (args_cons (thn (he.run pins s σ H _ I h) fun u s1 ⟨x, H1, I1, r1, a, e1, q1⟩ => args_nil ?_) he'') he' hpl hall hnone
  subst e1
  obtain rfl : u = Value.ref a := r1
  rw [hks]
  refine kwAll_cons (thn (hk.run pins s1 σ H1 _ I1 q1) fun w s2 ⟨y, H2, I2, r2, f, xs, kd, e2, src, q2⟩ => kwAll_nil ?_)
  subst e2
  obtain rfl : w = Value.ref f := r2
  exact sortedK_call hc hu I2 src q2
end
/-- a lambda of the def as a key -/
theorem keyAt_lam {X : Cx} {σ : L2.St} {H : Hp} {f : Addr} {F : LF} {x : Str} {fr : List Str} {k j : Nat} {ws : List (Option V)} {xs : List V} {kd : V → PyData} {sp : List (Option V) → Sp} (Fn : LOk X.prog X.w X.K X.mg X.base CX0 k f F [x] fr sp) (hr : Room j X.A) (hj : k + 2 ≤ j)
    (lf : H f = some (FnL f F)) (lc : H F.c = some (LamX.CodeO F.c F.qual)) (C : ∀ pins H' s, Inv X pins σ H' s → NdefX.CellsAt F.cl fr ws s.heap H') (h : ∀ H' y, Same H H' → y ∈ xs → sp ws [y] H' (fun v H2 => Dp X.K H2 v (kd y) ∧ Same H' H2) (fun _ _ _ => True)) :
    KeyAt X X.A.in1.in1 σ f H xs kd := by
  intro pins H' s y u I sm hy r
  have hr2 : Room (k + 2) X.A := hr.mono hj
  have e0 := I.env0
  refine wpAny_call (codeAny_mono (Fn.run X.A.in1.in1 X.stack s H' [u] [y] ws _ (fun _ _ _ => True) hr2.in1.in1 e0.in1.in1 (sm _ _ lf) (sm _ _ lc) (C pins H' s I) (.cons r .nil) (h H' y sm hy)) fun q s' hq => ?_)
  cases q with
  | error e => exact hq.elim
  | ok fl =>
    cases fl with
    | ret w => exact I.after hq
    | next => exact hq.elim
    | brk => exact hq.elim
    | cont => exact hq.elim
/-! ### ranges of one bound, tuple.count -/
theorem cr_range1 {X : Cx} : CallR X (.type "range") (fun vs H Q => ∃ i, vs = [V.int i] ∧ ∀ p, H p = none → Q (.ref p) (upd H p (.rng 0 i))) := by
  intro pins s σ H vs us Q I r h
  obtain ⟨i, rfl, q⟩ := h
  obtain ⟨u, rfl, t, rfl⟩ := vals1 r
  exact call_range_1 ⟨.ref s.heap.objs.size, upd H s.heap.objs.size (.rng 0 i), I.laid (t' := s.toks + 1 + 1) (fun b o e => Heap.get?_push_of_some _ e) (Nat.le_refl _) ⟨s.toks, t, s.toks + 1, Heap.get?_push_size _ rfl⟩, rfl, q _ (I.hok.fresh (Nat.le_refl _))⟩
/-- t.count(k), t a tuple of ints -/
def rCntT (K : PySem.W.Frag) : V → List V → Hp → VK → Prop := fun x xs H Q => ∃ (p : Addr) (ns : List Int) (k : Int), x = .ref p ∧ xs = [.int k] ∧ SqT K H p (ns.map V.int) ∧ Q (.int (ns.count k : Nat)) H
theorem dp_ints {K : PySem.W.Frag} {H : Hp} : ∀ ns : List Int, DpAll K H (ns.map V.int) (ns.map PyData.int)
  | [] => .nil
  | n :: ns => .cons (.int n) (dp_ints ns)
theorem plain_ints : ∀ ns : List Int, PyData.plainAll (ns.map PyData.int) = true
  | [] => rfl
  | n :: ns => by simp [PyData.plainAll, PyData.plain, plain_ints ns]
theorem mt_tcount {X : Cx} (hu : X.A.units + 64 < cLine) : MtR X "tuple.count" (rCntT X.K) := by
  intro pins s σ H x xs v us Q I rx rxs h
  obtain ⟨p, ns, k, rfl, rfl, hs, q⟩ := h
  cases rx
  obtain ⟨u, rfl, t, rfl⟩ := vals1 rxs
  obtain ⟨its, rv, pl, hz⟩ := I.tuple hs
  obtain ⟨as, ra⟩ := Dp.readsAll I _ _ _ (dp_ints ns) rv
  have e : (ns.map PyData.int).countP (fun y => PyData.eqv y (.int k)) = ns.count k := by
    rw [List.countP_map]
    exact List.countP_congr fun y _ => by simp [PyData.eqv]
  refine PySem.SeqAt.count_tuple_data (vs := its.toArray) (d := .int k) pl (by simpa using ra) (.int k t) (plain_ints ns) rfl ?_ ⟨.int ((ns.count k : Nat) : Int), H, I.tok _, ⟨s.toks, by rw [e]⟩, q⟩
  have hd : (PyData.int k).depth ≤ 1 := by simp [PyData.depth]
  omega
/-- t.count(k), t told by its very object -/
def tTCntF (to te : TE) : TE := fun σ H Q => to σ H fun x H1 => ∃ (p : Addr) (ns : List Int), x = .ref p ∧ FT H1 p ns ∧ te σ H1 fun y H2 => ∃ k : Int, y = .int k ∧ FT H2 p ns ∧ Q (.int (ns.count k : Nat)) H2
theorem pe_tcntF {X : Cx} {o e : Expr} {to te : TE} {apos cpos : Pos} (hu : X.A.units + 64 < cLine) (ho : PE X o to) (he : PE X e te)
    (hbase : attributeBase o "count" X.env (eval o X.env) = eval o X.env := by rfl) (hline : (apos.endLine == cpos.line) = true := by rfl) (htrees : backTo cpos (starEach [e] X.env) = [(false, eval e X.env)] := by rfl) :
    PE X (.Call (.Attribute o "count" apos) [e] [] cpos) (tTCntF to te) := by
  refine ⟨fun pins s σ H Q I h => wpAny_Call_method1_late hbase hline htrees (thn (ho.run pins s σ H _ I h) fun v s1 ⟨x, H1, I1, r1, p, ns, ex, ⟨ob, hp, nod⟩, more⟩ => ?_)⟩
  subst ex
  obtain rfl : v = Value.ref p := r1
  have stands := (show ObjOk X.prog X.w H1 s1.heap p (.frz ob (.tup (ns.map V.int))) from I1.hok p _ hp)
  obtain ⟨g, _, _, _, o', at_o, cls, _⟩ := stands
  refine ⟨"tuple", "tuple.count", PySem.F.plainAttrs_tuple, PySem.F.slot_tuple_count, PySem.F.type_tuple_count, ⟨o', at_o, cls⟩, fun b eb => by cases eb; exact ⟨ob, g, nod⟩, ?_⟩
  refine Calls.callWith_builtin rfl (Calls.evalArgs_plain (Calls.spliced_cons (thn (he.run pins s1 σ H1 _ I1 more) fun iv s2 ⟨y, H2, I2, ry, k, ey, ⟨ob2, hp2, _⟩, q2⟩ => Calls.spliced_nil ?_)))
  subst ey
  exact mt_tcount hu pins s2 σ H2 (.ref p) [.int k] (.ref p) [iv] Q I2 rfl (.cons ry .nil) ⟨p, ns, k, rfl, rfl, .inl (.inr ⟨_, hp2⟩), q2⟩
end RH
set_option Elab.async false
set_option linter.all false
set_option maxRecDepth 100000
set_option maxHeartbeats 2000000
namespace RH
open PySem PySem.Spec PyProof.Rows L2
def topS (i : Nat) : Stmt := PySem.Challenge.pw_restlesshelf_k81_whole_walks.main.body.getD i (.Pass ⟨0, 0, 0, 0⟩)
abbrev st_is_integer : Stmt := topS 9
theorem sc_is_integer : FnScope ["value"] ["value"] (defScope st_is_integer) :=
  ⟨rfl, rfl, rfl, by decide +kernel, rfl, by decide +kernel, by decide +kernel⟩
abbrev st_is_number : Stmt := topS 10
theorem sc_is_number : FnScope ["value", "low", "high"] ["value", "low", "high"] (defScope st_is_number) :=
  ⟨rfl, rfl, rfl, by decide +kernel, rfl, by decide +kernel, by decide +kernel⟩
abbrev st_is_row : Stmt := topS 11
theorem sc_is_row : FnScope ["value", "low", "high"] ["value", "low", "high"] (defScope st_is_row) :=
  ⟨rfl, rfl, rfl, by decide +kernel, rfl, by decide +kernel, by decide +kernel⟩
abbrev st_is_place : Stmt := topS 12
theorem sc_is_place : FnScope ["value", "places"] ["value", "places"] (defScope st_is_place) :=
  ⟨rfl, rfl, rfl, by decide +kernel, rfl, by decide +kernel, by decide +kernel⟩
abbrev st_are_places : Stmt := topS 13
theorem sc_are_places : FnScope ["value", "places", "place"] ["value", "places"] (defScope st_are_places) :=
  ⟨rfl, rfl, rfl, by decide +kernel, rfl, by decide +kernel, by decide +kernel⟩
abbrev st_is_layout : Stmt := topS 14
theorem sc_is_layout : FnScope ["value", "places"] ["value", "places"] (defScope st_is_layout) :=
  ⟨rfl, rfl, rfl, by decide +kernel, rfl, by decide +kernel, by decide +kernel⟩
abbrev st_check_number : Stmt := topS 15
theorem sc_check_number : FnScope ["value", "low", "high"] ["value", "low", "high"] (defScope st_check_number) :=
  ⟨rfl, rfl, rfl, by decide +kernel, rfl, by decide +kernel, by decide +kernel⟩
abbrev st_check_places : Stmt := topS 16
theorem sc_check_places : FnScope ["places"] ["places"] (defScope st_check_places) :=
  ⟨rfl, rfl, rfl, by decide +kernel, rfl, by decide +kernel, by decide +kernel⟩
abbrev st_check_habit : Stmt := topS 17
theorem sc_check_habit : FnScope ["habit", "place", "moves"] ["habit"] (defScope st_check_habit) :=
  ⟨rfl, rfl, rfl, by decide +kernel, rfl, by decide +kernel, by decide +kernel⟩
abbrev st_check_layout : Stmt := topS 18
theorem sc_check_layout : FnScope ["layout", "places"] ["layout", "places"] (defScope st_check_layout) :=
  ⟨rfl, rfl, rfl, by decide +kernel, rfl, by decide +kernel, by decide +kernel⟩
abbrev st_check_row : Stmt := topS 19
theorem sc_check_row : FnScope ["row", "most"] ["row", "most"] (defScope st_check_row) :=
  ⟨rfl, rfl, rfl, by decide +kernel, rfl, by decide +kernel, by decide +kernel⟩
abbrev st_check_names : Stmt := topS 20
theorem sc_check_names : FnScope ["names", "places", "most"] ["names", "places", "most"] (defScope st_check_names) :=
  ⟨rfl, rfl, rfl, by decide +kernel, rfl, by decide +kernel, by decide +kernel⟩
abbrev st_move : Stmt := topS 22
theorem sc_move : FnScope ["habit", "layout", "place", "moves", "stood"] ["habit", "layout", "place"] (defScope st_move) :=
  ⟨rfl, rfl, rfl, by decide +kernel, rfl, by decide +kernel, by decide +kernel⟩
abbrev st_inverse : Stmt := topS 24
theorem sc_inverse : FnScope ["row", "number"] ["row"] (defScope st_inverse) :=
  ⟨rfl, rfl, rfl, by decide +kernel, rfl, by decide +kernel, by decide +kernel⟩
abbrev st_pairs_crossed : Stmt := topS 25
theorem sc_pairs_crossed : FnScope ["one", "other", "crossed", "high", "low"] ["one", "other"] (defScope st_pairs_crossed) :=
  ⟨rfl, rfl, rfl, by decide +kernel, rfl, by decide +kernel, by decide +kernel⟩
abbrev st_walked : Stmt := topS 29
theorem sc_walked : FnScope ["habit", "layout", "names", "steps", "name", "place"] ["habit", "layout", "names"] (defScope st_walked) :=
  ⟨rfl, rfl, rfl, by decide +kernel, rfl, by decide +kernel, by decide +kernel⟩
abbrev st_front_walk : Stmt := topS 30
theorem sc_front_walk : FnScope ["order", "names", "stood", "steps", "name", "place"] ["order", "names"] (defScope st_front_walk) :=
  ⟨rfl, rfl, rfl, by decide +kernel, rfl, by decide +kernel, by decide +kernel⟩
abbrev st_still_walk : Stmt := topS 31
theorem sc_still_walk : FnScope ["order", "names", "name"] ["order", "names"] (defScope st_still_walk) :=
  ⟨rfl, rfl, rfl, by decide +kernel, rfl, by decide +kernel, by decide +kernel⟩
abbrev st_best_still : Stmt := topS 32
theorem sc_best_still : FnScope ["many", "names", "order"] ["many", "names"] (defScope st_best_still) :=
  ⟨rfl, rfl, rfl, by decide +kernel, rfl, by decide +kernel, by decide +kernel⟩
abbrev st_crossed : Stmt := topS 33
theorem sc_crossed : FnScope ["one", "other"] ["one", "other"] (defScope st_crossed) :=
  ⟨rfl, rfl, rfl, by decide +kernel, rfl, by decide +kernel, by decide +kernel⟩
abbrev st_front_bound : Stmt := topS 34
theorem sc_front_bound : FnScope ["order", "other", "names"] ["order", "other", "names"] (defScope st_front_bound) :=
  ⟨rfl, rfl, rfl, by decide +kernel, rfl, by decide +kernel, by decide +kernel⟩
abbrev st_check_two_orders : Stmt := topS 35
theorem sc_check_two_orders : FnScope ["one", "other"] ["one", "other"] (defScope st_check_two_orders) :=
  ⟨rfl, rfl, rfl, by decide +kernel, rfl, by decide +kernel, by decide +kernel⟩
abbrev st_front_habit : Stmt := topS 37
theorem sc_front_habit : FnScope ["places", "place"] ["places"] (defScope st_front_habit) :=
  ⟨rfl, rfl, rfl, by decide +kernel, rfl, by decide +kernel, by decide +kernel⟩
abbrev st_front_permutation : Stmt := topS 38
theorem sc_front_permutation : FnScope ["places", "place", "books_before", "books_behind"] ["places", "place"] (defScope st_front_permutation) :=
  ⟨rfl, rfl, rfl, by decide +kernel, rfl, by decide +kernel, by decide +kernel⟩
abbrev st__law_taken : Stmt := topS 40
theorem sc__law_taken : FnScope ["row", "many", "found", "cell"] ["row", "many"] (defScope st__law_taken) :=
  ⟨rfl, rfl, rfl, by decide +kernel, rfl, by decide +kernel, by decide +kernel⟩
abbrev st__law_pick : Stmt := topS 41
theorem sc__law_pick : FnScope ["row", "things"] ["row", "things"] (defScope st__law_pick) :=
  ⟨rfl, rfl, rfl, by decide +kernel, rfl, by decide +kernel, by decide +kernel⟩
abbrev st__law_alike : Stmt := topS 42
theorem sc__law_alike : FnScope ["found", "due", "k"] ["found", "due"] (defScope st__law_alike) :=
  ⟨rfl, rfl, rfl, by decide +kernel, rfl, by decide +kernel, by decide +kernel⟩
abbrev st__law_permutation : Stmt := topS 43
theorem sc__law_permutation : FnScope ["row", "many", "left", "found", "turn"] ["row", "many"] (defScope st__law_permutation) :=
  ⟨rfl, rfl, rfl, by decide +kernel, rfl, by decide +kernel, by decide +kernel⟩
abbrev st__law_habit : Stmt := topS 44
theorem sc__law_habit : FnScope ["row", "many", "found", "place", "way"] ["row", "many"] (defScope st__law_habit) :=
  ⟨rfl, rfl, rfl, by decide +kernel, rfl, by decide +kernel, by decide +kernel⟩
abbrev st__law_touch : Stmt := topS 45
theorem sc__law_touch : FnScope ["habit", "layout", "place", "stands"] ["habit", "layout", "place"] (defScope st__law_touch) :=
  ⟨rfl, rfl, rfl, by decide +kernel, rfl, by decide +kernel, by decide +kernel⟩
abbrev st__law_front : Stmt := topS 46
theorem sc__law_front : FnScope ["order", "names", "line", "found", "name", "one"] ["order", "names"] (defScope st__law_front) :=
  ⟨rfl, rfl, rfl, by decide +kernel, rfl, by decide +kernel, by decide +kernel⟩
abbrev st_law : Stmt := topS 47
theorem sc_law : FnScope ["script", "row", "many", "order", "other", "few", "names", "front", "pairs", "place", "name", "bound", "told", "due", "layout", "habit", "found", "stands", "e", "turn", "later"] ["script"] (defScope st_law) :=
  ⟨rfl, rfl, rfl, by decide +kernel, rfl, by decide +kernel, by decide +kernel⟩
/-! ### what the top has written -/
/-- the def x of the text stands in the module under its name -/
structure Df (K : PySem.W.Frag) (mg : Str → Option Value) (x : Str) (st : Stmt) (ps : List Str) : Prop where
  ex : ∃ (f : Addr) (fd : FuncData), Fun K x x st f fd ∧ mg x = some (.ref f) ∧ Binds K fd ps []
/-- names of the interpreter that the module leaves alone -/
structure Bu (mg : Str → Option Value) : Prop where
  isi : mg "isinstance" = none
  int : mg "int" = none
  bool : mg "bool" = none
  str : mg "str" = none
  tuple : mg "tuple" = none
  list : mg "list" = none
  len : mg "len" = none
  all : mg "all" = none
  zip : mg "zip" = none
  range : mg "range" = none
  sorted : mg "sorted" = none
  enumerate : mg "enumerate" = none
  max : mg "max" = none
section
variable {P : Program} {w : World} {K : PySem.W.Frag} {mg : Str → Option Value} {base : Heap}
/-- a def that may be called by its name -/
structure Cal (P : Program) (w : World) (K : PySem.W.Frag) (mg : Str → Option Value) (base : Heap) (k : Nat) (x : Str) (sp : Sp) : Prop where
  ex : ∃ (f : Addr) (fd : FuncData) (ps : List Str), FnOk P w K mg base CX0 k f fd ps sp ∧ mg x = some (.ref f) ∧ PySem.W.keepIn K (.ref f) = true ∧ Binds K fd ps []
theorem mkCal {x : Str} {st : Stmt} {N ps : List Str} {k : Nat} {sp : Sp} (F : Df K mg x st ps) (S : FnScope N ps (defScope st)) (len : ∀ vs H Q E, sp vs H Q E → vs.length = ps.length)
    (hbody : ∀ (f : Addr) (cdv : Value) (A : Around) (outer : List Env) (s : Shared) (H : Hp) (vs : List V) (Q : VK) (E : XK), Room k (A.deeper (envOfC x (defScope st) s.heap.objs.size f cdv)) → sp vs H Q E →
      ∃ t, PSs (cxOf CX0 P w K mg base N x (defScope st) f cdv A outer s H E).nox (defBody st) t ∧ t { nx := fun _ H' => Q .non H', rt := Q } (start N vs) H) : Cal P w K mg base (k + 1) x sp := by
  obtain ⟨f, fd, F, g, b⟩ := F.ex
  exact ⟨f, fd, ps, F.ok S len (hbody f), g, F.kp, b⟩
theorem Cal.imp {k : Nat} {x : Str} {sp sp' : Sp} (c : Cal P w K mg base k x sp) (h : ∀ vs H Q E, sp' vs H Q E → sp vs H Q E) : Cal P w K mg base k x sp' := by
  obtain ⟨f, fd, ps, F, g, kp, b⟩ := c.ex
  exact ⟨f, fd, ps, F.imp h, g, kp, b⟩
end
theorem pc {X : Cx} {k j : Nat} {x : Str} {sp : Sp} {p pos : Pos} {e : Expr} {es : List Expr} {t : TA} (c : Cal X.prog X.w X.K X.mg X.base k x sp) (hr : Room j X.A) (ha : PA X (e :: es) t) (hk : k ≤ j := by decide) (hg : Gl X x := by rfl)
    (hdb : (x == ("__debug__" : Str)) = false := by decide) (he : starEach (e :: es) X.env = (false, eval e X.env) :: starEach es X.env := by rfl) (hpl : (backTo pos (starEach es X.env)).any (·.1) = false := by rfl) :
    PE X (.Call (.Name x p) (e :: es) [] pos) (tCall sp [] E0 t) := by
  obtain ⟨f, fd, ps, F, hm, kp, b⟩ := c.ex
  exact pe_call F (hr.mono hk) hg hm kp b .nil pass0 ha hdb he hpl
/-- a statement that is never come to -/
theorem ps_no {X : Cx} {st : Stmt} : PS X st (fun _ _ _ => False) := ⟨fun _ _ _ _ _ _ h => h.elim⟩
/-! ### heaps, tuples of ints, and of such -/
theorem same_new {H : Hp} {p : Addr} {o : HO} (h : H p = none) : Same H (upd H p o) := fun b x e => by
  rw [upd_ne (ne_of_none e h)]
  exact e
theorem seqT {K : PySem.W.Frag} {H H' : Hp} {a : Addr} {xs : List V} (e : ∀ o, H a = some o → H' a = some o) (h : SqT K H a xs) : SqT K H' a xs := by
  rcases h with (h | ⟨o, h⟩) | h
  · exact .inl (.inl (e _ h))
  · exact .inl (.inr ⟨o, e _ h⟩)
  · exact .inr h
theorem onT {K : PySem.W.Frag} {H H' : Hp} {a : Addr} {xs : List V} (e : Same H H') (h : SqT K H a xs) : SqT K H' a xs := seqT (fun o => e a o) h
theorem tupAt {K : PySem.W.Frag} {H : Hp} {a : Addr} {xs : List V} (h : H a = some (.tup xs)) : SqT K H a xs := .inl (.inl h)
theorem lstAt {K : PySem.W.Frag} {H : Hp} {a : Addr} {xs : List V} (h : H a = some (.lst xs)) : SqL K H a xs := .inl (.inl h)
/-- a tuple's type -/
theorem ty_tup {K : PySem.W.Frag} {H : Hp} {a : Addr} {xs : List V} (h : SqT K H a xs) : TyX K H (.ref a) (.type "tuple") := by
  rcases h with (h | ⟨o, h⟩) | ⟨o, its, n, h, c, _⟩
  · exact .base (.tup h)
  · exact .fTuple h
  · exact .kTuple h c
/-- each by each -/
inductive Each {α : Type} (R : V → α → Prop) : List V → List α → Prop
  | nil : Each R [] []
  | cons {v : V} {d : α} {vs : List V} {ds : List α} : R v d → Each R vs ds → Each R (v :: vs) (d :: ds)
theorem Each.len {α : Type} {R : V → α → Prop} : ∀ {vs : List V} {ds : List α}, Each R vs ds → vs.length = ds.length
  | _, _, .nil => rfl
  | _, _, .cons _ t => congrArg (· + 1) t.len
theorem Each.imp {α : Type} {R R' : V → α → Prop} (f : ∀ v d, R v d → R' v d) : ∀ {vs : List V} {ds : List α}, Each R vs ds → Each R' vs ds
  | _, _, .nil => .nil
  | _, _, .cons h t => .cons (f _ _ h) (t.imp f)
theorem Each.at {α : Type} {R : V → α → Prop} : ∀ {vs : List V} {ds : List α} {i : Nat} {v : V}, Each R vs ds → vs[i]? = some v → ∃ d, ds[i]? = some d ∧ R v d
  | _, _, _, _, .nil, e => by simp at e
  | _, _, 0, _, .cons h _, e => by
    have e' := Option.some.inj e
    subst e'
    exact ⟨_, rfl, h⟩
  | _, _, i + 1, _, .cons _ t, e => t.at (i := i) e
theorem Each.of {α : Type} {R : V → α → Prop} : ∀ {vs : List V} {ds : List α} {i : Nat} {d : α}, Each R vs ds → ds[i]? = some d → ∃ v, vs[i]? = some v ∧ R v d
  | _, _, _, _, .nil, e => by simp at e
  | _, _, 0, _, .cons h _, e => by
    have e' := Option.some.inj e
    subst e'
    exact ⟨_, rfl, h⟩
  | _, _, i + 1, _, .cons _ t, e => t.of (i := i) e
theorem Each.snoc {α : Type} {R : V → α → Prop} {v : V} {d : α} (h : R v d) : ∀ {vs : List V} {ds : List α}, Each R vs ds → Each R (vs ++ [v]) (ds ++ [d])
  | _, _, .nil => .cons h .nil
  | _, _, .cons g t => .cons g (t.snoc h)
/-- a tuple of ints -/
def TI (K : PySem.W.Frag) (H : Hp) (v : V) (ns : List Int) : Prop := ∃ a, v = .ref a ∧ SqT K H a (ns.map V.int)
/-- a tuple of such -/
def TII (K : PySem.W.Frag) (H : Hp) (v : V) (nss : List (List Int)) : Prop := ∃ a vs, v = .ref a ∧ SqT K H a vs ∧ Each (TI K H) vs nss
def THs (K : PySem.W.Frag) (H : Hp) (v : V) (hs : List (List (List Int))) : Prop := ∃ a vs, v = .ref a ∧ SqT K H a vs ∧ Each (TII K H) vs hs
/-- all tuples stand -/
def Tups (K : PySem.W.Frag) (H H' : Hp) : Prop := ∀ a xs, SqT K H a xs → SqT K H' a xs
theorem Same.tups {K : PySem.W.Frag} {H H' : Hp} (e : Same H H') : Tups K H H' := fun _ _ h => onT e h
theorem TI.on {K : PySem.W.Frag} {H H' : Hp} {v : V} {ns : List Int} (e : Tups K H H') (h : TI K H v ns) : TI K H' v ns := let ⟨a, h1, h2⟩ := h; ⟨a, h1, e _ _ h2⟩
theorem TII.on {K : PySem.W.Frag} {H H' : Hp} {v : V} {nss : List (List Int)} (e : Tups K H H') (h : TII K H v nss) : TII K H' v nss := let ⟨a, vs, h1, h2, h3⟩ := h; ⟨a, vs, h1, e _ _ h2, h3.imp fun _ _ z => z.on e⟩
theorem THs.on {K : PySem.W.Frag} {H H' : Hp} {v : V} {hs : List (List (List Int))} (e : Tups K H H') (h : THs K H v hs) : THs K H' v hs := let ⟨a, vs, h1, h2, h3⟩ := h; ⟨a, vs, h1, e _ _ h2, h3.imp fun _ _ z => z.on e⟩
theorem map_at {ns : List Int} {i : Nat} {x : V} (h : (ns.map V.int)[i]? = some x) : ∃ n, ns[i]? = some n ∧ x = .int n := by
  rw [List.getElem?_map] at h
  cases e : ns[i]? with
  | none =>
    rw [e] at h
    cases h
  | some n =>
    rw [e] at h
    exact ⟨n, rfl, (Option.some.inj h).symm⟩
theorem at_map {ns : List Int} {i : Nat} {n : Int} (h : ns[i]? = some n) : (ns.map V.int)[i]? = some (.int n) := by
  rw [List.getElem?_map, h]
  rfl
theorem all_snoc {α : Type} (f : α → Bool) {l : List α} {i : Nat} {x : α} (h : l[i]? = some x) : (l.take (i + 1)).map f = (l.take i).map f ++ [f x] := by
  rw [List.take_add_one, h, List.map_append]
  rfl
/-! ### lists of ints, compared -/
theorem dpAll_ints {K : PySem.W.Frag} {H : Hp} : ∀ ns : List Int, DpAll K H (ns.map V.int) (ns.map PyData.int)
  | [] => .nil
  | n :: ns => .cons (.int n) (dpAll_ints ns)
theorem dp_lst {K : PySem.W.Frag} {H : Hp} {a : Addr} {ns : List Int} (h : SqL K H a (ns.map V.int)) : Dp K H (.ref a) (.list (ns.map PyData.int)) := .lst h (dpAll_ints ns)
theorem dp_tup {K : PySem.W.Frag} {H : Hp} {a : Addr} {ns : List Int} (h : SqT K H a (ns.map V.int)) : Dp K H (.ref a) (.tuple (ns.map PyData.int)) := .tup h (dpAll_ints ns)
theorem eqv_lst (ns ms : List Int) : PyData.eqv (.list (ns.map PyData.int)) (.list (ms.map PyData.int)) = decide (ns = ms) := by
  rw [PyData.eqv]
  exact PySem.W.ked_eqvAll ns ms
def rg (n : Nat) : List Int := (List.range n).map fun i : Nat => (i : Int)
theorem rgV_rg (n : Nat) : rgV 0 (n : Int) = (rg n).map V.int := by
  unfold rgV rg
  rw [List.map_map, Int.sub_zero, Int.toNat_natCast]
  refine List.map_congr_left fun i _ => ?_
  show V.int (0 + (i : Int)) = V.int (i : Int)
  rw [Int.zero_add]
theorem rg_len (n : Nat) : (rg n).length = n := by
  unfold rg
  rw [List.length_map, List.length_range]
theorem rg_mem {n : Nat} {x : Int} : x ∈ rg n ↔ 0 ≤ x ∧ x < n := by
  unfold rg
  rw [List.mem_map]
  constructor
  · rintro ⟨i, h, rfl⟩
    have := List.mem_range.mp h
    omega
  · rintro ⟨h1, h2⟩
    exact ⟨x.toNat, List.mem_range.mpr (by omega), by omega⟩
theorem rg_at {n i : Nat} (h : i < n) : (rg n)[i]? = some (i : Int) := by
  unfold rg
  rw [List.getElem?_map, List.getElem?_range h]
  rfl
/-! ### walks over enumerate and zip of tuples -/
section
variable {K : PySem.W.Frag} {a b : Addr} {xs ys : List V}
theorem for_enumT {g : TG} {tb : TS} {D : Ends} {σ : L2.St} {H : Hp} (Pv : Nat → L2.St → Hp → Prop) (h0 : Pv 0 σ H) (hl : ∀ i σ H, Pv i σ H → SqT K H a xs)
    (hs : ∀ i x T σ H, xs[i]? = some x → Pv i σ H → H T = none → g (.ref T) σ (upd H T (.tup [.int (i : Nat), x])) fun σ2 H2 => tb { D with nx := Pv (i + 1), ct := Pv (i + 1), bk := D.nx } σ2 H2) (hd : ∀ σ H, Pv xs.length σ H → D.nx σ H) :
    ∃ W : Nat → Nat → L2.St → Hp → Prop, (∃ m, W 0 m σ H) ∧ ∀ i m σ H, W i m σ H →
      ((IteT K a).stop i H ∧ D.nx σ H) ∨ ((IteT K a).go i H ∧ ∃ N : L2.St → Hp → Prop, (∀ σ' H', N σ' H' → ∃ m', m' < m ∧ W (i + 1) m' σ' H') ∧ ∀ x H', (IteT K a).yld i H x H' → g x σ H' fun σ2 H2 => tb { D with nx := N, ct := N, bk := D.nx } σ2 H2) := by
  refine ⟨fun i m σ H => m = xs.length - i ∧ i ≤ xs.length ∧ Pv i σ H, ⟨xs.length, rfl, Nat.zero_le _, h0⟩, ?_⟩
  rintro i m σ H ⟨rfl, hi, p⟩
  have q := hl i σ H p
  by_cases hlt : i < xs.length
  · have hx : xs[i]? = some xs[i] := List.getElem?_eq_getElem hlt
    refine .inr ⟨⟨xs, _, q, hx⟩, Pv (i + 1), fun σ' H' p' => ⟨xs.length - (i + 1), by omega, rfl, hlt, p'⟩, fun v H' y => ?_⟩
    obtain ⟨T, x', rfl, hT, rfl, f1⟩ := y
    exact hs i x' T σ H (f1 xs q) p hT
  · have e : i = xs.length := by omega
    subst e
    exact .inl ⟨⟨xs, q, Nat.le_refl _⟩, hd σ H p⟩
end
end RH
set_option Elab.async false
set_option linter.all false
set_option maxRecDepth 100000
set_option maxHeartbeats 2000000
namespace RH
open PySem PySem.Spec PyProof.Rows L2
/-! ### the checks -/
section
variable {P : Program} {w : World} {K : PySem.W.Frag} {mg : Str → Option Value} {base : Heap}
/-- an int alone: its kind -/
def spIsInteger : Sp := fun vs H Q _ => ∃ i : Int, vs = [.int i] ∧ Q (.bl true) H
theorem ok_is_integer (F : Df K mg "is_integer" st_is_integer ["value"]) (B : Bu mg) : Cal P w K mg base 1 "is_integer" spIsInteger := by
  refine mkCal F sc_is_integer (fun vs H Q E h => ?_) (fun f cdv A outer s H vs Q E hr h => ?_)
  · obtain ⟨i, rfl, _⟩ := h
    rfl
  · obtain ⟨i, rfl, q⟩ := h
    refine ⟨_, pss_one (ps_ret (pe_and (pe_callB call_isi (by rfl) B.isi (by decide +kernel) (pa_cons (pv 0) (pa_cons (pe_bltn (v := .ty "int") (by rfl) B.int (by decide +kernel) rfl) pa_nil)))
      (pe_one (pe_not (pe_callB call_isi (by rfl) B.isi (by decide +kernel) (pa_cons (pv 0) (pa_cons (pe_bltn (v := .ty "bool") (by rfl) B.bool (by decide +kernel) rfl) pa_nil))))))), ?_⟩
    exact ⟨_, rfl, .int i, .ty "int", _, _, true, rfl, .ty "int", .base (.int i), kit_ty (by decide +kernel), true, rfl,
      _, rfl, .int i, .ty "bool", _, _, false, rfl, .ty "bool", .base (.int i), kit_ty (by decide +kernel), false, rfl, q⟩
def spIsNumber : Sp := fun vs H Q _ => ∃ i lo hi : Int, vs = [.int i, .int lo, .int hi] ∧ Q (.bl (decide (lo ≤ i) && decide (i ≤ hi))) H
theorem ok_is_number (F : Df K mg "is_number" st_is_number ["value", "low", "high"]) (C1 : Cal P w K mg base 1 "is_integer" spIsInteger) : Cal P w K mg base 2 "is_number" spIsNumber := by
  refine mkCal F sc_is_number (fun vs H Q E h => ?_) (fun f cdv A outer s H vs Q E hr h => ?_)
  · obtain ⟨i, lo, hi, rfl, _⟩ := h
    rfl
  · obtain ⟨i, lo, hi, rfl, q⟩ := h
    refine ⟨_, pss_one (ps_ret (pe_and (pc C1 hr (pa_cons (pv 0) pa_nil)) (pe_one (pe_chain op_le op_le (pv 1) (pv 0) (pv 2))))), ?_⟩
    refine ⟨_, rfl, i, rfl, true, rfl, _, rfl, _, rfl, lo, i, rfl, rfl, _, rfl, ite2 (fun e => ?_) (fun e => ?_)⟩
    · refine ⟨_, rfl, i, hi, rfl, rfl, ?_⟩
      rw [e, Bool.true_and] at q
      exact q
    · have e' : decide (lo ≤ i) = false := by simpa using e
      rw [e', Bool.false_and] at q
      exact q
end
end RH
set_option Elab.async false
set_option linter.all false
set_option maxRecDepth 100000
set_option maxHeartbeats 2000000
namespace RH
open PySem PySem.Spec PyProof.Rows L2
section
variable {P : Program} {w : World} {K : PySem.W.Frag} {mg : Str → Option Value} {base : Heap}
def spIsRow (K : PySem.W.Frag) : Sp := fun vs H Q _ => ∃ (a : Addr) (xs : List V) (lo hi : Int), vs = [.ref a, .int lo, .int hi] ∧ SqT K H a xs ∧ Q (.bl (decide (lo ≤ (xs.length : Int)) && decide ((xs.length : Int) ≤ hi))) H
theorem ok_is_row (F : Df K mg "is_row" st_is_row ["value", "low", "high"]) (B : Bu mg) : Cal P w K mg base 1 "is_row" (spIsRow K) := by
  refine mkCal F sc_is_row (fun vs H Q E h => ?_) (fun f cdv A outer s H vs Q E hr h => ?_)
  · obtain ⟨a, xs, lo, hi, rfl, _⟩ := h
    rfl
  · obtain ⟨a, xs, lo, hi, rfl, hS, q⟩ := h
    refine ⟨_, pss_one (ps_ret (pe_and (pe_callB call_isi (by rfl) B.isi (by decide +kernel) (pa_cons (pv 0) (pa_cons (pe_bltn (v := .ty "tuple") (by rfl) B.tuple (by decide +kernel) rfl) pa_nil)))
      (pe_one (pe_chain op_le op_le (pv 1) (pe_callB call_len_seq (by rfl) B.len PySem.boot_len (pa_cons (pv 0) pa_nil)) (pv 2))))), ?_⟩
    refine ⟨_, rfl, .ref a, .ty "tuple", _, _, true, rfl, .ty "tuple", ty_tup hS, kit_ty (by decide +kernel), true, rfl, _, rfl, _, rfl, a, xs, rfl, .inr hS, lo, (xs.length : Int), rfl, rfl, _, rfl, ite2 (fun e => ?_) (fun e => ?_)⟩
    · refine ⟨_, rfl, _, hi, rfl, rfl, ?_⟩
      rw [e, Bool.true_and] at q
      exact q
    · have e' : decide (lo ≤ (xs.length : Int)) = false := by simpa using e
      rw [e', Bool.false_and] at q
      exact q
def spIsPlace : Sp := fun vs H Q _ => ∃ i p : Int, vs = [.int i, .int p] ∧ Q (.bl (decide (0 ≤ i) && decide (i ≤ p - 1))) H
theorem ok_is_place (F : Df K mg "is_place" st_is_place ["value", "places"]) (C2 : Cal P w K mg base 2 "is_number" spIsNumber) : Cal P w K mg base 3 "is_place" spIsPlace := by
  refine mkCal F sc_is_place (fun vs H Q E h => ?_) (fun f cdv A outer s H vs Q E hr h => ?_)
  · obtain ⟨i, p, rfl, _⟩ := h
    rfl
  · obtain ⟨i, p, rfl, q⟩ := h
    refine ⟨_, pss_one (ps_ret (pc C2 hr (pa_cons (pv 0) (pa_cons pe_int (pa_cons (pe_op op_sub (pv 1) pe_int) pa_nil))))), ?_⟩
    exact ⟨_, rfl, _, rfl, p, 1, rfl, rfl, i, 0, p - 1, rfl, q⟩
/-- all are places -/
def inP (p : Int) (ns : List Int) : Bool := ns.all fun i => decide (0 ≤ i) && decide (i ≤ p - 1)
def spArePlaces (K : PySem.W.Frag) : Sp := fun vs H Q _ => ∃ (v : V) (ns : List Int) (p : Int), vs = [v, .int p] ∧ TI K H v ns ∧ ns.length ≤ 1000 ∧ ∀ H', Same H H' → Q (.bl (inP p ns)) H'
theorem ok_are_places (F : Df K mg "are_places" st_are_places ["value", "places"]) (B : Bu mg) (C3 : Cal P w K mg base 3 "is_place" spIsPlace) : Cal P w K mg base 4 "are_places" (spArePlaces K) := by
  refine mkCal F sc_are_places (fun vs H Q E h => ?_) (fun f cdv A outer s H vs Q E hr h => ?_)
  · obtain ⟨v, ns, p, rfl, _⟩ := h
    rfl
  · obtain ⟨v, ns, p, rfl, ⟨a, rfl, hS⟩, hlen, q⟩ := h
    refine ⟨_, pss_one (ps_ret (pe_and (pe_callB call_isi (by rfl) B.isi (by decide +kernel) (pa_cons (pv 0) (pa_cons (pe_bltn (v := .ty "tuple") (by rfl) B.tuple (by decide +kernel) rfl) pa_nil)))
      (pe_one (pe_callB (cr_all rfl) (by rfl) B.all (by decide +kernel) (pa_cons (pe_lc (own := [("place", 2)]) (g := gName 2) (tt := tYes) rfl sc_are_places.nd (pi_tup (pv 0)) (blkOk_by (N := ["value", "places", "place"]) (sc := defScope st_are_places) (by decide +kernel))
        (fun _ _ _ _ _ => pg_name (i := 2) sc_are_places.nd rfl (Or.inl rfl)) (fun _ _ _ _ _ => pts_nil) (fun _ _ _ _ _ => pc C3 hr (pa_cons (pv 2) (pa_cons (pv 1) pa_nil)))) pa_nil))))), ?_⟩
    refine ⟨_, rfl, .ref a, .ty "tuple", _, _, true, rfl, .ty "tuple", ty_tup hS, kit_ty (by decide +kernel), true, rfl, ?_⟩
    refine ⟨_, rfl, a, rfl, ⟨_, hS⟩, fun D hD => ?_⟩
    refine lc_tup (xs := ns.map V.int) (fun i H' => Same H H' ∧ H' D = some (.lst (((ns.take i).map fun i => decide (0 ≤ i) && decide (i ≤ p - 1)).map V.bl))) ⟨same_new hD, upd_same⟩ (fun i H' _ h' => onT h'.1 hS) (fun i x H' hx h' => ?_) (fun H' h' => ?_)
    · obtain ⟨n, hn, rfl⟩ := map_at hx
      obtain ⟨sm, eD⟩ := h'
      refine ⟨rfl, _, rfl, _, rfl, n, p, rfl, _, eD, ?_, ?_, ?_⟩
      · rw [List.length_map, List.length_map, List.length_take]
        exact small1000 (by omega)
      · intro b o e
        rw [upd_ne (ne_of_none e hD)]
        exact sm b o e
      · rw [upd_same, all_snoc _ hn, List.map_append]
        rfl
    · obtain ⟨sm, eD⟩ := h'
      rw [List.length_map, List.take_length] at eD
      refine ⟨D, _, rfl, lstAt eD, ?_⟩
      have e : ((ns.map fun i => decide (0 ≤ i) && decide (i ≤ p - 1)).all id) = inP p ns := by
        unfold inP
        rw [List.all_map]
        rfl
      rw [e]
      exact q H' sm
end
end RH
set_option Elab.async false
set_option linter.all false
set_option maxRecDepth 100000
set_option maxHeartbeats 2000000
namespace RH
open PySem PySem.Spec PyProof.Rows L2
/-! ### slices and constants -/
theorem cut_from (xs : List V) (k : Nat) : cutV xs (some (k : Int)) none = xs.drop k := by
  unfold cutV
  rw [HT.sIx_nat, HT.sIx_none]
  rcases Nat.le_total k xs.length with h | h
  · rw [Nat.min_eq_left h]
    exact List.take_of_length_le (by rw [List.length_drop]; exact Nat.le_refl _)
  · rw [Nat.min_eq_right h, Nat.sub_self, List.take_zero, List.drop_eq_nil_of_le h]
/-- t[k:], k written -/
theorem slT_from {K : PySem.W.Frag} {H : Hp} {a : Addr} {xs : List V} {Q : VK} (z : Int) (k : Nat) (hz : z = (k : Int)) (h : SqT K H a xs) (q : ∀ b H2, Same H H2 → SqT K H2 b (xs.drop k) → Q (.ref b) H2) : rSlA K (.ref a) (some z) none H Q := by
  subst hz
  refine ⟨a, xs, rfl, h, fun hf => q a H (Same.refl H) ?_, fun _ p hp => q p _ (same_new hp) (tupAt (by rw [upd_same, cut_from]))⟩
  have e := hf.1
  rw [HT.sIx_nat] at e
  rcases Nat.le_total k xs.length with h' | h'
  · rw [Nat.min_eq_left h'] at e
    rw [e, List.drop_zero]
    exact h
  · rw [Nat.min_eq_right h'] at e
    have e2 : xs = [] := List.eq_nil_of_length_eq_zero e
    subst e2
    rw [List.drop_nil]
    exact h
/-- a number that the module keeps -/
theorem pk {X : Cx} {x : Str} {i : Int} {pos : Pos} (h : ∃ t, X.mg x = some (.int i t)) (hg : Gl X x := by rfl) (hn : x ≠ "__name__" := by decide) (hd : (x == ("__debug__" : Str)) = false := by decide) : PE X (.Name x pos) (tC (.int i)) := by
  obtain ⟨t, h⟩ := h
  exact pe_glob (v := .int i) hg h ⟨_, rfl⟩ hd
/-! ### rules within a comprehension: the written part is told -/
def rLenK (K : PySem.W.Frag) : List V → Hp → VK → Prop := fun xs H Q => ∃ p ys, xs = [.ref p] ∧ (SqL K H p ys ∨ SqT K H p ys) ∧ Q (.int ys.length) H
theorem cl_len {X : Cx} (K : PySem.W.Frag) (h : X.K = K := by rfl) : CallR X (.builtin "len") (rLenK K) := by
  subst h
  exact call_len_seq
theorem ixT {X : Cx} (K : PySem.W.Frag) (h : X.K = K := by rfl) : IxR X (rIxT K) := by
  subst h
  exact ix_tup
/-! ### rising, a layout, a habit -/
def isLay (p : Nat) (ns : List Int) : Bool := ns.isPerm (rg p)
theorem inP_of {p : Nat} {ns : List Int} (h : ns.Perm (rg p)) : inP p ns = true := by
  unfold inP
  rw [List.all_eq_true]
  intro i hi
  have := rg_mem.mp (h.mem_iff.mp hi)
  rw [Bool.and_eq_true]
  exact ⟨decide_eq_true (by omega), decide_eq_true (by omega)⟩
theorem rg_le (p : Nat) : (rg p).Pairwise (· ≤ ·) := by
  unfold rg
  rw [List.pairwise_map]
  exact (List.pairwise_lt_range (n := p)).imp fun h => by omega
section
variable {P : Program} {w : World} {K : PySem.W.Frag} {mg : Str → Option Value} {base : Heap}
def spIsLayout (K : PySem.W.Frag) : Sp := fun vs H Q _ => ∃ (v : V) (ns : List Int) (p : Nat), vs = [v, .int p] ∧ TI K H v ns ∧ ns.length < 64 ∧ p ≤ 1000 ∧ ∀ H', Same H H' → Q (.bl (isLay p ns)) H'
theorem ok_is_layout (F : Df K mg "is_layout" st_is_layout ["value", "places"]) (B : Bu mg) (C4 : Cal P w K mg base 4 "are_places" (spArePlaces K)) : Cal P w K mg base 5 "is_layout" (spIsLayout K) := by
  refine mkCal F sc_is_layout (fun vs H Q E h => ?_) (fun f cdv A outer s H vs Q E hr h => ?_)
  · obtain ⟨v, ns, p, rfl, _⟩ := h
    rfl
  · obtain ⟨v, ns, p, rfl, ⟨a, rfl, hS⟩, hlen, hp, q⟩ := h
    refine ⟨_, pss_one (ps_ret (pe_and (pc C4 hr (pa_cons (pv 0) (pa_cons (pv 1) pa_nil)))
      (pe_one (pe_cmpR (op_eqD hr.units) (pe_callB cr_sortedTup (by rfl) B.sorted (by decide +kernel) (pa_cons (pv 0) pa_nil)) (pe_listRg rfl (by rfl) B.list (prg_1 (by rfl) B.range (pv 1))) (nomark _))))), ?_⟩
    refine ⟨_, rfl, _, rfl, .ref a, ns, p, rfl, ⟨a, rfl, hS⟩, by omega, fun H1 sm1 => ⟨_, rfl, ite2 (fun e => ?_) (fun e => ?_)⟩⟩
    · refine ⟨_, rfl, a, ns, rfl, onT sm1 hS, hlen, fun ns' pL hpm hpw nL => ⟨_, rfl, (p : Int), rfl, ⟨by omega, by omega, by omega, by omega, by omega⟩, fun q' nq => ?_⟩⟩
      have nqp : pL ≠ q' := ne_of_none upd_same nq
      refine ⟨_, _, dp_lst (ns := ns') (lstAt ?_), dp_lst (ns := rg p) (lstAt ?_), PySem.W.ke_shaped_ints _, PySem.W.ke_shaped_ints _, ?_⟩
      · rw [upd_ne nqp, upd_same]
      · rw [upd_same, rgV_rg]
      · have e2 : PyData.eqv (.list (ns'.map PyData.int)) (.list ((rg p).map PyData.int)) = isLay p ns := by
          rw [eqv_lst, Bool.eq_iff_iff, decide_eq_true_iff]
          unfold isLay
          rw [List.isPerm_iff]
          constructor
          · intro z
            rw [← z]
            exact hpm.symm
          · intro z
            exact PySem.W.ksm_same (hpm.trans z) hpw (rg_le p)
        rw [e2]
        exact q _ (sm1.trans ((same_new nL).trans (same_new nq)))
    · have e2 : isLay p ns = false := by
        cases z : isLay p ns with
        | false => rfl
        | true => exact absurd (inP_of (List.isPerm_iff.mp z)) e
      have e3 : inP (p : Int) ns = false := by simpa using e
      rw [e2] at q
      exact q _ sm1
end
end RH
set_option Elab.async false
set_option linter.all false
set_option maxRecDepth 100000
set_option maxHeartbeats 2000000
namespace RH
open PySem PySem.Spec PyProof.Rows L2
/-! ### the mathematics of marks -/
theorem ifT {c : Bool} {A B : Prop} (hc : c = true) (h : A) : if c = true then A else B := by
  rw [if_pos hc]
  exact h
theorem ifF {c : Bool} {A B : Prop} (hc : c = false) (h : B) : if c = true then A else B := by
  rw [hc, if_neg Bool.false_ne_true]
  exact h
theorem flat_ints : ∀ ns : List Int, (ns.map V.int).all flatV = true
  | [] => rfl
  | n :: ns => by
    rw [List.map_cons, List.all_cons, flat_ints ns]
    rfl
/-- a habit of n places -/
structure Hb (n : Nat) (h : List (List Int)) : Prop where
  len : h.length = n
  perm : ∀ ns ∈ h, ns.Perm (rg n)
  lo : 2 ≤ n
  hi : n ≤ 5
theorem Hb.short {n : Nat} {h : List (List Int)} (q : Hb n h) {ns : List Int} (hm : ns ∈ h) : ns.length = n := by
  rw [(q.perm ns hm).length_eq, rg_len]
def mv (h : List (List Int)) (t s : Int) : Int := (h.getD t.toNat []).getD s.toNat 0
theorem Hb.at {n : Nat} {h : List (List Int)} (q : Hb n h) {t s : Int} (t0 : 0 ≤ t) (t1 : t < n) (s0 : 0 ≤ s) (s1 : s < n) :
    ∃ ns, h[t.toNat]? = some ns ∧ ns[s.toNat]? = some (mv h t s) ∧ 0 ≤ mv h t s ∧ mv h t s < n := by
  have h1 : t.toNat < h.length := by rw [q.len]; omega
  have e1 : h[t.toNat]? = some h[t.toNat] := List.getElem?_eq_getElem h1
  have hm : h[t.toNat] ∈ h := List.getElem_mem h1
  have h2 : s.toNat < h[t.toNat].length := by rw [q.short hm]; omega
  have e2 : h[t.toNat][s.toNat]? = some h[t.toNat][s.toNat] := List.getElem?_eq_getElem h2
  have e4 : h.getD t.toNat [] = h[t.toNat] := by
    rw [List.getD_eq_getElem?_getD, e1]
    rfl
  have e3 : mv h t s = h[t.toNat][s.toNat] := by
    unfold mv
    rw [e4, List.getD_eq_getElem?_getD, e2]
    rfl
  have h4 := rg_mem.mp ((q.perm _ hm).mem_iff.mp (List.getElem_mem h2))
  rw [← e3] at h4
  exact ⟨_, e1, by rw [e3]; exact e2, h4⟩
def InR (n : Nat) (i : Int) : Prop := 0 ≤ i ∧ i < n
theorem take_more {α : Type} {l : List α} {i : Nat} {x : α} (h : l[i]? = some x) : l.take (i + 1) = l.take i ++ [x] := by
  rw [List.take_add_one, h]
  rfl
/-- an item of an int's place -/
theorem at_int {α : Type} {xs : List α} {z : Int} {v : α} (h0 : 0 ≤ z) (h : xs[z.toNat]? = some v) : atI xs z = some v := by
  have e : z = ((z.toNat : Nat) : Int) := by omega
  rw [e]
  exact atI_nat h
end RH
set_option Elab.async false
set_option linter.all false
set_option maxRecDepth 100000
set_option maxHeartbeats 2000000
namespace RH
open PySem PySem.Spec PyProof.Rows L2
theorem ix2 {K : PySem.W.Frag} {H : Hp} {xs : List V} {h : List (List Int)} {n : Nat} (hE : Each (TI K H) xs h) (q : Hb n h) {t s : Int} (ht : InR n t) (hs : InR n s) :
    ∃ (a' : Addr) (ns : List Int), atI xs t = some (.ref a') ∧ SqT K H a' (ns.map V.int) ∧ atI (ns.map V.int) s = some (.int (mv h t s)) := by
  obtain ⟨ns, e1, e2, _⟩ := q.at ht.1 ht.2 hs.1 hs.2
  obtain ⟨v, e3, a', rfl, hS⟩ := hE.of e1
  exact ⟨a', ns, at_int ht.1 e3, hS, at_int hs.1 (at_map e2)⟩
end RH
set_option Elab.async false
set_option linter.all false
set_option maxRecDepth 100000
set_option maxHeartbeats 2000000
namespace RH
open PySem PySem.Spec PyProof.Rows L2
/-! ### the law's own row of draws -/
/-- all but what stands at p is as it was -/
def But (p : Addr) (H H' : Hp) : Prop := ∀ b o, H b = some o → b ≠ p → H' b = some o
theorem But.refl (p : Addr) (H : Hp) : But p H H := fun _ _ e _ => e
theorem But.trans {p : Addr} {H H1 H2 : Hp} (a : But p H H1) (b : But p H1 H2) : But p H H2 := fun c o e n => b c o (a c o e n) n
theorem But.same {p : Addr} {H H1 : Hp} (a : Same H H1) : But p H H1 := fun c o e _ => a c o e
theorem But.upd {p : Addr} {H H1 : Hp} {o : HO} (a : But p H H1) : But p H (upd H1 p o) := fun c u e n => by
  rw [upd_ne n]
  exact a c u e n
/-- all that is no list is as it was -/
def Fix (H H' : Hp) : Prop := ∀ b o, H b = some o → (∀ xs, o ≠ .lst xs) → H' b = some o
theorem Fix.refl (H : Hp) : Fix H H := fun _ _ e _ => e
theorem Fix.trans {H H1 H2 : Hp} (a : Fix H H1) (b : Fix H1 H2) : Fix H H2 := fun c o e n => b c o (a c o e n) n
theorem Fix.same {H H1 : Hp} (a : Same H H1) : Fix H H1 := fun c o e _ => a c o e
theorem Fix.lst {H : Hp} {p : Addr} {xs : List V} {o : HO} (h : H p = some (.lst xs)) : Fix H (L2.upd H p o) := fun b u e n => by
  by_cases z : b = p
  · subst z
    rw [h] at e
    cases e
    exact absurd rfl (n _)
  · rw [upd_ne z]
    exact e
theorem Fix.tups {K : PySem.W.Frag} {H H' : Hp} (b : Fix H H') : Tups K H H' := fun a xs hS => by
  rcases hS with (hS | ⟨u, hS⟩) | hS
  · exact .inl (.inl (b _ _ hS (fun _ z => nomatch z)))
  · exact .inl (.inr ⟨u, b _ _ hS (fun _ z => nomatch z)⟩)
  · exact .inr hS
theorem But.fix {H H' : Hp} {p : Addr} {xs : List V} (h : H p = some (.lst xs)) (b : But p H H') : Fix H H' := fun c o e n => b c o e fun z => by
  subst z
  rw [h] at e
  cases e
  exact n _ rfl
/-- a list that never changes -/
def Fz (K : PySem.W.Frag) (H : Hp) (a : Addr) (xs : List V) : Prop := (∃ o, H a = some (.frz o (.lst xs))) ∨ ∀ H', SqL K H' a xs
theorem Fz.seq {K : PySem.W.Frag} {H : Hp} {a : Addr} {xs : List V} (h : Fz K H a xs) : SqL K H a xs := by
  rcases h with ⟨o, h⟩ | h
  · exact .inl (.inr ⟨o, h⟩)
  · exact h H
theorem Fz.on {K : PySem.W.Frag} {H H' : Hp} {a : Addr} {xs : List V} (f : Fix H H') (h : Fz K H a xs) : Fz K H' a xs := by
  rcases h with ⟨o, h⟩ | h
  · exact .inl ⟨o, f _ _ h (fun _ z => nomatch z)⟩
  · exact .inr h
theorem Fz.of {K : PySem.W.Frag} {H : Hp} {a : Addr} {xs : List V} (o : Only H) (h : SqL K H a xs) : Fz K H a xs := by
  rcases h with (h | h) | h
  · rcases o a with e | ⟨u, ys, e⟩
    · rw [e] at h
      cases h
    · rw [e] at h
      cases h
  · exact .inl h
  · exact .inr fun H' => .inr h
/-- row: the script, how many of it are taken, the running number, what is left of a great one -/
structure RowA (K : PySem.W.Frag) (H : Hp) (p a : Addr) (ns : List Int) (i r c : Int) : Prop where
  at_ : H p = some (.lst [.ref a, .int i, .int r, .int c])
  fz : Fz K H a (ns.map V.int)
  pos : 0 ≤ i
theorem RowA.scr {K : PySem.W.Frag} {H : Hp} {p a : Addr} {ns : List Int} {i r c : Int} (h : RowA K H p a ns i r c) : SqL K H a (ns.map V.int) := h.fz.seq
def Row (K : PySem.W.Frag) (H : Hp) (p : Addr) : Prop := ∃ a ns i r c, RowA K H p a ns i r c
theorem RowA.put {K : PySem.W.Frag} {H : Hp} {p a : Addr} {ns : List Int} {i r c i' r' c' : Int} (h : RowA K H p a ns i r c) (hi : 0 ≤ i') :
    RowA K (upd H p (.lst [.ref a, .int i', .int r', .int c'])) p a ns i' r' c' :=
  ⟨upd_same, h.fz.on (Fix.lst h.at_), hi⟩
theorem RowA.row {K : PySem.W.Frag} {H : Hp} {p a : Addr} {ns : List Int} {i r c : Int} (h : RowA K H p a ns i r c) : Row K H p := ⟨_, _, _, _, _, h⟩
theorem Row.lst {K : PySem.W.Frag} {H : Hp} {p : Addr} (h : Row K H p) : ∃ xs, H p = some (.lst xs) := by
  obtain ⟨a, ns, i, r, c, h⟩ := h
  exact ⟨_, h.at_⟩
theorem Row.fix {K : PySem.W.Frag} {H H' : Hp} {p : Addr} (h : Row K H p) (b : But p H H') : Fix H H' := by
  obtain ⟨xs, e⟩ := h.lst
  exact But.fix e b
theorem Row.on {K : PySem.W.Frag} {H H' : Hp} {p : Addr} (h : Row K H p) (f : Fix H H') (e : H' p = H p) : Row K H' p := by
  obtain ⟨a, ns, i, r, c, h⟩ := h
  exact ⟨a, ns, i, r, c, e.trans h.at_, h.fz.on f, h.pos⟩
theorem Row.same {K : PySem.W.Frag} {H H' : Hp} {p : Addr} (h : Row K H p) (s : Same H H') : Row K H' p := by
  obtain ⟨xs, e⟩ := h.lst
  exact h.on (Fix.same s) ((s _ _ e).trans e.symm)
/-- another list is written -/
theorem Row.lst_upd {K : PySem.W.Frag} {H : Hp} {p q : Addr} {xs : List V} {o : HO} (h : Row K H p) (e : H q = some (.lst xs)) (n : p ≠ q) : Row K (upd H q o) p := h.on (Fix.lst e) (upd_ne n)
/-- a new object -/
theorem Row.new {K : PySem.W.Frag} {H : Hp} {p q : Addr} {o : HO} (h : Row K H p) (e : H q = none) : Row K (upd H q o) p := h.same (same_new e)
theorem Row.ne {K : PySem.W.Frag} {H : Hp} {p q : Addr} (h : Row K H p) (e : H q = none) : p ≠ q := by
  obtain ⟨xs, e'⟩ := h.lst
  exact ne_of_none e' e
section
variable {P : Program} {w : World} {K : PySem.W.Frag} {mg : Str → Option Value} {base : Heap}
def spTaken (K : PySem.W.Frag) : Sp := fun vs H Q _ => ∃ (p : Addr) (m : Int), vs = [.ref p, .int m] ∧ Row K H p ∧ 0 < m ∧ m < 1048576 ∧ ∀ k H', 0 ≤ k → k < m → But p H H' → Row K H' p → Q (.int k) H'
theorem ok_taken (F : Df K mg "_law_taken" st__law_taken ["row", "many"]) (B : Bu mg) : Cal P w K mg base 1 "_law_taken" (spTaken K) := by
  refine mkCal F sc__law_taken (fun vs H Q E h => ?_) (fun f cdv A outer s H vs Q E hr h => ?_)
  · obtain ⟨p, m, rfl, _⟩ := h
    rfl
  · obtain ⟨p, m, rfl, ⟨a, ns, i, r, c, hR⟩, m0, m1, q⟩ := h
    refine ⟨_, pss_cons (ps_if (pt_cmpR op_gt (pe_ix ix_list (pv 0) pe_int (fun _ _ => rfl)) pe_int (nomark _))
        (pss_cons (ps_set (i := 2) sc__law_taken.nd rfl (.inl rfl) (pe_op op_mod (pe_callTy call_int1 (by rfl) B.int (by decide +kernel) (pa_cons (pe_ix ix_list (pv 0) pe_int (fun _ _ => rfl)) pa_nil)) (pv 1)))
        (pss_cons (ps_asg (pe_op op_fdiv (pe_ix ix_list (pv 0) pe_int (fun _ _ => rfl)) (pv 1)) (pg_sub (pv 0) pe_int set_list))
        (pss_one (ps_ret (pv 2))))) pss_nil)
      (pss_cons (ps_asg (pe_op op_add (pe_ix ix_list (pv 0) pe_int (fun _ _ => rfl)) pe_int) (pg_sub (pv 0) pe_int set_list))
      (pss_cons (ps_if (pt_cmpR op_gt (pe_ix ix_list (pv 0) pe_int (fun _ _ => rfl)) (pe_callB (cl_len K) (by rfl) B.len PySem.boot_len (pa_cons (pe_ix ix_list (pv 0) pe_int (fun _ _ => rfl)) pa_nil)) (nomark _))
        (pss_cons (ps_asg (pe_op op_mod (pe_callTy call_int1 (by rfl) B.int (by decide +kernel) (pa_cons (pe_op op_add (pe_op op_mul (pe_ix ix_list (pv 0) pe_int (fun _ _ => rfl)) pe_int) pe_int) pa_nil)) pe_int) (pg_sub (pv 0) pe_int set_list))
        (pss_one (ps_ret (pe_op op_mod (pe_callTy call_int1 (by rfl) B.int (by decide +kernel) (pa_cons (pe_op op_fdiv (pe_ix ix_list (pv 0) pe_int (fun _ _ => rfl)) pe_int) pa_nil)) (pv 1))))) pss_nil)
      (pss_cons (ps_set (i := 3) sc__law_taken.nd rfl (.inl rfl) (pe_ix ix_list (pe_ix ix_list (pv 0) pe_int (fun _ _ => rfl)) (pe_op op_sub (pe_ix ix_list (pv 0) pe_int (fun _ _ => rfl)) pe_int) (fun _ _ => rfl)))
      (pss_cons (ps_asg (pe_op op_mod (pe_callTy call_int1 (by rfl) B.int (by decide +kernel) (pa_cons (pe_op op_add (pe_op op_add (pe_op op_mul (pe_ix ix_list (pv 0) pe_int (fun _ _ => rfl)) pe_int) (pv 3)) pe_int) pa_nil)) pe_int) (pg_sub (pv 0) pe_int set_list))
      (pss_cons (ps_if (pt_cmpR op_ge (pv 3) (pe_op op_pow pe_int pe_int) (nomark _))
        (pss_one (ps_asg (pe_op op_fdiv (pv 3) (pv 1)) (pg_sub (pv 0) pe_int set_list))) pss_nil)
      (pss_one (ps_ret (pe_op op_mod (pe_callTy call_int1 (by rfl) B.int (by decide +kernel) (pa_cons (pv 3) pa_nil)) (pv 1))))))))), ?_⟩
    have L := hR.at_
    refine ⟨_, rfl, p, _, 3, .int c, rfl, rfl, lstAt L, rfl, c, 0, rfl, rfl, _, rfl, ite2 (fun e => ?_) (fun e => ?_)⟩
    · refine ⟨_, rfl, p, _, 3, .int c, rfl, rfl, lstAt L, rfl, .inl ⟨c, rfl, _, rfl, c, m, rfl, rfl, m0, ?_⟩⟩
      refine ⟨_, rfl, p, _, 3, .int c, rfl, rfl, lstAt L, rfl, _, rfl, c, m, rfl, rfl, ⟨m0, by omega⟩, _, rfl, p, _, 3, 3, rfl, rfl, L, rfl, ?_⟩
      exact ⟨_, rfl, q (c % m) _ (Int.emod_nonneg _ (by omega)) (Int.emod_lt_of_pos _ m0) (But.upd (But.refl p H)) (hR.put hR.pos).row⟩
    · refine ⟨_, rfl, p, _, 1, .int i, rfl, rfl, lstAt L, rfl, i, 1, rfl, rfl, _, rfl, p, _, 1, 1, rfl, rfl, L, rfl, ?_⟩
      have R1 : RowA K (upd H p (.lst [.ref a, .int (i + 1), .int r, .int c])) p a ns (i + 1) r c := hR.put (by have := hR.pos; omega)
      have L1 := R1.at_
      refine ⟨_, rfl, p, _, 1, .int (i + 1), rfl, rfl, lstAt L1, rfl, _, rfl, p, _, 0, .ref a, rfl, rfl, lstAt L1, rfl, a, _, rfl, .inl R1.scr, _, _, rfl, rfl, _, rfl, ite2 (fun e1 => ?_) (fun e1 => ?_)⟩
      · refine ⟨_, rfl, p, _, 2, .int r, rfl, rfl, lstAt L1, rfl, r, 48271, rfl, rfl, .inr ⟨by decide, by decide⟩, _, 11, rfl, rfl, .inl ⟨_, rfl, _, _, rfl, rfl, (by show (0 : Int) < 2147483647; decide), _, rfl, p, _, 2, 2, rfl, rfl, L1, rfl, ?_⟩⟩
        have R2 : RowA K (upd (upd H p (.lst [.ref a, .int (i + 1), .int r, .int c])) p (.lst [.ref a, .int (i + 1), .int ((r * 48271 + 11) % 2147483647), .int c])) p a ns (i + 1) ((r * 48271 + 11) % 2147483647) c := R1.put R1.pos
        refine ⟨_, rfl, p, _, 2, _, rfl, rfl, lstAt R2.at_, rfl, _, 7, rfl, rfl, ⟨by decide, by decide⟩, .inl ⟨_, rfl, _, rfl, _, m, rfl, rfl, m0, ?_⟩⟩
        exact q _ _ (Int.emod_nonneg _ (by omega)) (Int.emod_lt_of_pos _ m0) (But.upd (But.upd (But.refl p H))) R2.row
      · have hi : i < (ns.length : Int) := by
          rw [List.length_map] at e1
          have e9 : i + 1 ≤ (ns.length : Int) := by simpa using e1
          omega
        have hi0 := hR.pos
        obtain ⟨z, hz⟩ : ∃ z, ns[i.toNat]? = some z := ⟨ns[i.toNat]'(by omega), List.getElem?_eq_getElem (by omega)⟩
        refine ⟨_, rfl, p, _, 0, .ref a, rfl, rfl, lstAt L1, rfl, _, rfl, p, _, 1, .int (i + 1), rfl, rfl, lstAt L1, rfl, _, 1, rfl, rfl, a, _, i + 1 - 1, .int z, rfl, rfl, R1.scr, at_int (by omega) (at_map (by rw [show (i + 1 - 1).toNat = i.toNat by omega]; exact hz)), ?_⟩
        refine ⟨_, rfl, p, _, 2, .int r, rfl, rfl, lstAt L1, rfl, r, 48271, rfl, rfl, .inr ⟨by decide, by decide⟩, _, rfl, _, z, rfl, rfl, _, 11, rfl, rfl, .inl ⟨_, rfl, _, _, rfl, rfl, (by show (0 : Int) < 2147483647; decide), _, rfl, p, _, 2, 2, rfl, rfl, L1, rfl, ?_⟩⟩
        have R2 : RowA K (upd (upd H p (.lst [.ref a, .int (i + 1), .int r, .int c])) p (.lst [.ref a, .int (i + 1), .int ((r * 48271 + z + 11) % 2147483647), .int c])) p a ns (i + 1) ((r * 48271 + z + 11) % 2147483647) c := R1.put R1.pos
        refine ⟨_, rfl, 10, 18, rfl, rfl, ⟨by decide, by decide, by decide⟩, z, _, rfl, rfl, _, rfl, ite2 (fun e2 => ?_) (fun e2 => ?_)⟩
        · refine ⟨_, rfl, _, rfl, z, m, rfl, rfl, ⟨m0, by omega⟩, _, rfl, p, _, 3, 3, rfl, rfl, R2.at_, rfl, ?_⟩
          refine ⟨_, rfl, .inl ⟨z, rfl, _, rfl, z, m, rfl, rfl, m0, ?_⟩⟩
          exact q _ _ (Int.emod_nonneg _ (by omega)) (Int.emod_lt_of_pos _ m0) (But.upd (But.upd (But.upd (But.refl p H)))) (R2.put R2.pos).row
        · refine ⟨_, rfl, .inl ⟨z, rfl, _, rfl, z, m, rfl, rfl, m0, ?_⟩⟩
          exact q _ _ (Int.emod_nonneg _ (by omega)) (Int.emod_lt_of_pos _ m0) (But.upd (But.upd (But.refl p H))) R2.row
end
end RH
set_option Elab.async false
set_option linter.all false
set_option maxRecDepth 100000
set_option maxHeartbeats 2000000
namespace RH
open PySem PySem.Spec PyProof.Rows L2
theorem ix_nat {n : Nat} {k : Int} (h0 : 0 ≤ k) (h1 : k < n) : seqIndex? k n = some k.toNat := by
  unfold seqIndex?
  have e : (if k < 0 then k + (n : Int) else k) = k := if_neg (by omega)
  simp only [e]
  rw [if_pos]
  simp [h0, h1]
theorem But.fresh {p l : Addr} {H H1 : Hp} {o : HO} (a : But p H H1) (e : H l = none) : But p H (L2.upd H1 l o) := fun c u h n => by
  rw [upd_ne (ne_of_none h e)]
  exact a c u h n
theorem map_erase (ns : List Int) (k : Nat) : (ns.map V.int).eraseIdx k = (ns.eraseIdx k).map V.int := by
  induction ns generalizing k with
  | nil => rfl
  | cons n ns ih =>
    cases k with
    | zero => rfl
    | succ k =>
      show V.int n :: (ns.map V.int).eraseIdx k = V.int n :: (ns.eraseIdx k).map V.int
      rw [ih]
theorem perm_erase : ∀ {ls : List Int} {k : Nat} {y : Int}, ls[k]? = some y → ls.Perm (y :: ls.eraseIdx k)
  | [], k, y, h => by simp at h
  | a :: ls, 0, y, h => by
    have e : a = y := Option.some.inj h
    subst e
    exact List.Perm.refl _
  | a :: ls, k + 1, y, h => by
    have ih := perm_erase (ls := ls) (k := k) (y := y) h
    exact (ih.cons a).trans (List.Perm.swap ..)
section
variable {P : Program} {w : World} {K : PySem.W.Frag} {mg : Str → Option Value} {base : Heap}
def spPick (K : PySem.W.Frag) : Sp := fun vs H Q _ => ∃ (p l : Addr) (xs : List V), vs = [.ref p, .ref l] ∧ Row K H p ∧ H l = some (.lst xs) ∧ l ≠ p ∧ 0 < xs.length ∧ xs.length ≤ 1000 ∧
  ∀ (i : Nat) x H', xs[i]? = some x → But p H H' → Row K H' p → Q x H'
theorem ok_pick (F : Df K mg "_law_pick" st__law_pick ["row", "things"]) (B : Bu mg) (CT : Cal P w K mg base 1 "_law_taken" (spTaken K)) : Cal P w K mg base 2 "_law_pick" (spPick K) := by
  refine mkCal F sc__law_pick (fun vs H Q E h => ?_) (fun f cdv A outer s H vs Q E hr h => ?_)
  · obtain ⟨p, l, xs, rfl, _⟩ := h
    rfl
  · obtain ⟨p, l, xs, rfl, hR, hl, hlp, l0, l1, q⟩ := h
    refine ⟨_, pss_one (ps_ret (pe_ix ix_list (pv 1) (pc CT hr (pa_cons (pv 0) (pa_cons (pe_callB (cl_len K) (by rfl) B.len PySem.boot_len (pa_cons (pv 1) pa_nil)) pa_nil))) (fun _ _ => rfl))), ?_⟩
    refine ⟨_, rfl, _, rfl, _, rfl, l, xs, rfl, .inl (lstAt hl), p, xs.length, rfl, hR, by omega, by omega, fun k H' k0 k1 hB hR' => ?_⟩
    have hk : k.toNat < xs.length := by omega
    exact ⟨l, xs, k, _, rfl, rfl, lstAt (hB _ _ hl hlp), at_int k0 (List.getElem?_eq_getElem hk), q _ _ H' (List.getElem?_eq_getElem hk) hB hR'⟩
end
end RH
set_option Elab.async false
set_option linter.all false
set_option maxRecDepth 100000
set_option maxHeartbeats 2000000
namespace RH
open PySem PySem.Spec PyProof.Rows L2
/-! ### _law_alike of equal data -/
theorem Dp.on {K : PySem.W.Frag} {H H' : Hp} (s : Same H H') : ∀ (d : PyData) (v : V), Dp K H v d → Dp K H' v d
  | d, v, h => by
    refine Dp.rec (motive_1 := fun v d _ => Dp K H' v d) (motive_2 := fun vs ds _ => DpAll K H' vs ds) .non .bl .int .str ?_ ?_ .nil ?_ h
    · intro a xs ds h1 _ h2
      exact .lst (s.seq h1) h2
    · intro a xs ds h1 _ h2
      exact .tup (onT s h1) h2
    · intro v vs d ds _ _ h1 h2
      exact .cons h1 h2
theorem DpAll.len {K : PySem.W.Frag} {H : Hp} : ∀ {vs : List V} {ds : List PyData}, DpAll K H vs ds → vs.length = ds.length
  | _, _, .nil => rfl
  | _, _, .cons _ t => congrArg (· + 1) (DpAll.len t)
theorem DpAll.of {K : PySem.W.Frag} {H : Hp} : ∀ {vs : List V} {ds : List PyData} {i : Nat} {d : PyData}, DpAll K H vs ds → ds[i]? = some d → ∃ v, vs[i]? = some v ∧ Dp K H v d
  | _, _, _, _, .nil, e => by simp at e
  | _, _, 0, _, .cons h _, e => by
    have e' := Option.some.inj e
    subst e'
    exact ⟨_, rfl, h⟩
  | _, _, i + 1, _, .cons _ t, e => DpAll.of (i := i) t e
def okD : Nat → PyData → Prop
  | 0, .none => True
  | 0, .bool _ => True
  | 0, .int _ => True
  | 0, .str _ => True
  | 0, _ => False
  | _ + 1, .none => True
  | _ + 1, .bool _ => True
  | _ + 1, .int _ => True
  | _ + 1, .str _ => True
  | k + 1, .list ds => ds.length ≤ 1000 ∧ ∀ d ∈ ds, okD k d
  | k + 1, .tuple ds => ds.length ≤ 1000 ∧ ∀ d ∈ ds, okD k d
  | _ + 1, .dict _ => False
theorem kit2 {K : PySem.W.Frag} {t : String} {b1 b2 : Bool} (h1 : kitB t "tuple" = some b1) (h2 : kitB t "list" = some b2) : PySem.W.kitAny K (.type t) [.type "tuple", .type "list"] = some (b1 || b2) := by
  cases b1 with
  | true => exact kitAny_cons (kit_ty h1) (fun z => nomatch z) (fun _ => rfl)
  | false =>
    cases b2 with
    | true => exact kitAny_cons (kit_ty h1) (fun _ => kitAny_cons (kit_ty h2) (fun z => nomatch z) (fun _ => rfl)) (fun z => nomatch z)
    | false => exact kitAny_cons (kit_ty h1) (fun _ => kitAny_cons (kit_ty h2) (fun _ => kitAny_nil) (fun z => nomatch z)) (fun z => nomatch z)
theorem cls2 : Paired ClsV [V.ty "tuple", V.ty "list"] [Value.type "tuple", Value.type "list"] := .cons (.ty _) (.cons (.ty _) .nil)
theorem ixS {X : Cx} (K : PySem.W.Frag) (h : X.K = K := by rfl) : IxR X (rIx K) := by
  subst h
  exact ix_seq
/-- a list or a tuple -/
structure Sq2 (K : PySem.W.Frag) (H : Hp) (a : Addr) (xs : List V) (T : String) (b : Bool) : Prop where
  ty : TyX K H (.ref a) (.type T)
  sq : SqL K H a xs ∨ SqT K H a xs
  k1 : PySem.W.kitAny K (.type T) [.type "tuple", .type "list"] = some true
  k2 : PySem.W.kitOne K (.type T) (.type "list") = some b
  ix : ∀ (i : Nat) (x : V) (Q : VK), xs[i]? = some x → Q x H → rIx K (.ref a) (.int (i : Int)) H Q
theorem sq2T {K : PySem.W.Frag} {H : Hp} {a : Addr} {xs : List V} (h : SqT K H a xs) : Sq2 K H a xs "tuple" false :=
  ⟨ty_tup h, .inr h, kit2 (b1 := true) (b2 := false) (by decide +kernel) (by decide +kernel), kit_ty (by decide +kernel), fun i x Q e q => .inr (.inl ⟨a, xs, i, x, rfl, rfl, h, atI_nat e, q⟩)⟩
theorem ty_lst {K : PySem.W.Frag} {H : Hp} {a : Addr} {xs : List V} (h : SqL K H a xs) : TyX K H (.ref a) (.type "list") := by
  rcases h with (h | ⟨o, h⟩) | ⟨o, vz, n, h, c, _⟩
  · exact .base (.lst h)
  · exact .base (.frz h)
  · exact .kList h c
theorem sq2L {K : PySem.W.Frag} {H : Hp} {a : Addr} {xs : List V} (h : SqL K H a xs) : Sq2 K H a xs "list" true :=
  ⟨ty_lst h, .inl h, kit2 (b1 := false) (b2 := true) (by decide +kernel) (by decide +kernel), kit_ty (by decide +kernel), fun i x Q e q => .inl ⟨a, xs, i, x, rfl, rfl, h, atI_nat e, q⟩⟩
theorem pss_no {X : Cx} {sts : List Stmt} : PSs X sts (fun _ _ _ => False) := ⟨fun _ _ _ _ _ _ h => h.elim⟩
section
variable {P : Program} {w : World} {K : PySem.W.Frag} {mg : Str → Option Value} {base : Heap}
def spAlike (K : PySem.W.Frag) (k : Nat) : Sp := fun vs H Q _ => ∃ (v u : V) (d : PyData), vs = [v, u] ∧ Dp K H v d ∧ Dp K H u d ∧ okD k d ∧ ∀ H', Same H H' → Q (.bl true) H'
theorem ok_alike0 (F : Df K mg "_law_alike" st__law_alike ["found", "due"]) (B : Bu mg) : Cal P w K mg base 1 "_law_alike" (spAlike K 0) := by
  refine mkCal F sc__law_alike (fun vs H Q E h => ?_) (fun f cdv A outer s H vs Q E hr h => ?_)
  · obtain ⟨v, u, d, rfl, _⟩ := h
    rfl
  · obtain ⟨v, u, d, rfl, hv, hu, hk, q⟩ := h
    refine ⟨_, pss_cons (ps_if (pt_val (pe_callB call_isiT (by rfl) B.isi (by decide +kernel) (pa_cons (pv 1) (pa_cons (pe_tup (pa_cons (pe_bltn (v := .ty "tuple") (by rfl) B.tuple (by decide +kernel) rfl) (pa_cons (pe_bltn (v := .ty "list") (by rfl) B.list (by decide +kernel) rfl) pa_nil))) pa_nil)))) pss_no pss_nil)
      (pss_cons (ps_if (PW.pt (pw_or (pt_cmp (pc_isN (pv 1))) (pw_or1 (pt_val (pe_callB call_isi (by rfl) B.isi (by decide +kernel) (pa_cons (pv 1) (pa_cons (pe_bltn (v := .ty "str") (by rfl) B.str (by decide +kernel) rfl) pa_nil)))))))
        (pss_one (ps_ret (pe_and (pe_cmpR op_eq (pv 0) (pv 1) (nomark _)) (pe_one (pe_cmpR op_eq (pe_callB call_isi (by rfl) B.isi (by decide +kernel) (pa_cons (pv 0) (pa_cons (pe_bltn (v := .ty "str") (by rfl) B.str (by decide +kernel) rfl) pa_nil)))
          (pe_callB call_isi (by rfl) B.isi (by decide +kernel) (pa_cons (pv 1) (pa_cons (pe_bltn (v := .ty "str") (by rfl) B.str (by decide +kernel) rfl) pa_nil))) (nomark _)))))) pss_nil)
      (pss_one (ps_ret (pe_and (pe_callB call_isi (by rfl) B.isi (by decide +kernel) (pa_cons (pv 0) (pa_cons (pe_bltn (v := .ty "int") (by rfl) B.int (by decide +kernel) rfl) pa_nil)))
        (pe_and (pe_cmpR op_eq (pe_callB call_isi (by rfl) B.isi (by decide +kernel) (pa_cons (pv 0) (pa_cons (pe_bltn (v := .ty "bool") (by rfl) B.bool (by decide +kernel) rfl) pa_nil)))
          (pe_callB call_isi (by rfl) B.isi (by decide +kernel) (pa_cons (pv 1) (pa_cons (pe_bltn (v := .ty "bool") (by rfl) B.bool (by decide +kernel) rfl) pa_nil))) (nomark _)) (pe_one (pe_cmpR op_eq (pv 0) (pv 1) (nomark _)))))))), ?_⟩
    cases hv with
    | non =>
      cases hu
      refine ⟨_, rfl, (by show 2 ≤ sizeLine; decide), fun t ht => ⟨.non, t, _, _, _, false, rfl, upd_same, cls2, .base .non, kit2 (b1 := false) (b2 := false) (by decide +kernel) (by decide +kernel), _, rfl, ifF rfl ?_⟩⟩
      refine ⟨_, rfl, _, rfl, ifT (decide_eq_true rfl) (ifT rfl ?_)⟩
      exact ⟨_, rfl, _, rfl, rfl, _, rfl, ifT (decide_eq_true rfl) ⟨_, rfl, .non, .ty "str", _, _, false, rfl, .ty "str", .base .non, kit_ty (by decide +kernel), _, rfl, .non, .ty "str", _, _, false, rfl, .ty "str", .base .non, kit_ty (by decide +kernel), rfl, q _ (same_new ht)⟩⟩
    | bl b =>
      cases hu
      refine ⟨_, rfl, (by show 2 ≤ sizeLine; decide), fun t ht => ⟨.bl b, t, _, _, _, false, rfl, upd_same, cls2, .base (.bl b), kit2 (b1 := false) (b2 := false) (by decide +kernel) (by decide +kernel), _, rfl, ifF rfl ?_⟩⟩
      refine ⟨_, rfl, _, rfl, ifF (decide_eq_false (fun z => nomatch z)) ⟨_, rfl, .bl b, .ty "str", _, _, false, rfl, .ty "str", .base (.bl b), kit_ty (by decide +kernel), _, rfl, ifF rfl ?_⟩⟩
      refine ⟨_, rfl, .bl b, .ty "int", _, _, true, rfl, .ty "int", .base (.bl b), kit_ty (by decide +kernel), _, rfl, ifT rfl ?_⟩
      refine ⟨_, rfl, .bl b, .ty "bool", _, _, true, rfl, .ty "bool", .base (.bl b), kit_ty (by decide +kernel), _, rfl, .bl b, .ty "bool", _, _, true, rfl, .ty "bool", .base (.bl b), kit_ty (by decide +kernel), rfl, _, rfl, ifT (decide_eq_true rfl) ?_⟩
      refine ⟨_, rfl, _, rfl, rfl, ?_⟩
      rw [decide_eq_true (rfl : V.bl b = V.bl b)]
      exact q _ (same_new ht)
    | int i =>
      cases hu
      refine ⟨_, rfl, (by show 2 ≤ sizeLine; decide), fun t ht => ⟨.int i, t, _, _, _, false, rfl, upd_same, cls2, .base (.int i), kit2 (b1 := false) (b2 := false) (by decide +kernel) (by decide +kernel), _, rfl, ifF rfl ?_⟩⟩
      refine ⟨_, rfl, _, rfl, ifF (decide_eq_false (fun z => nomatch z)) ⟨_, rfl, .int i, .ty "str", _, _, false, rfl, .ty "str", .base (.int i), kit_ty (by decide +kernel), _, rfl, ifF rfl ?_⟩⟩
      refine ⟨_, rfl, .int i, .ty "int", _, _, true, rfl, .ty "int", .base (.int i), kit_ty (by decide +kernel), _, rfl, ifT rfl ?_⟩
      refine ⟨_, rfl, .int i, .ty "bool", _, _, false, rfl, .ty "bool", .base (.int i), kit_ty (by decide +kernel), _, rfl, .int i, .ty "bool", _, _, false, rfl, .ty "bool", .base (.int i), kit_ty (by decide +kernel), rfl, _, rfl, ifT (decide_eq_true rfl) ?_⟩
      refine ⟨_, rfl, _, rfl, rfl, ?_⟩
      rw [decide_eq_true (rfl : V.int i = V.int i)]
      exact q _ (same_new ht)
    | str x =>
      cases hu
      refine ⟨_, rfl, (by show 2 ≤ sizeLine; decide), fun t ht => ⟨.str x, t, _, _, _, false, rfl, upd_same, cls2, .base (.str x), kit2 (b1 := false) (b2 := false) (by decide +kernel) (by decide +kernel), _, rfl, ifF rfl ?_⟩⟩
      refine ⟨_, rfl, _, rfl, ifF (decide_eq_false (fun z => nomatch z)) ⟨_, rfl, .str x, .ty "str", _, _, true, rfl, .ty "str", .base (.str x), kit_ty (by decide +kernel), _, rfl, ifT rfl ?_⟩⟩
      exact ⟨_, rfl, _, rfl, rfl, _, rfl, ifT (decide_eq_true rfl) ⟨_, rfl, .str x, .ty "str", _, _, true, rfl, .ty "str", .base (.str x), kit_ty (by decide +kernel), _, rfl, .str x, .ty "str", _, _, true, rfl, .ty "str", .base (.str x), kit_ty (by decide +kernel), rfl, q _ (same_new ht)⟩⟩
    | lst _ _ => exact hk.elim
    | tup _ _ => exact hk.elim
end
end RH
set_option Elab.async false
set_option linter.all false
set_option maxRecDepth 100000
set_option maxHeartbeats 2000000
namespace RH
open PySem PySem.Spec PyProof.Rows L2
theorem alike_cases {K : PySem.W.Frag} {H : Hp} {k : Nat} {v u : V} {d : PyData} (hv : Dp K H v d) (hu : Dp K H u d) (hk : okD (k + 1) d) : okD 0 d ∨ ∃ (a b : Addr) (xs ys : List V) (ds : List PyData) (T : String) (bl : Bool), v = .ref a ∧ u = .ref b ∧
    (∀ H', Same H H' → Sq2 K H' a xs T bl) ∧ (∀ H', Same H H' → Sq2 K H' b ys T bl) ∧ DpAll K H xs ds ∧ DpAll K H ys ds ∧ ds.length ≤ 1000 ∧ ∀ d ∈ ds, okD k d := by
  cases hv with
  | non => exact .inl True.intro
  | bl _ => exact .inl True.intro
  | int _ => exact .inl True.intro
  | str _ => exact .inl True.intro
  | @lst a xs ds h1 h2 =>
    cases hu with
    | @lst b ys _ h3 h4 => exact .inr ⟨a, b, xs, ys, ds, "list", true, rfl, rfl, fun _ s => sq2L (s.seq h1), fun _ s => sq2L (s.seq h3), h2, h4, hk.1, hk.2⟩
  | @tup a xs ds h1 h2 =>
    cases hu with
    | @tup b ys _ h3 h4 => exact .inr ⟨a, b, xs, ys, ds, "tuple", false, rfl, rfl, fun _ s => sq2T (onT s h1), fun _ s => sq2T (onT s h3), h2, h4, hk.1, hk.2⟩
section
variable {P : Program} {w : World} {K : PySem.W.Frag} {mg : Str → Option Value} {base : Heap}
theorem ok_alikeS (k : Nat) (F : Df K mg "_law_alike" st__law_alike ["found", "due"]) (B : Bu mg) (C : Cal P w K mg base (k + 1) "_law_alike" (spAlike K k)) : Cal P w K mg base (k + 2) "_law_alike" (spAlike K (k + 1)) := by
  refine mkCal F sc__law_alike (fun vs H Q E h => ?_) (fun f cdv A outer s H vs Q E hr h => ?_)
  · obtain ⟨v, u, d, rfl, _⟩ := h
    rfl
  · obtain ⟨v, u, d, rfl, hv, hu, hk, q⟩ := h
    refine ⟨_, pss_cons (ps_if (pt_val (pe_callB call_isiT (by rfl) B.isi (by decide +kernel) (pa_cons (pv 1) (pa_cons (pe_tup (pa_cons (pe_bltn (v := .ty "tuple") (by rfl) B.tuple (by decide +kernel) rfl) (pa_cons (pe_bltn (v := .ty "list") (by rfl) B.list (by decide +kernel) rfl) pa_nil))) pa_nil))))
        (pss_cons (ps_if (PW.pt (pw_or (pt_not (pt_val (pe_callB call_isiT (by rfl) B.isi (by decide +kernel) (pa_cons (pv 0) (pa_cons (pe_tup (pa_cons (pe_bltn (v := .ty "tuple") (by rfl) B.tuple (by decide +kernel) rfl) (pa_cons (pe_bltn (v := .ty "list") (by rfl) B.list (by decide +kernel) rfl) pa_nil))) pa_nil)))))
            (pw_or1 (pt_cmpR op_ne (pe_callB call_isi (by rfl) B.isi (by decide +kernel) (pa_cons (pv 0) (pa_cons (pe_bltn (v := .ty "list") (by rfl) B.list (by decide +kernel) rfl) pa_nil)))
              (pe_callB call_isi (by rfl) B.isi (by decide +kernel) (pa_cons (pv 1) (pa_cons (pe_bltn (v := .ty "list") (by rfl) B.list (by decide +kernel) rfl) pa_nil))) (nomark _))))) (pss_one (ps_ret pe_bl)) pss_nil)
        (pss_cons (ps_if (pt_cmpR op_ne (pe_callB (cl_len K) (by rfl) B.len PySem.boot_len (pa_cons (pv 0) pa_nil)) (pe_callB (cl_len K) (by rfl) B.len PySem.boot_len (pa_cons (pv 1) pa_nil)) (nomark _)) (pss_one (ps_ret pe_bl)) pss_nil)
        (pss_one (ps_ret (pe_cmpR (op_eqD hr.units) (pe_lc (own := [("k", 2)]) (g := gName 2) rfl sc__law_alike.nd (pi_range1 (by rfl) B.range (pa_cons (pe_callB (cl_len K) (by rfl) B.len PySem.boot_len (pa_cons (pv 1) pa_nil)) pa_nil))
          (blkOk_by (N := ["found", "due", "k"]) (sc := defScope st__law_alike) (by decide +kernel)) (fun _ _ _ _ _ => pg_name (i := 2) sc__law_alike.nd rfl (Or.inl rfl))
          (fun _ _ _ _ _ => pts_one (pt_not (pt_val (pc C hr (pa_cons (pe_ix (ixS K) (pv 0) (pv 2) (fun _ _ => rfl)) (pa_cons (pe_ix (ixS K) (pv 1) (pv 2) (fun _ _ => rfl)) pa_nil)) (hk := Nat.le_refl _))))) (fun _ _ _ _ _ => pv 2)) (pe_lst pa_nil) (nomark _)))))) pss_nil)
      (pss_cons (ps_if (PW.pt (pw_or (pt_cmp (pc_isN (pv 1))) (pw_or1 (pt_val (pe_callB call_isi (by rfl) B.isi (by decide +kernel) (pa_cons (pv 1) (pa_cons (pe_bltn (v := .ty "str") (by rfl) B.str (by decide +kernel) rfl) pa_nil)))))))
        (pss_one (ps_ret (pe_and (pe_cmpR op_eq (pv 0) (pv 1) (nomark _)) (pe_one (pe_cmpR op_eq (pe_callB call_isi (by rfl) B.isi (by decide +kernel) (pa_cons (pv 0) (pa_cons (pe_bltn (v := .ty "str") (by rfl) B.str (by decide +kernel) rfl) pa_nil)))
          (pe_callB call_isi (by rfl) B.isi (by decide +kernel) (pa_cons (pv 1) (pa_cons (pe_bltn (v := .ty "str") (by rfl) B.str (by decide +kernel) rfl) pa_nil))) (nomark _)))))) pss_nil)
      (pss_one (ps_ret (pe_and (pe_callB call_isi (by rfl) B.isi (by decide +kernel) (pa_cons (pv 0) (pa_cons (pe_bltn (v := .ty "int") (by rfl) B.int (by decide +kernel) rfl) pa_nil)))
        (pe_and (pe_cmpR op_eq (pe_callB call_isi (by rfl) B.isi (by decide +kernel) (pa_cons (pv 0) (pa_cons (pe_bltn (v := .ty "bool") (by rfl) B.bool (by decide +kernel) rfl) pa_nil)))
          (pe_callB call_isi (by rfl) B.isi (by decide +kernel) (pa_cons (pv 1) (pa_cons (pe_bltn (v := .ty "bool") (by rfl) B.bool (by decide +kernel) rfl) pa_nil))) (nomark _)) (pe_one (pe_cmpR op_eq (pv 0) (pv 1) (nomark _)))))))), ?_⟩
    rcases alike_cases hv hu hk with hk0 | ⟨a, b, xs, ys, ds, T, bl, rfl, rfl, ha, hb, hx, hy, hl, hd⟩
    · clear hk
      cases hv with
      | non =>
        cases hu
        refine ⟨_, rfl, (by show 2 ≤ sizeLine; decide), fun t ht => ⟨.non, t, _, _, _, false, rfl, upd_same, cls2, .base .non, kit2 (b1 := false) (b2 := false) (by decide +kernel) (by decide +kernel), _, rfl, ifF rfl ?_⟩⟩
        refine ⟨_, rfl, _, rfl, ifT (decide_eq_true rfl) (ifT rfl ?_)⟩
        exact ⟨_, rfl, _, rfl, rfl, _, rfl, ifT (decide_eq_true rfl) ⟨_, rfl, .non, .ty "str", _, _, false, rfl, .ty "str", .base .non, kit_ty (by decide +kernel), _, rfl, .non, .ty "str", _, _, false, rfl, .ty "str", .base .non, kit_ty (by decide +kernel), rfl, q _ (same_new ht)⟩⟩
      | bl b =>
        cases hu
        refine ⟨_, rfl, (by show 2 ≤ sizeLine; decide), fun t ht => ⟨.bl b, t, _, _, _, false, rfl, upd_same, cls2, .base (.bl b), kit2 (b1 := false) (b2 := false) (by decide +kernel) (by decide +kernel), _, rfl, ifF rfl ?_⟩⟩
        refine ⟨_, rfl, _, rfl, ifF (decide_eq_false (fun z => nomatch z)) ⟨_, rfl, .bl b, .ty "str", _, _, false, rfl, .ty "str", .base (.bl b), kit_ty (by decide +kernel), _, rfl, ifF rfl ?_⟩⟩
        refine ⟨_, rfl, .bl b, .ty "int", _, _, true, rfl, .ty "int", .base (.bl b), kit_ty (by decide +kernel), _, rfl, ifT rfl ?_⟩
        refine ⟨_, rfl, .bl b, .ty "bool", _, _, true, rfl, .ty "bool", .base (.bl b), kit_ty (by decide +kernel), _, rfl, .bl b, .ty "bool", _, _, true, rfl, .ty "bool", .base (.bl b), kit_ty (by decide +kernel), rfl, _, rfl, ifT (decide_eq_true rfl) ?_⟩
        refine ⟨_, rfl, _, rfl, rfl, ?_⟩
        rw [decide_eq_true (rfl : V.bl b = V.bl b)]
        exact q _ (same_new ht)
      | int i =>
        cases hu
        refine ⟨_, rfl, (by show 2 ≤ sizeLine; decide), fun t ht => ⟨.int i, t, _, _, _, false, rfl, upd_same, cls2, .base (.int i), kit2 (b1 := false) (b2 := false) (by decide +kernel) (by decide +kernel), _, rfl, ifF rfl ?_⟩⟩
        refine ⟨_, rfl, _, rfl, ifF (decide_eq_false (fun z => nomatch z)) ⟨_, rfl, .int i, .ty "str", _, _, false, rfl, .ty "str", .base (.int i), kit_ty (by decide +kernel), _, rfl, ifF rfl ?_⟩⟩
        refine ⟨_, rfl, .int i, .ty "int", _, _, true, rfl, .ty "int", .base (.int i), kit_ty (by decide +kernel), _, rfl, ifT rfl ?_⟩
        refine ⟨_, rfl, .int i, .ty "bool", _, _, false, rfl, .ty "bool", .base (.int i), kit_ty (by decide +kernel), _, rfl, .int i, .ty "bool", _, _, false, rfl, .ty "bool", .base (.int i), kit_ty (by decide +kernel), rfl, _, rfl, ifT (decide_eq_true rfl) ?_⟩
        refine ⟨_, rfl, _, rfl, rfl, ?_⟩
        rw [decide_eq_true (rfl : V.int i = V.int i)]
        exact q _ (same_new ht)
      | str x =>
        cases hu
        refine ⟨_, rfl, (by show 2 ≤ sizeLine; decide), fun t ht => ⟨.str x, t, _, _, _, false, rfl, upd_same, cls2, .base (.str x), kit2 (b1 := false) (b2 := false) (by decide +kernel) (by decide +kernel), _, rfl, ifF rfl ?_⟩⟩
        refine ⟨_, rfl, _, rfl, ifF (decide_eq_false (fun z => nomatch z)) ⟨_, rfl, .str x, .ty "str", _, _, true, rfl, .ty "str", .base (.str x), kit_ty (by decide +kernel), _, rfl, ifT rfl ?_⟩⟩
        exact ⟨_, rfl, _, rfl, rfl, _, rfl, ifT (decide_eq_true rfl) ⟨_, rfl, .str x, .ty "str", _, _, true, rfl, .ty "str", .base (.str x), kit_ty (by decide +kernel), _, rfl, .str x, .ty "str", _, _, true, rfl, .ty "str", .base (.str x), kit_ty (by decide +kernel), rfl, q _ (same_new ht)⟩⟩
      | lst _ _ => exact hk0.elim
      | tup _ _ => exact hk0.elim
    · have lx : xs.length = ds.length := DpAll.len hx
      have ly : ys.length = ds.length := DpAll.len hy
      refine ⟨_, rfl, (by show 2 ≤ sizeLine; decide), fun t ht => ?_⟩
      have s1 : Same H (upd H t (.tup [.ty "tuple", .ty "list"])) := same_new ht
      have b1 := hb _ s1
      refine ⟨.ref b, t, _, _, _, true, rfl, upd_same, cls2, b1.ty, b1.k1, _, rfl, ifT rfl ?_⟩
      refine ⟨_, rfl, (by show 2 ≤ sizeLine; decide), fun t2 ht2 => ?_⟩
      have s2 := s1.trans (same_new (o := .tup [.ty "tuple", .ty "list"]) ht2)
      have a2 := ha _ s2
      have b2 := hb _ s2
      refine ⟨.ref a, t2, _, _, _, true, rfl, upd_same, cls2, a2.ty, a2.k1, _, rfl, ifF rfl ?_⟩
      refine ⟨_, rfl, .ref a, .ty "list", _, _, bl, rfl, .ty "list", a2.ty, a2.k2, _, rfl, .ref b, .ty "list", _, _, bl, rfl, .ty "list", b2.ty, b2.k2, rfl, _, rfl, ifF (by rw [decide_eq_true (rfl : V.bl bl = V.bl bl)]; rfl) ?_⟩
      refine ⟨_, rfl, a, xs, rfl, a2.sq, _, rfl, b, ys, rfl, b2.sq, rfl, _, rfl, ifF (by rw [lx, ly, decide_eq_true rfl]; rfl) ?_⟩
      refine ⟨_, rfl, b, ys, rfl, b2.sq, _, rfl, by omega, by omega, fun D hD => ?_⟩
      rw [Int.toNat_natCast]
      refine lc_range (lo := 0) (n := ys.length) (fun i H' => Same (upd (upd H t (.tup [.ty "tuple", .ty "list"])) t2 (.tup [.ty "tuple", .ty "list"])) H' ∧ H' D = some (.lst [])) ⟨same_new hD, upd_same⟩ (fun i H' hi h' => ?_) (fun H' h' => ?_)
      · obtain ⟨sm, eD⟩ := h'
        have s3 := s2.trans sm
        obtain ⟨d, hdi⟩ : ∃ d, ds[i]? = some d := ⟨_, List.getElem?_eq_getElem (by omega)⟩
        obtain ⟨x, hxi, hxd⟩ := DpAll.of hx hdi
        obtain ⟨y, hyi, hyd⟩ := DpAll.of hy hdi
        rw [Int.zero_add]
        refine ⟨rfl, _, rfl, _, rfl, ?_⟩
        refine (ha _ s3).ix i x _ hxi ⟨_, rfl, _, rfl, ?_⟩
        refine (hb _ s3).ix i y _ hyi ⟨x, y, d, rfl, Dp.on s3 d x hxd, Dp.on s3 d y hyd, hd d (List.mem_of_getElem? hdi), fun H4 s4 => ⟨_, rfl, ifF rfl ⟨?_, s4 _ _ eD⟩⟩⟩
        exact sm.trans s4
      · obtain ⟨sm, eD⟩ := h'
        refine ⟨Nat.zero_le _, fun z hz => ?_⟩
        refine ⟨_, _, dp_lst (ns := []) (lstAt (same_new hz _ _ eD)), dp_lst (ns := []) (lstAt upd_same), PySem.W.ke_shaped_ints _, PySem.W.ke_shaped_ints _, ?_⟩
        exact q _ (s2.trans (sm.trans (same_new hz)))
end
end RH
set_option Elab.async false
set_option linter.all false
set_option maxRecDepth 100000
set_option maxHeartbeats 2000000
namespace RH
open PySem PySem.Spec PyProof.Rows L2
/-! ### words, what they touch, and what a loss does -/
theorem rg_nd (n : Nat) : (rg n).Nodup := by
  unfold rg
  exact List.Pairwise.map _ (fun a b (e : a ≠ b) => fun z => e (by omega)) List.nodup_range
theorem idx_at {l : List Int} (nd : l.Nodup) {i : Nat} {x : Int} (h : l[i]? = some x) : l.idxOf x = i := by
  obtain ⟨hi, e⟩ := List.getElem?_eq_some_iff.mp h
  subst e
  exact nd.idxOf_getElem i hi
theorem perm_nd {n : Nat} {l : List Int} (h : l.Perm (rg n)) : l.Nodup := h.nodup_iff.mpr (rg_nd n)
theorem perm_len {n : Nat} {l : List Int} (h : l.Perm (rg n)) : l.length = n := by rw [h.length_eq, rg_len]
theorem perm_in {n : Nat} {l : List Int} (h : l.Perm (rg n)) {x : Int} (hx : x ∈ l) : InR n x := rg_mem.mp (h.mem_iff.mp hx)
def stp (h : List (List Int)) (p : Int) (L : List Int) : List Int := L.map (mv h p)
/-- the row of a place -/
theorem Hb.row {n : Nat} {h : List (List Int)} (q : Hb n h) {p : Int} (hp : InR n p) : h.getD p.toNat [] ∈ h := by
  have h1 : p.toNat < h.length := by rw [q.len]; have := hp.1; have := hp.2; omega
  rw [List.getD_eq_getElem?_getD, List.getElem?_eq_getElem h1]
  exact List.getElem_mem h1
theorem Hb.row_eq {n : Nat} {h : List (List Int)} (q : Hb n h) {p : Int} (hp : InR n p) : (rg n).map (mv h p) = h.getD p.toNat [] := by
  have hl := q.short (q.row hp)
  refine List.ext_getElem? fun i => ?_
  rw [List.getElem?_map]
  by_cases hi : i < n
  · rw [rg_at hi]
    show some (mv h p (i : Int)) = _
    unfold mv
    rw [Int.toNat_natCast, List.getD_eq_getElem?_getD (l := h.getD p.toNat []), List.getElem?_eq_getElem (by omega : i < (h.getD p.toNat []).length)]
    rfl
  · rw [List.getElem?_eq_none (by rw [rg_len]; omega), List.getElem?_eq_none (by omega)]
    rfl
theorem Hb.stp_perm {n : Nat} {h : List (List Int)} (q : Hb n h) {p : Int} (hp : InR n p) {L : List Int} (hL : L.Perm (rg n)) : (stp h p L).Perm (rg n) := by
  have h1 : (stp h p L).Perm ((rg n).map (mv h p)) := hL.map _
  rw [q.row_eq hp] at h1
  exact h1.trans (q.perm _ (q.row hp))
/-- a loss that never shows, and behind which all stands as it should -/
def hid (n : Nat) (h : List (List Int)) (ws : List Int) (s : Nat) : Bool := decide (h.getD (ws.getD s 0).toNat [] = rg n)
end RH
set_option Elab.async false
set_option linter.all false
set_option maxRecDepth 100000
set_option maxHeartbeats 2000000
namespace RH
open PySem PySem.Spec PyProof.Rows L2
/-- the permutations found so far -/
def HI (K : PySem.W.Frag) (p g : Addr) (H : Hp) (n i : Nat) (H' : Hp) : Prop := ∃ (xs : List V) (hs : List (List Int)), But p H H' ∧ Row K H' p ∧ H' g = some (.lst xs) ∧ Each (TI K H') xs hs ∧ hs.length = i ∧ ∀ ns ∈ hs, ns.Perm (rg n)
theorem HI.step {K : PySem.W.Frag} {p g : Addr} {H H1 H5 : Hp} {n i : Nat} (h : HI K p g H n i H1) (hg : H g = none) (hpg : p ≠ g) (b : But p H1 H5) (r : Row K H5 p) :
    ∃ xs, H5 g = some (.lst xs) ∧ xs.length = i ∧ ∀ (q : Addr) (ns : List Int) (H6 : Hp), Same H5 H6 → SqT K H6 q (ns.map V.int) → ns.Perm (rg n) → HI K p g H n (i + 1) (upd H6 g (.lst (xs ++ [.ref q]))) := by
  obtain ⟨xs, hs, hB, hR, e, hE, hl, hp⟩ := h
  have e5 := b _ _ e (Ne.symm hpg)
  refine ⟨xs, e5, hE.len.trans hl, fun q ns H6 s6 hq hpm => ⟨xs ++ [.ref q], hs ++ [ns], ?_, ?_, upd_same, ?_, ?_, ?_⟩⟩
  · exact ((hB.trans b).trans (But.same s6)).fresh hg
  · exact (r.same s6).lst_upd (s6 _ _ e5) hpg
  · have f1 : Fix H1 (upd H6 g (.lst (xs ++ [.ref q]))) := (hR.fix b).trans ((Fix.same s6).trans (Fix.lst (s6 _ _ e5)))
    exact Each.snoc ⟨q, rfl, Fix.tups (Fix.lst (s6 _ _ e5)) _ _ hq⟩ (hE.imp fun _ _ z => z.on f1.tups)
  · rw [List.length_append, hl]
    rfl
  · intro ns' hm
    rcases List.mem_append.mp hm with h1 | h1
    · exact hp _ h1
    · rw [List.mem_singleton.mp h1]
      exact hpm
end RH
set_option Elab.async false
set_option linter.all false
set_option maxRecDepth 100000
set_option maxHeartbeats 2000000
namespace RH
open PySem PySem.Spec PyProof.Rows L2
/-! ### the checks of one shelf, a touch -/
section
variable {P : Program} {w : World} {K : PySem.W.Frag} {mg : Str → Option Value} {base : Heap}
def spCheckNumber : Sp := fun vs H Q _ => ∃ i lo hi : Int, vs = [.int i, .int lo, .int hi] ∧ lo ≤ i ∧ i ≤ hi ∧ Q .non H
theorem ok_check_number (F : Df K mg "check_number" st_check_number ["value", "low", "high"]) (C2 : Cal P w K mg base 2 "is_number" spIsNumber) : Cal P w K mg base 3 "check_number" spCheckNumber := by
  refine mkCal F sc_check_number (fun vs H Q E h => ?_) (fun f cdv A outer s H vs Q E hr h => ?_)
  · obtain ⟨i, lo, hi, rfl, _⟩ := h
    rfl
  · obtain ⟨i, lo, hi, rfl, h1, h2, q⟩ := h
    refine ⟨_, pss_one (ps_if (pt_not (pt_val (pc C2 hr (pa_cons (pv 0) (pa_cons (pv 1) (pa_cons (pv 2) pa_nil)))))) (pss_one ps_no) pss_nil), ?_⟩
    exact ⟨_, rfl, _, rfl, _, rfl, i, lo, hi, rfl, _, rfl, ifF (by rw [decide_eq_true h1, decide_eq_true h2]; rfl) q⟩
def spCheckPlaces : Sp := fun vs H Q _ => ∃ n : Nat, vs = [.int n] ∧ 2 ≤ n ∧ n ≤ 5 ∧ Q .non H
theorem ok_check_places (F : Df K mg "check_places" st_check_places ["places"]) (c2 : ∃ t, mg "FEWEST_PLACES" = some (.int 2 t)) (c5 : ∃ t, mg "MOST_PLACES" = some (.int 5 t)) (C3 : Cal P w K mg base 3 "check_number" spCheckNumber) :
    Cal P w K mg base 4 "check_places" spCheckPlaces := by
  refine mkCal F sc_check_places (fun vs H Q E h => ?_) (fun f cdv A outer s H vs Q E hr h => ?_)
  · obtain ⟨n, rfl, _⟩ := h
    rfl
  · obtain ⟨n, rfl, h1, h2, q⟩ := h
    refine ⟨_, pss_one (ps_expr (pc C3 hr (pa_cons (pv 0) (pa_cons (pk c2) (pa_cons (pk c5) pa_nil))))), ?_⟩
    exact ⟨_, rfl, n, 2, 5, rfl, by omega, by omega, q⟩
theorem lay_yes {n : Nat} {L : List Int} (h : L.Perm (rg n)) : isLay n L = true := by
  unfold isLay
  exact List.isPerm_iff.mpr h
def spCheckHabit (K : PySem.W.Frag) : Sp := fun vs H Q _ => ∃ (v : V) (h : List (List Int)) (n : Nat), vs = [v] ∧ TII K H v h ∧ Hb n h ∧ ∀ H', Same H H' → Q .non H'
theorem ok_check_habit (F : Df K mg "check_habit" st_check_habit ["habit"]) (B : Bu mg) (c2 : ∃ t, mg "FEWEST_PLACES" = some (.int 2 t)) (c5 : ∃ t, mg "MOST_PLACES" = some (.int 5 t))
    (C1 : Cal P w K mg base 1 "is_row" (spIsRow K)) (C5 : Cal P w K mg base 5 "is_layout" (spIsLayout K)) : Cal P w K mg base 6 "check_habit" (spCheckHabit K) := by
  refine mkCal F sc_check_habit (fun vs H Q E h => ?_) (fun f cdv A outer s H vs Q E hr h => ?_)
  · obtain ⟨v, h, n, rfl, _⟩ := h
    rfl
  · obtain ⟨v, h, n, rfl, ⟨a, xs, rfl, hS, hE⟩, hb, q⟩ := h
    have hxl : xs.length = n := hE.len.trans hb.len
    have n2 := hb.lo
    have n5 := hb.hi
    refine ⟨_, pss_cons (ps_if (pt_not (pt_val (pc C1 hr (pa_cons (pv 0) (pa_cons (pk c2) (pa_cons (pk c5) pa_nil)))))) (pss_one ps_no) pss_nil)
      (pss_one (ps_for PassesOwn.never rfl (pi_enumT (by rfl) B.enumerate (pa_cons (pv 0) pa_nil)) (pg_tup rfl (pgs_cons (pg_name (i := 1) sc_check_habit.nd rfl (.inl rfl)) (pgs_cons (pg_name (i := 2) sc_check_habit.nd rfl (.inl rfl)) pgs_nil)))
        (pss_one (ps_if (pt_not (pt_val (pc C5 hr (pa_cons (pv 2) (pa_cons (pe_callB (cl_len K) (by rfl) B.len PySem.boot_len (pa_cons (pv 0) pa_nil)) pa_nil))))) (pss_one ps_no) pss_nil)))), ?_⟩
    refine ⟨_, rfl, a, xs, 2, 5, rfl, hS, _, rfl, ifF ?_ ?_⟩
    · rw [hxl, decide_eq_true (by omega), decide_eq_true (by omega)]
      rfl
    refine ⟨_, rfl, a, xs, rfl, hS, ?_⟩
    refine for_enumT (xs := xs) (fun i σ H' => Same H H' ∧ ∃ y1 y2, σ = [some (.ref a), y1, y2]) ⟨Same.refl H, none, none, rfl⟩ (fun i σ H' h' => onT h'.1 hS) (fun i x T σ H' hx h' hT => ?_) (fun σ H' h' => q H' h'.1)
    obtain ⟨sm, y1, y2, rfl⟩ := h'
    obtain ⟨ns, hn, hTx⟩ := hE.at hx
    have hpm := hb.perm ns (List.mem_of_getElem? hn)
    have sT : Same H (upd H' T (.tup [.int (i : Nat), x])) := sm.trans (same_new hT)
    refine ⟨T, _, rfl, tupAt upd_same, rfl, _, _, rfl, _, _, rfl, rfl, _, rfl, _, rfl, a, xs, rfl, .inr (onT sT hS), x, ns, n, by rw [hxl]; rfl, hTx.on (fun _ _ z => onT sT z), by rw [perm_len hpm]; omega, by omega, fun H3 sm3 => ⟨_, rfl, ifF (by rw [lay_yes hpm]; rfl) ⟨sT.trans sm3, _, _, rfl⟩⟩⟩
def spMove (K : PySem.W.Frag) : Sp := fun vs H Q _ => ∃ (v : V) (h : List (List Int)) (n : Nat) (a : Addr) (L : List Int) (p : Int), vs = [v, .ref a, .int p] ∧ TII K H v h ∧ Hb n h ∧ SqT K H a (L.map V.int) ∧ (∀ i ∈ L, InR n i) ∧ L.length ≤ 1000 ∧ InR n p ∧
  ∀ H' q, Same H H' → H q = none → FT H' q (stp h p L) → Q (.ref q) H'
theorem ok_move (F : Df K mg "move" st_move ["habit", "layout", "place"]) (B : Bu mg) : Cal P w K mg base 1 "move" (spMove K) := by
  refine mkCal F sc_move (fun vs H Q E h => ?_) (fun f cdv A outer s H vs Q E hr h => ?_)
  · obtain ⟨v, h, n, a, L, p, rfl, _⟩ := h
    rfl
  · obtain ⟨v, h, n, a, L, p, rfl, ⟨ah, xs, rfl, hS, hE⟩, hb, hL, hin, hlen, hp, q⟩ := h
    refine ⟨_, pss_cons (ps_set (i := 3) sc_move.nd rfl (.inr rfl) (pe_ix ix_tup (pv 0) (pv 2) (fun _ _ => rfl)))
      (pss_one (ps_ret (pe_tupleF (by rfl) B.tuple (pe_lc (own := [("stood", 4)]) (g := gName 4) (tt := tYes) rfl sc_move.nd (pi_tup (pv 1)) (blkOk_by (N := ["habit", "layout", "place", "moves", "stood"]) (sc := defScope st_move) (by decide +kernel))
        (fun _ _ _ _ _ => pg_name (i := 4) sc_move.nd rfl (Or.inl rfl)) (fun _ _ _ _ _ => pts_nil) (fun _ _ _ _ _ => pe_ix (ixT K) (pv 3) (pv 4) (fun _ _ => rfl)))))), ?_⟩
    obtain ⟨a1, ns1, e1, s1, _⟩ := ix2 hE hb hp hp
    refine ⟨_, rfl, _, rfl, ah, xs, p, _, rfl, rfl, hS, e1, ?_⟩
    refine ⟨_, rfl, a, rfl, ⟨_, hL⟩, fun D hD => ?_⟩
    refine lc_tup (xs := L.map V.int) (fun i H' => Same H H' ∧ H' D = some (.lst (((L.take i).map (mv h p)).map V.int))) ⟨same_new hD, upd_same⟩ (fun i H' _ h' => onT h'.1 hL) (fun i x H' hx h' => ?_) (fun H' h' => ?_)
    · obtain ⟨st, hst, rfl⟩ := map_at hx
      obtain ⟨sm, eD⟩ := h'
      obtain ⟨a2, ns2, e2, s2, e3⟩ := ix2 hE hb hp (hin st (List.mem_of_getElem? hst))
      rw [e1] at e2
      cases e2
      refine ⟨rfl, _, rfl, _, rfl, a1, _, st, _, rfl, rfl, onT sm s2, e3, _, eD, ?_, ?_, ?_⟩
      · rw [List.length_map, List.length_map, List.length_take]
        exact small1000 (by omega)
      · intro b o e
        rw [upd_ne (ne_of_none e hD)]
        exact sm b o e
      · rw [upd_same, take_more hst, List.map_append, List.map_append]
        rfl
    · obtain ⟨sm, eD⟩ := h'
      rw [List.length_map, List.take_length] at eD
      refine ⟨D, _, rfl, lstAt eD, fun t ob ht hob => q _ t (sm.trans (same_new ht)) ?_ ⟨ob, upd_same, hob⟩⟩
      cases e : H t with
      | none => rfl
      | some o =>
        rw [sm _ _ e] at ht
        cases ht
end
end RH
set_option Elab.async false
set_option linter.all false
set_option maxRecDepth 100000
set_option maxHeartbeats 2000000
namespace RH
open PySem PySem.Spec PyProof.Rows L2
/-! ### what the program tells of words -/
theorem sameU {H H' : Hp} {p : Addr} {o : HO} (a : Same H H') (h : H p = none) : Same H (upd H' p o) := fun b u e => by
  rw [upd_ne (ne_of_none e h)]
  exact a b u e
theorem none_of {H H' : Hp} {p : Addr} (a : Same H H') (h : H' p = none) : H p = none := by
  cases e : H p with
  | none => rfl
  | some o =>
    rw [a _ _ e] at h
    cases h
theorem FT.same {H H' : Hp} {b : Addr} {s : List Int} (e : Same H H') (h : FT H b s) : FT H' b s := let ⟨ob, h1, h2⟩ := h; ⟨ob, e _ _ h1, h2⟩
theorem FT.fix {H H' : Hp} {b : Addr} {s : List Int} (f : Fix H H') (h : FT H b s) : FT H' b s := let ⟨ob, h1, h2⟩ := h; ⟨ob, f _ _ h1 (fun xs z => nomatch z), h2⟩
theorem FT.sq {K : PySem.W.Frag} {H : Hp} {b : Addr} {s : List Int} (h : FT H b s) : SqT K H b (s.map V.int) := .inl h.kx
section
variable {P : Program} {w : World} {K : PySem.W.Frag} {mg : Str → Option Value} {base : Heap}
/-- a habit, a layout and a word of n places -/
structure HLW (K : PySem.W.Frag) (H : Hp) (v : V) (h : List (List Int)) (n : Nat) (a : Addr) (L : List Int) (wv : V) (ws : List Int) : Prop where
  hT : TII K H v h
  hb : Hb n h
  fL : FT H a L
  hL : L.Perm (rg n)
  hW : TI K H wv ws
  hw : ∀ t ∈ ws, InR n t
  len : ws.length ≤ 400
theorem HLW.same {K : PySem.W.Frag} {H H' : Hp} {v : V} {h : List (List Int)} {n : Nat} {a : Addr} {L : List Int} {wv : V} {ws : List Int} (g : HLW K H v h n a L wv ws) (s : Same H H') : HLW K H' v h n a L wv ws :=
  ⟨g.hT.on (Same.tups s), g.hb, g.fL.same s, g.hL, g.hW.on (Same.tups s), g.hw, g.len⟩
theorem HLW.fix {K : PySem.W.Frag} {H H' : Hp} {v : V} {h : List (List Int)} {n : Nat} {a : Addr} {L : List Int} {wv : V} {ws : List Int} (g : HLW K H v h n a L wv ws) (s : Fix H H') : HLW K H' v h n a L wv ws :=
  ⟨g.hT.on s.tups, g.hb, g.fL.fix s, g.hL, g.hW.on s.tups, g.hw, g.len⟩
end
end RH
set_option Elab.async false
set_option linter.all false
set_option maxRecDepth 100000
set_option maxHeartbeats 2000000
namespace RH
open PySem PySem.Spec PyProof.Rows L2
/-! ### the law's own touches and books -/
theorem catT_ok {K : PySem.W.Frag} {H : Hp} {a b : Addr} {xs ys : List V} {Q : VK} (ha : SqT K H a xs) (hb : SqT K H b ys) (hl : xs.length + ys.length ≤ 1000) (q : ∀ r H', Same H H' → SqT K H' r (xs ++ ys) → Q (.ref r) H') : rCatA K (.ref a) (.ref b) H Q := by
  refine ⟨a, b, xs, ys, rfl, rfl, ha, hb, Nat.le_of_lt (small1000 hl), fun e => ?_, fun _ e => ?_, fun _ _ p hp => q p _ (same_new hp) (tupAt upd_same)⟩
  · subst e
    exact q b H (Same.refl H) hb
  · subst e
    exact q a H (Same.refl H) (by rw [List.append_nil]; exact ha)
theorem okD_ints (ns : List Int) (h : ns.length ≤ 1000) : okD 1 (.tuple (ns.map PyData.int)) := by
  refine ⟨by rw [List.length_map]; exact h, fun d hd => ?_⟩
  obtain ⟨i, _, rfl⟩ := List.mem_map.mp hd
  exact True.intro
section
variable {P : Program} {w : World} {K : PySem.W.Frag} {mg : Str → Option Value} {base : Heap}
theorem ok_ltouch (F : Df K mg "_law_touch" st__law_touch ["habit", "layout", "place"]) (B : Bu mg) : Cal P w K mg base 1 "_law_touch" (spMove K) := by
  refine mkCal F sc__law_touch (fun vs H Q E h => ?_) (fun f cdv A outer s H vs Q E hr h => ?_)
  · obtain ⟨v, h, n, a, L, p, rfl, _⟩ := h
    rfl
  · obtain ⟨v, h, n, a, L, p, rfl, ⟨ah, xs, rfl, hS, hE⟩, hb, hL, hin, hlen, hp, q⟩ := h
    refine ⟨_, pss_one (ps_ret (pe_tupleF (by rfl) B.tuple (pe_lc (own := [("stands", 3)]) (g := gName 3) (tt := tYes) rfl sc__law_touch.nd (pi_tup (pv 1)) (blkOk_by (N := ["habit", "layout", "place", "stands"]) (sc := defScope st__law_touch) (by decide +kernel))
        (fun _ _ _ _ _ => pg_name (i := 3) sc__law_touch.nd rfl (Or.inl rfl)) (fun _ _ _ _ _ => pts_nil) (fun _ _ _ _ _ => pe_ix (ixT K) (pe_ix (ixT K) (pv 0) (pv 2) (fun _ _ => rfl)) (pv 3) (fun _ _ => rfl))))), ?_⟩
    refine ⟨_, rfl, a, rfl, ⟨_, hL⟩, fun D hD => ?_⟩
    refine lc_tup (xs := L.map V.int) (fun i H' => Same H H' ∧ H' D = some (.lst (((L.take i).map (mv h p)).map V.int))) ⟨same_new hD, upd_same⟩ (fun i H' _ h' => onT h'.1 hL) (fun i x H' hx h' => ?_) (fun H' h' => ?_)
    · obtain ⟨st, hst, rfl⟩ := map_at hx
      obtain ⟨sm, eD⟩ := h'
      obtain ⟨a2, ns2, e2, s2, e3⟩ := ix2 hE hb hp (hin st (List.mem_of_getElem? hst))
      refine ⟨rfl, _, rfl, _, rfl, ah, xs, p, _, rfl, rfl, onT sm hS, e2, _, rfl, a2, _, st, _, rfl, rfl, onT sm s2, e3, _, eD, ?_, ?_, ?_⟩
      · rw [List.length_map, List.length_map, List.length_take]
        exact small1000 (by omega)
      · exact sameU sm hD
      · rw [upd_same, take_more hst, List.map_append, List.map_append]
        rfl
    · obtain ⟨sm, eD⟩ := h'
      rw [List.length_map, List.take_length] at eD
      exact ⟨D, _, rfl, lstAt eD, fun t ob ht hob => q _ t (sm.trans (same_new ht)) (none_of sm ht) ⟨ob, upd_same, hob⟩⟩
end
end RH
set_option Elab.async false
set_option linter.all false
set_option maxRecDepth 100000
set_option maxHeartbeats 2000000
namespace RH
open PySem PySem.Spec PyProof.Rows L2
/-! ### a search level by level, with words -/
abbrev SW := List Int × List Int
def exq (h : List (List Int)) (n : Nat) (q : SW) : List SW := (rg n).map fun p => (stp h p q.1, q.2 ++ [p])
def exl (h : List (List Int)) (n : Nat) (l : List SW) : List SW := l.flatMap (exq h n)
/-- those that are new: in no state of F, nor ahead -/
def ddS (F : List (List Int)) (acc : List SW) (q : SW) : List SW := if q.1 ∈ F ∨ q.1 ∈ acc.map Prod.fst then acc else acc ++ [q]
def dd (F : List (List Int)) (l : List SW) : List SW := l.foldl (ddS F) []
theorem dd_app (F : List (List Int)) (l m : List SW) : dd F (l ++ m) = m.foldl (ddS F) (dd F l) := List.foldl_append ..
theorem dd_snoc (F : List (List Int)) (l : List SW) (q : SW) : dd F (l ++ [q]) = ddS F (dd F l) q := dd_app F l [q]
theorem nd_one {α : Type} (a : α) : [a].Nodup := List.nodup_cons.mpr ⟨List.not_mem_nil, List.nodup_nil⟩
theorem snoc_ind {α : Type} {P : List α → Prop} (h0 : P []) (hs : ∀ l q, P l → P (l ++ [q])) : ∀ l, P l := by
  have : ∀ r : List α, P r.reverse := fun r => by
    induction r with
    | nil => exact h0
    | cons a r ih =>
      rw [List.reverse_cons]
      exact hs _ _ ih
  intro l
  have := this l.reverse
  rwa [List.reverse_reverse] at this
theorem ddS_in {F : List (List Int)} {acc : List SW} {q : SW} (h : q.1 ∈ F ∨ q.1 ∈ acc.map Prod.fst) : ddS F acc q = acc := if_pos h
theorem ddS_new {F : List (List Int)} {acc : List SW} {q : SW} (h : ¬ (q.1 ∈ F ∨ q.1 ∈ acc.map Prod.fst)) : ddS F acc q = acc ++ [q] := if_neg h
theorem dd_has (F : List (List Int)) : ∀ l : List SW, ∀ q ∈ l, q.1 ∈ F ∨ q.1 ∈ (dd F l).map Prod.fst := by
  refine snoc_ind (fun q hq => nomatch hq) fun l x ih q hq => ?_
  rw [dd_snoc]
  rcases List.mem_append.mp hq with z | z
  · rcases ih q z with y | y
    · exact .inl y
    · refine .inr ?_
      unfold ddS
      split
      · exact y
      · rw [List.map_append]
        exact List.mem_append_left _ y
  · rw [List.mem_singleton.mp z]
    by_cases hx : x.1 ∈ F ∨ x.1 ∈ (dd F l).map Prod.fst
    · rw [ddS_in hx]
      exact hx
    · rw [ddS_new hx, List.map_append]
      exact .inr (List.mem_append_right _ (List.mem_singleton.mpr rfl))
structure DdOk (F : List (List Int)) (l d : List SW) : Prop where
  sub : ∀ q ∈ d, q ∈ l
  new : ∀ q ∈ d, q.1 ∉ F
  nd : (d.map Prod.fst).Nodup
theorem dd_ok (F : List (List Int)) : ∀ l : List SW, DdOk F l (dd F l) := by
  refine snoc_ind ⟨fun q hq => (nomatch hq), fun q hq => (nomatch hq), List.nodup_nil⟩ fun l x ih => ?_
  rw [dd_snoc]
  by_cases hx : x.1 ∈ F ∨ x.1 ∈ (dd F l).map Prod.fst
  · rw [ddS_in hx]
    exact ⟨fun q hq => List.mem_append_left _ (ih.sub q hq), ih.new, ih.nd⟩
  · rw [ddS_new hx]
    refine ⟨fun q hq => ?_, fun q hq => ?_, ?_⟩
    · rcases List.mem_append.mp hq with z | z
      · exact List.mem_append_left _ (ih.sub q z)
      · exact List.mem_append_right _ z
    · rcases List.mem_append.mp hq with z | z
      · exact ih.new q z
      · rw [List.mem_singleton.mp z]
        exact fun y => hx (.inl y)
    · rw [List.map_append, List.nodup_append]
      refine ⟨ih.nd, nd_one _, fun a ha b hb e => ?_⟩
      rw [List.map_singleton, List.mem_singleton] at hb
      rw [e, hb] at ha
      exact hx (.inr ha)
/-- what is found, and the level, behind k levels -/
def bf (h : List (List Int)) (n : Nat) (L : List Int) : Nat → List SW × List SW
  | 0 => ([(L, [])], [(L, [])])
  | k + 1 => ((bf h n L k).1 ++ dd ((bf h n L k).1.map Prod.fst) (exl h n (bf h n L k).2), dd ((bf h n L k).1.map Prod.fst) (exl h n (bf h n L k).2))
def fd (h : List (List Int)) (n : Nat) (L : List Int) (k : Nat) : List SW := (bf h n L k).1
def lv (h : List (List Int)) (n : Nat) (L : List Int) (k : Nat) : List SW := (bf h n L k).2
def lst (h : List (List Int)) (n : Nat) (L : List Int) : Nat → List SW
  | 0 => [(L, [])]
  | k + 1 => dd [] (exl h n (lst h n L k))
section
variable {h : List (List Int)} {n : Nat} {L : List Int}
theorem fd_succ (k : Nat) : fd h n L (k + 1) = fd h n L k ++ lv h n L (k + 1) := rfl
theorem fd_mono {k j : Nat} (hk : k ≤ j) {q : SW} (hq : q ∈ fd h n L k) : q ∈ fd h n L j := by
  induction hk with
  | refl => exact hq
  | step _ ih => exact List.mem_append_left _ ih
theorem lv_fd {k : Nat} {q : SW} (hq : q ∈ lv h n L k) : q ∈ fd h n L k := by
  cases k with
  | zero => exact hq
  | succ k => exact List.mem_append_right _ hq
theorem lv_ex {k : Nat} {q : SW} (hq : q ∈ lv h n L k) {p : Int} (hp : p ∈ rg n) : stp h p q.1 ∈ (fd h n L (k + 1)).map Prod.fst := by
  have hm : (stp h p q.1, q.2 ++ [p]) ∈ exl h n (lv h n L k) := List.mem_flatMap.mpr ⟨q, hq, List.mem_map.mpr ⟨p, hp, rfl⟩⟩
  rw [fd_succ, List.map_append, List.mem_append]
  exact dd_has _ _ _ hm
theorem fd_ex {q : SW} {p : Int} (hp : p ∈ rg n) : ∀ {k : Nat}, q ∈ fd h n L k → stp h p q.1 ∈ (fd h n L (k + 1)).map Prod.fst
  | 0, hq => lv_ex (k := 0) hq hp
  | k + 1, hq => by
    rw [fd_succ, List.mem_append] at hq
    rcases hq with hq | hq
    · have := fd_ex hp hq
      rw [fd_succ (k + 1), List.map_append, List.mem_append]
      exact .inl this
    · exact lv_ex hq hp
theorem fd_start (k : Nat) : (L, []) ∈ fd h n L k := fd_mono (Nat.zero_le k) (List.mem_singleton.mpr rfl)
theorem fd_least {C : List Int → Prop} (h0 : C L) (hs : ∀ s, C s → ∀ p ∈ rg n, C (stp h p s)) : ∀ k : Nat, ∀ q ∈ fd h n L k, C q.1
  | 0, q, hq => by
    rw [List.mem_singleton.mp hq]
    exact h0
  | k + 1, q, hq => by
    rw [fd_succ, List.mem_append] at hq
    rcases hq with hq | hq
    · exact fd_least h0 hs k q hq
    · have := (dd_ok _ _).sub q hq
      obtain ⟨x, hx, hq⟩ := List.mem_flatMap.mp this
      obtain ⟨p, hp, rfl⟩ := List.mem_map.mp hq
      exact hs _ (fd_least h0 hs k x (lv_fd hx)) p hp
end
/-! ### layouts are few, and touches lead back -/
theorem nd_len {α : Type} [DecidableEq α] : ∀ {l m : List α}, l.Nodup → (∀ x ∈ l, x ∈ m) → l.length ≤ m.length
  | [], _, _, _ => Nat.zero_le _
  | a :: l, m, nd, hs => by
    rw [List.nodup_cons] at nd
    have ha := hs a (List.mem_cons_self ..)
    have := nd_len (l := l) (m := m.erase a) nd.2 fun x hx => (List.mem_erase_of_ne (fun e => nd.1 (by rw [← e]; exact hx))).mpr (hs x (List.mem_cons_of_mem _ hx))
    rw [List.length_erase_of_mem ha] at this
    have hm := List.length_pos_of_mem ha
    rw [List.length_cons]
    omega
section
variable {h : List (List Int)} {n : Nat} {L : List Int}
theorem Hb.fd_perm (q : Hb n h) (hL : L.Perm (rg n)) (k : Nat) : ∀ x ∈ fd h n L k, x.1.Perm (rg n) :=
  fd_least (C := fun s => s.Perm (rg n)) hL (fun s hs p hp => q.stp_perm (rg_mem.mp hp) hs) k
end
/-! ### within a level -/
def insE (a : Int) : List Int → List (List Int)
  | [] => [[a]]
  | b :: l => (a :: b :: l) :: (insE a l).map (b :: ·)
def prm : List Int → List (List Int)
  | [] => [[]]
  | a :: l => (prm l).flatMap (insE a)
theorem insE_perm {a : Int} : ∀ {l s : List Int}, s ∈ insE a l → s.Perm (a :: l)
  | [], s, h => by
    rw [List.mem_singleton.mp h]
  | b :: l, s, h => by
    rcases List.mem_cons.mp h with rfl | h
    · exact List.Perm.refl _
    · obtain ⟨t, ht, rfl⟩ := List.mem_map.mp h
      exact ((insE_perm ht).cons b).trans (List.Perm.swap ..)
theorem mem_insE {a : Int} : ∀ (s1 s2 : List Int), s1 ++ a :: s2 ∈ insE a (s1 ++ s2)
  | [], [] => List.mem_singleton.mpr rfl
  | [], b :: l => List.mem_cons_self ..
  | b :: s1, s2 => List.mem_cons_of_mem _ (List.mem_map.mpr ⟨_, mem_insE s1 s2, rfl⟩)
theorem mem_prm : ∀ {l s : List Int}, s ∈ prm l ↔ s.Perm l
  | [], s => by
    constructor
    · intro h
      rw [List.mem_singleton.mp h]
    · intro h
      rw [List.perm_nil.mp h]
      exact List.mem_singleton.mpr rfl
  | a :: l, s => by
    constructor
    · intro h
      obtain ⟨t, ht, hs⟩ := List.mem_flatMap.mp h
      exact (insE_perm hs).trans ((mem_prm.mp ht).cons a)
    · intro h
      have ha : a ∈ s := h.mem_iff.mpr (List.mem_cons_self ..)
      obtain ⟨s1, s2, rfl⟩ := List.append_of_mem ha
      have h2 : (s1 ++ s2).Perm l := (List.perm_middle.symm.trans h).cons_inv
      exact List.mem_flatMap.mpr ⟨_, mem_prm.mpr h2, mem_insE s1 s2⟩
theorem prm_few : ∀ n, n < 6 → (prm (rg n)).length ≤ 120 := by decide +kernel
section
variable {h : List (List Int)} {n : Nat} {L : List Int}
theorem few {l : List SW} (n5 : n ≤ 5) (nd : (l.map Prod.fst).Nodup) (hp : ∀ x ∈ l, x.1.Perm (rg n)) : l.length ≤ 120 := by
  have := nd_len nd (m := prm (rg n)) fun s hs => by
    obtain ⟨x, hx, rfl⟩ := List.mem_map.mp hs
    exact mem_prm.mpr (hp x hx)
  rw [List.length_map] at this
  exact Nat.le_trans this (prm_few n (by omega))
end
end RH
set_option Elab.async false
set_option linter.all false
set_option maxRecDepth 100000
set_option maxHeartbeats 2000000
namespace RH
open PySem PySem.Spec PyProof.Rows L2
/-! ### shelves beside each other: orders multiply -/
section
variable {h o : List (List Int)} {m n : Nat}
theorem stp_perm2 (hh : Hb m h) {p : Int} (hp : p ∈ rg m) {a : List Int} (ha : a.Perm (rg m)) : (stp h p a).Perm (rg m) := by
  obtain ⟨q, hq, e⟩ := List.mem_map.mp (fd_ex (h := h) (n := m) (L := a) hp (fd_start 0))
  have := hh.fd_perm (L := a) ha 1 q hq
  rw [e] at this
  exact this
end
end RH
set_option Elab.async false
set_option linter.all false
set_option maxRecDepth 100000
set_option maxHeartbeats 2000000
namespace RH
open PySem PySem.Spec PyProof.Rows L2
/-! ### a shelf with other names has the same order -/
/-- where the numbers of an order stand -/
def invR (o : List Int) : List Int := (List.range o.length).map fun i : Nat => ((o.idxOf (i : Int) : Nat) : Int)
end RH
set_option Elab.async false
set_option linter.all false
set_option maxRecDepth 100000
set_option maxHeartbeats 2000000
namespace RH
open PySem PySem.Spec PyProof.Rows L2
/-! ### defs that may raise; checks of values of many kinds -/
structure CalX (P : Program) (w : World) (K : PySem.W.Frag) (mg : Str → Option Value) (base : Heap) (k : Nat) (x : Str) (sp : Sp) : Prop where
  ex : ∃ (f : Addr) (fd : FuncData) (ps : List Str), FnOk P w K mg base (L2.CX P w) k f fd ps sp ∧ mg x = some (.ref f) ∧ PySem.W.keepIn K (.ref f) = true ∧ Binds K fd ps []
/-- an own error without an __init__ -/
structure ExO (K : PySem.W.Frag) (mg : Str → Option Value) (x : Str) (C : Addr) : Prop where
  q : PySem.W.excIn K C [.type "ValueError", .type "Exception", .type "BaseException", .type "object"] "ValueError.__new__" = true
  g : mg x = some (.ref C)
  k : PySem.W.keepIn K (.ref C) = true
  b : PySem.W.subIn K (.ref C) (.type "BaseException") = some true
  t : PySem.W.typeIn K (.ref C) = some (.type "type")
section
variable {P : Program} {w : World} {K : PySem.W.Frag} {mg : Str → Option Value} {base : Heap}
theorem mkCalX {x : Str} {st : Stmt} {N ps : List Str} {k : Nat} {sp : Sp} (F : Df K mg x st ps) (S : FnScope N ps (defScope st)) (len : ∀ vs H Q E, sp vs H Q E → vs.length = ps.length)
    (hbody : ∀ (f : Addr) (cdv : Value) (A : Around) (outer : List Env) (s : Shared) (H : Hp) (vs : List V) (Q : VK) (E : XK), Room k (A.deeper (envOfC x (defScope st) s.heap.objs.size f cdv)) → sp vs H Q E →
      ∃ t, PSs (cxOf (L2.CX P w) P w K mg base N x (defScope st) f cdv A outer s H E) (defBody st) t ∧ t { nx := fun _ H' => Q .non H', rt := Q } (start N vs) H) : CalX P w K mg base (k + 1) x sp := by
  obtain ⟨f, fd, F, g, b⟩ := F.ex
  exact ⟨f, fd, ps, F.okX S len (hbody f), g, F.kp, b⟩
end
theorem pcX {X : Cx} {k j : Nat} {x : Str} {sp : Sp} {E : XK} {p pos : Pos} {e : Expr} {es : List Expr} {t : TA} (c : CalX X.prog X.w X.K X.mg X.base k x sp) (hx : Passes (L2.CX X.prog X.w) X E) (hr : Room j X.A) (ha : PA X (e :: es) t) (hk : k ≤ j := by decide) (hg : Gl X x := by rfl)
    (hdb : (x == ("__debug__" : Str)) = false := by decide) (he : starEach (e :: es) X.env = (false, eval e X.env) :: starEach es X.env := by rfl) (hpl : (backTo pos (starEach es X.env)).any (·.1) = false := by rfl) :
    PE X (.Call (.Name x p) (e :: es) [] pos) (tCall sp [] E t) := by
  obtain ⟨f, fd, ps, F, hm, kp, b⟩ := c.ex
  exact pe_call F (hr.mono hk) hg hm kp b .nil hx ha hdb he hpl
/-- a value of any kind -/
inductive Sw (K : PySem.W.Frag) (H : Hp) : V → Prop
  | int (i : Int) : Sw K H (.int i)
  | bl (b : Bool) : Sw K H (.bl b)
  | non : Sw K H .non
  | str (s : Str) : Sw K H (.str s)
  | tup {a : Addr} {xs : List V} : SqT K H a xs → Sw K H (.ref a)
  | lst {a : Addr} {xs : List V} : SqL K H a xs → Sw K H (.ref a)
def isI : V → Bool
  | .int _ => true
  | _ => false
def inV2 (lo hi : Int) : V → Bool
  | .int i => decide (lo ≤ i) && decide (i ≤ hi)
  | _ => false
section
variable {P : Program} {w : World} {K : PySem.W.Frag} {mg : Str → Option Value} {base : Heap}
theorem Sw.on {H H' : Hp} {v : V} (e : Same H H') (h : Sw K H v) : Sw K H' v := by
  cases h with
  | int i => exact .int i
  | bl b => exact .bl b
  | non => exact .non
  | str s => exact .str s
  | tup h => exact .tup (onT e h)
  | lst h => exact .lst (e.seq h)
def spIsIntegerW (K : PySem.W.Frag) : Sp := fun vs H Q _ => ∃ v, vs = [v] ∧ Sw K H v ∧ Q (.bl (isI v)) H
theorem ok_is_integerW (F : Df K mg "is_integer" st_is_integer ["value"]) (B : Bu mg) : Cal P w K mg base 1 "is_integer" (spIsIntegerW K) := by
  refine mkCal F sc_is_integer (fun vs H Q E h => ?_) (fun f cdv A outer s H vs Q E hr h => ?_)
  · obtain ⟨v, rfl, _⟩ := h
    rfl
  · obtain ⟨v, rfl, hv, q⟩ := h
    refine ⟨_, pss_one (ps_ret (pe_and (pe_callB call_isi (by rfl) B.isi (by decide +kernel) (pa_cons (pv 0) (pa_cons (pe_bltn (v := .ty "int") (by rfl) B.int (by decide +kernel) rfl) pa_nil)))
      (pe_one (pe_not (pe_callB call_isi (by rfl) B.isi (by decide +kernel) (pa_cons (pv 0) (pa_cons (pe_bltn (v := .ty "bool") (by rfl) B.bool (by decide +kernel) rfl) pa_nil))))))), ?_⟩
    cases hv with
    | int i => exact ⟨_, rfl, .int i, .ty "int", _, _, true, rfl, .ty "int", .base (.int i), kit_ty (by decide +kernel), true, rfl, _, rfl, .int i, .ty "bool", _, _, false, rfl, .ty "bool", .base (.int i), kit_ty (by decide +kernel), false, rfl, q⟩
    | bl b => exact ⟨_, rfl, .bl b, .ty "int", _, _, true, rfl, .ty "int", .base (.bl b), kit_ty (by decide +kernel), true, rfl, _, rfl, .bl b, .ty "bool", _, _, true, rfl, .ty "bool", .base (.bl b), kit_ty (by decide +kernel), true, rfl, q⟩
    | non => exact ⟨_, rfl, .non, .ty "int", _, _, false, rfl, .ty "int", .base .non, kit_ty (by decide +kernel), false, rfl, q⟩
    | str z => exact ⟨_, rfl, .str z, .ty "int", _, _, false, rfl, .ty "int", .base (.str z), kit_ty (by decide +kernel), false, rfl, q⟩
    | @tup a xs h => exact ⟨_, rfl, .ref a, .ty "int", _, _, false, rfl, .ty "int", ty_tup h, kit_ty (by decide +kernel), false, rfl, q⟩
    | @lst a xs h => exact ⟨_, rfl, .ref a, .ty "int", _, _, false, rfl, .ty "int", ty_lst h, kit_ty (by decide +kernel), false, rfl, q⟩
def spIsNumberW (K : PySem.W.Frag) : Sp := fun vs H Q _ => ∃ (v : V) (lo hi : Int), vs = [v, .int lo, .int hi] ∧ Sw K H v ∧ Q (.bl (inV2 lo hi v)) H
theorem inV2_no {lo hi : Int} {v : V} (h : isI v = false) : inV2 lo hi v = false := by
  cases v <;> first | rfl | (cases h)
theorem isI_yes {v : V} (h : isI v = true) : ∃ i, v = .int i := by
  cases v <;> first | exact ⟨_, rfl⟩ | (cases h)
theorem ok_is_numberW (F : Df K mg "is_number" st_is_number ["value", "low", "high"]) (C1 : Cal P w K mg base 1 "is_integer" (spIsIntegerW K)) : Cal P w K mg base 2 "is_number" (spIsNumberW K) := by
  refine mkCal F sc_is_number (fun vs H Q E h => ?_) (fun f cdv A outer s H vs Q E hr h => ?_)
  · obtain ⟨v, lo, hi, rfl, _⟩ := h
    rfl
  · obtain ⟨v, lo, hi, rfl, hv, q⟩ := h
    refine ⟨_, pss_one (ps_ret (pe_and (pc C1 hr (pa_cons (pv 0) pa_nil)) (pe_one (pe_chain op_le op_le (pv 1) (pv 0) (pv 2))))), ?_⟩
    refine ⟨_, rfl, v, rfl, hv, ?_⟩
    cases ei : isI v with
    | true =>
      obtain ⟨i, rfl⟩ := isI_yes ei
      refine ⟨true, rfl, _, rfl, _, rfl, lo, i, rfl, rfl, _, rfl, ite2 (fun e => ?_) (fun e => ?_)⟩
      · refine ⟨_, rfl, i, hi, rfl, rfl, ?_⟩
        have q : Q (.bl (decide (lo ≤ i) && decide (i ≤ hi))) H := q
        rw [e, Bool.true_and] at q
        exact q
      · have e' : decide (lo ≤ i) = false := by simpa using e
        have q : Q (.bl (decide (lo ≤ i) && decide (i ≤ hi))) H := q
        rw [e', Bool.false_and] at q
        exact q
    | false =>
      rw [inV2_no ei] at q
      exact ⟨false, rfl, q⟩
def spIsPlaceW (K : PySem.W.Frag) : Sp := fun vs H Q _ => ∃ (v : V) (p : Int), vs = [v, .int p] ∧ Sw K H v ∧ Q (.bl (inV2 0 (p - 1) v)) H
theorem ok_is_placeW (F : Df K mg "is_place" st_is_place ["value", "places"]) (C2 : Cal P w K mg base 2 "is_number" (spIsNumberW K)) : Cal P w K mg base 3 "is_place" (spIsPlaceW K) := by
  refine mkCal F sc_is_place (fun vs H Q E h => ?_) (fun f cdv A outer s H vs Q E hr h => ?_)
  · obtain ⟨v, p, rfl, _⟩ := h
    rfl
  · obtain ⟨v, p, rfl, hv, q⟩ := h
    refine ⟨_, pss_one (ps_ret (pc C2 hr (pa_cons (pv 0) (pa_cons pe_int (pa_cons (pe_op op_sub (pv 1) pe_int) pa_nil))))), ?_⟩
    exact ⟨_, rfl, _, rfl, p, 1, rfl, rfl, v, 0, p - 1, rfl, hv, q⟩
end
end RH
set_option Elab.async false
set_option linter.all false
set_option maxRecDepth 100000
set_option maxHeartbeats 2000000
namespace RH
open PySem PySem.Spec PyProof.Rows L2
open NdefX (NScope NF CellsAt startF ncx envF)
/-! ### errors that keep something -/
/-- an error that keeps pl comes -/
def bhE (C : Addr) (fn : Str) (pl : V) (H : Hp) (E : XK) : Prop := ∀ d H', Same H H' → H' d = some (.xd [(fn, pl)]) → E (.ref C) (some d) H'
/-- an error without more comes -/
def noE (C : Addr) (H : Hp) (E : XK) : Prop := ∀ H', Same H H' → E (.ref C) none H'
theorem bhE.on {C : Addr} {fn : Str} {pl : V} {H H' : Hp} {E : XK} (h : bhE C fn pl H E) (s : Same H H') : bhE C fn pl H' E := fun d H2 s2 => h d H2 (s.trans s2)
theorem noE.on {C : Addr} {H H' : Hp} {E : XK} (h : noE C H E) (s : Same H H') : noE C H' E := fun H2 s2 => h H2 (s.trans s2)
end RH
set_option Elab.async false
set_option linter.all false
set_option maxRecDepth 100000
set_option maxHeartbeats 2000000
namespace RH
open PySem PySem.Spec PyProof.Rows L2
/-! ### the checks, for values of whatever kind -/
/-- a value: a tuple of values, or what is none -/
inductive Tk (K : PySem.W.Frag) (H : Hp) : V → Option (List V) → Prop
  | tup {a : Addr} {xs : List V} : SqT K H a xs → Tk K H (.ref a) (some xs)
  | lst {a : Addr} {xs : List V} : SqL K H a xs → Tk K H (.ref a) none
  | dct {a : Addr} {kvs : List (L2.Key × V)} : H a = some (.dK kvs) → Tk K H (.ref a) none
  | int (i : Int) : Tk K H (.int i) none
  | bl (b : Bool) : Tk K H (.bl b) none
  | non : Tk K H .non none
  | str (z : Str) : Tk K H (.str z) none
theorem Tk.on {K : PySem.W.Frag} {H H' : Hp} (e : Same H H') {v : V} {wo : Option (List V)} (h : Tk K H v wo) : Tk K H' v wo := by
  cases h with
  | tup h => exact .tup (onT e h)
  | lst h => exact .lst (e.seq h)
  | dct h => exact .dct (e _ _ h)
  | int i => exact .int i
  | bl b => exact .bl b
  | non => exact .non
  | str z => exact .str z
/-- .. of values -/
structure Wd (K : PySem.W.Frag) (H : Hp) (v : V) (wo : Option (List V)) : Prop where
  t : Tk K H v wo
  s : ∀ xs, wo = some xs → ∀ x ∈ xs, Sw K H x
  l : ∀ xs, wo = some xs → xs.length < 64
theorem Wd.on {K : PySem.W.Frag} {H H' : Hp} (e : Same H H') {v : V} {wo : Option (List V)} (h : Wd K H v wo) : Wd K H' v wo := ⟨h.t.on e, fun xs z x hm => (h.s xs z x hm).on e, h.l⟩
def rowW (lo hi : Int) : Option (List V) → Bool
  | some xs => decide (lo ≤ (xs.length : Int)) && decide ((xs.length : Int) ≤ hi)
  | none => false
def plsW (p : Int) : Option (List V) → Bool
  | some xs => xs.all (inV2 0 (p - 1))
  | none => false
theorem inV2_get {n : Nat} {v : V} (h : inV2 0 ((n : Int) - 1) v = true) : ∃ i, v = .int i ∧ 0 ≤ i ∧ i < n := by
  cases v <;> first | (cases h; done) | skip
  rename_i i
  have h : (decide (0 ≤ i) && decide (i ≤ (n : Int) - 1)) = true := h
  rw [Bool.and_eq_true, decide_eq_true_iff, decide_eq_true_iff] at h
  exact ⟨i, rfl, h.1, by omega⟩
/-- places all: numbers all -/
theorem all_ints {n : Nat} : ∀ {xs : List V}, (xs.all (inV2 0 ((n : Int) - 1))) = true → ∃ ns : List Int, xs = ns.map V.int ∧ inP n ns = true
  | [], _ => ⟨[], rfl, rfl⟩
  | x :: xs, h => by
    rw [List.all_cons, Bool.and_eq_true] at h
    obtain ⟨i, rfl, h0, h1⟩ := inV2_get h.1
    obtain ⟨ns, rfl, e⟩ := all_ints h.2
    refine ⟨i :: ns, rfl, ?_⟩
    unfold inP at e ⊢
    rw [List.all_cons, e, decide_eq_true h0, decide_eq_true (by omega)]
    rfl
def valI : V → Int
  | .int i => i
  | _ => -1
/-- is it a layout? -/
def layW (n : Nat) : Option (List V) → Bool
  | some xs => xs.all (inV2 0 ((n : Int) - 1)) && isLay n (xs.map valI)
  | none => false
section
variable {P : Program} {w : World} {K : PySem.W.Frag} {mg : Str → Option Value} {base : Heap}
def spIsRowW (K : PySem.W.Frag) : Sp := fun vs H Q _ => ∃ (v : V) (wo : Option (List V)) (lo hi : Int), vs = [v, .int lo, .int hi] ∧ Tk K H v wo ∧ Q (.bl (rowW lo hi wo)) H
theorem ok_is_rowW (F : Df K mg "is_row" st_is_row ["value", "low", "high"]) (B : Bu mg) : Cal P w K mg base 1 "is_row" (spIsRowW K) := by
  refine mkCal F sc_is_row (fun vs H Q E h => ?_) (fun f cdv A outer s H vs Q E hr h => ?_)
  · obtain ⟨v, ro, lo, hi, rfl, _⟩ := h
    rfl
  · obtain ⟨v, ro, lo, hi, rfl, hk, q⟩ := h
    refine ⟨_, pss_one (ps_ret (pe_and (pe_callB call_isi (by rfl) B.isi (by decide +kernel) (pa_cons (pv 0) (pa_cons (pe_bltn (v := .ty "tuple") (by rfl) B.tuple (by decide +kernel) rfl) pa_nil)))
      (pe_one (pe_chain op_le op_le (pv 1) (pe_callB call_len_seq (by rfl) B.len PySem.boot_len (pa_cons (pv 0) pa_nil)) (pv 2))))), ?_⟩
    cases hk with
    | int i => exact ⟨_, rfl, .int i, .ty "tuple", _, _, false, rfl, .ty "tuple", .base (.int i), kit_ty (by decide +kernel), false, rfl, q⟩
    | bl b => exact ⟨_, rfl, .bl b, .ty "tuple", _, _, false, rfl, .ty "tuple", .base (.bl b), kit_ty (by decide +kernel), false, rfl, q⟩
    | non => exact ⟨_, rfl, .non, .ty "tuple", _, _, false, rfl, .ty "tuple", .base .non, kit_ty (by decide +kernel), false, rfl, q⟩
    | str z => exact ⟨_, rfl, .str z, .ty "tuple", _, _, false, rfl, .ty "tuple", .base (.str z), kit_ty (by decide +kernel), false, rfl, q⟩
    | @lst a xs hS => exact ⟨_, rfl, .ref a, .ty "tuple", _, _, false, rfl, .ty "tuple", ty_lst hS, kit_ty (by decide +kernel), false, rfl, q⟩
    | @dct a kvs e => exact ⟨_, rfl, .ref a, .ty "tuple", _, _, false, rfl, .ty "tuple", .base (.dK e), kit_ty (by decide +kernel), false, rfl, q⟩
    | @tup a xs hS =>
      refine ⟨_, rfl, .ref a, .ty "tuple", _, _, true, rfl, .ty "tuple", ty_tup hS, kit_ty (by decide +kernel), true, rfl, _, rfl, _, rfl, a, xs, rfl, .inr hS, lo, (xs.length : Int), rfl, rfl, _, rfl, ite2 (fun e => ?_) (fun e => ?_)⟩
      · refine ⟨_, rfl, _, hi, rfl, rfl, ?_⟩
        have q : Q (.bl (decide (lo ≤ (xs.length : Int)) && decide ((xs.length : Int) ≤ hi))) H := q
        rw [e, Bool.true_and] at q
        exact q
      · have e' : decide (lo ≤ (xs.length : Int)) = false := by simpa using e
        have q : Q (.bl (decide (lo ≤ (xs.length : Int)) && decide ((xs.length : Int) ≤ hi))) H := q
        rw [e', Bool.false_and] at q
        exact q
def spArePlacesW (K : PySem.W.Frag) : Sp := fun vs H Q _ => ∃ (v : V) (wo : Option (List V)) (p : Int), vs = [v, .int p] ∧ Wd K H v wo ∧ ∀ H', Same H H' → Q (.bl (plsW p wo)) H'
theorem ok_are_placesW (F : Df K mg "are_places" st_are_places ["value", "places"]) (B : Bu mg) (C3 : Cal P w K mg base 3 "is_place" (spIsPlaceW K)) : Cal P w K mg base 4 "are_places" (spArePlacesW K) := by
  refine mkCal F sc_are_places (fun vs H Q E h => ?_) (fun f cdv A outer s H vs Q E hr h => ?_)
  · obtain ⟨v, wo, p, rfl, _⟩ := h
    rfl
  · obtain ⟨v, wo, p, rfl, hw, q⟩ := h
    refine ⟨_, pss_one (ps_ret (pe_and (pe_callB call_isi (by rfl) B.isi (by decide +kernel) (pa_cons (pv 0) (pa_cons (pe_bltn (v := .ty "tuple") (by rfl) B.tuple (by decide +kernel) rfl) pa_nil)))
      (pe_one (pe_callB (cr_all rfl) (by rfl) B.all (by decide +kernel) (pa_cons (pe_lc (own := [("place", 2)]) (g := gName 2) (tt := tYes) rfl sc_are_places.nd (pi_tup (pv 0)) (blkOk_by (N := ["value", "places", "place"]) (sc := defScope st_are_places) (by decide +kernel))
        (fun _ _ _ _ _ => pg_name (i := 2) sc_are_places.nd rfl (Or.inl rfl)) (fun _ _ _ _ _ => pts_nil) (fun _ _ _ _ _ => pc C3 hr (pa_cons (pv 2) (pa_cons (pv 1) pa_nil)))) pa_nil))))), ?_⟩
    obtain ⟨ht, hsw, hlen⟩ := hw
    cases ht with
    | int i => exact ⟨_, rfl, .int i, .ty "tuple", _, _, false, rfl, .ty "tuple", .base (.int i), kit_ty (by decide +kernel), false, rfl, q H (Same.refl H)⟩
    | bl b => exact ⟨_, rfl, .bl b, .ty "tuple", _, _, false, rfl, .ty "tuple", .base (.bl b), kit_ty (by decide +kernel), false, rfl, q H (Same.refl H)⟩
    | non => exact ⟨_, rfl, .non, .ty "tuple", _, _, false, rfl, .ty "tuple", .base .non, kit_ty (by decide +kernel), false, rfl, q H (Same.refl H)⟩
    | str z => exact ⟨_, rfl, .str z, .ty "tuple", _, _, false, rfl, .ty "tuple", .base (.str z), kit_ty (by decide +kernel), false, rfl, q H (Same.refl H)⟩
    | @lst a xs hS => exact ⟨_, rfl, .ref a, .ty "tuple", _, _, false, rfl, .ty "tuple", ty_lst hS, kit_ty (by decide +kernel), false, rfl, q H (Same.refl H)⟩
    | @dct a kvs e => exact ⟨_, rfl, .ref a, .ty "tuple", _, _, false, rfl, .ty "tuple", .base (.dK e), kit_ty (by decide +kernel), false, rfl, q H (Same.refl H)⟩
    | @tup a xs hS =>
      have hl := hlen xs rfl
      have hx := hsw xs rfl
      refine ⟨_, rfl, .ref a, .ty "tuple", _, _, true, rfl, .ty "tuple", ty_tup hS, kit_ty (by decide +kernel), true, rfl, ?_⟩
      refine ⟨_, rfl, a, rfl, ⟨_, hS⟩, fun D hD => ?_⟩
      refine lc_tup (xs := xs) (fun i H' => Same H H' ∧ H' D = some (.lst (((xs.take i).map (inV2 0 (p - 1))).map V.bl))) ⟨same_new hD, upd_same⟩ (fun i H' _ h' => onT h'.1 hS) (fun i x H' hi h' => ?_) (fun H' h' => ?_)
      · obtain ⟨sm, eD⟩ := h'
        refine ⟨rfl, _, rfl, _, rfl, x, p, rfl, (hx x (List.mem_of_getElem? hi)).on sm, _, eD, ?_, ?_, ?_⟩
        · rw [List.length_map, List.length_map, List.length_take]
          exact small1000 (by omega)
        · intro b o e
          rw [upd_ne (ne_of_none e hD)]
          exact sm b o e
        · rw [upd_same, all_snoc _ hi, List.map_append]
          rfl
      · obtain ⟨sm, eD⟩ := h'
        rw [List.take_length] at eD
        refine ⟨D, _, rfl, lstAt eD, ?_⟩
        have e : ((xs.map (inV2 0 (p - 1))).all id) = plsW p (some xs) := by
          rw [List.all_map]
          rfl
        rw [e]
        exact q H' sm
def spIsLayoutW (K : PySem.W.Frag) : Sp := fun vs H Q _ => ∃ (v : V) (wo : Option (List V)) (p : Nat), vs = [v, .int p] ∧ Wd K H v wo ∧ p ≤ 1000 ∧ ∀ H', Same H H' → Q (.bl (layW p wo)) H'
theorem ok_is_layoutW (F : Df K mg "is_layout" st_is_layout ["value", "places"]) (B : Bu mg) (C4 : Cal P w K mg base 4 "are_places" (spArePlacesW K)) : Cal P w K mg base 5 "is_layout" (spIsLayoutW K) := by
  refine mkCal F sc_is_layout (fun vs H Q E h => ?_) (fun f cdv A outer s H vs Q E hr h => ?_)
  · obtain ⟨v, wo, p, rfl, _⟩ := h
    rfl
  · obtain ⟨v, wo, p, rfl, hw, hp, q⟩ := h
    refine ⟨_, pss_one (ps_ret (pe_and (pc C4 hr (pa_cons (pv 0) (pa_cons (pv 1) pa_nil)))
      (pe_one (pe_cmpR (op_eqD hr.units) (pe_callB cr_sortedTup (by rfl) B.sorted (by decide +kernel) (pa_cons (pv 0) pa_nil)) (pe_listRg rfl (by rfl) B.list (prg_1 (by rfl) B.range (pv 1))) (nomark _))))), ?_⟩
    refine ⟨_, rfl, _, rfl, v, wo, p, rfl, hw, fun H1 sm1 => ⟨_, rfl, ite2 (fun e => ?_) (fun e => ?_)⟩⟩
    · obtain ⟨ht, hsw, hlen⟩ := hw
      cases ht with
      | @tup a xs hS =>
        obtain ⟨ns, rfl, hin⟩ := all_ints (n := p) e
        have hl : ns.length < 64 := by
          have := hlen _ rfl
          rwa [List.length_map] at this
        refine ⟨_, rfl, a, ns, rfl, onT sm1 hS, hl, fun ns' pL hpm hpw nL => ⟨_, rfl, (p : Int), rfl, ⟨by omega, by omega, by omega, by omega, by omega⟩, fun q' nq => ?_⟩⟩
        have nqp : pL ≠ q' := ne_of_none upd_same nq
        refine ⟨_, _, dp_lst (ns := ns') (lstAt ?_), dp_lst (ns := rg p) (lstAt ?_), PySem.W.ke_shaped_ints _, PySem.W.ke_shaped_ints _, ?_⟩
        · rw [upd_ne nqp, upd_same]
        · rw [upd_same, rgV_rg]
        · have em : ((ns.map V.int).map valI) = ns := by
            rw [List.map_map]
            exact List.map_id' ns
          have e2 : PyData.eqv (.list (ns'.map PyData.int)) (.list ((rg p).map PyData.int)) = layW p (some (ns.map V.int)) := by
            have e3 : layW p (some (ns.map V.int)) = isLay p ns := by
              have e : ((ns.map V.int).all (inV2 0 ((p : Int) - 1))) = true := e
              show ((ns.map V.int).all (inV2 0 ((p : Int) - 1)) && isLay p ((ns.map V.int).map valI)) = isLay p ns
              rw [e, Bool.true_and, em]
            rw [e3, eqv_lst, Bool.eq_iff_iff, decide_eq_true_iff]
            unfold isLay
            rw [List.isPerm_iff]
            constructor
            · intro z
              rw [← z]
              exact hpm.symm
            · intro z
              exact PySem.W.ksm_same (hpm.trans z) hpw (rg_le p)
          rw [e2]
          exact q _ (sm1.trans (Same.trans (same_new nL) (same_new nq)))
      | _ => cases e
    · have e2 : layW p wo = false := by
        cases wo with
        | none => rfl
        | some xs =>
          have e' : (xs.all (inV2 0 ((p : Int) - 1))) = false := by
            have e3 : ¬ (xs.all (inV2 0 ((p : Int) - 1))) = true := e
            simpa using e3
          show (xs.all (inV2 0 ((p : Int) - 1)) && isLay p (xs.map valI)) = false
          rw [e', Bool.false_and]
      have q := q H1 sm1
      rw [e2] at q
      exact q
end
end RH
set_option Elab.async false
set_option linter.all false
set_option maxRecDepth 100000
set_option maxHeartbeats 2000000
namespace RH
open PySem PySem.Spec PyProof.Rows L2
/-! ### the checks that raise -/
/-- a habit, or what is none: of each row what it is -/
inductive Hk (K : PySem.W.Frag) (H : Hp) : V → Option (List (Option (List V))) → Prop
  | tup {a : Addr} {xs : List V} {wos : List (Option (List V))} : SqT K H a xs → Each (Wd K H) xs wos → Hk K H (.ref a) (some wos)
  | no {v : V} : Tk K H v none → Hk K H v none
theorem Hk.on {K : PySem.W.Frag} {H H' : Hp} (e : Same H H') {v : V} {ho : Option (List (Option (List V)))} (h : Hk K H v ho) : Hk K H' v ho := by
  cases h with
  | tup h hx => exact .tup (onT e h) (hx.imp fun v d z => z.on e)
  | no h => exact .no (h.on e)
section
variable {P : Program} {w : World} {K : PySem.W.Frag} {mg : Str → Option Value} {base : Heap}
/-- a word's value: told row by row -/
structure Ww (K : PySem.W.Frag) (H : Hp) (v : V) (wo : Option (List V)) : Prop where
  t : Tk K H v wo
  w : rowW 0 400 wo = true → Wd K H v wo
theorem Ww.on {H H' : Hp} (e : Same H H') {v : V} {wo : Option (List V)} (h : Ww K H v wo) : Ww K H' v wo := ⟨h.t.on e, fun z => (h.w z).on e⟩
end
end RH
set_option Elab.async false
set_option linter.all false
set_option maxRecDepth 100000
set_option maxHeartbeats 2000000
namespace RH
open PySem PySem.Spec PyProof.Rows L2
/-! ### habits that the checks take -/
theorem cl_listOf {X : Cx} (K : PySem.W.Frag) (h : X.K = K := by rfl) : CallR X (.type "list") (fun xs H Q => ∃ p ys, xs = [.ref p] ∧ (SqL K H p ys ∨ SqT K H p ys) ∧ ∀ l, H l = none → Q (.ref l) (upd H l (.lst ys))) := by
  subst h
  exact call_list_of
theorem Each.take {α : Type} {R : V → α → Prop} : ∀ {xs : List V} {ds : List α} (k : Nat), Each R xs ds → Each R (xs.take k) (ds.take k)
  | _, _, 0, _ => .nil
  | _, _, _ + 1, .nil => .nil
  | _, _, k + 1, .cons h t => .cons h (t.take k)
section
variable {K : PySem.W.Frag} {H H' : Hp} {n : Nat} {v pl : V}
theorem wd_ints {a : Addr} {ns : List Int} (h : SqT K H a (ns.map V.int)) (hl : ns.length < 64) : Wd K H (.ref a) (some (ns.map V.int)) :=
  ⟨.tup h, fun xs z x hm => by cases z; obtain ⟨i, _, rfl⟩ := List.mem_map.mp hm; exact .int i, fun xs z => by cases z; rwa [List.length_map]⟩
theorem lay_len {xs : List V} (h : xs.length ≠ n) : layW n (some xs) = false := by
  show (xs.all _ && isLay n (xs.map valI)) = false
  have : isLay n (xs.map valI) = false := by
    unfold isLay
    refine Bool.eq_false_iff.mpr fun z => h ?_
    have := (List.isPerm_iff.mp z).length_eq
    rw [List.length_map] at this
    rw [this]
    unfold rg
    rw [List.length_map, List.length_range]
  rw [this, Bool.and_false]
end
end RH
set_option Elab.async false
set_option linter.all false
set_option maxRecDepth 100000
set_option maxHeartbeats 2000000
namespace RH
open PySem PySem.Spec PyProof.Rows L2
/-! ### inverse, check_together, backed -/
/-- a row told by its very object -/
def TIF (H : Hp) (v : V) (ns : List Int) : Prop := ∃ a, v = .ref a ∧ FT H a ns
theorem TIF.same {H H' : Hp} (e : Same H H') {v : V} {ns : List Int} (h : TIF H v ns) : TIF H' v ns := by
  obtain ⟨a, rfl, h⟩ := h
  exact ⟨a, rfl, h.same e⟩
/-- a habit whose rows are told by their very objects -/
def THF (K : PySem.W.Frag) (H : Hp) (v : V) (h : List (List Int)) : Prop := ∃ a xs, v = .ref a ∧ SqT K H a xs ∧ Each (TIF H) xs h
theorem THF.same {K : PySem.W.Frag} {H H' : Hp} (e : Same H H') {v : V} {h : List (List Int)} (q : THF K H v h) : THF K H' v h := by
  obtain ⟨a, xs, rfl, hS, hE⟩ := q
  exact ⟨a, xs, rfl, onT e hS, hE.imp fun _ _ z => z.same e⟩
theorem THF.ti {K : PySem.W.Frag} {H : Hp} {v : V} {h : List (List Int)} (q : THF K H v h) : TII K H v h := by
  obtain ⟨a, xs, rfl, hS, hE⟩ := q
  exact ⟨a, xs, rfl, hS, hE.imp fun _ _ ⟨b, e, f⟩ => ⟨b, e, f.sq⟩⟩
section
variable {P : Program} {w : World} {K : PySem.W.Frag} {mg : Str → Option Value} {base : Heap} {Cb Cm : Addr}
def spInv (K : PySem.W.Frag) : Sp := fun vs H Q _ => ∃ (v : V) (ns : List Int) (n : Nat), vs = [v] ∧ TIF H v ns ∧ ns.Perm (rg n) ∧ n ≤ 30 ∧ ∀ H' u, Same H H' → TIF H' u (invR ns) → Q u H'
theorem ok_inverse (F : Df K mg "inverse" st_inverse ["row"]) (B : Bu mg) : Cal P w K mg base 1 "inverse" (spInv K) := by
  refine mkCal F sc_inverse (fun vs H Q E h => ?_) (fun f cdv A outer s H vs Q E hr h => ?_)
  · obtain ⟨v, ns, n, rfl, _⟩ := h
    rfl
  · obtain ⟨v, ns, n, rfl, ⟨a, rfl, hF⟩, hp, n5, q⟩ := h
    refine ⟨_, pss_one (ps_ret (pe_tupleF (by rfl) B.tuple (pe_lc (own := [("number", 1)]) (g := gName 1) (tt := tYes) rfl sc_inverse.nd (pi_range1 (by rfl) B.range (pa_cons (pe_callB (cl_len K) (by rfl) B.len PySem.boot_len (pa_cons (pv 0) pa_nil)) pa_nil))
      (blkOk_by (N := ["row", "number"]) (sc := defScope st_inverse) (by decide +kernel)) (fun _ _ _ _ _ => pg_name (i := 1) sc_inverse.nd rfl (Or.inl rfl)) (fun _ _ _ _ _ => pts_nil) (fun _ _ _ _ _ => pe_tidxF (pv 0) (pv 1))))), ?_⟩
    have ln := perm_len hp
    refine ⟨_, rfl, a, ns.map V.int, rfl, .inr (hF.sq (K := K)), ((ns.map V.int).length : Int), rfl, by rw [List.length_map]; omega, by rw [List.length_map]; omega, fun D hD => ?_⟩
    rw [Int.toNat_natCast, List.length_map, ln]
    refine lc_range (lo := 0) (n := n) (fun i H' => Same H H' ∧ H' D = some (.lst (((List.range i).map fun j : Nat => ((ns.idxOf (j : Int) : Nat) : Int)).map V.int))) ⟨same_new hD, upd_same⟩ (fun i H' hi h' => ?_) (fun H' h' => ?_)
    · obtain ⟨sm, eD⟩ := h'
      rw [Int.zero_add]
      have m : (i : Int) ∈ ns := hp.mem_iff.mpr (rg_mem.mpr ⟨by omega, by omega⟩)
      refine ⟨rfl, _, rfl, a, ns, rfl, hF.same sm, _, rfl, (i : Int), rfl, hF.same sm, m, _, eD, by rw [List.length_map, List.length_map, List.length_range]; exact small1000 (by omega), ?_, ?_⟩
      · exact fun b o eb => by rw [upd_ne (ne_of_none eb hD)]; exact sm b o eb
      · rw [upd_same, List.range_succ, List.map_append, List.map_append]
        rfl
    · obtain ⟨sm, eD⟩ := h'
      refine ⟨D, _, rfl, lstAt eD, fun u ob hu hob => ?_⟩
      refine q _ (.ref u) (sm.trans (same_new hu)) ⟨u, rfl, ob, ?_, hob⟩
      rw [upd_same]
      unfold invR
      rw [ln]
end
end RH
set_option Elab.async false
set_option linter.all false
set_option maxRecDepth 100000
set_option maxHeartbeats 2000000
namespace RH
open PySem PySem.Spec PyProof.Rows L2
/-! ### orders that the law draws -/
section
variable {P : Program} {w : World} {K : PySem.W.Frag} {mg : Str → Option Value} {base : Heap}
def spPermL (K : PySem.W.Frag) : Sp := fun vs H Q _ => ∃ (p : Addr) (n : Nat), vs = [.ref p, .int (n : Int)] ∧ Row K H p ∧ n ≤ 30 ∧ ∀ (H' : Hp) (v : V) (ns : List Int), ns.Perm (rg n) → But p H H' → Row K H' p → TIF H' v ns → Q v H'
theorem ok_lperm (F : Df K mg "_law_permutation" st__law_permutation ["row", "many"]) (B : Bu mg) (CT : Cal P w K mg base 1 "_law_taken" (spTaken K)) : Cal P w K mg base 2 "_law_permutation" (spPermL K) := by
  refine mkCal F sc__law_permutation (fun vs H Q E h => ?_) (fun f cdv A outer s H vs Q E hr h => ?_)
  · obtain ⟨p, n, rfl, _⟩ := h
    rfl
  · obtain ⟨p, n, rfl, hR, hn, q⟩ := h
    refine ⟨_, pss_cons (ps_par (i := 2) (j := 3) rfl sc__law_permutation.nd rfl rfl (by decide) rfl rfl (pa_cons (pe_listRg rfl (by rfl) B.list (prg_1 (by rfl) B.range (pv 1))) (pa_cons (pe_lst pa_nil) pa_nil)) rfl)
      (pss_cons (ps_for PassesOwn.never rfl (pi_range1 (by rfl) B.range (pa_cons (pv 1) pa_nil)) (pg_name (i := 4) sc__law_permutation.nd rfl (.inl rfl))
        (pss_one (ps_expr (pe_bm PySem.F.plainAttrs_list PySem.F.slot_list_append PySem.F.type_list_append mt_append (pv 3) (pa_cons (pe_bm PySem.F.plainAttrs_list PySem.F.slot_list_pop PySem.F.type_list_pop mt_popAt (pv 2)
          (pa_cons (pc CT hr (pa_cons (pv 0) (pa_cons (pe_callB (cl_len K) (by rfl) B.len PySem.boot_len (pa_cons (pv 2) pa_nil)) pa_nil))) pa_nil)) pa_nil)))))
      (pss_one (ps_ret (pe_tupleF (by rfl) B.tuple (pv 3))))), ?_⟩
    refine ⟨_, rfl, (n : Int), rfl, ⟨by omega, by omega, by omega, by omega, by omega⟩, fun l hl => ⟨Nat.zero_le _, fun g hg => ⟨_, _, rfl, ?_⟩⟩⟩
    have hlg : l ≠ g := ne_of_none upd_same hg
    have hgH : H g = none := by
      rw [upd_ne (Ne.symm hlg)] at hg
      exact hg
    have hpl : p ≠ l := hR.ne hl
    have hpg : p ≠ g := hR.ne hgH
    refine ⟨_, rfl, (n : Int), rfl, by omega, by omega, ?_⟩
    rw [Int.toNat_natCast]
    refine for_range (lo := 0) (n := n) (fun i σ H' => ∃ (ls fs : List Int) (y4 : Option V), σ = [some (.ref p), some (.int (n : Int)), some (.ref l), some (.ref g), y4] ∧ But p H H' ∧ Row K H' p ∧ H' l = some (.lst (ls.map V.int)) ∧ H' g = some (.lst (fs.map V.int)) ∧ (fs ++ ls).Perm (rg n) ∧ fs.length = i)
      ⟨rg n, [], none, rfl, But.same (Same.trans (same_new hl) (same_new hg)), (hR.new hl).new hg, ?_, upd_same, List.Perm.refl _, rfl⟩ (fun i σ H1 hi h' => ?_) (fun σ H1 h' => ?_)
    · rw [upd_ne hlg, upd_same, rgV_rg]
    · obtain ⟨ls, fs, y4, rfl, hB, hR1, e1, e2, hpm, lf⟩ := h'
      have len1 : fs.length + ls.length = n := by
        have := hpm.length_eq
        rw [List.length_append, rg_len] at this
        exact this
      refine ⟨_, rfl, .inl ⟨rfl, _, lstAt e2⟩, _, rfl, .inl ⟨rfl, _, lstAt e1⟩, _, rfl, _, rfl, l, _, rfl, .inl (lstAt e1), p, _, rfl, hR1, by rw [List.length_map]; omega, by rw [List.length_map]; omega, fun k H3 k0 k1 hB3 hR3 => ?_⟩
      rw [List.length_map] at k1
      have e1' := hB3 _ _ e1 (Ne.symm hpl)
      have e2' := hB3 _ _ e2 (Ne.symm hpg)
      have hk : k.toNat < ls.length := by omega
      obtain ⟨v, hv⟩ : ∃ v, ls[k.toNat]? = some v := ⟨_, List.getElem?_eq_getElem hk⟩
      have e2u : (upd H3 l (.lst ((ls.map V.int).eraseIdx k.toNat))) g = some (.lst (fs.map V.int)) := by
        rw [upd_ne (Ne.symm hlg)]
        exact e2'
      refine ⟨l, _, k, k.toNat, .int v, rfl, rfl, e1', by omega, by omega, ?_, at_map hv, g, _, .int v, rfl, rfl, e2u, by rw [List.length_map]; exact small1000 (by omega), ?_⟩
      · rw [List.length_map]
        exact ix_nat k0 k1
      · refine ⟨ls.eraseIdx k.toNat, fs ++ [v], _, rfl, ((hB.trans hB3).fresh hl).fresh hgH, (hR3.lst_upd e1' hpl).lst_upd e2u hpg, ?_, ?_, ?_, by rw [List.length_append, lf]; rfl⟩
        · rw [upd_ne hlg, upd_same, map_erase]
        · rw [upd_same, List.map_append]
          rfl
        · have hp2 := perm_erase hv
          refine List.Perm.trans ?_ hpm
          rw [List.append_assoc]
          exact List.Perm.append_left fs hp2.symm
    · obtain ⟨ls, fs, y4, rfl, hB, hR1, e1, e2, hpm, lf⟩ := h'
      have len1 := hpm.length_eq
      rw [List.length_append, rg_len] at len1
      have : ls = [] := List.eq_nil_of_length_eq_zero (by omega)
      subst this
      rw [List.append_nil] at hpm
      refine ⟨_, rfl, g, _, rfl, lstAt e2, fun t ob ht hob => ?_⟩
      have st := same_new (o := .frz ob (.tup (fs.map V.int))) ht
      exact q _ (.ref t) fs hpm (hB.trans (But.same st)) (hR1.same st) ⟨t, rfl, ob, upd_same, hob⟩
end
end RH
set_option Elab.async false
set_option linter.all false
set_option maxRecDepth 100000
set_option maxHeartbeats 2000000
namespace RH
open PySem PySem.Spec PyProof.Rows L2
/-! ### habits that the law draws -/
def rgI (a b : Int) : List Int := (List.range (b - a).toNat).map fun i : Nat => a + (i : Int)
theorem rgV_rgI (a b : Int) : rgV a b = (rgI a b).map V.int := by
  unfold rgV rgI
  rw [List.map_map]
  rfl
def wF (n pl : Nat) : List Int := rgI 1 ((pl : Int) + 1) ++ [0] ++ rgI ((pl : Int) + 1) (n : Int)
theorem wF_all : ∀ n, n < 6 → ∀ pl, pl < n → (wF n pl).isPerm (rg n) = true := by decide +kernel
theorem wF_perm {n pl : Nat} (hn : n ≤ 5) (hp : pl < n) : (wF n pl).Perm (rg n) := List.isPerm_iff.mp (wF_all n (by omega) pl hp)
theorem TIF.fix {H H' : Hp} {v : V} {ns : List Int} (f : Fix H H') (h : TIF H v ns) : TIF H' v ns := let ⟨b, e, g⟩ := h; ⟨b, e, g.fix f⟩
/-- the rows found so far -/
def HF (K : PySem.W.Frag) (p g : Addr) (H : Hp) (n i : Nat) (H' : Hp) : Prop := ∃ (xs : List V) (hs : List (List Int)), But p H H' ∧ Row K H' p ∧ H' g = some (.lst xs) ∧ Each (TIF H') xs hs ∧ hs.length = i ∧ ∀ ns ∈ hs, ns.Perm (rg n)
theorem HF.step {K : PySem.W.Frag} {p g : Addr} {H H1 H5 : Hp} {n i : Nat} (h : HF K p g H n i H1) (hg : H g = none) (hpg : p ≠ g) (b : But p H1 H5) (r : Row K H5 p) :
    ∃ xs, H5 g = some (.lst xs) ∧ xs.length = i ∧ ∀ (v : V) (ns : List Int) (H6 : Hp), Same H5 H6 → TIF H6 v ns → ns.Perm (rg n) → HF K p g H n (i + 1) (upd H6 g (.lst (xs ++ [v]))) := by
  obtain ⟨xs, hs, hB, hR, e, hE, hl, hp⟩ := h
  have e5 := b _ _ e (Ne.symm hpg)
  refine ⟨xs, e5, hE.len.trans hl, fun v ns H6 s6 hq hpm => ⟨xs ++ [v], hs ++ [ns], ((hB.trans b).trans (But.same s6)).fresh hg, (r.same s6).lst_upd (s6 _ _ e5) hpg, upd_same, ?_, by rw [List.length_append, hl]; rfl, fun ns' hm => ?_⟩⟩
  · have f2 : Fix H6 (upd H6 g (.lst (xs ++ [v]))) := Fix.lst (s6 _ _ e5)
    have f1 : Fix H1 (upd H6 g (.lst (xs ++ [v]))) := (hR.fix b).trans ((Fix.same s6).trans f2)
    exact Each.snoc (hq.fix f2) (hE.imp fun _ _ z => z.fix f1)
  · rcases List.mem_append.mp hm with h1 | h1
    · exact hp _ h1
    · rw [List.mem_singleton.mp h1]
      exact hpm
section
variable {P : Program} {w : World} {K : PySem.W.Frag} {mg : Str → Option Value} {base : Heap}
def spHabF (K : PySem.W.Frag) : Sp := fun vs H Q _ => ∃ (p : Addr) (n : Nat), vs = [.ref p, .int (n : Int)] ∧ Row K H p ∧ 2 ≤ n ∧ n ≤ 5 ∧ ∀ (H' : Hp) (v : V) (h : List (List Int)), Hb n h → But p H H' → Row K H' p → THF K H' v h → Q v H'
theorem ok_habF (F : Df K mg "_law_habit" st__law_habit ["row", "many"]) (B : Bu mg) (CT : Cal P w K mg base 1 "_law_taken" (spTaken K)) (CP : Cal P w K mg base 2 "_law_permutation" (spPermL K)) : Cal P w K mg base 3 "_law_habit" (spHabF K) := by
  refine mkCal F sc__law_habit (fun vs H Q E h => ?_) (fun f cdv A outer s H vs Q E hr h => ?_)
  · obtain ⟨p, n, rfl, _⟩ := h
    rfl
  · obtain ⟨p, n, rfl, hR, h2, h5, q⟩ := h
    refine ⟨_, pss_cons (ps_set (i := 2) sc__law_habit.nd rfl (.inl rfl) (pe_lst pa_nil))
      (pss_cons (ps_for PassesOwn.never rfl (pi_range1 (by rfl) B.range (pa_cons (pv 1) pa_nil)) (pg_name (i := 3) sc__law_habit.nd rfl (.inl rfl))
        (pss_cons (ps_set (i := 4) sc__law_habit.nd rfl (.inl rfl) (pc CT hr (pa_cons (pv 0) (pa_cons pe_int pa_nil))))
        (pss_one (ps_if (pt_cmpR op_eq (pv 4) pe_int (nomark _))
          (pss_one (ps_expr (pe_bm PySem.F.plainAttrs_list PySem.F.slot_list_append PySem.F.type_list_append mt_append (pv 2) (pa_cons (pe_tupRgF rfl (by rfl) B.tuple (prg_1 (by rfl) B.range (pv 1))) pa_nil))))
          (pss_one (ps_if (pt_cmpR op_eq (pv 4) pe_int (nomark _))
            (pss_one (ps_expr (pe_bm PySem.F.plainAttrs_list PySem.F.slot_list_append PySem.F.type_list_append mt_append (pv 2) (pa_cons (pe_tupleF (by rfl) B.tuple (pe_op op_cat (pe_op op_cat (pe_listRg rfl (by rfl) B.list (prg_2 (by rfl) B.range pe_int (pe_op op_add (pv 3) pe_int))) (pe_lst (pa_cons pe_int pa_nil)))
              (pe_listRg rfl (by rfl) B.list (prg_2 (by rfl) B.range (pe_op op_add (pv 3) pe_int) (pv 1))))) pa_nil))))
            (pss_one (ps_expr (pe_bm PySem.F.plainAttrs_list PySem.F.slot_list_append PySem.F.type_list_append mt_append (pv 2) (pa_cons (pc CP hr (pa_cons (pv 0) (pa_cons (pv 1) pa_nil))) pa_nil)))))))))) 
      (pss_one (ps_ret (pe_tupleOf (by rfl) B.tuple (pv 2))))), ?_⟩
    refine ⟨Nat.zero_le _, fun g hg => ?_⟩
    have hpg : p ≠ g := hR.ne hg
    have eg : (upd H g (.lst [])) g = some (.lst []) := upd_same
    refine ⟨_, rfl, (n : Int), rfl, by omega, by omega, ?_⟩
    rw [Int.toNat_natCast]
    refine for_range (lo := 0) (n := n) (fun i σ H' => ∃ y3 y4, σ = [some (.ref p), some (.int (n : Int)), some (.ref g), y3, y4] ∧ HF K p g H n i H') ⟨none, none, rfl, [], [], But.same (same_new hg), hR.new hg, eg, .nil, rfl, fun _ hm => absurd hm List.not_mem_nil⟩ (fun i σ H1 hi h' => ?_) (fun σ H1 h' => ?_)
    · obtain ⟨y3, y4, rfl, hF⟩ := h'
      rw [Int.zero_add]
      refine ⟨_, rfl, p, 4, rfl, hF.choose_spec.choose_spec.2.1, by decide, by decide, fun k H2 k0 k4 hB hR2 => ?_⟩
      obtain ⟨xs, eg2, lx, more⟩ := hF.step hg hpg hB hR2
      refine ⟨_, rfl, rfl, _, rfl, ite2 (fun e => ?_) (fun e => ?_)⟩
      · refine ⟨_, rfl, .inl ⟨rfl, _, lstAt eg2⟩, _, rfl, (n : Int), rfl, ⟨by omega, by omega, by omega, by omega, by omega⟩, fun t ob ht hob => ?_⟩
        have st := same_new (o := .frz ob (.tup (rgV 0 (n : Int)))) ht
        refine ⟨g, xs, _, rfl, rfl, st _ _ eg2, small1000 (by omega), _, _, rfl, more _ (rg n) _ st ⟨t, rfl, ob, ?_, hob⟩ (List.Perm.refl _)⟩
        rw [upd_same, rgV_rg]
      · refine ⟨_, rfl, rfl, _, rfl, ite2 (fun e2 => ?_) (fun e2 => ?_)⟩
        · refine ⟨_, rfl, .inl ⟨rfl, _, lstAt eg2⟩, _, rfl, (i : Int), 1, rfl, rfl, _, _, rfl, rfl, ⟨by omega, by omega, by omega, by omega, by omega⟩, fun l1 hl1 => ?_⟩
          refine ⟨by decide +kernel, fun l2 hl2 => ?_⟩
          have s1 := same_new (o := .lst (rgV 1 ((i : Int) + 1))) hl1
          have s2 := same_new (o := .lst [.int 0]) hl2
          refine ⟨l1, l2, _, _, rfl, rfl, s2 _ _ upd_same, upd_same, by rw [rgV_length, sizeLine_eq]; show _ + 1 ≤ _; omega, fun l3 hl3 => ?_⟩
          have s3 := same_new (o := .lst (rgV 1 ((i : Int) + 1) ++ [.int 0])) hl3
          refine ⟨_, rfl, (i : Int), 1, rfl, rfl, _, rfl, _, _, rfl, rfl, ⟨by omega, by omega, by omega, by omega, by omega⟩, fun l4 hl4 => ?_⟩
          have s4 := same_new (o := .lst (rgV ((i : Int) + 1) (n : Int))) hl4
          refine ⟨l3, l4, _, _, rfl, rfl, s4 _ _ upd_same, upd_same, by rw [List.length_append, rgV_length, rgV_length, sizeLine_eq]; show _ + 1 + _ ≤ _; omega, fun l5 hl5 => ⟨l5, _, rfl, lstAt upd_same, fun t ob ht hob => ?_⟩⟩
          have s5 := same_new (o := .lst (rgV 1 ((i : Int) + 1) ++ [.int 0] ++ rgV ((i : Int) + 1) (n : Int))) hl5
          have s6 := same_new (o := .frz ob (.tup (rgV 1 ((i : Int) + 1) ++ [.int 0] ++ rgV ((i : Int) + 1) (n : Int)))) ht
          have sA := s1.trans (s2.trans (s3.trans (s4.trans (s5.trans s6))))
          refine ⟨g, xs, _, rfl, rfl, sA _ _ eg2, small1000 (by omega), _, _, rfl, more _ (wF n i) _ sA ⟨t, rfl, ob, ?_, hob⟩ (wF_perm h5 hi)⟩
          rw [upd_same]
          unfold wF
          rw [List.map_append, List.map_append, ← rgV_rgI, ← rgV_rgI]
          rfl
        · refine ⟨_, rfl, .inl ⟨rfl, _, lstAt eg2⟩, _, rfl, _, rfl, p, n, rfl, hR2, by omega, fun H3 v ns pm hB3 hR3 hv => ?_⟩
          obtain ⟨xs3, eg3, lx3, more3⟩ := hF.step hg hpg (hB.trans hB3) hR3
          exact ⟨g, xs3, _, rfl, rfl, eg3, small1000 (by omega), _, _, rfl, more3 v ns H3 (Same.refl _) hv pm⟩
    · obtain ⟨y3, y4, rfl, xs, hs, hB, hR1, e, hE, hl, hp⟩ := h'
      refine ⟨_, rfl, .inl ⟨g, xs, rfl, lstAt e, fun t ht => ?_⟩⟩
      have st := same_new (o := .tup xs) ht
      exact q _ (.ref t) hs ⟨hl, hp, h2, h5⟩ (hB.trans (But.same st)) (hR1.same st) ⟨t, xs, rfl, tupAt upd_same, hE.imp fun _ _ z => z.same st⟩
end
end RH
set_option Elab.async false
set_option linter.all false
set_option maxRecDepth 100000
set_option maxHeartbeats 2000000
namespace RH
open PySem PySem.Spec PyProof.Rows L2
/-! ### walks: the mathematics -/
/-- the line behind a book asked, on a shelf to the front -/
def mtf (L : List Int) (x : Int) : List Int := x :: L.erase x
def cst : List Int → List Int → Int
  | _, [] => 0
  | L, x :: ns => ((L.idxOf x : Nat) : Int) + 1 + cst (mtf L x) ns
def stl (L ns : List Int) : Int := (ns.map fun x => ((L.idxOf x : Nat) : Int) + 1).sum
theorem cst_snoc : ∀ (L ns : List Int) (x : Int), cst L (ns ++ [x]) = cst L ns + (((ns.foldl mtf L).idxOf x : Nat) : Int) + 1
  | L, [], x => by
    show ((L.idxOf x : Nat) : Int) + 1 + 0 = 0 + _ + 1
    show ((L.idxOf x : Nat) : Int) + 1 + 0 = 0 + ((L.idxOf x : Nat) : Int) + 1
    omega
  | L, y :: ns, x => by
    show ((L.idxOf y : Nat) : Int) + 1 + cst (mtf L y) (ns ++ [x]) = ((L.idxOf y : Nat) : Int) + 1 + cst (mtf L y) ns + (((ns.foldl mtf (mtf L y)).idxOf x : Nat) : Int) + 1
    rw [cst_snoc]
    omega
theorem mtf_perm {L : List Int} {x : Int} (h : x ∈ L) : (mtf L x).Perm L := (List.perm_cons_erase h).symm
theorem fold_perm {n : Nat} : ∀ {L ns : List Int}, L.Perm (rg n) → (∀ x ∈ ns, x ∈ rg n) → (ns.foldl mtf L).Perm (rg n)
  | _, [], h, _ => h
  | L, x :: ns, h, hm => fold_perm (L := mtf L x) ((mtf_perm (h.mem_iff.mpr (hm x (List.mem_cons_self ..)))).trans h) fun y hy => hm y (List.mem_cons_of_mem _ hy)
/-! pairs -/
def prs (g : Int → Int → Bool) : List Int → Nat
  | [] => 0
  | x :: xs => xs.countP (g x) + prs g xs
theorem prs_perm {g : Int → Int → Bool} (sym : ∀ x y, g x y = g y x) {l l' : List Int} (h : l.Perm l') : prs g l = prs g l' := by
  induction h with
  | nil => rfl
  | cons x p ih =>
    show List.countP (g x) _ + prs g _ = List.countP (g x) _ + prs g _
    rw [ih, p.countP_eq]
  | swap x y l =>
    show List.countP (g y) (x :: l) + (List.countP (g x) l + prs g l) = List.countP (g x) (y :: l) + (List.countP (g y) l + prs g l)
    rw [List.countP_cons, List.countP_cons, sym y x]
    omega
  | trans _ _ i1 i2 => exact i1.trans i2
theorem prs_congr {f g : Int → Int → Bool} : ∀ {l : List Int}, l.Pairwise (fun x y => f x y = g x y) → prs f l = prs g l
  | [], _ => rfl
  | x :: xs, h => by
    rw [List.pairwise_cons] at h
    show List.countP (f x) xs + prs f xs = List.countP (g x) xs + prs g xs
    rw [prs_congr h.2, List.countP_congr fun y hy => by rw [h.1 y hy]]
theorem prs_put {f : Int → Int → Bool} {x : Int} : ∀ A B : List Int, prs f (A ++ x :: B) = prs f (A ++ B) + A.countP (fun y => f y x) + B.countP (f x)
  | [], B => by
    show List.countP (f x) B + prs f B = prs f B + 0 + List.countP (f x) B
    omega
  | a :: A, B => by
    show List.countP (f a) (A ++ x :: B) + prs f (A ++ x :: B) = List.countP (f a) (A ++ B) + prs f (A ++ B) + List.countP (fun y => f y x) (a :: A) + List.countP (f x) B
    rw [prs_put A B, List.countP_append, List.countP_append, List.countP_cons, List.countP_cons]
    omega
theorem prs_drop {g : Int → Int → Bool} {l : List Int} {i : Nat} {x : Int} (h : l[i]? = some x) : prs g (l.drop i) = (l.drop (i + 1)).countP (g x) + prs g (l.drop (i + 1)) := by
  obtain ⟨hi, rfl⟩ := List.getElem?_eq_some_iff.mp h
  rw [List.drop_eq_getElem_cons hi]
  rfl
/-! what is walked at the front against a still order -/
/-- x stands behind y in O -/
def bef (O : List Int) (x y : Int) : Bool := decide (O.idxOf y < O.idxOf x)
theorem idx_ne {y x : Int} {L : List Int} (e : y ≠ x) : (y :: L).idxOf x = L.idxOf x + 1 := by
  rw [List.idxOf_cons, show (y == x) = false from by simpa using e]
  rfl
theorem idx_get : ∀ {O : List Int} {x : Int}, x ∈ O → O[O.idxOf x]? = some x
  | [], _, h => absurd h List.not_mem_nil
  | y :: O, x, h => by
    by_cases e : y = x
    · subst e
      rw [List.idxOf_cons_self]
      rfl
    · rw [idx_ne e, List.getElem?_cons_succ]
      exact idx_get ((List.mem_cons.mp h).resolve_left fun z => e z.symm)
theorem idx_inj {O : List Int} {x y : Int} (hx : x ∈ O) (e : O.idxOf x = O.idxOf y) : x = y := by
  have h1 := idx_get hx
  rw [e] at h1
  have hy : O.idxOf y < O.length := (List.getElem?_eq_some_iff.mp h1).1
  have h2 := idx_get (List.idxOf_lt_length_iff.mp hy)
  rw [h1] at h2
  exact Option.some.inj h2
theorem few_in : ∀ (A M : List Int), A.Nodup → (∀ y ∈ A, y ∈ M) → A.length ≤ M.length
  | [], _, _, _ => Nat.zero_le _
  | a :: A, M, hn, hm => by
    rw [List.nodup_cons] at hn
    have ha := hm a (List.mem_cons_self ..)
    have ih := few_in A (M.erase a) hn.2 fun y hy => (List.mem_erase_of_ne (show y ≠ a from fun z => hn.1 (by rw [← z]; exact hy))).mpr (hm y (List.mem_cons_of_mem _ hy))
    have := List.length_erase_of_mem ha
    have := List.length_pos_of_mem ha
    rw [List.length_cons]
    omega
theorem step_front {L O : List Int} {x : Int} (hL : L.Nodup) (hx : x ∈ L) (hO : ∀ y ∈ L, y ∈ O) : ((L.idxOf x : Nat) : Int) + 1 + (prs (bef O) (mtf L x) : Nat) ≤ 2 * (((O.idxOf x : Nat) : Int) + 1) - 1 + (prs (bef O) L : Nat) := by
  obtain ⟨A, B, rfl⟩ := List.append_of_mem hx
  have hA : x ∉ A := fun z => by
    rw [List.nodup_append] at hL
    exact hL.2.2 x z x (List.mem_cons_self ..) rfl
  have e1 : (A ++ x :: B).idxOf x = A.length := by
    rw [List.idxOf_append, if_neg hA, List.idxOf_cons_self]
    omega
  have e2 : mtf (A ++ x :: B) x = [] ++ x :: (A ++ B) := by
    unfold mtf
    rw [List.erase_append_right _ hA, List.erase_cons_head]
    rfl
  have hall : ∀ y ∈ A, bef O x y = !bef O y x := by
    intro y hy
    have ne : O.idxOf x ≠ O.idxOf y := fun e => hA (by rw [idx_inj (hO x (by simp)) e]; exact hy)
    unfold bef
    by_cases h : O.idxOf y < O.idxOf x
    · rw [decide_eq_true h, decide_eq_false (by omega)]
      rfl
    · rw [decide_eq_false h, decide_eq_true (by omega)]
      rfl
  have hn : A.Nodup := (List.nodup_append.mp hL).1
  have c1 : A.countP (fun y => bef O y x) + A.countP (bef O x) = A.length := by
    have h1 : A.countP (bef O x) = A.countP (fun y => !bef O y x) := List.countP_congr fun y hy => by rw [hall y hy]
    rw [h1]
    have := List.length_eq_countP_add_countP (fun y => bef O y x) (l := A)
    have e3 : A.countP (fun y => !bef O y x) = A.countP (fun a => decide (¬ (bef O a x) = true)) := List.countP_congr fun y _ => by
      cases bef O y x <;> simp
    rw [e3]
    exact this.symm
  have c2 : A.countP (bef O x) ≤ O.idxOf x := by
    rw [List.countP_eq_length_filter]
    have := few_in (A.filter (bef O x)) (O.take (O.idxOf x)) (hn.filter _) fun y hy => by
      rw [List.mem_filter] at hy
      have hy2 : O.idxOf y < O.idxOf x := of_decide_eq_true hy.2
      have hyO := hO y (List.mem_append_left _ hy.1)
      have g := idx_get hyO
      refine List.mem_of_getElem? (i := O.idxOf y) ?_
      rw [List.getElem?_take, if_pos hy2]
      exact g
    rw [List.length_take] at this
    omega
  rw [e1, e2, prs_put, prs_put, List.nil_append, List.countP_append]
  simp only [List.countP_nil]
  omega
theorem front_le : ∀ (ns L O : List Int), L.Nodup → (∀ x ∈ ns, x ∈ L) → (∀ y ∈ L, y ∈ O) → cst L ns ≤ 2 * stl O ns + ((prs (bef O) L : Nat) : Int) - (ns.length : Int)
  | [], L, O, _, _, _ => by
    show (0 : Int) ≤ 2 * 0 + _ - 0
    omega
  | x :: ns, L, O, hL, hm, hO => by
    have hx := hm x (List.mem_cons_self ..)
    have p := mtf_perm hx
    have s := step_front hL hx hO
    have ih := front_le ns (mtf L x) O (p.nodup_iff.mpr hL) (fun y hy => p.mem_iff.mpr (hm y (List.mem_cons_of_mem _ hy))) fun y hy => hO y (p.mem_iff.mp hy)
    have e : stl O (x :: ns) = ((O.idxOf x : Nat) : Int) + 1 + stl O ns := rfl
    rw [e, List.length_cons]
    show ((L.idxOf x : Nat) : Int) + 1 + cst (mtf L x) ns ≤ _
    omega
/-! the least still order -/
def wsum : List Nat → Nat
  | [] => 0
  | a :: l => a + l.sum + wsum l
theorem ws_perm : ∀ {l l' : List Nat}, l.Perm l' → l.sum = l'.sum := fun h => h.sum_nat
theorem ws_front : ∀ (A B : List Nat) (a : Nat), (∀ b ∈ A, a ≤ b) → wsum (A ++ a :: B) ≤ wsum (a :: (A ++ B))
  | [], B, a, _ => Nat.le_refl _
  | b :: A, B, a, h => by
    have ih := ws_front A B a fun c hc => h c (List.mem_cons_of_mem _ hc)
    have hb := h b (List.mem_cons_self ..)
    show b + (A ++ a :: B).sum + wsum (A ++ a :: B) ≤ a + (b :: (A ++ B)).sum + (b + (A ++ B).sum + wsum (A ++ B))
    have ih' : wsum (A ++ a :: B) ≤ a + (A ++ B).sum + wsum (A ++ B) := ih
    rw [List.sum_append_nat, List.sum_cons, List.sum_cons, List.sum_append_nat] at *
    omega
theorem ws_least : ∀ {l s : List Nat}, s.Perm l → s.Pairwise (fun a b => b ≤ a) → wsum s ≤ wsum l
  | [], s, h, _ => by rw [h.eq_nil]; exact Nat.le_refl _
  | a :: l, s, h, hs => by
    obtain ⟨A, B, rfl⟩ := List.append_of_mem (h.mem_iff.mpr (List.mem_cons_self ..))
    have h2 : (A ++ B).Perm l := (List.perm_cons a).mp (List.perm_middle.symm.trans h)
    rw [List.pairwise_append] at hs
    have hs2 : (A ++ B).Pairwise fun a b => b ≤ a := by
      rw [List.pairwise_append]
      exact ⟨hs.1, (List.pairwise_cons.mp hs.2.1).2, fun x hx y hy => hs.2.2 x hx y (List.mem_cons_of_mem _ hy)⟩
    have ih := ws_least h2 hs2
    have f := ws_front A B a fun b hb => hs.2.2 b hb a (List.mem_cons_self ..)
    have e : wsum (a :: (A ++ B)) = a + (A ++ B).sum + wsum (A ++ B) := rfl
    show _ ≤ a + l.sum + wsum l
    rw [e, ws_perm h2] at f
    omega
theorem ws_add : ∀ (L : List Int) (f g : Int → Nat), wsum (L.map fun x => f x + g x) = wsum (L.map f) + wsum (L.map g)
  | [], _, _ => rfl
  | x :: L, f, g => by
    have sm : ∀ M : List Int, (M.map fun x => f x + g x).sum = (M.map f).sum + (M.map g).sum := fun M => by
      induction M with
      | nil => rfl
      | cons y M ih =>
        rw [List.map_cons, List.map_cons, List.map_cons, List.sum_cons, List.sum_cons, List.sum_cons, ih]
        omega
    show f x + g x + (L.map fun x => f x + g x).sum + wsum (L.map fun x => f x + g x) = f x + (L.map f).sum + wsum (L.map f) + (g x + (L.map g).sum + wsum (L.map g))
    rw [ws_add L f g, sm]
    omega
theorem ws_zero : ∀ (L : List Int) (f : Int → Nat), (∀ y ∈ L, f y = 0) → (L.map f).sum = 0 ∧ wsum (L.map f) = 0
  | [], _, _ => ⟨rfl, rfl⟩
  | y :: L, f, h => by
    obtain ⟨a, b⟩ := ws_zero L f fun z hz => h z (List.mem_cons_of_mem _ hz)
    have e := h y (List.mem_cons_self ..)
    refine ⟨?_, ?_⟩
    · rw [List.map_cons, List.sum_cons, a, e]
    · show f y + (L.map f).sum + wsum (L.map f) = 0
      rw [a, b, e]
theorem ws_one : ∀ (L : List Int) (x : Int), L.Nodup → x ∈ L → (L.map fun y => if y = x then 1 else 0).sum = 1 ∧ wsum (L.map fun y => if y = x then 1 else 0) = L.idxOf x + 1
  | [], _, _, h => absurd h List.not_mem_nil
  | y :: L, x, hn, h => by
    rw [List.nodup_cons] at hn
    by_cases e : y = x
    · subst e
      obtain ⟨a, b⟩ := ws_zero L (fun z => if z = y then 1 else 0) fun z hz => if_neg fun q => hn.1 (by rw [← q]; exact hz)
      refine ⟨?_, ?_⟩
      · rw [List.map_cons, List.sum_cons, a, if_pos rfl]
      · show (if y = y then 1 else 0) + (L.map _).sum + wsum (L.map _) = _
        rw [a, b, if_pos rfl, List.idxOf_cons_self]
    · have hx : x ∈ L := (List.mem_cons.mp h).resolve_left fun z => e z.symm
      obtain ⟨a, b⟩ := ws_one L x hn.2 hx
      refine ⟨?_, ?_⟩
      · rw [List.map_cons, List.sum_cons, a, if_neg e]
      · show (if y = x then 1 else 0) + (L.map _).sum + wsum (L.map _) = _
        rw [a, b, if_neg e, idx_ne e]
        omega
theorem stl_ws : ∀ (ns L : List Int), L.Nodup → (∀ x ∈ ns, x ∈ L) → stl L ns = ((wsum (L.map fun y => ns.count y) : Nat) : Int)
  | [], L, _, _ => by
    have := (ws_zero L (fun y => List.count y []) fun _ _ => rfl).2
    show (0 : Int) = _
    rw [this]
    rfl
  | x :: ns, L, hn, hm => by
    have ih := stl_ws ns L hn fun y hy => hm y (List.mem_cons_of_mem _ hy)
    have e : (fun y => (x :: ns).count y) = fun y => ns.count y + if y = x then 1 else 0 := funext fun y => by
      rw [List.count_cons]
      by_cases z : y = x
      · rw [if_pos z, if_pos (by simp [z])]
      · rw [if_neg z, if_neg (by simpa using Ne.symm z)]
    rw [e, ws_add, (ws_one L x hn (hm x (List.mem_cons_self ..))).2]
    show ((L.idxOf x : Nat) : Int) + 1 + stl L ns = _
    rw [ih]
    omega
/-- an order in which books asked more often stand further ahead is never dearer -/
theorem best_le {B O ns : List Int} (hB : B.Nodup) (h : B.Perm O) (hm : ∀ x ∈ ns, x ∈ B) (hs : B.Pairwise fun x y => ns.count y ≤ ns.count x) : stl B ns ≤ stl O ns := by
  rw [stl_ws ns B hB hm, stl_ws ns O (h.nodup_iff.mp hB) fun x hx => h.mem_iff.mp (hm x hx)]
  have := ws_least (h.map fun y => ns.count y) (List.pairwise_map.mpr hs)
  omega
/-! pairs crossed, counted by the books' numbers -/
def gX (a b : List Int) (x y : Int) : Bool := decide (a.idxOf x < a.idxOf y) != decide (b.idxOf x < b.idxOf y)
def gS (a b : List Int) (x y : Int) : Bool := if x ≤ y then gX a b x y else gX a b y x
theorem gS_sym (a b : List Int) (x y : Int) : gS a b x y = gS a b y x := by
  unfold gS
  by_cases h : x ≤ y
  · rw [if_pos h]
    by_cases h2 : y ≤ x
    · have : x = y := by omega
      rw [if_pos h2, this]
    · rw [if_neg h2]
  · rw [if_neg h, if_pos (by omega)]
theorem idx_rise {L : List Int} (hn : L.Nodup) : L.Pairwise fun x y => L.idxOf x < L.idxOf y := by
  rw [List.pairwise_iff_getElem]
  intro i j hi hj hij
  rw [idx_at hn (List.getElem?_eq_getElem hi), idx_at hn (List.getElem?_eq_getElem hj)]
  exact hij
theorem rg_rise (n : Nat) : (rg n).Pairwise fun x y => x < y := by
  unfold rg
  rw [List.pairwise_map]
  exact List.pairwise_lt_range.imp fun h => by omega
theorem cross_eq {n : Nat} {a b : List Int} (ha : a.Perm (rg n)) (hb : b.Perm (rg n)) : prs (fun h l => gX a b l h) (rg n).reverse = prs (bef b) a := by
  have e1 : prs (fun h l => gX a b l h) (rg n).reverse = prs (gS a b) (rg n).reverse := by
    refine prs_congr ?_
    rw [List.pairwise_reverse]
    refine (rg_rise n).imp fun {x y} h => ?_
    show gX a b x y = gS a b y x
    rw [gS_sym]
    unfold gS
    rw [if_pos (by omega)]
  have e2 : prs (gS a b) a = prs (bef b) a := by
    refine prs_congr ((idx_rise (perm_nd ha)).imp_of_mem fun {x y} hx hy h => ?_)
    have ne : b.idxOf x ≠ b.idxOf y := fun z => by
      have := idx_inj (hb.mem_iff.mpr (ha.mem_iff.mp hx)) z
      rw [this] at h
      exact Nat.lt_irrefl _ h
    unfold gS gX bef
    rw [decide_eq_true h, decide_eq_false (Nat.not_lt.mpr (Nat.le_of_lt h))]
    by_cases q : b.idxOf y < b.idxOf x
    · rw [decide_eq_true q, decide_eq_false (by omega)]
      split <;> rfl
    · rw [decide_eq_false q, decide_eq_true (by omega)]
      split <;> rfl
  rw [e1, prs_perm (gS_sym a b) ((List.reverse_perm _).trans ha.symm), e2]
theorem rg_succ (n : Nat) : rg (n + 1) = rg n ++ [(n : Int)] := by
  unfold rg
  rw [List.range_succ, List.map_append]
  rfl
theorem prs_rg {g : Int → Int → Bool} (n : Nat) : prs g (rg (n + 1)).reverse = (rg n).countP (g (n : Int)) + prs g (rg n).reverse := by
  rw [rg_succ, List.reverse_append]
  show List.countP (g (n : Int)) (rg n).reverse + _ = _
  rw [List.countP_reverse]
  rfl
/-! the habit to the front -/
theorem wF_get : ∀ n, n < 6 → ∀ p, p < n → ∀ s, s < n → (wF n p).getD s 0 = if s < p then (s : Int) + 1 else if s = p then 0 else (s : Int) := by decide +kernel
theorem mtf_idx {O : List Int} {x y : Int} (hO : O.Nodup) (hx : x ∈ O) (hy : y ∈ O) : (mtf O x).idxOf y = if O.idxOf y < O.idxOf x then O.idxOf y + 1 else if O.idxOf y = O.idxOf x then 0 else O.idxOf y := by
  obtain ⟨A, B, rfl⟩ := List.append_of_mem hx
  have hA : x ∉ A := fun z => by
    rw [List.nodup_append] at hO
    exact hO.2.2 x z x (List.mem_cons_self ..) rfl
  have e2 : mtf (A ++ x :: B) x = x :: (A ++ B) := by
    unfold mtf
    rw [List.erase_append_right _ hA, List.erase_cons_head]
  have e1 : (A ++ x :: B).idxOf x = A.length := by
    rw [List.idxOf_append, if_neg hA, List.idxOf_cons_self]
    omega
  rw [e2, e1]
  by_cases e : y = x
  · subst e
    rw [e1, List.idxOf_cons_self, if_neg (Nat.lt_irrefl _), if_pos rfl]
  · rw [idx_ne (fun z => e z.symm), List.idxOf_append, List.idxOf_append]
    by_cases m : y ∈ A
    · rw [if_pos m, if_pos m, if_pos (List.idxOf_lt_length_of_mem m)]
    · rw [if_neg m, if_neg m, idx_ne (fun z => e z.symm), if_neg (by omega), if_neg (by omega)]
      omega
/-- what is walked on a shelf that moves by a habit -/
def wlk (h : List (List Int)) : List Int → List Int → Int
  | _, [] => 0
  | L, x :: ns => L.getD x.toNat 0 + 1 + wlk h (stp h (L.getD x.toNat 0) L) ns
def lyt (h : List (List Int)) (L : List Int) (x : Int) : List Int := stp h (L.getD x.toNat 0) L
theorem wlk_snoc {h : List (List Int)} : ∀ (L ns : List Int) (x : Int), wlk h L (ns ++ [x]) = wlk h L ns + (ns.foldl (lyt h) L).getD x.toNat 0 + 1
  | L, [], x => by
    show L.getD x.toNat 0 + 1 + 0 = 0 + L.getD x.toNat 0 + 1
    omega
  | L, y :: ns, x => by
    show L.getD y.toNat 0 + 1 + wlk h (lyt h L y) (ns ++ [x]) = L.getD y.toNat 0 + 1 + wlk h (lyt h L y) ns + (ns.foldl (lyt h) (lyt h L y)).getD x.toNat 0 + 1
    rw [wlk_snoc]
    omega
def frH (n : Nat) : List (List Int) := (List.range n).map (wF n)
theorem getD_at {α : Type} {l : List α} {i : Nat} {x d : α} (h : l[i]? = some x) : l.getD i d = x := by
  rw [List.getD_eq_getElem?_getD, h]
  rfl
theorem frH_mv {n : Nat} (n5 : n ≤ 5) {p s : Nat} (hp : p < n) (hs : s < n) : mv (frH n) (p : Int) (s : Int) = if s < p then (s : Int) + 1 else if s = p then 0 else (s : Int) := by
  unfold mv
  rw [Int.toNat_natCast, Int.toNat_natCast, getD_at (l := frH n) (i := p) (x := wF n p) (by unfold frH; rw [List.getElem?_map, List.getElem?_range hp]; rfl)]
  exact wF_get n (by omega) p hp s hs
theorem inv_get {n : Nat} {O : List Int} (hO : O.Perm (rg n)) {x : Int} (hx : x ∈ rg n) : (invR O).getD x.toNat 0 = ((O.idxOf x : Nat) : Int) := by
  have hr := rg_mem.mp hx
  refine getD_at ?_
  unfold invR
  rw [List.getElem?_map, List.getElem?_range (by rw [perm_len hO]; omega)]
  show some (((O.idxOf ((x.toNat : Nat) : Int) : Nat) : Int)) = _
  rw [show ((x.toNat : Nat) : Int) = x by omega]
theorem idx_lt {n : Nat} {O : List Int} (hO : O.Perm (rg n)) {x : Int} (hx : x ∈ rg n) : O.idxOf x < n := by
  have := List.idxOf_lt_length_of_mem (hO.mem_iff.mpr hx)
  rwa [perm_len hO] at this
theorem frH_step {n : Nat} (n5 : n ≤ 5) {O : List Int} (hO : O.Perm (rg n)) {x : Int} (hx : x ∈ rg n) : stp (frH n) ((O.idxOf x : Nat) : Int) (invR O) = invR (mtf O x) := by
  have hxO := hO.mem_iff.mpr hx
  have l2 : (mtf O x).length = O.length := (mtf_perm hxO).length_eq
  unfold stp invR
  rw [l2, List.map_map]
  refine List.map_congr_left fun i hi => ?_
  have hi' : i < n := by
    rw [List.mem_range, perm_len hO] at hi
    exact hi
  have hy : (i : Int) ∈ rg n := rg_mem.mpr ⟨by omega, by omega⟩
  show mv (frH n) _ ((O.idxOf (i : Int) : Nat) : Int) = (((mtf O x).idxOf (i : Int) : Nat) : Int)
  rw [frH_mv n5 (idx_lt hO hx) (idx_lt hO hy), mtf_idx (perm_nd hO) hxO (hO.mem_iff.mpr hy)]
  split
  · omega
  · split
    · rfl
    · rfl
theorem wlk_front {n : Nat} (n5 : n ≤ 5) : ∀ (ns O : List Int), O.Perm (rg n) → (∀ x ∈ ns, x ∈ rg n) → wlk (frH n) (invR O) ns = cst O ns
  | [], _, _, _ => rfl
  | x :: ns, O, hO, hm => by
    have hx := hm x (List.mem_cons_self ..)
    have ih := wlk_front n5 ns (mtf O x) ((mtf_perm (hO.mem_iff.mpr hx)).trans hO) fun y hy => hm y (List.mem_cons_of_mem _ hy)
    show (invR O).getD x.toNat 0 + 1 + wlk (frH n) (stp (frH n) ((invR O).getD x.toNat 0) (invR O)) ns = ((O.idxOf x : Nat) : Int) + 1 + cst (mtf O x) ns
    rw [inv_get hO hx, frH_step n5 hO hx, ih]
theorem frH_hb {n : Nat} (h2 : 2 ≤ n) (n5 : n ≤ 5) : Hb n (frH n) := ⟨by unfold frH; rw [List.length_map, List.length_range], fun ns hm => by
  obtain ⟨p, hp, rfl⟩ := List.mem_map.mp hm
  exact wF_perm n5 (List.mem_range.mp hp), h2, n5⟩
end RH
set_option Elab.async false
set_option linter.all false
set_option maxRecDepth 100000
set_option maxHeartbeats 2000000
namespace RH
open PySem PySem.Spec PyProof.Rows L2
/-! ### walks: the program's defs where they answer -/
section
variable {P : Program} {w : World} {K : PySem.W.Frag} {mg : Str → Option Value} {base : Heap}
/-- a tuple of names, so many books -/
structure Nms (K : PySem.W.Frag) (H : Hp) (a : Addr) (ns : List Int) (n : Nat) : Prop where
  ft : FT H a ns
  in_ : ∀ x ∈ ns, x ∈ rg n
  few : ns.length ≤ 30
theorem Nms.at_ {H : Hp} {a : Addr} {ns : List Int} {n : Nat} (h : Nms K H a ns n) : SqT K H a (ns.map V.int) := h.ft.sq
theorem Nms.on {H H' : Hp} {a : Addr} {ns : List Int} {n : Nat} (e : Same H H') (h : Nms K H a ns n) : Nms K H' a ns n := ⟨h.ft.same e, h.in_, h.few⟩
theorem Nms.inp {H : Hp} {a : Addr} {ns : List Int} {n : Nat} (h : Nms K H a ns n) : inP (n : Int) ns = true := by
  unfold inP
  rw [List.all_eq_true]
  intro x hx
  have := rg_mem.mp (h.in_ x hx)
  rw [decide_eq_true this.1, decide_eq_true (by omega)]
  rfl
def spCkRow (K : PySem.W.Frag) : Sp := fun vs H Q _ => ∃ (a : Addr) (L : List Int) (n : Nat), vs = [.ref a, .int 30] ∧ SqT K H a (L.map V.int) ∧ L.Perm (rg n) ∧ 1 ≤ n ∧ n ≤ 30 ∧ ∀ H', Same H H' → Q .non H'
theorem ok_check_row (F : Df K mg "check_row" st_check_row ["row", "most"]) (B : Bu mg) (C1 : Cal P w K mg base 1 "is_row" (spIsRow K)) (C5 : Cal P w K mg base 5 "is_layout" (spIsLayout K)) : Cal P w K mg base 6 "check_row" (spCkRow K) := by
  refine mkCal F sc_check_row (fun vs H Q E h => ?_) (fun f cdv A outer s H vs Q E hr h => ?_)
  · obtain ⟨a, L, n, rfl, _⟩ := h
    rfl
  · obtain ⟨a, L, n, rfl, hS, hp, n1, n30, q⟩ := h
    have ln := perm_len hp
    refine ⟨_, pss_one (ps_if (PW.pt (pw_or (pt_not (pt_val (pc C1 hr (pa_cons (pv 0) (pa_cons pe_int (pa_cons (pv 1) pa_nil))))))
      (pw_or1 (pt_not (pt_val (pc C5 hr (pa_cons (pv 0) (pa_cons (pe_callB (cl_len K) (by rfl) B.len PySem.boot_len (pa_cons (pv 0) pa_nil)) pa_nil)))))))) (pss_one ps_no) pss_nil), ?_⟩
    refine ⟨_, rfl, _, rfl, a, _, 1, 30, rfl, hS, _, rfl, ifF ?_ ?_⟩
    · rw [List.length_map, ln, decide_eq_true (by omega), decide_eq_true (by omega)]
      rfl
    · refine ⟨_, rfl, _, rfl, a, _, rfl, .inr hS, .ref a, L, n, by rw [List.length_map, ln]; rfl, ⟨a, rfl, hS⟩, by omega, by omega, fun H1 sm => ⟨_, rfl, ifF (by rw [lay_yes hp]; rfl) (q H1 sm)⟩⟩
def spCkNames (K : PySem.W.Frag) : Sp := fun vs H Q _ => ∃ (a : Addr) (ns : List Int) (n : Nat), vs = [.ref a, .int n, .int 200] ∧ Nms K H a ns n ∧ ∀ H', Same H H' → Q .non H'
theorem ok_check_names (F : Df K mg "check_names" st_check_names ["names", "places", "most"]) (B : Bu mg) (C1 : Cal P w K mg base 1 "is_row" (spIsRow K)) (C4 : Cal P w K mg base 4 "are_places" (spArePlaces K)) : Cal P w K mg base 6 "check_names" (spCkNames K) := by
  refine mkCal F sc_check_names (fun vs H Q E h => ?_) (fun f cdv A outer s H vs Q E hr h => ?_)
  · obtain ⟨a, ns, n, rfl, _⟩ := h
    rfl
  · obtain ⟨a, ns, n, rfl, hN, q⟩ := h
    have l30 := hN.few
    refine ⟨_, pss_one (ps_if (PW.pt (pw_or (pt_not (pt_val (pc C1 hr (pa_cons (pv 0) (pa_cons pe_int (pa_cons (pv 2) pa_nil))))))
      (pw_or1 (pt_not (pt_val (pc C4 hr (pa_cons (pv 0) (pa_cons (pv 1) pa_nil)))))))) (pss_one ps_no) pss_nil), ?_⟩
    refine ⟨_, rfl, _, rfl, a, _, 0, 200, rfl, hN.at_, _, rfl, ifF ?_ ?_⟩
    · rw [List.length_map, decide_eq_true (by omega), decide_eq_true (by omega)]
      rfl
    · exact ⟨_, rfl, _, rfl, .ref a, ns, (n : Int), rfl, ⟨a, rfl, hN.at_⟩, by omega, fun H1 sm => ⟨_, rfl, ifF (by rw [hN.inp]; rfl) (q H1 sm)⟩⟩
def spCkLay (K : PySem.W.Frag) : Sp := fun vs H Q _ => ∃ (a : Addr) (L : List Int) (n : Nat), vs = [.ref a, .int n] ∧ SqT K H a (L.map V.int) ∧ L.Perm (rg n) ∧ n ≤ 30 ∧ ∀ H', Same H H' → Q .non H'
theorem ok_check_lay (F : Df K mg "check_layout" st_check_layout ["layout", "places"]) (C5 : Cal P w K mg base 5 "is_layout" (spIsLayout K)) : Cal P w K mg base 6 "check_layout" (spCkLay K) := by
  refine mkCal F sc_check_layout (fun vs H Q E h => ?_) (fun f cdv A outer s H vs Q E hr h => ?_)
  · obtain ⟨a, L, n, rfl, _⟩ := h
    rfl
  · obtain ⟨a, L, n, rfl, hS, hp, n30, q⟩ := h
    refine ⟨_, pss_one (ps_if (pt_not (pt_val (pc C5 hr (pa_cons (pv 0) (pa_cons (pv 1) pa_nil))))) (pss_one ps_no) pss_nil), ?_⟩
    exact ⟨_, rfl, _, rfl, .ref a, L, n, rfl, ⟨a, rfl, hS⟩, by rw [perm_len hp]; omega, by omega, fun H1 sm => ⟨_, rfl, ifF (by rw [lay_yes hp]; rfl) (q H1 sm)⟩⟩
/-- two orders of as many books -/
def spTwoOrd (K : PySem.W.Frag) : Sp := fun vs H Q _ => ∃ (a b : Addr) (L O : List Int) (n : Nat), vs = [.ref a, .ref b] ∧ SqT K H a (L.map V.int) ∧ SqT K H b (O.map V.int) ∧ L.Perm (rg n) ∧ O.Perm (rg n) ∧ 1 ≤ n ∧ n ≤ 30 ∧ ∀ H', Same H H' → Q .non H'
theorem ok_two (F : Df K mg "check_two_orders" st_check_two_orders ["one", "other"]) (B : Bu mg) (c30 : ∃ t, mg "MOST_BOOKS" = some (.int 30 t)) (CR : Cal P w K mg base 6 "check_row" (spCkRow K)) (CL : Cal P w K mg base 6 "check_layout" (spCkLay K)) : Cal P w K mg base 7 "check_two_orders" (spTwoOrd K) := by
  refine mkCal F sc_check_two_orders (fun vs H Q E h => ?_) (fun f cdv A outer s H vs Q E hr h => ?_)
  · obtain ⟨a, b, L, O, n, rfl, _⟩ := h
    rfl
  · obtain ⟨a, b, L, O, n, rfl, hA, hB, hL, hO, n1, n30, q⟩ := h
    refine ⟨_, pss_cons (ps_expr (pc CR hr (pa_cons (pv 0) (pa_cons (pk c30) pa_nil)))) (pss_one (ps_expr (pc CL hr (pa_cons (pv 1) (pa_cons (pe_callB (cl_len K) (by rfl) B.len PySem.boot_len (pa_cons (pv 0) pa_nil)) pa_nil))))), ?_⟩
    exact ⟨_, rfl, a, L, n, rfl, hA, hL, n1, n30, fun H1 s1 => ⟨_, rfl, _, rfl, a, _, rfl, .inr (onT s1 hA), b, O, n, by rw [List.length_map, perm_len hL]; rfl, onT s1 hB, hO, n30, fun H2 s2 => q H2 (s1.trans s2)⟩⟩
/-! still_walk, front_walk, walked -/
def spStill (K : PySem.W.Frag) : Sp := fun vs H Q _ => ∃ (a b : Addr) (L ns : List Int) (n : Nat), vs = [.ref a, .ref b] ∧ FT H a L ∧ L.Perm (rg n) ∧ 1 ≤ n ∧ n ≤ 30 ∧ Nms K H b ns n ∧ ∀ H', Same H H' → Q (.int (stl L ns)) H'
theorem take_map_succ {f : Int → Int} {ns : List Int} {i : Nat} {x : Int} (h : ns[i]? = some x) : ((ns.take (i + 1)).map f).map V.int = ((ns.take i).map f).map V.int ++ [V.int (f x)] := by
  rw [List.take_add_one, h, List.map_append, List.map_append]
  rfl
theorem ok_still (F : Df K mg "still_walk" st_still_walk ["order", "names"]) (B : Bu mg) (Bs : mg "sum" = none) (c30 : ∃ t, mg "MOST_BOOKS" = some (.int 30 t)) (c200 : ∃ t, mg "MOST_ASKED" = some (.int 200 t))
    (CR : Cal P w K mg base 6 "check_row" (spCkRow K)) (CN : Cal P w K mg base 6 "check_names" (spCkNames K)) : Cal P w K mg base 7 "still_walk" (spStill K) := by
  refine mkCal F sc_still_walk (fun vs H Q E h => ?_) (fun f cdv A outer s H vs Q E hr h => ?_)
  · obtain ⟨a, b, L, ns, n, rfl, _⟩ := h
    rfl
  · obtain ⟨a, b, L, ns, n, rfl, hF, hL, n1, n30, hN, q⟩ := h
    have l30 := hN.few
    refine ⟨_, pss_cons (ps_expr (pc CR hr (pa_cons (pv 0) (pa_cons (pk c30) pa_nil)))) (pss_cons (ps_expr (pc CN hr (pa_cons (pv 1) (pa_cons (pe_callB (cl_len K) (by rfl) B.len PySem.boot_len (pa_cons (pv 0) pa_nil)) (pa_cons (pk c200) pa_nil)))))
      (pss_one (ps_ret (pe_callB (cr_sum rfl) (by rfl) Bs boot_sum (pa_cons (pe_lc (own := [("name", 2)]) (g := gName 2) (tt := tYes) rfl sc_still_walk.nd (pi_tup (pv 1)) (blkOk_by (N := ["order", "names", "name"]) (sc := defScope st_still_walk) (by decide +kernel))
        (fun _ _ _ _ _ => pg_name (i := 2) sc_still_walk.nd rfl (Or.inl rfl)) (fun _ _ _ _ _ => pts_nil) (fun _ _ _ _ _ => pe_op op_add (pe_tidxF (pv 0) (pv 2)) pe_int)) pa_nil))))), ?_⟩
    refine ⟨_, rfl, a, L, n, rfl, hF.sq, hL, n1, n30, fun H1 s1 => ⟨_, rfl, _, rfl, a, _, rfl, .inr (onT s1 hF.sq), b, ns, n, by rw [List.length_map, perm_len hL]; rfl, hN.on s1, fun H2 s2 => ?_⟩⟩
    have s12 := s1.trans s2
    refine ⟨_, rfl, b, rfl, ⟨_, (hN.on s12).at_⟩, fun D hD => ?_⟩
    refine lc_tup (xs := ns.map V.int) (fun i H' => Same H2 H' ∧ H' D = some (.lst (((ns.take i).map fun x => ((L.idxOf x : Nat) : Int) + 1).map V.int))) ⟨same_new hD, upd_same⟩ (fun i H' _ h' => onT h'.1 (hN.on s12).at_) (fun i x H' hx h' => ?_) (fun H' h' => ?_)
    · obtain ⟨z, hz, rfl⟩ := map_at hx
      obtain ⟨sm, eD⟩ := h'
      have mz := hL.mem_iff.mpr (hN.in_ z (List.mem_of_getElem? hz))
      refine ⟨rfl, _, rfl, a, L, rfl, hF.same (s12.trans sm), _, rfl, z, rfl, hF.same (s12.trans sm), mz, _, 1, rfl, rfl, _, eD, ?_, ?_, ?_⟩
      · rw [List.length_map, List.length_map, List.length_take]
        exact small1000 (by omega)
      · exact fun c o ec => by rw [upd_ne (ne_of_none ec hD)]; exact sm c o ec
      · rw [upd_same, take_map_succ hz]
    · obtain ⟨sm, eD⟩ := h'
      rw [List.length_map, List.take_length] at eD
      exact ⟨D, _, rfl, lstAt eD, q H' (s12.trans sm)⟩
def spFront (K : PySem.W.Frag) : Sp := fun vs H Q _ => ∃ (a b : Addr) (L ns : List Int) (n : Nat), vs = [.ref a, .ref b] ∧ SqT K H a (L.map V.int) ∧ L.Perm (rg n) ∧ 1 ≤ n ∧ n ≤ 30 ∧ Nms K H b ns n ∧ ∀ H', Same H H' → Q (.int (cst L ns)) H'
theorem fold_more {f : List Int → Int → List Int} {L ns : List Int} {i : Nat} {x : Int} (h : ns[i]? = some x) : (ns.take (i + 1)).foldl f L = f ((ns.take i).foldl f L) x := by
  rw [List.take_add_one, h, List.foldl_append]
  rfl
theorem cst_more {L ns : List Int} {i : Nat} {x : Int} (h : ns[i]? = some x) : cst L (ns.take (i + 1)) = cst L (ns.take i) + ((((ns.take i).foldl mtf L).idxOf x : Nat) : Int) + 1 := by
  rw [List.take_add_one, h]
  exact cst_snoc _ _ _
theorem eqV_int (i j : Int) : eqV (.int i) (.int j) = decide (i = j) := by
  show (i == j) = _
  by_cases h : i = j <;> simp [h]
theorem idx_first : ∀ {L : List Int} {m : Nat} {y : Int}, L[m]? = some y → ¬ m < L.idxOf y
  | [], _, _, h => by simp at h
  | a :: L, m, y, h => fun hm => by
    by_cases ea : a = y
    · subst ea
      rw [List.idxOf_cons_self] at hm
      omega
    · rw [idx_ne ea] at hm
      cases m with
      | zero => exact ea (Option.some.inj h)
      | succ m => exact idx_first (L := L) (m := m) (y := y) (by simpa using h) (by omega)
theorem eqV_same (x : Int) : eqV (.int x) (.int x) = true := by rw [eqV_int]; exact decide_eq_true rfl
theorem eqV_first {L : List Int} {x : Int} (m : Nat) (z : V) (hm : m < L.idxOf x) (hz : (L.map V.int)[m]? = some z) : eqV z (.int x) = false := by
  obtain ⟨y, hy, rfl⟩ := map_at hz
  rw [eqV_int]
  refine decide_eq_false fun e => ?_
  subst e
  exact idx_first hy hm
theorem ok_front (F : Df K mg "front_walk" st_front_walk ["order", "names"]) (B : Bu mg) (c30 : ∃ t, mg "MOST_BOOKS" = some (.int 30 t)) (c200 : ∃ t, mg "MOST_ASKED" = some (.int 200 t))
    (CR : Cal P w K mg base 6 "check_row" (spCkRow K)) (CN : Cal P w K mg base 6 "check_names" (spCkNames K)) : Cal P w K mg base 7 "front_walk" (spFront K) := by
  refine mkCal F sc_front_walk (fun vs H Q E h => ?_) (fun f cdv A outer s H vs Q E hr h => ?_)
  · obtain ⟨a, b, L, ns, n, rfl, _⟩ := h
    rfl
  · obtain ⟨a, b, L, ns, n, rfl, hS, hL, n1, n30, hN, q⟩ := h
    refine ⟨_, pss_cons (ps_expr (pc CR hr (pa_cons (pv 0) (pa_cons (pk c30) pa_nil)))) (pss_cons (ps_expr (pc CN hr (pa_cons (pv 1) (pa_cons (pe_callB (cl_len K) (by rfl) B.len PySem.boot_len (pa_cons (pv 0) pa_nil)) (pa_cons (pk c200) pa_nil)))))
      (pss_cons (ps_set (i := 2) sc_front_walk.nd rfl (.inl rfl) (pe_callTy (cl_listOf K) (by rfl) B.list (by decide +kernel) (pa_cons (pv 0) pa_nil)))
      (pss_cons (ps_set (i := 3) sc_front_walk.nd rfl (.inl rfl) pe_int)
      (pss_cons (ps_for PassesOwn.never rfl (pi_tup (pv 1)) (pg_name (i := 4) sc_front_walk.nd rfl (.inl rfl))
        (pss_cons (ps_set (i := 5) sc_front_walk.nd rfl (.inl rfl) (pe_bm PySem.F.plainAttrs_list PySem.F.slot_list_index PySem.F.type_list_index mt_index (pv 2) (pa_cons (pv 4) pa_nil)))
        (pss_cons (ps_aug (i := 3) sc_front_walk.nd rfl (.inl rfl) (pe_op op_add (pv 5) pe_int) ip_add)
        (pss_one (ps_expr (pe_bm PySem.F.plainAttrs_list PySem.F.slot_list_insert PySem.F.type_list_insert mt_insert (pv 2) (pa_cons pe_int (pa_cons (pe_bm PySem.F.plainAttrs_list PySem.F.slot_list_pop PySem.F.type_list_pop mt_popAt (pv 2) (pa_cons (pv 5) pa_nil)) pa_nil))))))))
      (pss_one (ps_ret (pv 3))))))), ?_⟩
    refine ⟨_, rfl, a, L, n, rfl, hS, hL, n1, n30, fun H1 s1 => ⟨_, rfl, _, rfl, a, _, rfl, .inr (onT s1 hS), b, ns, n, by rw [List.length_map, perm_len hL]; rfl, hN.on s1, fun H2 s2 => ?_⟩⟩
    have s12 := s1.trans s2
    refine ⟨_, rfl, a, _, rfl, .inr (onT s12 hS), fun l hl => ?_⟩
    have ln := perm_len hL
    have s3 : Same H2 (upd H2 l (.lst (L.map V.int))) := same_new hl
    refine ⟨_, rfl, b, rfl, ⟨_, (hN.on (s12.trans s3)).at_⟩, ?_⟩
    refine for_tup (xs := ns.map V.int) (fun i σ H' => (∀ c o, c ≠ l → H2 c = some o → H' c = some o) ∧ ∃ y4 y5, σ = [some (.ref a), some (.ref b), some (.ref l), some (.int (cst L (ns.take i))), y4, y5] ∧ H' l = some (.lst (((ns.take i).foldl mtf L).map V.int))) ⟨fun c o _ e => s3 c o e, none, none, rfl, upd_same⟩ (fun i σ H' _ h' => ?_) (fun i x σ H' hx h' => ?_) (fun σ H' h' => ?_)
    · have t2 : Same H2 H' := fun c o e => h'.1 c o (ne_of_none e hl) e
      exact (hN.on (s12.trans t2)).at_
    · obtain ⟨z, hz, rfl⟩ := map_at hx
      obtain ⟨keep, y4, y5, rfl, eL⟩ := h'
      have hz2 := hN.in_ z (List.mem_of_getElem? hz)
      have pm := fold_perm (n := n) (ns := ns.take i) hL fun y hy => hN.in_ y (List.mem_of_mem_take hy)
      have lM := perm_len pm
      have hzM := pm.mem_iff.mpr hz2
      have lt := idx_lt pm hz2
      have gz := idx_get hzM
      refine ⟨_, rfl, .inl ⟨rfl, _, lstAt eL⟩, _, rfl, l, _, _, ((ns.take i).foldl mtf L).idxOf z, .int z, rfl, rfl, lstAt eL, rfl, flat_ints _, at_map gz, eqV_same z, eqV_first, _, rfl, _, rfl, _, 1, rfl, rfl, _, _, rfl, rfl, ?_⟩
      refine ⟨_, rfl, .inl ⟨rfl, _, lstAt eL⟩, _, rfl, .inl ⟨rfl, _, lstAt eL⟩, _, rfl, l, _, _, ((ns.take i).foldl mtf L).idxOf z, .int z, rfl, rfl, eL, by omega, by omega, ?_, at_map gz, l, _, 0, .int z, rfl, rfl, upd_same, ?_, by decide, by decide, ?_⟩
      · rw [List.length_map, lM]
        exact ix_nat (by omega) (by omega)
      · rw [List.length_eraseIdx_of_lt (by rw [List.length_map]; omega), List.length_map]
        exact small1000 (by omega)
      · refine ⟨fun c o hc e => ?_, some (.int z), some (.int ((((ns.take i).foldl mtf L).idxOf z : Nat) : Int)), ?_, ?_⟩
        · rw [upd_ne hc, upd_ne hc]
          exact keep c o hc e
        · rw [cst_more hz, Int.add_assoc (cst L (ns.take i))]
          rfl
        · rw [upd_same, fold_more hz, map_erase]
          unfold mtf
          rw [List.erase_eq_eraseIdx_of_idxOf rfl]
          rfl
    · obtain ⟨keep, y4, y5, rfl, eL⟩ := h'
      have t2 : Same H2 H' := fun c o e => keep c o (ne_of_none e hl) e
      rw [List.length_map, List.take_length]
      exact ⟨_, rfl, q H' (s12.trans t2)⟩
end
section
variable {P : Program} {w : World} {K : PySem.W.Frag} {mg : Str → Option Value} {base : Heap}
/-! the program's habit to the front, walked -/
def spFrP : Sp := fun vs H Q _ => ∃ n p : Nat, vs = [.int n, .int p] ∧ p < n ∧ n ≤ 5 ∧ ∀ q H', Same H H' → H' q = some (.tup ((wF n p).map V.int)) → Q (.ref q) H'
theorem catU_ok {K : PySem.W.Frag} {H : Hp} {a b : Addr} {xs ys : List V} {Q : VK} (ha : H a = some (.tup xs)) (hb : H b = some (.tup ys)) (hl : xs.length + ys.length ≤ 1000) (q : ∀ r H', Same H H' → H' r = some (.tup (xs ++ ys)) → Q (.ref r) H') : rCatA K (.ref a) (.ref b) H Q :=
  ⟨a, b, xs, ys, rfl, rfl, tupAt ha, tupAt hb, Nat.le_of_lt (small1000 hl), fun e => by
    subst e
    exact q b H (Same.refl H) hb, fun _ e => by
    subst e
    exact q a H (Same.refl H) (by rw [List.append_nil]; exact ha), fun _ _ p hp => q p _ (same_new hp) upd_same⟩
theorem ok_frP (F : Df K mg "front_permutation" st_front_permutation ["places", "place"]) (B : Bu mg) : Cal P w K mg base 1 "front_permutation" spFrP := by
  refine mkCal F sc_front_permutation (fun vs H Q E h => ?_) (fun f cdv A outer s H vs Q E hr h => ?_)
  · obtain ⟨n, p, rfl, _⟩ := h
    rfl
  · obtain ⟨n, p, rfl, hp, n5, q⟩ := h
    refine ⟨_, pss_cons (ps_set (i := 2) sc_front_permutation.nd rfl (.inl rfl) (pe_tupRg rfl (by rfl) B.tuple (prg_2 (by rfl) B.range pe_int (pe_op op_add (pv 1) pe_int))))
      (pss_cons (ps_set (i := 3) sc_front_permutation.nd rfl (.inl rfl) (pe_tupRg rfl (by rfl) B.tuple (prg_2 (by rfl) B.range (pe_op op_add (pv 1) pe_int) (pv 0))))
      (pss_one (ps_ret (pe_op op_catA (pe_op op_catA (pv 2) (pe_tup (pa_cons pe_int pa_nil))) (pv 3))))), ?_⟩
    refine ⟨_, rfl, (p : Int), 1, rfl, rfl, 1, (p : Int) + 1, rfl, rfl, ⟨by omega, by omega, by omega, by omega, by omega⟩, fun a1 h1 => ?_⟩
    have s1 := same_new (o := .tup (rgV 1 ((p : Int) + 1))) h1
    refine ⟨_, rfl, (p : Int), 1, rfl, rfl, _, rfl, (p : Int) + 1, n, rfl, rfl, ⟨by omega, by omega, by omega, by omega, by omega⟩, fun a2 h2 => ?_⟩
    have s2 := same_new (o := .tup (rgV ((p : Int) + 1) (n : Int))) h2
    refine ⟨_, rfl, by show 1 ≤ sizeLine; decide, fun a3 h3 => ?_⟩
    have s3 := same_new (o := .tup [.int 0]) h3
    refine catU_ok (s3 _ _ (s2 _ _ upd_same)) upd_same (by rw [rgV_length]; show _ + 1 ≤ 1000; omega) fun r H4 s4 e4 => ⟨_, rfl, ?_⟩
    refine catU_ok e4 (s4 _ _ (s3 _ _ upd_same)) (by rw [List.length_append, rgV_length, rgV_length]; show _ + 1 + _ ≤ 1000; omega) fun r2 H5 s5 e5 => q r2 H5 (s1.trans (s2.trans (s3.trans (s4.trans s5)))) ?_
    rw [e5, rgV_rgI, rgV_rgI]
    unfold wF
    rw [List.map_append, List.map_append]
    rfl
def spFrH (K : PySem.W.Frag) : Sp := fun vs H Q _ => ∃ n : Nat, vs = [.int n] ∧ 2 ≤ n ∧ n ≤ 5 ∧ ∀ v H', Same H H' → TII K H' v (frH n) → Q v H'
theorem ok_frH (F : Df K mg "front_habit" st_front_habit ["places"]) (B : Bu mg) (CP : Cal P w K mg base 4 "check_places" spCheckPlaces) (CF : Cal P w K mg base 1 "front_permutation" spFrP) : Cal P w K mg base 5 "front_habit" (spFrH K) := by
  refine mkCal F sc_front_habit (fun vs H Q E h => ?_) (fun f cdv A outer s H vs Q E hr h => ?_)
  · obtain ⟨n, rfl, _⟩ := h
    rfl
  · obtain ⟨n, rfl, n2, n5, q⟩ := h
    refine ⟨_, pss_cons (ps_expr (pc CP hr (pa_cons (pv 0) pa_nil)))
      (pss_one (ps_ret (pe_tupleOf (by rfl) B.tuple (pe_lc (own := [("place", 1)]) (g := gName 1) (tt := tYes) rfl sc_front_habit.nd (pi_range1 (by rfl) B.range (pa_cons (pv 0) pa_nil))
        (blkOk_by (N := ["places", "place"]) (sc := defScope st_front_habit) (by decide +kernel)) (fun _ _ _ _ _ => pg_name (i := 1) sc_front_habit.nd rfl (Or.inl rfl)) (fun _ _ _ _ _ => pts_nil)
        (fun _ _ _ _ _ => pc CF hr (pa_cons (pv 0) (pa_cons (pv 1) pa_nil))))))), ?_⟩
    refine ⟨_, rfl, n, rfl, n2, n5, _, rfl, n, rfl, by omega, by omega, fun D hD => ?_⟩
    rw [Int.toNat_natCast]
    refine lc_range (lo := 0) (n := n) (fun i H' => ∃ xs, Same H H' ∧ H' D = some (.lst xs) ∧ Each (TI K H') xs ((List.range i).map (wF n))) ⟨[], same_new hD, upd_same, .nil⟩ (fun i H1 hi h' => ?_) (fun H1 h' => ?_)
    · obtain ⟨xs, sm, eD, hE⟩ := h'
      have hl := hE.len
      rw [List.length_map, List.length_range] at hl
      rw [Int.zero_add]
      refine ⟨rfl, _, rfl, _, rfl, n, i, rfl, hi, n5, fun r H2 s2 e2 => ⟨xs, s2 _ _ eD, small1000 (by omega), xs ++ [.ref r], ?_, upd_same, ?_⟩⟩
      · intro b o e
        rw [upd_ne (ne_of_none e hD)]
        exact s2 _ _ (sm b o e)
      · have f1 : Fix H2 (upd H2 D (.lst (xs ++ [.ref r]))) := Fix.lst (s2 _ _ eD)
        rw [List.range_succ, List.map_append]
        exact Each.snoc ⟨r, rfl, f1.tups _ _ (tupAt e2)⟩ (hE.imp fun _ _ z => (z.on (Same.tups s2)).on f1.tups)
    · obtain ⟨xs, sm, eD, hE⟩ := h'
      refine .inl ⟨D, xs, rfl, lstAt eD, fun t ht => q _ _ (sm.trans (same_new ht)) ⟨t, xs, rfl, tupAt upd_same, hE.imp fun _ _ z => z.on (Same.tups (same_new ht))⟩⟩
def spWalked (K : PySem.W.Frag) : Sp := fun vs H Q _ => ∃ (v : V) (h : List (List Int)) (n : Nat) (a b : Addr) (L ns : List Int), vs = [v, .ref a, .ref b] ∧ TII K H v h ∧ Hb n h ∧ SqT K H a (L.map V.int) ∧ L.Perm (rg n) ∧ Nms K H b ns n ∧ ∀ H', Same H H' → Q (.int (wlk h L ns)) H'
theorem lyt_perm {h : List (List Int)} {n : Nat} (hb : Hb n h) : ∀ {ns L : List Int}, L.Perm (rg n) → (∀ x ∈ ns, x ∈ rg n) → (ns.foldl (lyt h) L).Perm (rg n)
  | [], _, hL, _ => hL
  | x :: ns, L, hL, hm => by
    have hx := rg_mem.mp (hm x (List.mem_cons_self ..))
    have hi : x.toNat < L.length := by rw [perm_len hL]; omega
    have e : L.getD x.toNat 0 = L[x.toNat] := getD_at (List.getElem?_eq_getElem hi)
    have hp : L.getD x.toNat 0 ∈ rg n := by
      rw [e]
      exact hL.mem_iff.mp (List.getElem_mem hi)
    exact lyt_perm hb (L := lyt h L x) (stp_perm2 hb hp hL) fun y hy => hm y (List.mem_cons_of_mem _ hy)
theorem wlk_more {h : List (List Int)} {L ns : List Int} {i : Nat} {x : Int} (e : ns[i]? = some x) : wlk h L (ns.take (i + 1)) = wlk h L (ns.take i) + ((ns.take i).foldl (lyt h) L).getD x.toNat 0 + 1 := by
  rw [List.take_add_one, e]
  exact wlk_snoc _ _ _
theorem ok_walked (F : Df K mg "walked" st_walked ["habit", "layout", "names"]) (B : Bu mg) (c200 : ∃ t, mg "MOST_ASKED" = some (.int 200 t)) (CH : Cal P w K mg base 6 "check_habit" (spCheckHabit K)) (CL : Cal P w K mg base 6 "check_layout" (spCkLay K))
    (CN : Cal P w K mg base 6 "check_names" (spCkNames K)) (CM : Cal P w K mg base 1 "move" (spMove K)) : Cal P w K mg base 7 "walked" (spWalked K) := by
  refine mkCal F sc_walked (fun vs H Q E h => ?_) (fun f cdv A outer s H vs Q E hr h => ?_)
  · obtain ⟨v, h, n, a, b, L, ns, rfl, _⟩ := h
    rfl
  · obtain ⟨v, h, n, a, b, L, ns, rfl, hT, hb, hS, hL, hN, q⟩ := h
    have n5 := hb.hi
    have hlen : ∀ {H' : Hp}, TII K H' v h → ∃ c xs, v = .ref c ∧ SqT K H' c xs ∧ xs.length = n := fun {H'} ⟨c, xs, e, h1, h2⟩ => ⟨c, xs, e, h1, h2.len.trans hb.len⟩
    refine ⟨_, pss_cons (ps_expr (pc CH hr (pa_cons (pv 0) pa_nil))) (pss_cons (ps_expr (pc CL hr (pa_cons (pv 1) (pa_cons (pe_callB (cl_len K) (by rfl) B.len PySem.boot_len (pa_cons (pv 0) pa_nil)) pa_nil))))
      (pss_cons (ps_expr (pc CN hr (pa_cons (pv 2) (pa_cons (pe_callB (cl_len K) (by rfl) B.len PySem.boot_len (pa_cons (pv 0) pa_nil)) (pa_cons (pk c200) pa_nil)))))
      (pss_cons (ps_set (i := 3) sc_walked.nd rfl (.inl rfl) pe_int)
      (pss_cons (ps_for PassesOwn.never rfl (pi_tup (pv 2)) (pg_name (i := 4) sc_walked.nd rfl (.inl rfl))
        (pss_cons (ps_set (i := 5) sc_walked.nd rfl (.inl rfl) (pe_ix (ixT K) (pv 1) (pv 4) (fun _ _ => rfl)))
        (pss_cons (ps_aug (i := 3) sc_walked.nd rfl (.inl rfl) (pe_op op_add (pv 5) pe_int) ip_add)
        (pss_one (ps_set (i := 1) sc_walked.nd rfl (.inl rfl) (pc CM hr (pa_cons (pv 0) (pa_cons (pv 1) (pa_cons (pv 5) pa_nil)))))))))
      (pss_one (ps_ret (pv 3))))))), ?_⟩
    obtain ⟨c, xs, rfl, hc, lx⟩ := hlen hT
    refine ⟨_, rfl, .ref c, h, n, rfl, hT, hb, fun H1 s1 => ⟨_, rfl, _, rfl, c, xs, rfl, .inr (onT s1 hc), a, L, n, by rw [lx]; rfl, onT s1 hS, hL, by omega, fun H2 s2 => ?_⟩⟩
    have s12 := s1.trans s2
    refine ⟨_, rfl, _, rfl, c, xs, rfl, .inr (onT s12 hc), b, ns, n, by rw [lx]; rfl, hN.on s12, fun H3 s3 => ?_⟩
    have s123 := s12.trans s3
    refine ⟨_, rfl, b, rfl, ⟨_, (hN.on s123).at_⟩, ?_⟩
    refine for_tup (xs := ns.map V.int) (fun i σ H' => Same H3 H' ∧ ∃ y4 y5 la, σ = [some (.ref c), some (.ref la), some (.ref b), some (.int (wlk h L (ns.take i))), y4, y5] ∧ SqT K H' la (((ns.take i).foldl (lyt h) L).map V.int)) ⟨Same.refl _, none, none, a, rfl, onT s123 hS⟩ (fun i σ H' _ h' => (hN.on (s123.trans h'.1)).at_) (fun i x σ H' hx h' => ?_) (fun σ H' h' => ?_)
    · obtain ⟨z, hz, rfl⟩ := map_at hx
      obtain ⟨sm, y4, y5, la, rfl, hla⟩ := h'
      have hz2 := rg_mem.mp (hN.in_ z (List.mem_of_getElem? hz))
      have pm := lyt_perm hb (ns := ns.take i) hL fun y hy => hN.in_ y (List.mem_of_mem_take hy)
      have lM := perm_len pm
      obtain ⟨g, hg⟩ : ∃ g, ((ns.take i).foldl (lyt h) L)[z.toNat]? = some g := ⟨_, List.getElem?_eq_getElem (by omega)⟩
      have eg := getD_at (d := 0) hg
      have ing := rg_mem.mp (pm.mem_iff.mp (List.mem_of_getElem? hg))
      refine ⟨_, rfl, _, rfl, la, _, z, .int g, rfl, rfl, hla, at_int hz2.1 (at_map hg), _, rfl, _, rfl, g, 1, rfl, rfl, _, _, rfl, rfl, ?_⟩
      refine ⟨_, rfl, _, rfl, _, rfl, .ref c, h, n, la, _, g, rfl, hT.on (Same.tups (s123.trans sm)), hb, hla, fun u hu => perm_in pm hu, by omega, ing, fun H4 q4 s4 _ f4 => ⟨sm.trans s4, some (.int z), some (.int g), q4, ?_, ?_⟩⟩
      · rw [wlk_more hz, eg, Int.add_assoc (wlk h L (ns.take i))]
        rfl
      · have el : lyt h ((ns.take i).foldl (lyt h) L) z = stp h g ((ns.take i).foldl (lyt h) L) := by
          show stp h (((ns.take i).foldl (lyt h) L).getD z.toNat 0) _ = _
          rw [eg]
        rw [fold_more hz, el]
        exact f4.sq
    · obtain ⟨sm, y4, y5, la, rfl, hla⟩ := h'
      rw [List.length_map, List.take_length]
      exact ⟨_, rfl, q H' (s123.trans sm)⟩
end
end RH
set_option Elab.async false
set_option linter.all false
set_option maxRecDepth 100000
set_option maxHeartbeats 2000000
namespace RH
open PySem PySem.Spec PyProof.Rows L2
open NdefX (NScope CellsAt Caps slotAt slotAt_of cells_of startF ncx)
open LamX (Tabs TabS TabB ExtN CodeO codeO_ne)
/-! ### pairs crossed, the best still order -/
section
variable {P : Program} {w : World} {K : PySem.W.Frag} {mg : Str → Option Value} {base : Heap}
/-- two rows of places -/
def spPairs (K : PySem.W.Frag) : Sp := fun vs H Q _ => ∃ (a b : Addr) (L O : List Int) (n : Nat), vs = [.ref a, .ref b] ∧ SqT K H a ((invR L).map V.int) ∧ SqT K H b ((invR O).map V.int) ∧ L.Perm (rg n) ∧ O.Perm (rg n) ∧ n ≤ 30 ∧ Q (.int (prs (bef O) L : Nat)) H
theorem inv_at {n : Nat} {O : List Int} (hO : O.Perm (rg n)) {i : Nat} (hi : i < n) : (invR O)[i]? = some ((O.idxOf (i : Int) : Nat) : Int) := by
  unfold invR
  rw [List.getElem?_map, List.getElem?_range (by rw [perm_len hO]; exact hi)]
  rfl
theorem invL_len {n : Nat} {O : List Int} (hO : O.Perm (rg n)) : (invR O).length = n := by
  unfold invR
  rw [List.length_map, List.length_range, perm_len hO]
theorem ok_pairs (F : Df K mg "pairs_crossed" st_pairs_crossed ["one", "other"]) (B : Bu mg) : Cal P w K mg base 1 "pairs_crossed" (spPairs K) := by
  refine mkCal F sc_pairs_crossed (fun vs H Q E h => ?_) (fun f cdv A outer s H vs Q E hr h => ?_)
  · obtain ⟨a, b, L, O, n, rfl, _⟩ := h
    rfl
  · obtain ⟨a, b, L, O, n, rfl, hA, hB, hL, hO, n30, q⟩ := h
    refine ⟨_, pss_cons (ps_set (i := 2) sc_pairs_crossed.nd rfl (.inl rfl) pe_int)
      (pss_cons (ps_for PassesOwn.never rfl (pi_range1 (by rfl) B.range (pa_cons (pe_callB (cl_len K) (by rfl) B.len PySem.boot_len (pa_cons (pv 0) pa_nil)) pa_nil)) (pg_name (i := 3) sc_pairs_crossed.nd rfl (.inl rfl))
        (pss_one (ps_for PassesOwn.never rfl (pi_range1 (by rfl) B.range (pa_cons (pv 3) pa_nil)) (pg_name (i := 4) sc_pairs_crossed.nd rfl (.inl rfl))
          (pss_one (ps_if (pt_cmpR op_ne (pe_cmpR op_lt (pe_ix (ixT K) (pv 0) (pv 4) (fun _ _ => rfl)) (pe_ix (ixT K) (pv 0) (pv 3) (fun _ _ => rfl)) (nomark _)) (pe_cmpR op_lt (pe_ix (ixT K) (pv 1) (pv 4) (fun _ _ => rfl)) (pe_ix (ixT K) (pv 1) (pv 3) (fun _ _ => rfl)) (nomark _)) (nomark _))
            (pss_one (ps_aug (i := 2) sc_pairs_crossed.nd rfl (.inl rfl) pe_int ip_add)) pss_nil)))))
      (pss_one (ps_ret (pv 2)))), ?_⟩
    have lA : ((invR L).map V.int).length = n := by rw [List.length_map, invL_len hL]
    refine ⟨_, rfl, a, _, rfl, .inr hA, ((invR L).map V.int).length, rfl, by rw [lA]; omega, by rw [lA]; omega, ?_⟩
    rw [Int.toNat_natCast, lA]
    refine for_range (lo := 0) (n := n) (fun i σ H' => H' = H ∧ ∃ y3 y4, σ = [some (.ref a), some (.ref b), some (.int (prs (fun h l => gX L O l h) (rg i).reverse : Nat)), y3, y4]) ⟨rfl, none, none, rfl⟩ (fun i σ H' hi h' => ?_) (fun σ H' h' => ?_)
    · obtain ⟨rfl, y3, y4, rfl⟩ := h'
      rw [Int.zero_add]
      refine ⟨_, rfl, (i : Int), rfl, by omega, by omega, ?_⟩
      rw [Int.toNat_natCast]
      refine for_range (lo := 0) (n := i) (fun j σ H2 => H2 = H' ∧ ∃ y4, σ = [some (.ref a), some (.ref b), some (.int ((prs (fun h l => gX L O l h) (rg i).reverse + (rg j).countP (fun l => gX L O l (i : Int)) : Nat) : Int)), some (.int (i : Int)), y4]) ⟨rfl, y4, rfl⟩ (fun j σ H2 hj h2 => ?_) (fun σ H2 h2 => ?_)
      · obtain ⟨rfl, y4, rfl⟩ := h2
        rw [Int.zero_add]
        have g1 := at_map (inv_at hL (i := j) (by omega))
        have g2 := at_map (inv_at hL hi)
        have g3 := at_map (inv_at hO (i := j) (by omega))
        have g4 := at_map (inv_at hO hi)
        refine ⟨_, rfl, _, rfl, a, _, (j : Int), _, rfl, rfl, hA, atI_nat g1, _, rfl, _, rfl, a, _, (i : Int), _, rfl, rfl, hA, atI_nat g2, _, _, rfl, rfl, ?_⟩
        refine ⟨_, rfl, _, rfl, b, _, (j : Int), _, rfl, rfl, hB, atI_nat g3, _, rfl, _, rfl, b, _, (i : Int), _, rfl, rfl, hB, atI_nat g4, _, _, rfl, rfl, rfl, _, rfl, ?_⟩
        have e : (rg (j + 1)).countP (fun l => gX L O l (i : Int)) = (rg j).countP (fun l => gX L O l (i : Int)) + if gX L O (j : Int) (i : Int) = true then 1 else 0 := by
          rw [rg_succ, List.countP_append, List.countP_cons, List.countP_nil, Nat.zero_add]
        refine ite2 (fun t => ?_) (fun t => ?_)
        · have t' : gX L O (j : Int) (i : Int) = true := by
            unfold gX
            simpa using t
          rw [if_pos t'] at e
          refine ⟨_, rfl, _, 1, rfl, rfl, rfl, some (.int (j : Int)), ?_⟩
          rw [e]
          exact rfl
        · have t' : ¬ gX L O (j : Int) (i : Int) = true := by
            unfold gX
            simpa using t
          rw [if_neg t'] at e
          refine ⟨rfl, some (.int (j : Int)), ?_⟩
          rw [e]
          exact rfl
      · obtain ⟨rfl, y4, rfl⟩ := h2
        refine ⟨rfl, some (.int (i : Int)), y4, ?_⟩
        rw [prs_rg, Nat.add_comm]
    · obtain ⟨rfl, y3, y4, rfl⟩ := h'
      rw [← cross_eq hL hO] at q
      exact ⟨_, rfl, q⟩
/-! crossed, front_bound -/
def spCrossed (K : PySem.W.Frag) : Sp := fun vs H Q _ => ∃ (a b : Addr) (L O : List Int) (n : Nat), vs = [.ref a, .ref b] ∧ FT H a L ∧ FT H b O ∧ L.Perm (rg n) ∧ O.Perm (rg n) ∧ 1 ≤ n ∧ n ≤ 30 ∧ ∀ H', Same H H' → Q (.int (prs (bef O) L : Nat)) H'
theorem ok_crossed (F : Df K mg "crossed" st_crossed ["one", "other"]) (C2 : Cal P w K mg base 7 "check_two_orders" (spTwoOrd K)) (CI : Cal P w K mg base 1 "inverse" (spInv K)) (CP : Cal P w K mg base 1 "pairs_crossed" (spPairs K)) : Cal P w K mg base 8 "crossed" (spCrossed K) := by
  refine mkCal F sc_crossed (fun vs H Q E h => ?_) (fun f cdv A outer s H vs Q E hr h => ?_)
  · obtain ⟨a, b, L, O, n, rfl, _⟩ := h
    rfl
  · obtain ⟨a, b, L, O, n, rfl, hA, hB, hL, hO, n1, n30, q⟩ := h
    refine ⟨_, pss_cons (ps_expr (pc C2 hr (pa_cons (pv 0) (pa_cons (pv 1) pa_nil)))) (pss_one (ps_ret (pc CP hr (pa_cons (pc CI hr (pa_cons (pv 0) pa_nil)) (pa_cons (pc CI hr (pa_cons (pv 1) pa_nil)) pa_nil))))), ?_⟩
    refine ⟨_, rfl, _, rfl, a, b, L, O, n, rfl, hA.sq, hB.sq, hL, hO, n1, n30, fun H1 s1 => ?_⟩
    refine ⟨_, rfl, _, L, n, rfl, ⟨a, rfl, hA.same s1⟩, hL, n30, fun H2 u s2 hu => ?_⟩
    refine ⟨_, rfl, _, O, n, rfl, ⟨b, rfl, hB.same (s1.trans s2)⟩, hO, n30, fun H3 u2 s3 hu2 => ?_⟩
    obtain ⟨c, rfl, hc⟩ := hu
    obtain ⟨d, rfl, hd⟩ := hu2
    exact ⟨c, d, L, O, n, rfl, (hc.same s3).sq, hd.sq, hL, hO, n30, q H3 (s1.trans (s2.trans s3))⟩
def spBound (K : PySem.W.Frag) : Sp := fun vs H Q _ => ∃ (a b d : Addr) (L O ns : List Int) (n : Nat), vs = [.ref a, .ref b, .ref d] ∧ FT H a L ∧ FT H b O ∧ L.Perm (rg n) ∧ O.Perm (rg n) ∧ 1 ≤ n ∧ n ≤ 30 ∧ Nms K H d ns n ∧ ∀ H', Same H H' → Q (.int (2 * stl O ns + (prs (bef O) L : Nat) - (ns.length : Int))) H'
theorem ok_bound (F : Df K mg "front_bound" st_front_bound ["order", "other", "names"]) (B : Bu mg) (c200 : ∃ t, mg "MOST_ASKED" = some (.int 200 t)) (C2 : Cal P w K mg base 7 "check_two_orders" (spTwoOrd K)) (CN : Cal P w K mg base 6 "check_names" (spCkNames K))
    (CS : Cal P w K mg base 7 "still_walk" (spStill K)) (CC : Cal P w K mg base 8 "crossed" (spCrossed K)) : Cal P w K mg base 9 "front_bound" (spBound K) := by
  refine mkCal F sc_front_bound (fun vs H Q E h => ?_) (fun f cdv A outer s H vs Q E hr h => ?_)
  · obtain ⟨a, b, d, L, O, ns, n, rfl, _⟩ := h
    rfl
  · obtain ⟨a, b, d, L, O, ns, n, rfl, hA, hB, hL, hO, n1, n30, hN, q⟩ := h
    refine ⟨_, pss_cons (ps_expr (pc C2 hr (pa_cons (pv 0) (pa_cons (pv 1) pa_nil)))) (pss_cons (ps_expr (pc CN hr (pa_cons (pv 2) (pa_cons (pe_callB (cl_len K) (by rfl) B.len PySem.boot_len (pa_cons (pv 0) pa_nil)) (pa_cons (pk c200) pa_nil)))))
      (pss_one (ps_ret (pe_op op_sub (pe_op op_add (pe_op op_mul pe_int (pc CS hr (pa_cons (pv 1) (pa_cons (pv 2) pa_nil)))) (pc CC hr (pa_cons (pv 0) (pa_cons (pv 1) pa_nil)))) (pe_callB (cl_len K) (by rfl) B.len PySem.boot_len (pa_cons (pv 2) pa_nil)))))), ?_⟩
    refine ⟨_, rfl, _, rfl, a, b, L, O, n, rfl, hA.sq, hB.sq, hL, hO, n1, n30, fun H1 s1 => ?_⟩
    refine ⟨_, rfl, _, rfl, a, _, rfl, .inr (hA.same s1).sq, d, ns, n, by rw [List.length_map, perm_len hL]; rfl, hN.on s1, fun H2 s2 => ?_⟩
    have s12 := s1.trans s2
    refine ⟨_, rfl, _, rfl, b, d, O, ns, n, rfl, hB.same s12, hO, n1, n30, hN.on s12, fun H3 s3 => ⟨2, _, rfl, rfl, .inl ⟨by decide, by decide⟩, ?_⟩⟩
    have s13 := s12.trans s3
    refine ⟨_, rfl, _, rfl, a, b, L, O, n, rfl, hA.same s13, hB.same s13, hL, hO, n1, n30, fun H4 s4 => ⟨_, _, rfl, rfl, ?_⟩⟩
    refine ⟨_, rfl, d, _, rfl, .inr (hN.on (s13.trans s4)).at_, ⟨_, _, rfl, rfl, ?_⟩⟩
    rw [List.length_map]
    exact q H4 (s13.trans s4)
end
/-! best_still -/
section
variable {P : Program} {w : World} {K : PySem.W.Frag} {mg : Str → Option Value} {base : Heap}
def kdB (ns : List Int) (v : V) : PyData := .tuple [.int (-((ns.count (valI v) : Nat) : Int)), .int (valI v)]
/-- the order that best_still gives -/
noncomputable def bestO (n : Nat) (ns : List Int) : List Int := (((rg n).map V.int).mergeSort (PySem.W.dataLe false (kdB ns))).map valI
theorem best_perm (n : Nat) (ns : List Int) : (bestO n ns).Perm (rg n) := by
  have h := ((List.mergeSort_perm ((rg n).map V.int) (PySem.W.dataLe false (kdB ns))).map valI)
  rw [List.map_map] at h
  have e : (rg n).map (valI ∘ V.int) = rg n := List.map_id' (rg n)
  rw [e] at h
  exact h
theorem best_vals (n : Nat) (ns : List Int) : ((rg n).map V.int).mergeSort (PySem.W.dataLe false (kdB ns)) = (bestO n ns).map V.int := by
  unfold bestO
  rw [List.map_map]
  refine ((List.map_congr_left (g := id) fun v hv => ?_).trans (List.map_id _)).symm
  have hm := (List.mergeSort_perm ((rg n).map V.int) (PySem.W.dataLe false (kdB ns))).mem_iff.mp hv
  obtain ⟨i, _, rfl⟩ := List.mem_map.mp hm
  rfl
theorem best_order (n : Nat) (ns : List Int) : (bestO n ns).Pairwise fun x y => ns.count y ≤ ns.count x := by
  have le : PySem.W.dataLe false (kdB ns) = fun p q : V => decide (-((ns.count (valI p) : Nat) : Int) < -((ns.count (valI q) : Nat) : Int) ∨ (-((ns.count (valI p) : Nat) : Int) = -((ns.count (valI q) : Nat) : Int) ∧ valI p ≤ valI q)) :=
    PySem.W.dataLe_ii (fun v => -((ns.count (valI v) : Nat) : Int)) valI
  have h := List.pairwise_mergeSort (le := PySem.W.dataLe false (kdB ns)) (fun a b c h1 h2 => ?_) (fun a b => ?_) ((rg n).map V.int)
  · unfold bestO
    rw [List.pairwise_map]
    refine h.imp fun {a b} q => ?_
    rw [le] at q
    have q := of_decide_eq_true q
    omega
  · rw [le] at h1 h2 ⊢
    have h1 := of_decide_eq_true h1
    have h2 := of_decide_eq_true h2
    exact decide_eq_true (by omega)
  · rw [le]
    simp only [Bool.or_eq_true, decide_eq_true_eq]
    omega
def lamQ81 (x : Str) : Str := (envOfC x (defScope st_best_still) 0 0 .none).qual ++ "<lambda>"
def tabs81 (P1 P2 : Addr) : List (Addr × Str) := [(P1, lamQ81 "best_still"), (P2, lamQ81 "law")]
/-- the key that sorted is given in a statement x = tuple(sorted(.., key=..)) -/
def keyFn (st : Stmt) : Expr := match st with
  | .Assign _ (.Call _ (.Call _ _ (k :: _) _ :: _) _ _) _ => k.value
  | _ => .Constant .none 0 ⟨0, 0, 0, 0⟩
def lamP : Expr → Arguments
  | .Lambda p _ _ _ => p
  | _ => defArgs st_law
def lamB : Expr → Expr
  | .Lambda _ b _ _ => b
  | e => e
def lamS : Expr → Scope
  | .Lambda _ _ sc _ => sc
  | _ => defScope st_law
def lamO : Expr → Pos
  | .Lambda _ _ _ p => p
  | _ => ⟨0, 0, 0, 0⟩
abbrev lamA : Expr := keyFn ((defBody st_best_still).getD 2 (.Pass ⟨0, 0, 0, 0⟩))
theorem nsA : NScope ["name", "names"] ["name"] ["names"] (lamS lamA) := NdefX.nscope_by (by decide +kernel)
def spKey (K : PySem.W.Frag) (ns : List Int) : List (Option V) → Sp := fun ws vs H Q _ => ∃ (b : Addr) (x : Int), ws = [some (.ref b)] ∧ vs = [.int x] ∧ FT H b ns ∧
  ∀ t, H t = none → Q (.ref t) (upd H t (.tup [.int (-((ns.count x : Nat) : Int)), .int x]))
theorem lokA (ns : List Int) (q : Str) (cl : List (Str × Addr)) (c f : Addr) : LOk P w K mg base CX0 1 f ⟨q, lamP lamA, lamB lamA, lamS lamA, cl, c⟩ ["name"] ["names"] (spKey K ns) := by
  refine lok_of nsA (fun pm ctv us hl => ?_) (fun ws vs H Q E hq => ?_) (fun A outer s H vs ws Q E hr _ hsp => ?_)
  · match us, hl with
    | [_], _ => rfl
  · obtain ⟨_, _, _, rfl, _⟩ := hq
    rfl
  · obtain ⟨b, x, rfl, rfl, hS, q⟩ := hsp
    refine ⟨_, pe_tup (pa_cons (pe_un un_neg (pe_tcntF hr.units (pv 1) (pv 0))) (pa_cons (pv 0) pa_nil)), ?_⟩
    exact ⟨_, rfl, b, ns, rfl, hS, _, rfl, x, rfl, hS, _, rfl, _, rfl, by show 2 ≤ sizeLine; decide, q⟩
theorem kd_alike (ns xs : List Int) : PySem.W.AllAlike ((xs.map V.int).map (kdB ns)) := by
  intro d hd d' hd'
  obtain ⟨v, _, rfl⟩ := List.mem_map.mp hd
  obtain ⟨v', _, rfl⟩ := List.mem_map.mp hd'
  unfold kdB
  simp [PySem.W.alike, PySem.W.alikeAll]
theorem kd_sort (ns xs : List Int) : PySem.W.Sortable ((xs.map V.int).map (kdB ns)) := .inl fun d hd => by
  obtain ⟨v, _, rfl⟩ := List.mem_map.mp hd
  exact ⟨_, _, rfl⟩
theorem kd_depth (ns : List Int) (v : V) : (kdB ns v).depth < 60 := by
  unfold kdB
  simp [PyData.depth, PyData.depthAll]
theorem kd_dp {K : PySem.W.Frag} {H : Hp} {t : Addr} {ns : List Int} {x : Int} (h : H t = some (.tup [.int (-((ns.count x : Nat) : Int)), .int x])) : Dp K H (.ref t) (kdB ns (.int x)) :=
  .tup (tupAt h) (.cons (.int _) (.cons (.int _) .nil))
def spBest (K : PySem.W.Frag) (T : List (Addr × Str)) : Sp := fun vs H Q _ => ∃ (b : Addr) (ns : List Int) (n : Nat), vs = [.int (n : Int), .ref b] ∧ Nms K H b ns n ∧ 1 ≤ n ∧ n ≤ 30 ∧ Tabs T H ∧
  ∀ H' t c, ExtN H H' → Tabs T H' → H' t = some (.tup [.ref c, .int (stl (bestO n ns) ns)]) → FT H' c (bestO n ns) → Q (.ref t) H'
theorem extN_tups {K : PySem.W.Frag} {H H' : Hp} (e : ExtN H H') : Tups K H H' := fun a xs hs => by
  rcases hs with (hs | ⟨o, hs⟩) | hs
  · exact .inl (.inl (e _ _ hs (fun ps z => nomatch z)))
  · exact .inl (.inr ⟨o, e _ _ hs (fun ps z => nomatch z)⟩)
  · exact .inr hs
theorem extN_same {H H' : Hp} (e : Same H H') : ExtN H H' := ExtN.of fun b o h => e b o h
theorem tabs_same {T : List (Addr × Str)} {H H' : Hp} (t : Tabs T H) (e : Same H H') : Tabs T H' := t.ext fun b o h => e b o h
theorem FT.ext {H H' : Hp} {a : Addr} {ns : List Int} (e : ExtN H H') (h : FT H a ns) : FT H' a ns := let ⟨ob, h1, h2⟩ := h; ⟨ob, e _ _ h1 (fun ps z => nomatch z), h2⟩
/-- a def of the text with its code object -/
structure DfC (K : PySem.W.Frag) (mg : Str → Option Value) (x : Str) (st : Stmt) (ps : List Str) (c : Addr) : Prop where
  ex : ∃ (f : Addr) (oc : Value) (od : Option Addr) (kV doc pm : Value) (an : Option Addr) (ct : Value) (osl : Array (Option Value)), K.lookup f = some ⟨oc, od, .func (PySem.W.fnOf x x (defArgs st) (defBody st) (defScope st) .none kV doc pm an (.ref c) ct), osl⟩ ∧
    PySem.W.codeIn K (.ref c) x = true ∧ PySem.W.keepIn K (.ref f) = true ∧ mg x = some (.ref f) ∧ Binds K (PySem.W.fnOf x x (defArgs st) (defBody st) (defScope st) .none kV doc pm an (.ref c) ct) ps []
theorem mkCalC {x : Str} {st : Stmt} {N ps : List Str} {k : Nat} {sp : Sp} {c : Addr} (F : DfC K mg x st ps c) (S : FnScope N ps (defScope st)) (len : ∀ vs H Q E, sp vs H Q E → vs.length = ps.length)
    (hbody : ∀ (f : Addr) (A : Around) (outer : List Env) (s : Shared) (H : Hp) (vs : List V) (Q : VK) (E : XK), Room k (A.deeper (envOfC x (defScope st) s.heap.objs.size f (.ref c))) → sp vs H Q E →
      ∃ t, PSs (cxOf CX0 P w K mg base N x (defScope st) f (.ref c) A outer s H E).nox (defBody st) t ∧ t { nx := fun _ H' => Q .non H', rt := Q } (start N vs) H) : Cal P w K mg base (k + 1) x sp := by
  obtain ⟨f, oc, od, kV, doc, pm, an, ct, osl, lk, hcd, kp, g, b⟩ := F.ex
  refine ⟨f, _, ps, fn_of lk hcd S len fun A outer s H vs Q E hr hsp => ?_, g, kp, b⟩
  obtain ⟨t, h, q⟩ := hbody f A outer s H vs Q E hr hsp
  exact ⟨t, h.nox, q⟩
theorem ok_best {c P1 P2 : Addr} (F : DfC K mg "best_still" st_best_still ["many", "names"] c) (B : Bu mg) (TB : TabB base mg c P1) (hPP : P1 ≠ P2) (c30 : ∃ t, mg "MOST_BOOKS" = some (.int 30 t)) (c200 : ∃ t, mg "MOST_ASKED" = some (.int 200 t))
    (C2 : Cal P w K mg base 2 "is_number" spIsNumber) (CN : Cal P w K mg base 6 "check_names" (spCkNames K)) (CS : Cal P w K mg base 7 "still_walk" (spStill K)) : Cal P w K mg base 8 "best_still" (spBest K (tabs81 P1 P2)) := by
  refine mkCalC F sc_best_still (fun vs H Q E h => ?_) (fun f A outer s H vs Q E hr h => ?_)
  · obtain ⟨b, ns, n, rfl, _⟩ := h
    rfl
  · obtain ⟨b, ns, n, rfl, hN, n1, n30, hTb, q⟩ := h
    have hfree : ∀ y ∈ (lamS lamA).names, y.2 = .free → (defScope st_best_still).names.lookup y.1 = some .cell ∨ (defScope st_best_still).names.lookup y.1 = some .free := by decide +kernel
    have hfr : ∀ y ∈ (["names"] : List Str), (y, NameKind.free) ∈ (lamS lamA).names := by decide +kernel
    let X : Cx := (cxOf CX0 P w K mg base ["many", "names", "order"] "best_still" (defScope st_best_still) f (.ref c) A outer s H E).nox
    have hfX : ∀ y ∈ (lamS lamA).names, y.2 = .free → X.env.scope.names.lookup y.1 = some .cell ∨ X.env.scope.names.lookup y.1 = some .free := hfree
    let mk : Addr → LF := fun c' => ⟨X.env.qual ++ "<lambda>", lamP lamA, lamB lamA, lamS lamA, cloFrom X.env.cells (lamS lamA).names [], c'⟩
    have hr2 : Room (5 + 2) X.A := hr.mono (by decide)
    refine ⟨_, pss_cons (ps_if (pt_not (pt_val (pc C2 hr (pa_cons (pv 0) (pa_cons pe_int (pa_cons (pk c30) pa_nil)))))) (pss_one ps_no) pss_nil)
      (pss_cons (ps_expr (pc CN hr (pa_cons (pv 1) (pa_cons (pv 0) (pa_cons (pk c200) pa_nil)))))
      (pss_cons (ps_set (i := 2) sc_best_still.nd rfl (.inl rfl) (pe_tupleF (by rfl) B.tuple (pe_sortK (X := X) rfl hr2.in1.in1.units (by rfl) B.sorted (pe_callTy cr_range1 (by rfl) B.range boot_range (pa_cons (pv 0) pa_nil))
        (pe_lam (T := tabs81 P1 P2) (params := lamP lamA) (body := lamB lamA) (scope := lamS lamA) (pos := lamO lamA) TB rfl (by exact List.Mem.head _) (fun p hp e => ?_) rfl hfX))))
      (pss_one (ps_ret (pe_tup (pa_cons (pv 2) (pa_cons (pc CS hr (pa_cons (pv 2) (pa_cons (pv 1) pa_nil))) pa_nil))))))), ?_⟩
    · rcases List.mem_cons.mp hp with rfl | hp
      · rfl
      · rw [List.mem_singleton.mp hp] at e
        exact absurd e.symm hPP
    refine ⟨_, rfl, (n : Int), 1, 30, rfl, _, rfl, ifF (by rw [decide_eq_true (by omega), decide_eq_true (by omega)]; rfl) ?_⟩
    refine ⟨_, rfl, _, rfl, b, ns, n, rfl, hN, fun H1 s1 => ?_⟩
    have hN1 := hN.on s1
    refine ⟨_, rfl, (n : Int), rfl, fun r hrg => ⟨r, rfl, ?_⟩⟩
    have s2 : Same H1 (upd H1 r (.rng 0 (n : Int))) := same_new hrg
    refine ⟨tabs_same hTb (s1.trans s2), fun f1 c1 H3 ex nn T3 nf e1 e2 => ⟨f1, (rg n).map V.int, kdB ns, rfl, .inl ⟨0, (n : Int), ex _ _ upd_same (fun ps z => nomatch z), ⟨by omega, by omega, by omega, by omega, by omega⟩, (rgV_rg n).symm⟩, ?_⟩⟩
    have ex1 : ExtN H1 H3 := (extN_same s2).trans ex
    refine ⟨by rw [List.length_map, rg_len]; omega, kd_alike ns (rg n), kd_sort ns (rg n), fun x _ => kd_depth ns x, ?_, fun H4 p s4 hp => ?_⟩
    · refine keyAt_lam (X := X) (F := mk c1) (x := "name") (fr := ["names"]) (ws := [some (.ref b)]) (lokA (P := P) (w := w) (mg := mg) (base := base) ns (mk c1).qual (mk c1).cl c1 f1) hr2 (by decide) e1 e2 (fun pins H' s' I => ?_) (fun H' y sm hy => ?_)
      · have C := cells_of I (Caps.made (X := X) (fr := ["names"]) (js := [1]) I.ok hfX hfr rfl)
        exact C
      · obtain ⟨x, _, rfl⟩ := List.mem_map.mp hy
        refine ⟨b, x, rfl, rfl, (hN1.ft.ext ex1).same sm, fun t ht => ⟨kd_dp upd_same, same_new ht⟩⟩
    · refine ⟨p, _, rfl, lstAt upd_same, fun t ob ht hob => ?_⟩
      rw [best_vals] at ht ⊢
      have s5 := same_new (o := .lst ((bestO n ns).map V.int)) hp
      have s6 := same_new (o := .frz ob (.tup ((bestO n ns).map V.int))) ht
      have ex2 : ExtN H1 _ := ex1.trans (extN_same (s4.trans (s5.trans s6)))
      have hF : FT (upd (upd H4 p (.lst ((bestO n ns).map V.int))) t (.frz ob (.tup ((bestO n ns).map V.int)))) t (bestO n ns) := ⟨ob, upd_same, hob⟩
      refine ⟨_, rfl, _, rfl, _, rfl, t, b, bestO n ns, ns, n, rfl, hF, best_perm n ns, n1, n30, ⟨hN1.ft.ext ex2, hN1.in_, hN1.few⟩, fun H6 s7 => ⟨by show 2 ≤ sizeLine; decide, fun u hu => ?_⟩⟩
      have s8 := s7.trans (same_new (o := .tup [.ref t, .int (stl (bestO n ns) ns)]) hu)
      exact q _ u t ((extN_same s1).trans (ex2.trans (extN_same s8))) (tabs_same T3 (s4.trans (s5.trans (s6.trans s8)))) upd_same (hF.same s8)
end
end RH
set_option Elab.async false
set_option linter.all false
set_option maxRecDepth 100000
set_option maxHeartbeats 2000000
namespace RH
open PySem PySem.Spec PyProof.Rows L2
/-! ### walks: where the checks refuse -/
section
variable {P : Program} {w : World} {K : PySem.W.Frag} {mg : Str → Option Value} {base : Heap} {C : Addr}
theorem upto6 {n : Nat} (h : n ≤ 6) : n = 0 ∨ n = 1 ∨ n = 2 ∨ n = 3 ∨ n = 4 ∨ n = 5 ∨ n = 6 := by omega
theorem log6 {n : Nat} (h : n ≤ 6) : ((n : Nat) : Int).natAbs.log2 < 1920 := by
  rcases upto6 h with rfl | rfl | rfl | rfl | rfl | rfl | rfl <;> decide +kernel
def spNamesX (K : PySem.W.Frag) (C : Addr) : Sp := fun vs H Q E => ∃ (v : V) (wo : Option (List V)) (n : Nat), vs = [v, .int n, .int 200] ∧ Wd K H v wo ∧ n ≤ 6 ∧ (rowW 0 200 wo = true → plsW n wo = false) ∧ noE C H E
theorem ok_namesX (F : Df K mg "check_names" st_check_names ["names", "places", "most"]) (Xn : ExO K mg "BadNames" C) (C1 : Cal P w K mg base 1 "is_row" (spIsRowW K)) (C4 : Cal P w K mg base 4 "are_places" (spArePlacesW K)) : CalX P w K mg base 6 "check_names" (spNamesX K C) := by
  refine mkCalX F sc_check_names (fun vs H Q E h => ?_) (fun f cdv A outer s H vs Q E hr h => ?_)
  · obtain ⟨v, wo, n, rfl, _⟩ := h
    rfl
  · obtain ⟨v, wo, n, rfl, hw, n6, bad, q⟩ := h
    refine ⟨_, pss_one (ps_if (PW.pt (pw_or (pt_not (pt_val (pc C1 hr (pa_cons (pv 0) (pa_cons pe_int (pa_cons (pv 2) pa_nil)))))) (pw_or1 (pt_not (pt_val (pc C4 hr (pa_cons (pv 0) (pa_cons (pv 1) pa_nil))))))))
      (pss_one (ps_raise rfl takesE (SkE.pmk_own1 PySem.F.excBase_ValueError Xn.q Xn.g Xn.k (raises_own Xn.b Xn.t) rfl (pe_joined (.cons pe_str (.cons (pe_fmt (pv 2)) (.cons pe_str (.cons (pe_fmt (pv 1)) (.cons pe_str .nil))))))))) pss_nil), ?_⟩
    refine ⟨_, rfl, _, rfl, v, wo, 0, 200, rfl, hw.t, _, rfl, ite2 (fun e => ?_) (fun e => ?_)⟩
    · refine ifT rfl ?_
      refine ⟨_, rfl, ?_, _, rfl, .inr ⟨200, rfl, by decide +kernel, _, rfl, ?_, _, rfl, ?_, _, rfl, .inr ⟨(n : Int), rfl, log6 n6, _, rfl, ?_, _, rfl, ?_, q H (Same.refl H)⟩⟩⟩ <;> (rw [sizeLine_eq]; rcases upto6 n6 with rfl | rfl | rfl | rfl | rfl | rfl | rfl <;> decide +kernel)
    · have er : rowW 0 200 wo = true := by simpa using e
      refine ⟨_, rfl, _, rfl, v, wo, n, rfl, hw, fun H1 s1 => ⟨_, rfl, ifT (by rw [bad er]; rfl) ?_⟩⟩
      refine ⟨_, rfl, ?_, _, rfl, .inr ⟨200, rfl, by decide +kernel, _, rfl, ?_, _, rfl, ?_, _, rfl, .inr ⟨(n : Int), rfl, log6 n6, _, rfl, ?_, _, rfl, ?_, q H1 s1⟩⟩⟩ <;> (rw [sizeLine_eq]; rcases upto6 n6 with rfl | rfl | rfl | rfl | rfl | rfl | rfl <;> decide +kernel)
def spLayX (K : PySem.W.Frag) (C : Addr) : Sp := fun vs H Q E => ∃ (v : V) (wo : Option (List V)) (n : Nat), vs = [v, .int n] ∧ Wd K H v wo ∧ n ≤ 6 ∧ layW n wo = false ∧ noE C H E
theorem ok_layX (F : Df K mg "check_layout" st_check_layout ["layout", "places"]) (Xn : ExO K mg "BadLayout" C) (C5 : Cal P w K mg base 5 "is_layout" (spIsLayoutW K)) : CalX P w K mg base 6 "check_layout" (spLayX K C) := by
  refine mkCalX F sc_check_layout (fun vs H Q E h => ?_) (fun f cdv A outer s H vs Q E hr h => ?_)
  · obtain ⟨v, wo, n, rfl, _⟩ := h
    rfl
  · obtain ⟨v, wo, n, rfl, hw, n6, bad, q⟩ := h
    refine ⟨_, pss_one (ps_if (pt_not (pt_val (pc C5 hr (pa_cons (pv 0) (pa_cons (pv 1) pa_nil))))) (pss_one (ps_raise rfl takesE (SkE.pmk_own1 PySem.F.excBase_ValueError Xn.q Xn.g Xn.k (raises_own Xn.b Xn.t) rfl
      (pe_joined (.cons pe_str (.cons (pe_fmt (pv 1)) (.cons pe_str .nil))))))) pss_nil), ?_⟩
    refine ⟨_, rfl, _, rfl, v, wo, n, rfl, hw, by omega, fun H1 s1 => ⟨_, rfl, ifT (by rw [bad]; rfl) ?_⟩⟩
    refine ⟨_, rfl, ?_, _, rfl, .inr ⟨(n : Int), rfl, log6 n6, _, rfl, ?_, _, rfl, ?_, q H1 s1⟩⟩ <;> (rw [sizeLine_eq]; rcases upto6 n6 with rfl | rfl | rfl | rfl | rfl | rfl | rfl <;> decide +kernel)
def spTwoX (K : PySem.W.Frag) (C : Addr) : Sp := fun vs H Q E => ∃ (a : Addr) (v : V) (wo : Option (List V)) (L : List Int) (n : Nat), vs = [.ref a, v] ∧ SqT K H a (L.map V.int) ∧ L.Perm (rg n) ∧ 1 ≤ n ∧ n ≤ 6 ∧ Wd K H v wo ∧ layW n wo = false ∧ noE C H E
theorem ok_twoX (F : Df K mg "check_two_orders" st_check_two_orders ["one", "other"]) (B : Bu mg) (c30 : ∃ t, mg "MOST_BOOKS" = some (.int 30 t)) (CR : Cal P w K mg base 6 "check_row" (spCkRow K)) (CL : CalX P w K mg base 6 "check_layout" (spLayX K C)) : CalX P w K mg base 7 "check_two_orders" (spTwoX K C) := by
  refine mkCalX F sc_check_two_orders (fun vs H Q E h => ?_) (fun f cdv A outer s H vs Q E hr h => ?_)
  · obtain ⟨a, v, wo, L, n, rfl, _⟩ := h
    rfl
  · obtain ⟨a, v, wo, L, n, rfl, hA, hL, n1, n6, hw, bad, q⟩ := h
    refine ⟨_, pss_cons (ps_expr (pc CR hr (pa_cons (pv 0) (pa_cons (pk c30) pa_nil)))) (pss_one (ps_expr (pcX CL passE hr (pa_cons (pv 1) (pa_cons (pe_callB (cl_len K) (by rfl) B.len PySem.boot_len (pa_cons (pv 0) pa_nil)) pa_nil))))), ?_⟩
    exact ⟨_, rfl, a, L, n, rfl, hA, hL, n1, by omega, fun H1 s1 => ⟨_, rfl, _, rfl, a, _, rfl, .inr (onT s1 hA), v, wo, n, by rw [List.length_map, perm_len hL]; rfl, hw.on s1, n6, bad, q.on s1⟩⟩
theorem ok_crossedX (F : Df K mg "crossed" st_crossed ["one", "other"]) (C2 : CalX P w K mg base 7 "check_two_orders" (spTwoX K C)) : CalX P w K mg base 8 "crossed" (spTwoX K C) := by
  refine mkCalX F sc_crossed (fun vs H Q E h => ?_) (fun f cdv A outer s H vs Q E hr h => ?_)
  · obtain ⟨a, v, wo, L, n, rfl, _⟩ := h
    rfl
  · obtain ⟨a, v, wo, L, n, rfl, h⟩ := h
    exact ⟨_, pss_cons (ps_expr (pcX C2 passE hr (pa_cons (pv 0) (pa_cons (pv 1) pa_nil)))) (pss_one ps_no), _, rfl, _, rfl, a, v, wo, L, n, rfl, h⟩
def spFrontX (K : PySem.W.Frag) (C : Addr) : Sp := fun vs H Q E => ∃ (a : Addr) (v : V) (wo : Option (List V)) (L : List Int) (n : Nat), vs = [.ref a, v] ∧ SqT K H a (L.map V.int) ∧ L.Perm (rg n) ∧ 1 ≤ n ∧ n ≤ 6 ∧ Wd K H v wo ∧ (rowW 0 200 wo = true → plsW n wo = false) ∧ noE C H E
theorem ok_frontX (F : Df K mg "front_walk" st_front_walk ["order", "names"]) (B : Bu mg) (c30 : ∃ t, mg "MOST_BOOKS" = some (.int 30 t)) (c200 : ∃ t, mg "MOST_ASKED" = some (.int 200 t)) (CR : Cal P w K mg base 6 "check_row" (spCkRow K)) (CN : CalX P w K mg base 6 "check_names" (spNamesX K C)) :
    CalX P w K mg base 7 "front_walk" (spFrontX K C) := by
  refine mkCalX F sc_front_walk (fun vs H Q E h => ?_) (fun f cdv A outer s H vs Q E hr h => ?_)
  · obtain ⟨a, v, wo, L, n, rfl, _⟩ := h
    rfl
  · obtain ⟨a, v, wo, L, n, rfl, hA, hL, n1, n6, hw, bad, q⟩ := h
    refine ⟨_, pss_cons (ps_expr (pc CR hr (pa_cons (pv 0) (pa_cons (pk c30) pa_nil)))) (pss_cons (ps_expr (pcX CN passE hr (pa_cons (pv 1) (pa_cons (pe_callB (cl_len K) (by rfl) B.len PySem.boot_len (pa_cons (pv 0) pa_nil)) (pa_cons (pk c200) pa_nil)))))
      (pss_cons ps_no (pss_cons ps_no (pss_cons ps_no (pss_one ps_no))))), ?_⟩
    exact ⟨_, rfl, a, L, n, rfl, hA, hL, n1, by omega, fun H1 s1 => ⟨_, rfl, _, rfl, a, _, rfl, .inr (onT s1 hA), v, wo, n, by rw [List.length_map, perm_len hL]; rfl, hw.on s1, n6, bad, q.on s1⟩⟩
end
end RH
set_option Elab.async false
set_option linter.all false
set_option maxRecDepth 100000
set_option maxHeartbeats 2000000
namespace RH
open PySem PySem.Spec PyProof.Rows L2
/-! ### walks: the law's own defs -/
section
variable {P : Program} {w : World} {K : PySem.W.Frag} {mg : Str → Option Value} {base : Heap}
theorem ok_lfront (F : Df K mg "_law_front" st__law_front ["order", "names"]) (B : Bu mg) : Cal P w K mg base 1 "_law_front" (spFront K) := by
  refine mkCal F sc__law_front (fun vs H Q E h => ?_) (fun f cdv A outer s H vs Q E hr h => ?_)
  · obtain ⟨a, b, L, ns, n, rfl, _⟩ := h
    rfl
  · obtain ⟨a, b, L, ns, n, rfl, hS, hL, n1, n30, hN, q⟩ := h
    refine ⟨_, pss_cons (ps_par (i := 2) (j := 3) rfl sc__law_front.nd rfl rfl (by decide) rfl rfl (pa_cons (pe_callTy (cl_listOf K) (by rfl) B.list (by decide +kernel) (pa_cons (pv 0) pa_nil)) (pa_cons pe_int pa_nil)) rfl)
      (pss_cons (ps_for PassesOwn.never rfl (pi_tup (pv 1)) (pg_name (i := 4) sc__law_front.nd rfl (.inr rfl))
        (pss_cons (ps_set (i := 3) sc__law_front.nd rfl (.inl rfl) (pe_op op_add (pe_op op_add (pv 3) (pe_bm PySem.F.plainAttrs_list PySem.F.slot_list_index PySem.F.type_list_index mt_index (pv 2) (pa_cons (pv 4) pa_nil))) pe_int))
        (pss_one (ps_set (i := 2) sc__law_front.nd rfl (.inl rfl) (pe_op op_cat (pe_lst (pa_cons (pv 4) pa_nil)) (pe_lc (own := [("one", 5)]) (g := gName 5) rfl sc__law_front.nd (pi_list (pv 2))
          (blkOk_by (N := ["order", "names", "line", "found", "name", "one"]) (sc := defScope st__law_front) (by decide +kernel)) (fun _ _ _ _ _ => pg_name (i := 5) sc__law_front.nd rfl (Or.inl rfl)) (fun _ _ _ _ _ => pts_one (pt_cmpR op_ne (pv 5) (pv 4) (nomark _))) (fun _ _ _ _ _ => pv 5)))))))
      (pss_one (ps_ret (pv 3)))), ?_⟩
    have ln := perm_len hL
    refine ⟨_, rfl, a, _, rfl, .inr hS, fun l hl => ?_⟩
    have s1 : Same H (upd H l (.lst (L.map V.int))) := same_new hl
    refine ⟨_, _, rfl, ?_⟩
    refine ⟨_, rfl, b, rfl, ⟨_, (hN.on s1).at_⟩, ?_⟩
    refine for_tup (xs := ns.map V.int) (fun i σ H' => Same H H' ∧ ∃ y4 l, σ = [some (.ref a), some (.ref b), some (.ref l), some (.int (cst L (ns.take i))), y4, none] ∧ H' l = some (.lst (((ns.take i).foldl mtf L).map V.int))) ⟨s1, none, l, rfl, upd_same⟩ (fun i σ H' _ h' => (hN.on h'.1).at_) (fun i x σ H' hx h' => ?_) (fun σ H' h' => ?_)
    · obtain ⟨z, hz, rfl⟩ := map_at hx
      obtain ⟨sm, y4, l, rfl, eL⟩ := h'
      have hz2 := hN.in_ z (List.mem_of_getElem? hz)
      have pm := fold_perm (n := n) (ns := ns.take i) hL fun y hy => hN.in_ y (List.mem_of_mem_take hy)
      have lM := perm_len pm
      have hzM := pm.mem_iff.mpr hz2
      have gz := idx_get hzM
      refine ⟨_, rfl, _, rfl, .inl ⟨rfl, _, lstAt eL⟩, _, rfl, l, _, _, ((ns.take i).foldl mtf L).idxOf z, .int z, rfl, rfl, lstAt eL, rfl, flat_ints _, at_map gz, eqV_same z, eqV_first, _, _, rfl, rfl, _, 1, rfl, rfl, ?_⟩
      refine ⟨_, rfl, by show 1 ≤ sizeLine; decide, fun l2 hl2 => ?_⟩
      have s2 := same_new (o := .lst [.int z]) hl2
      refine ⟨_, rfl, l, rfl, ⟨_, lstAt (s2 _ _ eL)⟩, fun D hD => ?_⟩
      refine lc_list (xs := ((ns.take i).foldl mtf L).map V.int) (fun j H2 => Same (upd H' l2 (.lst [.int z])) H2 ∧ H2 D = some (.lst (((((ns.take i).foldl mtf L).take j).filter fun y => decide (y ≠ z)).map V.int))) ⟨same_new hD, upd_same⟩ (fun j H2 _ h2 => lstAt (h2.1 _ _ (s2 _ _ eL))) (fun j x H2 hx h2 => ?_) (fun H2 h2 => ?_)
      · obtain ⟨y, hy, rfl⟩ := map_at hx
        obtain ⟨sm2, eD⟩ := h2
        refine ⟨rfl, _, rfl, _, rfl, rfl, _, rfl, ite2 (fun t => ?_) (fun t => ?_)⟩
        · have ne : y ≠ z := by simpa using t
          refine ⟨_, rfl, _, eD, ?_, ?_, ?_⟩
          · rw [List.length_map]
            refine Nat.lt_of_le_of_lt (List.length_filter_le ..) ?_
            rw [List.length_take]
            exact small1000 (by omega)
          · exact fun c o ec => by rw [upd_ne (ne_of_none ec hD)]; exact sm2 c o ec
          · rw [upd_same, List.take_add_one, hy, List.filter_append, List.map_append]
            show _ = some (HO.lst (_ ++ ([y].filter _).map V.int))
            rw [List.filter_cons_of_pos (by simpa using ne)]
            rfl
        · have eq : y = z := by simpa using t
          refine ⟨sm2, ?_⟩
          rw [List.take_add_one, hy, List.filter_append, eD]
          show _ = some (HO.lst ((_ ++ [y].filter _).map V.int))
          rw [List.filter_cons_of_neg (by simpa using eq), List.filter_nil, List.append_nil]
      · obtain ⟨sm2, eD⟩ := h2
        have lf : ((ns.take i).foldl mtf L).take (((ns.take i).foldl mtf L).map V.int).length = (ns.take i).foldl mtf L := by rw [List.length_map, List.take_length]
        rw [lf] at eD
        refine ⟨l2, D, _, _, rfl, rfl, sm2 _ _ upd_same, eD, ?_, fun l3 hl3 => ⟨sm.trans (s2.trans (sm2.trans (same_new hl3))), some (.int z), l3, ?_, ?_⟩⟩
        · rw [List.length_map, sizeLine_eq]
          have := List.length_filter_le (fun y => decide (y ≠ z)) ((ns.take i).foldl mtf L)
          show 1 + _ ≤ _
          omega
        · rw [cst_more hz]
          rfl
        · have em : mtf ((ns.take i).foldl mtf L) z = z :: ((ns.take i).foldl mtf L).filter fun y => decide (y ≠ z) := by
            show z :: ((ns.take i).foldl mtf L).erase z = _
            rw [(perm_nd pm).erase_eq_filter]
            refine congrArg (List.cons z) (List.filter_congr fun y _ => ?_)
            by_cases e : y = z <;> simp [e]
          rw [upd_same, fold_more hz, em]
          rfl
    · obtain ⟨sm, y4, l, rfl, eL⟩ := h'
      rw [List.length_map, List.take_length]
      exact ⟨_, rfl, q H' sm⟩
end
end RH
set_option Elab.async false
set_option linter.all false
set_option maxRecDepth 100000
set_option maxHeartbeats 2000000
namespace RH
open PySem PySem.Spec PyProof.Rows L2
open NdefX (NScope CellsAt Caps slotAt slotAt_of cells_of startF ncx)
open LamX (Tabs TabS TabB ExtN CodeO codeO_ne)
/-! ### the law: what stands -/
/-- a statement's way on, told -/
theorem ps_cutM {X : Cx} {st : Stmt} {t : TS} (h : PS X st t) : PS X st (fun D σ H => ∃ G : L2.St → Hp → Prop, (∀ σ' H', G σ' H' → D.nx σ' H') ∧ t { D with nx := G } σ H) := by
  refine ⟨fun pins s σ H D I hw => ?_⟩
  obtain ⟨G, hG, hw⟩ := hw
  refine thn (h.run pins s σ H { D with nx := G } I hw) fun fl s1 q => ?_
  cases fl with
  | next =>
    obtain ⟨σ', H', I', q⟩ := q
    exact ⟨σ', H', I', hG _ _ q⟩
  | ret v => exact q
  | brk => exact q
  | cont => exact q
theorem Fix.tabs {T : List (Addr × Str)} {H H' : Hp} (f : Fix H H') (t : Tabs T H) : Tabs T H' := fun p hp => by
  obtain ⟨ps, h1, h2, h3⟩ := t p hp
  refine ⟨ps, f _ _ h1 (fun xs z => nomatch z), h2, fun pos cv hc => ?_⟩
  obtain ⟨c, e1, e2⟩ := h3 pos cv hc
  exact ⟨c, e1, f _ _ e2 (fun xs z => by unfold CodeO at z; cases z)⟩
theorem Row.ext {K : PySem.W.Frag} {H H' : Hp} {p : Addr} (e : ExtN H H') (h : Row K H p) : Row K H' p := by
  obtain ⟨a, ns, i, r, c, h⟩ := h
  refine ⟨a, ns, i, r, c, e _ _ h.at_ (fun ps z => nomatch z), ?_, h.pos⟩
  rcases h.fz with ⟨o, z⟩ | z
  · exact .inl ⟨o, e _ _ z (fun ps z => nomatch z)⟩
  · exact .inr z
/-- the law's row, tables, two orders -/
structure Two8 (K : PySem.W.Frag) (T : List (Addr × Str)) (p a b : Addr) (O O2 : List Int) (n : Nat) (H : Hp) : Prop where
  row : Row K H p
  tab : Tabs T H
  fo : FT H a O
  ft : FT H b O2
  po : O.Perm (rg n)
  pt : O2.Perm (rg n)
  n1 : 1 ≤ n
  n6 : n ≤ 6
section
variable {K : PySem.W.Frag} {T : List (Addr × Str)} {p a b d : Addr} {O O2 ns : List Int} {n : Nat} {H H' : Hp}
theorem Two8.same (h : Two8 K T p a b O O2 n H) (e : Same H H') : Two8 K T p a b O O2 n H' := ⟨h.row.same e, tabs_same h.tab e, h.fo.same e, h.ft.same e, h.po, h.pt, h.n1, h.n6⟩
theorem Two8.but (h : Two8 K T p a b O O2 n H) (e : But p H H') (r : Row K H' p) : Two8 K T p a b O O2 n H' := ⟨r, (h.row.fix e).tabs h.tab, h.fo.fix (h.row.fix e), h.ft.fix (h.row.fix e), h.po, h.pt, h.n1, h.n6⟩
theorem Two8.ext (h : Two8 K T p a b O O2 n H) (e : ExtN H H') (t : Tabs T H') : Two8 K T p a b O O2 n H' := ⟨h.row.ext e, t, h.fo.ext e, h.ft.ext e, h.po, h.pt, h.n1, h.n6⟩
theorem Nms.fix (e : Fix H H') (h : Nms K H d ns n) : Nms K H' d ns n := ⟨h.ft.fix e, h.in_, h.few⟩
theorem Nms.ext (e : ExtN H H') (h : Nms K H d ns n) : Nms K H' d ns n := ⟨h.ft.ext e, h.in_, h.few⟩
/-- .. and the names -/
structure Wh8 (K : PySem.W.Frag) (T : List (Addr × Str)) (p a b d : Addr) (O O2 ns : List Int) (n : Nat) (H : Hp) : Prop extends Two8 K T p a b O O2 n H where
  nm : Nms K H d ns n
theorem Wh8.same (h : Wh8 K T p a b d O O2 ns n H) (e : Same H H') : Wh8 K T p a b d O O2 ns n H' := ⟨h.toTwo8.same e, h.nm.on e⟩
theorem Wh8.but (h : Wh8 K T p a b d O O2 ns n H) (e : But p H H') (r : Row K H' p) : Wh8 K T p a b d O O2 ns n H' := ⟨h.toTwo8.but e r, h.nm.fix (h.row.fix e)⟩
theorem Wh8.ext (h : Wh8 K T p a b d O O2 ns n H) (e : ExtN H H') (t : Tabs T H') : Wh8 K T p a b d O O2 ns n H' := ⟨h.toTwo8.ext e t, h.nm.ext e⟩
end
theorem okD_two (ns : List Int) (z : Int) (h : ns.length ≤ 1000) : okD 2 (.tuple [.tuple (ns.map PyData.int), .int z]) := by
  refine ⟨by show 2 ≤ 1000; decide, fun d hd => ?_⟩
  rcases List.mem_cons.mp hd with rfl | hd
  · exact okD_ints ns h
  · rw [List.mem_singleton.mp hd]
    exact True.intro
/-- the lambda of the law -/
abbrev lamW : Expr := keyFn ((defBody st_law).getD 14 (.Pass ⟨0, 0, 0, 0⟩))
theorem nsW : NScope ["name", "names"] ["name"] ["names"] (lamS lamW) := NdefX.nscope_by (by decide +kernel)
section
variable {P : Program} {w : World} {K : PySem.W.Frag} {mg : Str → Option Value} {base : Heap}
theorem lokW (ns : List Int) (q : Str) (cl : List (Str × Addr)) (c f : Addr) : LOk P w K mg base CX0 1 f ⟨q, lamP lamW, lamB lamW, lamS lamW, cl, c⟩ ["name"] ["names"] (spKey K ns) := by
  refine lok_of nsW (fun pm ctv us hl => ?_) (fun ws vs H Q E hq => ?_) (fun A outer s H vs ws Q E hr _ hsp => ?_)
  · match us, hl with
    | [_], _ => rfl
  · obtain ⟨_, _, _, rfl, _⟩ := hq
    rfl
  · obtain ⟨b, x, rfl, rfl, hS, q⟩ := hsp
    refine ⟨_, pe_tup (pa_cons (pe_op op_sub pe_int (pe_tcntF hr.units (pv 1) (pv 0))) (pa_cons (pv 0) pa_nil)), ?_⟩
    refine ⟨_, rfl, b, ns, rfl, hS, _, rfl, x, rfl, hS, 0, _, rfl, rfl, _, rfl, by show 2 ≤ sizeLine; decide, ?_⟩
    dsimp only
    rw [Int.zero_sub]
    exact q
end
/-- a call inside a try -/
theorem pcS {X : Cx} {k j : Nat} {x : Str} {sp : Sp} {W : WX} {p pos : Pos} {e : Expr} {es : List Expr} {t : TA} (c : CalX X.prog X.w X.K X.mg X.base k x sp) (tk : Takes X W) (hr : Room j X.A) (ha : PA X (e :: es) t) (hk : k ≤ j := by decide) (hg : Gl X x := by rfl)
    (hdb : (x == ("__debug__" : Str)) = false := by decide) (he : starEach (e :: es) X.env = (false, eval e X.env) :: starEach es X.env := by rfl) (hpl : (backTo pos (starEach es X.env)).any (·.1) = false := by rfl) :
    PE X (.Call (.Name x p) (e :: es) [] pos) (tCallS sp (WE W) t) := by
  obtain ⟨f, fd, ps, F, hm, kp, b⟩ := c.ex
  exact pe_callS F (hr.mono hk) hg hm kp b (fun σ => passAt tk σ) ha hdb he hpl
theorem op_repK {X : Cx} (K : PySem.W.Frag) (h : X.K = K := by rfl) : OpR X (binaryOp .Mult) (rRepT K) := by
  subst h
  exact op_repT
theorem op_catK {X : Cx} (K : PySem.W.Frag) (h : X.K = K := by rfl) : OpR X (binaryOp .Add) (rCatA K) := by
  subst h
  exact op_catA
theorem invR_perm {n : Nat} {r : List Int} (hr : r.Perm (rg n)) : (invR r).Perm (rg n) := by
  have e1 : r.map (fun x => ((r.idxOf x : Nat) : Int)) = rg n := by
    refine List.ext_getElem (by rw [List.length_map, rg_len, perm_len hr]) fun i h1 h2 => ?_
    rw [List.getElem_map, (perm_nd hr).idxOf_getElem i (by rw [List.length_map] at h1; exact h1)]
    have := rg_at (n := n) (i := i) (by rw [rg_len] at h2; exact h2)
    rw [List.getElem?_eq_getElem h2] at this
    exact (Option.some.inj this).symm
  have e2 : (rg n).map (fun x => ((r.idxOf x : Nat) : Int)) = invR r := by
    unfold rg invR
    rw [List.map_map, perm_len hr]
    rfl
  have := hr.map fun x => ((r.idxOf x : Nat) : Int)
  rw [e1, e2] at this
  exact this.symm
/-- names that are none -/
theorem bad_names {K : PySem.W.Frag} {H : Hp} {n : Nat} {v : V} {xs : List V} (h : ∃ a, v = .ref a ∧ SqT K H a xs) (hs : ∀ x ∈ xs, Sw K H x) (hl : xs.length < 64) (hb : xs.all (inV2 0 ((n : Int) - 1)) = false) :
    Wd K H v (some xs) ∧ (rowW 0 200 (some xs) = true → plsW (n : Int) (some xs) = false) := by
  obtain ⟨a, rfl, hS⟩ := h
  exact ⟨⟨.tup hS, fun ys z x hm => by cases z; exact hs x hm, fun ys z => by cases z; exact hl⟩, fun _ => hb⟩
theorem wd_none {K : PySem.W.Frag} {H : Hp} {v : V} (h : Tk K H v none) : Wd K H v none := ⟨h, (fun _ z => nomatch z), (fun _ z => nomatch z)⟩
end RH
set_option Elab.async false
set_option linter.all false
set_option maxRecDepth 100000
set_option maxHeartbeats 2000000
namespace RH
open PySem PySem.Spec PyProof.Rows L2
open NdefX (NScope CellsAt Caps slotAt slotAt_of cells_of startF ncx)
open LamX (Tabs TabS TabB ExtN CodeO codeO_ne)
/-! ### the law -/
abbrev NL81 : List Str := ["script", "row", "many", "order", "other", "few", "names", "front", "pairs", "place", "name", "bound", "told", "due", "layout", "habit", "found", "stands", "e", "turn", "later"]
def spLaw (K : PySem.W.Frag) (T : List (Addr × Str)) : Sp := fun vs H Q _ => ∃ (a : Addr) (ns : List Int), vs = [.ref a] ∧ Fz K H a (ns.map V.int) ∧ Tabs T H ∧ ∀ H', Q (.bl true) H'
section
variable {P : Program} {w : World} {K : PySem.W.Frag} {mg : Str → Option Value} {base : Heap} {Cn Cl : Addr}
theorem mkFnC {x : Str} {st : Stmt} {N ps : List Str} {k : Nat} {sp : Sp} {c f : Addr} {oc : Value} {od : Option Addr} {kV doc pm : Value} {an : Option Addr} {ct : Value} {osl : Array (Option Value)} (lk : K.lookup f = some ⟨oc, od, .func (PySem.W.fnOf x x (defArgs st) (defBody st) (defScope st) .none kV doc pm an (.ref c) ct), osl⟩) (hcd : PySem.W.codeIn K (.ref c) x = true)
    (S : FnScope N ps (defScope st)) (len : ∀ vs H Q E, sp vs H Q E → vs.length = ps.length)
    (hbody : ∀ (A : Around) (outer : List Env) (s : Shared) (H : Hp) (vs : List V) (Q : VK) (E : XK), Room k (A.deeper (envOfC x (defScope st) s.heap.objs.size f (.ref c))) → sp vs H Q E →
      ∃ t, PSs (cxOf CX0 P w K mg base N x (defScope st) f (.ref c) A outer s H E).nox (defBody st) t ∧ t { nx := fun _ H' => Q .non H', rt := Q } (start N vs) H) : FnOk P w K mg base CX0 (k + 1) f (PySem.W.fnOf x x (defArgs st) (defBody st) (defScope st) .none kV doc pm an (.ref c) ct) ps sp := by
  refine fn_of lk hcd S len fun A outer s H vs Q E hr hsp => ?_
  obtain ⟨t, h, q⟩ := hbody A outer s H vs Q E hr hsp
  exact ⟨t, h.nox, q⟩
theorem ok_law {c P1 P2 f : Addr} {oc : Value} {od : Option Addr} {kV doc pm : Value} {an : Option Addr} {ct : Value} {osl : Array (Option Value)} (lk : K.lookup f = some ⟨oc, od, .func (PySem.W.fnOf "law" "law" (defArgs st_law) (defBody st_law) (defScope st_law) .none kV doc pm an (.ref c) ct), osl⟩) (hcd : PySem.W.codeIn K (.ref c) "law" = true) (B : Bu mg) (Bs : mg "sum" = none) (TB : TabB base mg c P2) (hPP : P1 ≠ P2)
    (gn : mg "BadNames" = some (.ref Cn)) (gl : mg "BadLayout" = some (.ref Cl)) (en : PySem.W.exmOne K (.ref Cn) (.ref Cn) = some true) (el : PySem.W.exmOne K (.ref Cl) (.ref Cl) = some true)
    (CT : Cal P w K mg base 1 "_law_taken" (spTaken K)) (CPk : Cal P w K mg base 2 "_law_pick" (spPick K)) (CP : Cal P w K mg base 2 "_law_permutation" (spPermL K)) (CH : Cal P w K mg base 3 "_law_habit" (spHabF K)) (CF : Cal P w K mg base 1 "_law_front" (spFront K)) (CLT : Cal P w K mg base 1 "_law_touch" (spMove K))
    (CA : Cal P w K mg base 3 "_law_alike" (spAlike K 2)) (CFW : Cal P w K mg base 7 "front_walk" (spFront K)) (CS : Cal P w K mg base 7 "still_walk" (spStill K)) (CC : Cal P w K mg base 8 "crossed" (spCrossed K)) (CB : Cal P w K mg base 9 "front_bound" (spBound K)) (CBe : Cal P w K mg base 8 "best_still" (spBest K (tabs81 P1 P2)))
    (CW : Cal P w K mg base 7 "walked" (spWalked K)) (CFH : Cal P w K mg base 5 "front_habit" (spFrH K)) (CFX : CalX P w K mg base 7 "front_walk" (spFrontX K Cn)) (CCX : CalX P w K mg base 8 "crossed" (spTwoX K Cl)) : FnOk P w K mg base CX0 10 f (PySem.W.fnOf "law" "law" (defArgs st_law) (defBody st_law) (defScope st_law) .none kV doc pm an (.ref c) ct) ["script"] (spLaw K (tabs81 P1 P2)) := by
  refine mkFnC lk hcd sc_law (fun vs H Q E h => ?_) (fun A outer s H vs Q E hr h => ?_)
  · obtain ⟨a, ns, rfl, _⟩ := h
    rfl
  · obtain ⟨a, scr, rfl, hZ, hTb, q⟩ := h
    let X : Cx := (cxOf CX0 P w K mg base NL81 "law" (defScope st_law) f (.ref c) A outer s H E).nox
    have hf0 : ∀ y ∈ (lamS lamW).names, y.2 = .free → (defScope st_law).names.lookup y.1 = some .cell ∨ (defScope st_law).names.lookup y.1 = some .free := by decide +kernel
    have hfr : ∀ y ∈ (["names"] : List Str), (y, NameKind.free) ∈ (lamS lamW).names := by decide +kernel
    have hfX : ∀ y ∈ (lamS lamW).names, y.2 = .free → X.env.scope.names.lookup y.1 = some .cell ∨ X.env.scope.names.lookup y.1 = some .free := hf0
    have huT : ∀ p ∈ tabs81 P1 P2, p.1 = P2 → p.2 = X.env.qual ++ "<lambda>" := fun p hp e => by
      rcases List.mem_cons.mp hp with rfl | hp
      · exact absurd e hPP
      · rw [List.mem_singleton.mp hp]
        rfl
    let mk : Addr → LF := fun c' => ⟨X.env.qual ++ "<lambda>", lamP lamW, lamB lamW, lamS lamW, cloFrom X.env.cells (lamS lamW).names [], c'⟩
    have hr2 : Room (7 + 2) X.A := hr
    refine ⟨_, (pss_cons (ps_set (i := 1) sc_law.nd rfl (.inr rfl) (pe_lst (pa_cons (pv 0) (pa_cons pe_int (pa_cons pe_int (pa_cons pe_int pa_nil))))))
      (pss_cons (ps_cutM (ps_set (i := 2) sc_law.nd rfl (.inl rfl) (pe_op op_add pe_int (pc CT hr (pa_cons (pv 1) (pa_cons pe_int pa_nil))))))
      (pss_cons (ps_cutM (ps_asg (pe_tup (pa_cons (pc CP hr (pa_cons (pv 1) (pa_cons (pv 2) pa_nil))) (pa_cons (pc CP hr (pa_cons (pv 1) (pa_cons (pv 2) pa_nil))) pa_nil))) (pg_tup rfl (pgs_cons (pg_name (i := 3) sc_law.nd rfl (.inr rfl)) (pgs_cons (pg_name (i := 4) sc_law.nd rfl (.inr rfl)) pgs_nil)))))
      (pss_cons (ps_cutM (ps_set (i := 5) sc_law.nd rfl (.inr rfl) (pe_op op_add pe_int (pc CT hr (pa_cons (pv 1) (pa_cons (pv 2) pa_nil))))))
      (pss_cons (ps_cutM (ps_set (i := 6) sc_law.nd rfl (.inr rfl) (pe_tupleF (by rfl) B.tuple (pe_lc (own := [("turn", 19)]) (g := gName 19) (tt := tYes) rfl sc_law.nd (pi_range1 (by rfl) B.range (pa_cons (pc CT hr (pa_cons (pv 1) (pa_cons pe_int pa_nil))) pa_nil)) (blkOk_by (N := NL81) (sc := defScope st_law) (by decide +kernel)) (fun _ _ _ _ _ => pg_name (i := 19) sc_law.nd rfl (Or.inl rfl)) (fun _ _ _ _ _ => pts_nil) (fun _ _ _ _ _ => (pc CT hr (pa_cons (pv 1) (pa_cons (pv 5) pa_nil))))))))
      (pss_cons (ps_cutM (ps_set (i := 7) sc_law.nd rfl (.inl rfl) (pc CF hr (pa_cons (pv 3) (pa_cons (pv 6) pa_nil)))))
      (pss_cons (ps_cutM (ps_if (pt_not (pt_val (pc CA hr (pa_cons (pc CFW hr (pa_cons (pv 3) (pa_cons (pv 6) pa_nil))) (pa_cons (pv 7) pa_nil))))) (pss_one (ps_ret pe_bl)) pss_nil))
      (pss_cons (ps_cutM (ps_if (pt_not (pt_val (pc CA hr (pa_cons (pc CS hr (pa_cons (pv 4) (pa_cons (pv 6) pa_nil))) (pa_cons (pe_callB (cr_sum rfl) (by rfl) Bs boot_sum (pa_cons (pe_lc (own := [("name", 10)]) (g := gName 10) (tt := tYes) rfl sc_law.nd (pi_tup (pv 6)) (blkOk_by (N := NL81) (sc := defScope st_law) (by decide +kernel)) (fun _ _ _ _ _ => pg_name (i := 10) sc_law.nd rfl (Or.inl rfl)) (fun _ _ _ _ _ => pts_nil) (fun _ _ _ _ _ => (pe_op op_add (pe_tidxF (pv 4) (pv 10)) pe_int))) pa_nil)) pa_nil))))) (pss_one (ps_ret pe_bl)) pss_nil))
      (pss_cons (ps_cutM (ps_set (i := 8) sc_law.nd rfl (.inl rfl) pe_int))
      (pss_cons (ps_cutM (ps_for PassesOwn.never rfl (pi_enumT (by rfl) B.enumerate (pa_cons (pv 3) pa_nil)) (pg_tup rfl (pgs_cons (pg_name (i := 9) sc_law.nd rfl (.inl rfl)) (pgs_cons (pg_name (i := 10) sc_law.nd rfl (.inr rfl)) pgs_nil))) (pss_one (ps_set (i := 8) sc_law.nd rfl (.inl rfl) (pe_op op_add (pv 8) (pe_callB (cl_len K) (by rfl) B.len PySem.boot_len (pa_cons (pe_lc (own := [("later", 20)]) (g := gName 20) rfl sc_law.nd (pi_tup (pe_slice sl_tupA (pv 3) (po_some (pe_op op_add (pv 9) pe_int)) po_none)) (blkOk_by (N := NL81) (sc := defScope st_law) (by decide +kernel)) (fun _ _ _ _ _ => pg_name (i := 20) sc_law.nd rfl (Or.inl rfl)) (fun _ _ _ _ _ => pts_one (pt_cmpR op_lt (pe_tidxF (pv 4) (pv 20)) (pe_tidxF (pv 4) (pv 10)) (nomark _))) (fun _ _ _ _ _ => (pv 20))) pa_nil)))))))
      (pss_cons (ps_cutM (ps_if (pt_not (pt_val (pc CA hr (pa_cons (pc CC hr (pa_cons (pv 3) (pa_cons (pv 4) pa_nil))) (pa_cons (pv 8) pa_nil))))) (pss_one (ps_ret pe_bl)) pss_nil))
      (pss_cons (ps_cutM (ps_set (i := 11) sc_law.nd rfl (.inl rfl) (pe_op op_sub (pe_op op_add (pe_op op_mul pe_int (pc CS hr (pa_cons (pv 4) (pa_cons (pv 6) pa_nil)))) (pv 8)) (pe_callB (cl_len K) (by rfl) B.len PySem.boot_len (pa_cons (pv 6) pa_nil)))))
      (pss_cons (ps_cutM (ps_if (PW.pt (pw_or (pt_not (pt_val (pc CA hr (pa_cons (pc CB hr (pa_cons (pv 3) (pa_cons (pv 4) (pa_cons (pv 6) pa_nil)))) (pa_cons (pv 11) pa_nil))))) (pw_or1 (pt_cmpR op_gt (pv 7) (pv 11) (nomark _))))) (pss_one (ps_ret pe_bl)) pss_nil))
      (pss_cons (ps_cutM (ps_set (i := 12) sc_law.nd rfl (.inl rfl) (pc CBe hr (pa_cons (pv 2) (pa_cons (pv 6) pa_nil)))))
      (pss_cons (ps_cutM (ps_set (i := 13) sc_law.nd rfl (.inl rfl) (pe_tupleF (by rfl) B.tuple (pe_sortK (X := X) rfl hr2.in1.in1.units (by rfl) B.sorted (pe_callTy cr_range1 (by rfl) B.range boot_range (pa_cons (pv 2) pa_nil))
        (pe_lam (T := tabs81 P1 P2) (params := lamP lamW) (body := lamB lamW) (scope := lamS lamW) (pos := lamO lamW) TB rfl (by exact List.Mem.tail _ (List.Mem.head _)) huT rfl hfX)))))
      (pss_cons (ps_cutM (ps_if (PW.pt (pw_or (pt_not (pt_val (pc CA hr (pa_cons (pv 12) (pa_cons (pe_tup (pa_cons (pv 13) (pa_cons (pc CS hr (pa_cons (pv 13) (pa_cons (pv 6) pa_nil))) pa_nil))) pa_nil))))) (pw_or1 (pt_cmpR op_gt (pe_ix (ixT K) (pv 12) pe_int (fun _ _ => rfl)) (pc CS hr (pa_cons (pv 4) (pa_cons (pv 6) pa_nil))) (nomark _))))) (pss_one (ps_ret pe_bl)) pss_nil))
      (pss_cons (ps_cutM (ps_if (pt_chain op_lt op_lt pe_int (pv 2) pe_int) (pss_cons (ps_cutM (ps_set (i := 14) sc_law.nd rfl (.inl rfl) (pe_tupleOf (by rfl) B.tuple (pe_lc (own := [("name", 10)]) (g := gName 10) (tt := tYes) rfl sc_law.nd (pi_range1 (by rfl) B.range (pa_cons (pv 2) pa_nil)) (blkOk_by (N := NL81) (sc := defScope st_law) (by decide +kernel)) (fun _ _ _ _ _ => pg_name (i := 10) sc_law.nd rfl (Or.inl rfl)) (fun _ _ _ _ _ => pts_nil) (fun _ _ _ _ _ => (pe_tidxF (pv 3) (pv 10)))))))
        (pss_cons (ps_cutM (ps_set (i := 15) sc_law.nd rfl (.inl rfl) (pc CH hr (pa_cons (pv 1) (pa_cons (pv 2) pa_nil)))))
        (pss_cons (ps_cutM (ps_par (i := 16) (j := 17) rfl sc_law.nd rfl rfl (by decide) rfl rfl (pa_cons pe_int (pa_cons (pv 14) pa_nil)) rfl))
        (pss_cons (ps_cutM (ps_for PassesOwn.never rfl (pi_tup (pv 6)) (pg_name (i := 10) sc_law.nd rfl (.inr rfl)) (pss_cons (ps_set (i := 9) sc_law.nd rfl (.inl rfl) (pe_ix (ixT K) (pv 17) (pv 10) (fun _ _ => rfl)))
        (pss_one (ps_par (i := 16) (j := 17) rfl sc_law.nd rfl rfl (by decide) rfl rfl (pa_cons (pe_op op_add (pe_op op_add (pv 16) (pv 9)) pe_int) (pa_cons (pc CLT hr (pa_cons (pv 15) (pa_cons (pv 17) (pa_cons (pv 9) pa_nil)))) pa_nil)) rfl)))))
        (pss_one (ps_if (PW.pt (pw_or (pt_not (pt_val (pc CA hr (pa_cons (pc CW hr (pa_cons (pv 15) (pa_cons (pv 14) (pa_cons (pv 6) pa_nil)))) (pa_cons (pv 16) pa_nil))))) (pw_or1 (pt_cmpR op_ne (pc CW hr (pa_cons (pc CFH hr (pa_cons (pv 2) pa_nil)) (pa_cons (pv 14) (pa_cons (pv 6) pa_nil)))) (pv 7) (nomark _))))) (pss_one (ps_ret pe_bl)) pss_nil)))))) pss_nil))
      (pss_cons (ps_cutM (ps_try_as (i := 18) (c := .ref Cn) (ts := fun a cls d => fun D σ H => D.nx (σ.set 16 (some (.int 0))) H) (Wout := fun _ _ _ _ => False) rfl rfl sc_law.nd rfl rfl ⟨rfl, by decide, .inl gn⟩ takes0
        (fun W pn xe tk _ => pss_cons (ps_expr (pcS CFX tk hr (pa_cons (pv 3) (pa_cons (pc CPk hr (pa_cons (pv 1) (pa_cons (pe_lst (pa_cons pe_non (pa_cons (pe_tup (pa_cons (pv 2) pa_nil)) (pa_cons (pe_tup (pa_cons (pe_op op_sub pe_int pe_int) pa_nil)) (pa_cons (pe_tup (pa_cons pe_bl pa_nil)) (pa_cons (pe_lst (pa_cons pe_int pa_nil)) pa_nil)))))) pa_nil))) pa_nil)))) (pss_one (ps_ret pe_bl)))
        (fun a oe cls d pn hz hf => pss_one (ps_set (i := 16) sc_law.nd rfl (.inl rfl) pe_int))))
      (pss_cons (ps_try_as (i := 18) (c := .ref Cl) (ts := fun a cls d => fun D σ H => D.rt (.bl true) H) (Wout := fun _ _ _ _ => False) rfl rfl sc_law.nd rfl rfl ⟨rfl, by decide, .inl gl⟩ takes0
        (fun W pn xe tk _ => pss_one (ps_expr (pcS CCX tk hr (pa_cons (pv 3) (pa_cons (pc CPk hr (pa_cons (pv 1) (pa_cons (pe_lst (pa_cons pe_non (pa_cons (pe_op (op_catK K) (pv 3) (pe_tup (pa_cons (pv 2) pa_nil))) (pa_cons (pe_op (op_repK K) (pe_tup (pa_cons pe_int pa_nil)) (pe_op op_add (pv 2) pe_int)) (pa_cons (pe_callTy (cl_listOf K) (by rfl) B.list (by decide +kernel) (pa_cons (pv 3) pa_nil)) pa_nil))))) pa_nil))) pa_nil)))))
        (fun a oe cls d pn hz hf => pss_one (ps_ret pe_bl)))
      (pss_one (ps_ret pe_bl))))))))))))))))))))), ?_⟩
    -- row
    refine ⟨_, rfl, by show 4 ≤ sizeLine; decide, fun p hp => ?_⟩
    have sp := same_new (o := .lst [.ref a, .int 0, .int 7481, .int 0]) hp
    have hR1 : Row K (upd H p (.lst [.ref a, .int 0, .int 7481, .int 0])) p := ⟨a, scr, 0, 7481, 0, upd_same, hZ.on (Fix.same sp), Int.le_refl _⟩
    have tb1 : Tabs (tabs81 P1 P2) (upd H p (.lst [.ref a, .int 0, .int 7481, .int 0])) := tabs_same hTb sp
    generalize (upd H p (.lst [.ref a, .int 0, .int 7481, .int 0])) = H1 at hR1 tb1 ⊢
    -- many
    refine ⟨fun σ' H' => ∃ n : Nat, σ' = [some (.ref a), some (.ref p), some (.int (n : Int)), none, none, none, none, none, none, none, none, none, none, none, none, none, none, none, none, none, none] ∧ Row K H' p ∧ Tabs (tabs81 P1 P2) H' ∧ 1 ≤ n ∧ n ≤ 6, fun σ2 H2 g2 => ?_, ?_⟩
    case refine_2 =>
      refine ⟨_, rfl, p, 6, rfl, hR1, by decide, by decide, fun k H2 k0 k1 hB hR => ⟨1, k, rfl, rfl, ?_⟩⟩
      obtain ⟨n, hn⟩ : ∃ n : Nat, 1 + k = (n : Int) := ⟨(1 + k).toNat, by omega⟩
      exact ⟨n, by rw [← hn]; rfl, hR, (hR1.fix hB).tabs tb1, by omega, by omega⟩
    obtain ⟨n, rfl, hR2, tb2, n1, n6⟩ := g2
    -- order, other
    refine ⟨fun σ' H' => ∃ (oa ta : Addr) (O O2 : List Int), σ' = [some (.ref a), some (.ref p), some (.int (n : Int)), some (.ref oa), some (.ref ta), none, none, none, none, none, none, none, none, none, none, none, none, none, none, none, none] ∧ Two8 K (tabs81 P1 P2) p oa ta O O2 n H', fun σ3 H3 g3 => ?_, ?_⟩
    case refine_2 =>
      refine ⟨_, rfl, _, rfl, p, n, rfl, hR2, by omega, fun H3 v1 L1 p1 hB3 hR3 t1 => ?_⟩
      refine ⟨_, rfl, _, rfl, p, n, rfl, hR3, by omega, fun H4 v2 L2 p2 hB4 hR4 t2 => ⟨by show 2 ≤ sizeLine; decide, fun t ht => ?_⟩⟩
      have s5 := same_new (o := .tup [v1, v2]) ht
      obtain ⟨oa, rfl, f1⟩ := t1
      obtain ⟨ta, rfl, f2⟩ := t2
      have c4 : Two8 K (tabs81 P1 P2) p oa ta L1 L2 n H4 := ⟨hR4, (hR3.fix hB4).tabs ((hR2.fix hB3).tabs tb2), f1.fix (hR3.fix hB4), f2, p1, p2, n1, n6⟩
      exact ⟨t, _, rfl, tupAt upd_same, rfl, _, _, rfl, _, _, rfl, rfl, oa, ta, L1, L2, rfl, c4.same s5⟩
    obtain ⟨oa, ta, O, O2, rfl, c3⟩ := g3
    -- few
    refine ⟨fun σ' H' => ∃ m : Nat, σ' = [some (.ref a), some (.ref p), some (.int (n : Int)), some (.ref oa), some (.ref ta), some (.int (m : Int)), none, none, none, none, none, none, none, none, none, none, none, none, none, none, none] ∧ Two8 K (tabs81 P1 P2) p oa ta O O2 n H' ∧ 1 ≤ m ∧ m ≤ n, fun σ4 H4 g4 => ?_, ?_⟩
    case refine_2 =>
      refine ⟨_, rfl, _, rfl, p, (n : Int), rfl, c3.row, by omega, by omega, fun k H4 k0 k1 hB hR => ⟨1, k, rfl, rfl, ?_⟩⟩
      obtain ⟨m, hm⟩ : ∃ m : Nat, 1 + k = (m : Int) := ⟨(1 + k).toNat, by omega⟩
      exact ⟨m, by rw [← hm]; rfl, c3.but hB hR, by omega, by omega⟩
    obtain ⟨m, rfl, c4, m1, mn⟩ := g4
    -- names
    refine ⟨fun σ' H' => ∃ (d : Addr) (ns : List Int), σ' = [some (.ref a), some (.ref p), some (.int (n : Int)), some (.ref oa), some (.ref ta), some (.int (m : Int)), some (.ref d), none, none, none, none, none, none, none, none, none, none, none, none, none, none] ∧ Wh8 K (tabs81 P1 P2) p oa ta d O O2 ns n H', fun σ5 H5 g5 => ?_, ?_⟩
    case refine_2 =>
      refine ⟨_, rfl, p, 25, rfl, c4.row, by decide, by decide, fun k H5 k0 k1 hB hR => ?_⟩
      have c5 := c4.but hB hR
      refine ⟨k, rfl, by omega, by omega, fun D hD => ?_⟩
      have hpD := hR.ne hD
      refine lc_range (lo := 0) (n := k.toNat) (fun i H' => ∃ xs : List Int, But p H5 H' ∧ Row K H' p ∧ H' D = some (.lst (xs.map V.int)) ∧ xs.length = i ∧ ∀ x ∈ xs, x ∈ rg n) ⟨[], But.same (same_new hD), hR.new hD, upd_same, rfl, fun _ hm => absurd hm List.not_mem_nil⟩ (fun i H' hi h' => ?_) (fun H' h' => ?_)
      · obtain ⟨xs, hB1, hR1, eD, lx, hx⟩ := h'
        refine ⟨rfl, _, rfl, _, rfl, p, (m : Int), rfl, hR1, by omega, by omega, fun z H6 z0 z1 hB6 hR6 => ?_⟩
        have eD6 := hB6 _ _ eD (Ne.symm hpD)
        refine ⟨_, eD6, by rw [List.length_map]; exact small1000 (by omega), xs ++ [z], (hB1.trans hB6).fresh hD, hR6.lst_upd eD6 hpD, ?_, by rw [List.length_append, lx]; rfl, fun y hy => ?_⟩
        · rw [upd_same, List.map_append]
          rfl
        · rcases List.mem_append.mp hy with hy | hy
          · exact hx y hy
          · rw [List.mem_singleton.mp hy]
            exact rg_mem.mpr ⟨z0, by omega⟩
      · obtain ⟨xs, hB1, hR1, eD, lx, hx⟩ := h'
        refine ⟨D, _, rfl, lstAt eD, fun t ob ht hob => ?_⟩
        have s6 := same_new (o := .frz ob (.tup (xs.map V.int))) ht
        exact ⟨t, xs, rfl, (c5.but hB1 hR1).same s6, ⟨ob, upd_same, hob⟩, hx, by omega⟩
    obtain ⟨d, ns, rfl, c5⟩ := g5
    have n30 : n ≤ 30 := by omega
    -- front
    refine ⟨fun σ' H' => σ' = [some (.ref a), some (.ref p), some (.int (n : Int)), some (.ref oa), some (.ref ta), some (.int (m : Int)), some (.ref d), some (.int (cst O ns)), none, none, none, none, none, none, none, none, none, none, none, none, none] ∧ Wh8 K (tabs81 P1 P2) p oa ta d O O2 ns n H', fun σ6 H6 g6 => ?_, ?_⟩
    case refine_2 => exact ⟨_, rfl, _, rfl, oa, d, O, ns, n, rfl, c5.fo.sq, c5.po, c5.n1, by have := c5.n6; omega, c5.nm, fun H' s' => ⟨rfl, c5.same s'⟩⟩
    obtain ⟨rfl, c6⟩ := g6
    -- front_walk
    refine ⟨fun σ' H' => σ' = [some (.ref a), some (.ref p), some (.int (n : Int)), some (.ref oa), some (.ref ta), some (.int (m : Int)), some (.ref d), some (.int (cst O ns)), none, none, none, none, none, none, none, none, none, none, none, none, none] ∧ Wh8 K (tabs81 P1 P2) p oa ta d O O2 ns n H', fun σ7 H7 g7 => ?_, ?_⟩
    case refine_2 => exact ⟨_, rfl, _, rfl, oa, d, O, ns, n, rfl, c6.fo.sq, c6.po, c6.n1, by have := c6.n6; omega, c6.nm, fun H2 s2 => ⟨_, rfl, _, _, .int _, rfl, .int _, .int _, True.intro, fun H3 s3 => ⟨_, rfl, ifF rfl ⟨rfl, (c6.same s2).same s3⟩⟩⟩⟩
    obtain ⟨rfl, c7⟩ := g7
    -- still_walk
    refine ⟨fun σ' H' => σ' = [some (.ref a), some (.ref p), some (.int (n : Int)), some (.ref oa), some (.ref ta), some (.int (m : Int)), some (.ref d), some (.int (cst O ns)), none, none, none, none, none, none, none, none, none, none, none, none, none] ∧ Wh8 K (tabs81 P1 P2) p oa ta d O O2 ns n H', fun σ8 H8 g8 => ?_, ?_⟩
    case refine_2 =>
      refine ⟨_, rfl, _, rfl, ta, d, O2, ns, n, rfl, c7.ft, c7.pt, c7.n1, by have := c7.n6; omega, c7.nm, fun H2 s2 => ?_⟩
      have c8 := c7.same s2
      refine ⟨_, rfl, d, rfl, ⟨_, c8.nm.at_⟩, fun D hD => ?_⟩
      refine lc_tup (xs := ns.map V.int) (fun i H' => Same H2 H' ∧ H' D = some (.lst (((ns.take i).map fun x => ((O2.idxOf x : Nat) : Int) + 1).map V.int))) ⟨same_new hD, upd_same⟩ (fun i H' _ h' => onT h'.1 c8.nm.at_) (fun i x H' hx h' => ?_) (fun H' h' => ?_)
      · obtain ⟨z, hz, rfl⟩ := map_at hx
        obtain ⟨sm, eD⟩ := h'
        have mz := c8.pt.mem_iff.mpr (c8.nm.in_ z (List.mem_of_getElem? hz))
        refine ⟨rfl, _, rfl, ta, O2, rfl, c8.ft.same sm, _, rfl, z, rfl, c8.ft.same sm, mz, _, 1, rfl, rfl, _, eD, ?_, ?_, ?_⟩
        · rw [List.length_map, List.length_map, List.length_take]
          have := c8.nm.few
          exact small1000 (by omega)
        · exact fun c o ec => by rw [upd_ne (ne_of_none ec hD)]; exact sm c o ec
        · rw [upd_same, take_map_succ hz]
      · obtain ⟨sm, eD⟩ := h'
        rw [List.length_map, List.take_length] at eD
        exact ⟨D, _, rfl, lstAt eD, _, _, .int _, rfl, .int _, .int _, True.intro, fun H3 s3 => ⟨_, rfl, ifF rfl ⟨rfl, (c8.same sm).same s3⟩⟩⟩
    obtain ⟨rfl, c8⟩ := g8
    -- pairs
    refine ⟨fun σ' H' => σ' = [some (.ref a), some (.ref p), some (.int (n : Int)), some (.ref oa), some (.ref ta), some (.int (m : Int)), some (.ref d), some (.int (cst O ns)), some (.int 0), none, none, none, none, none, none, none, none, none, none, none, none] ∧ Wh8 K (tabs81 P1 P2) p oa ta d O O2 ns n H', fun σ9 H9 g9 => ?_, ⟨rfl, c8⟩⟩
    obtain ⟨rfl, c9⟩ := g9
    -- the loop over pairs
    refine ⟨fun σ' H' => ∃ y9 y10, σ' = [some (.ref a), some (.ref p), some (.int (n : Int)), some (.ref oa), some (.ref ta), some (.int (m : Int)), some (.ref d), some (.int (cst O ns)), some (.int ((prs (bef O2) O : Nat) : Int)), y9, y10, none, none, none, none, none, none, none, none, none, none] ∧ Wh8 K (tabs81 P1 P2) p oa ta d O O2 ns n H', fun σ10 H10 g10 => ?_, ?_⟩
    case refine_2 =>
      have lO := perm_len c9.po
      refine ⟨_, rfl, oa, _, rfl, c9.fo.sq, ?_⟩
      refine for_enumT (xs := O.map V.int) (fun i σ H' => Wh8 K (tabs81 P1 P2) p oa ta d O O2 ns n H' ∧ ∃ (c : Nat) (y9 y10 : Option V), c + prs (bef O2) (O.drop i) = prs (bef O2) O ∧ σ = [some (.ref a), some (.ref p), some (.int (n : Int)), some (.ref oa), some (.ref ta), some (.int (m : Int)), some (.ref d), some (.int (cst O ns)), some (.int (c : Int)), y9, y10, none, none, none, none, none, none, none, none, none, none]) ⟨c9, 0, none, none, by rw [Nat.zero_add]; rfl, rfl⟩ (fun i σ H' h' => h'.1.fo.sq) (fun i x t σ H' hx h' ht => ?_) (fun σ H' h' => ?_)
      · obtain ⟨z, hz, rfl⟩ := map_at hx
        obtain ⟨c1, c, y9, y10, hc, rfl⟩ := h'
        have hi := (List.getElem?_eq_some_iff.mp hz).1
        have s1 := same_new (o := .tup [.int (i : Nat), .int z]) ht
        have c2 := c1.same s1
        refine ⟨t, _, rfl, tupAt upd_same, rfl, _, _, rfl, _, _, rfl, rfl, ?_⟩
        refine ⟨_, rfl, _, rfl, _, rfl, (i : Int), 1, rfl, rfl, _, rfl, ?_⟩
        unfold tNoPart
        dsimp only
        refine slT_from ((i : Int) + 1) (i + 1) (by omega) c2.fo.sq fun b H2 s2 hb => ?_
        rw [← List.map_drop] at hb
        have c3 := c2.same s2
        refine ⟨b, rfl, ⟨_, hb⟩, fun D hD => ?_⟩
        have mz := c3.pt.mem_iff.mpr (c3.po.mem_iff.mp (List.mem_of_getElem? hz))
        refine lc_tup (xs := (O.drop (i + 1)).map V.int) (fun j H3 => Same H2 H3 ∧ H3 D = some (.lst ((((O.drop (i + 1)).take j).filter (bef O2 z)).map V.int))) ⟨same_new hD, upd_same⟩ (fun j H3 _ h3 => onT h3.1 hb) (fun j x H3 hx h3 => ?_) (fun H3 h3 => ?_)
        · obtain ⟨y, hy, rfl⟩ := map_at hx
          obtain ⟨sm, eD⟩ := h3
          have c4 := c3.same sm
          have my := c3.pt.mem_iff.mpr (c3.po.mem_iff.mp (List.mem_of_mem_drop (List.mem_of_getElem? hy)))
          refine ⟨rfl, _, rfl, ta, O2, rfl, c4.ft, _, rfl, y, rfl, c4.ft, my, _, rfl, ta, O2, rfl, c4.ft, _, rfl, z, rfl, c4.ft, mz, _, _, rfl, rfl, _, rfl, ite2 (fun t => ?_) (fun t => ?_)⟩
          · have lt : bef O2 z y = true := by
              unfold bef
              simpa using t
            refine ⟨_, rfl, _, eD, ?_, ?_, ?_⟩
            · rw [List.length_map]
              refine Nat.lt_of_le_of_lt (List.length_filter_le ..) ?_
              rw [List.length_take, List.length_drop]
              exact small1000 (by omega)
            · exact fun c o ec => by rw [upd_ne (ne_of_none ec hD)]; exact sm c o ec
            · rw [upd_same, List.take_add_one, hy, List.filter_append, List.map_append]
              show _ = some (HO.lst (_ ++ ([y].filter _).map V.int))
              rw [List.filter_cons_of_pos lt]
              rfl
          · have lt : ¬ bef O2 z y = true := by
              unfold bef
              simpa using t
            refine ⟨sm, ?_⟩
            rw [List.take_add_one, hy, List.filter_append, eD]
            show _ = some (HO.lst ((_ ++ [y].filter _).map V.int))
            rw [List.filter_cons_of_neg lt, List.filter_nil, List.append_nil]
        · obtain ⟨sm, eD⟩ := h3
          rw [List.length_map, List.take_length] at eD
          refine ⟨D, _, rfl, .inl (lstAt eD), _, _, rfl, rfl, ?_⟩
          have e := prs_drop (g := bef O2) hz
          rw [e] at hc
          refine ⟨c3.same sm, c + (O.drop (i + 1)).countP (bef O2 z), some (.int (i : Int)), some (.int z), by omega, ?_⟩
          rw [List.length_map, ← List.countP_eq_length_filter]
          rfl
      · obtain ⟨c1, c, y9, y10, hc, rfl⟩ := h'
        rw [List.length_map, List.drop_length] at hc
        have hc : c + 0 = prs (bef O2) O := hc
        rw [Nat.add_zero] at hc
        rw [← hc]
        exact ⟨y9, y10, rfl, c1⟩
    obtain ⟨y9, y10, rfl, c10⟩ := g10
    -- crossed
    refine ⟨fun σ' H' => σ' = [some (.ref a), some (.ref p), some (.int (n : Int)), some (.ref oa), some (.ref ta), some (.int (m : Int)), some (.ref d), some (.int (cst O ns)), some (.int ((prs (bef O2) O : Nat) : Int)), y9, y10, none, none, none, none, none, none, none, none, none, none] ∧ Wh8 K (tabs81 P1 P2) p oa ta d O O2 ns n H', fun σ11 H11 g11 => ?_, ?_⟩
    case refine_2 => exact ⟨_, rfl, _, rfl, oa, ta, O, O2, n, rfl, c10.fo, c10.ft, c10.po, c10.pt, c10.n1, n30, fun H2 s2 => ⟨_, rfl, _, _, .int _, rfl, .int _, .int _, True.intro, fun H3 s3 => ⟨_, rfl, ifF rfl ⟨rfl, (c10.same s2).same s3⟩⟩⟩⟩
    obtain ⟨rfl, c11⟩ := g11
    -- bound
    refine ⟨fun σ' H' => σ' = [some (.ref a), some (.ref p), some (.int (n : Int)), some (.ref oa), some (.ref ta), some (.int (m : Int)), some (.ref d), some (.int (cst O ns)), some (.int ((prs (bef O2) O : Nat) : Int)), y9, y10, some (.int (2 * stl O2 ns + ((prs (bef O2) O : Nat) : Int) - (ns.length : Int))), none, none, none, none, none, none, none, none, none] ∧ Wh8 K (tabs81 P1 P2) p oa ta d O O2 ns n H', fun σ12 H12 g12 => ?_, ?_⟩
    case refine_2 =>
      refine ⟨_, rfl, _, rfl, ta, d, O2, ns, n, rfl, c11.ft, c11.pt, c11.n1, by have := c11.n6; omega, c11.nm, fun H2 s2 => ⟨2, _, rfl, rfl, .inl ⟨by decide, by decide⟩, _, rfl, _, _, rfl, rfl, _, rfl, d, _, rfl, .inr (c11.same s2).nm.at_, _, _, rfl, rfl, ?_⟩⟩
      rw [List.length_map]
      exact ⟨rfl, c11.same s2⟩
    obtain ⟨rfl, c12⟩ := g12
    -- front_bound
    have le1 := front_le ns O O2 (perm_nd c12.po) (fun x hx => c12.po.mem_iff.mpr (c12.nm.in_ x hx)) fun y hy => c12.pt.mem_iff.mpr (c12.po.mem_iff.mp hy)
    refine ⟨fun σ' H' => σ' = [some (.ref a), some (.ref p), some (.int (n : Int)), some (.ref oa), some (.ref ta), some (.int (m : Int)), some (.ref d), some (.int (cst O ns)), some (.int ((prs (bef O2) O : Nat) : Int)), y9, y10, some (.int (2 * stl O2 ns + ((prs (bef O2) O : Nat) : Int) - (ns.length : Int))), none, none, none, none, none, none, none, none, none] ∧ Wh8 K (tabs81 P1 P2) p oa ta d O O2 ns n H', fun σ13 H13 g13 => ?_, ?_⟩
    case refine_2 =>
      refine ⟨_, rfl, _, rfl, _, rfl, oa, ta, d, O, O2, ns, n, rfl, c12.fo, c12.ft, c12.po, c12.pt, c12.n1, n30, c12.nm, fun H2 s2 => ⟨_, rfl, _, _, .int _, rfl, .int _, .int _, True.intro, fun H3 s3 => ⟨_, rfl, ifF rfl ⟨_, rfl, _, rfl, _, _, rfl, rfl, _, rfl, ifF ?_ ⟨rfl, (c12.same s2).same s3⟩⟩⟩⟩⟩
      exact decide_eq_false (by omega)
    obtain ⟨rfl, c13⟩ := g13
    -- told
    refine ⟨fun σ' H' => ∃ tt bc, σ' = [some (.ref a), some (.ref p), some (.int (n : Int)), some (.ref oa), some (.ref ta), some (.int (m : Int)), some (.ref d), some (.int (cst O ns)), some (.int ((prs (bef O2) O : Nat) : Int)), y9, y10, some (.int (2 * stl O2 ns + ((prs (bef O2) O : Nat) : Int) - (ns.length : Int))), some (.ref tt), none, none, none, none, none, none, none, none] ∧ Wh8 K (tabs81 P1 P2) p oa ta d O O2 ns n H' ∧ SqT K H' tt [.ref bc, .int (stl (bestO n ns) ns)] ∧ FT H' bc (bestO n ns), fun σ14 H14 g14 => ?_, ?_⟩
    case refine_2 => exact ⟨_, rfl, _, rfl, d, ns, n, rfl, c13.nm, c13.n1, n30, c13.tab, fun H' t c ex tb et ec => ⟨t, c, rfl, c13.ext ex tb, tupAt et, ec⟩⟩
    obtain ⟨tt, bc, rfl, c14, et, ec⟩ := g14
    -- due
    refine ⟨fun σ' H' => ∃ du, σ' = [some (.ref a), some (.ref p), some (.int (n : Int)), some (.ref oa), some (.ref ta), some (.int (m : Int)), some (.ref d), some (.int (cst O ns)), some (.int ((prs (bef O2) O : Nat) : Int)), y9, y10, some (.int (2 * stl O2 ns + ((prs (bef O2) O : Nat) : Int) - (ns.length : Int))), some (.ref tt), some (.ref du), none, none, none, none, none, none, none] ∧ Wh8 K (tabs81 P1 P2) p oa ta d O O2 ns n H' ∧ SqT K H' tt [.ref bc, .int (stl (bestO n ns) ns)] ∧ FT H' bc (bestO n ns) ∧ FT H' du (bestO n ns), fun σ15 H15 g15 => ?_, ?_⟩
    case refine_2 =>
      refine ⟨_, rfl, (n : Int), rfl, fun r hrg => ⟨r, rfl, ?_⟩⟩
      have s2 := same_new (o := .rng 0 (n : Int)) hrg
      refine ⟨tabs_same c14.tab s2, fun f1 c1 H3 ex nn T3 nf e1 e2 => ⟨f1, (rg n).map V.int, kdB ns, rfl, .inl ⟨0, (n : Int), ex _ _ upd_same (fun ps z => nomatch z), ⟨by omega, by omega, by omega, by omega, by omega⟩, (rgV_rg n).symm⟩, ?_⟩⟩
      have ex1 := (extN_same s2).trans ex
      have c15 := c14.ext ex1 T3
      refine ⟨by rw [List.length_map, rg_len]; omega, kd_alike ns (rg n), kd_sort ns (rg n), fun x _ => kd_depth ns x, ?_, fun H4 q4 s4 hq => ?_⟩
      · refine keyAt_lam (X := X) (F := mk c1) (x := "name") (fr := ["names"]) (ws := [some (.ref d)]) (lokW (P := P) (w := w) (mg := mg) (base := base) ns (mk c1).qual (mk c1).cl c1 f1) hr2 (by decide) e1 e2 (fun pins H' s' I => ?_) (fun H' y sm hy => ?_)
        · have C := cells_of I (Caps.made (X := X) (fr := ["names"]) (js := [6]) I.ok hfX hfr rfl)
          exact C
        · obtain ⟨x, _, rfl⟩ := List.mem_map.mp hy
          exact ⟨d, x, rfl, rfl, c15.nm.ft.same sm, fun t ht => ⟨kd_dp upd_same, same_new ht⟩⟩
      · refine ⟨q4, _, rfl, lstAt upd_same, fun t ob ht hob => ?_⟩
        rw [best_vals] at ht ⊢
        have s5 := same_new (o := .lst ((bestO n ns).map V.int)) hq
        have s6 := same_new (o := .frz ob (.tup ((bestO n ns).map V.int))) ht
        have sA := s4.trans (s5.trans s6)
        exact ⟨t, rfl, c15.same sA, onT sA (extN_tups ex1 _ _ et), (ec.ext ex1).same sA, ob, upd_same, hob⟩
    obtain ⟨du, rfl, c15, et, ec, ed⟩ := g15
    -- told and due
    have bp := best_perm n ns
    have le2 := best_le (ns := ns) (perm_nd bp) (bp.trans c15.pt.symm) (fun x hx => bp.mem_iff.mpr (c15.nm.in_ x hx)) (best_order n ns)
    refine ⟨fun σ' H' => σ' = [some (.ref a), some (.ref p), some (.int (n : Int)), some (.ref oa), some (.ref ta), some (.int (m : Int)), some (.ref d), some (.int (cst O ns)), some (.int ((prs (bef O2) O : Nat) : Int)), y9, y10, some (.int (2 * stl O2 ns + ((prs (bef O2) O : Nat) : Int) - (ns.length : Int))), some (.ref tt), some (.ref du), none, none, none, none, none, none, none] ∧ Wh8 K (tabs81 P1 P2) p oa ta d O O2 ns n H', fun σ16 H16 g16 => ?_, ?_⟩
    case refine_2 =>
      refine ⟨_, rfl, _, rfl, _, rfl, _, rfl, du, d, bestO n ns, ns, n, rfl, ed, bp, c15.n1, n30, c15.nm, fun H2 s2 => ⟨by show 2 ≤ sizeLine; decide, fun u hu => ?_⟩⟩
      have s3 := s2.trans (same_new (o := .tup [.ref du, .int (stl (bestO n ns) ns)]) hu)
      refine ⟨_, _, .tuple [.tuple ((bestO n ns).map PyData.int), .int (stl (bestO n ns) ns)], rfl, .tup (onT s3 et) (.cons (dp_tup (ec.same s3).sq) (.cons (.int _) .nil)), .tup (tupAt upd_same) (.cons (dp_tup (ed.same s3).sq) (.cons (.int _) .nil)), okD_two _ _ (by rw [perm_len bp]; omega), fun H3 s4 => ⟨_, rfl, ifF rfl ?_⟩⟩
      have s5 := s3.trans s4
      have c16 := c15.same s5
      refine ⟨_, rfl, tt, _, 1, _, rfl, rfl, onT s5 et, rfl, _, rfl, _, rfl, ta, d, O2, ns, n, rfl, c16.ft, c16.pt, c16.n1, by have := c16.n6; omega, c16.nm, fun H4 s6 => ⟨_, _, rfl, rfl, _, rfl, ifF (decide_eq_false (by omega)) ⟨rfl, c16.same s6⟩⟩⟩
    obtain ⟨rfl, c16⟩ := g16
    -- on a shelf
    refine ⟨fun σ' H' => ∃ z9 z10 z14 z15 z16 z17, σ' = [some (.ref a), some (.ref p), some (.int (n : Int)), some (.ref oa), some (.ref ta), some (.int (m : Int)), some (.ref d), some (.int (cst O ns)), some (.int ((prs (bef O2) O : Nat) : Int)), z9, z10, some (.int (2 * stl O2 ns + ((prs (bef O2) O : Nat) : Int) - (ns.length : Int))), some (.ref tt), some (.ref du), z14, z15, z16, z17, none, none, none] ∧ Wh8 K (tabs81 P1 P2) p oa ta d O O2 ns n H', fun σ17 H17 g17 => ?_, ?_⟩
    case refine_2 =>
      refine ⟨_, rfl, 1, (n : Int), rfl, rfl, _, rfl, ite2 (fun e => ?_) (fun e => ?_)⟩
      case refine_2 => exact ⟨_, rfl, ifF (by simpa using e) ⟨_, _, _, _, _, _, rfl, c16⟩⟩
      refine ⟨(n : Int), 6, rfl, rfl, _, rfl, ite2 (fun e2 => ?_) (fun e2 => ?_)⟩
      case refine_2 => exact ⟨_, _, _, _, _, _, rfl, c16⟩
      have n2 : 2 ≤ n := by
        have : (1 : Int) < (n : Int) := by simpa using e
        omega
      have n5 : n ≤ 5 := by
        have : (n : Int) < 6 := by simpa using e2
        omega
      -- layout
      refine ⟨fun σ' H' => ∃ l, σ' = [some (.ref a), some (.ref p), some (.int (n : Int)), some (.ref oa), some (.ref ta), some (.int (m : Int)), some (.ref d), some (.int (cst O ns)), some (.int ((prs (bef O2) O : Nat) : Int)), y9, y10, some (.int (2 * stl O2 ns + ((prs (bef O2) O : Nat) : Int) - (ns.length : Int))), some (.ref tt), some (.ref du), some (.ref l), none, none, none, none, none, none] ∧ Wh8 K (tabs81 P1 P2) p oa ta d O O2 ns n H' ∧ SqT K H' l ((invR O).map V.int), fun σ18 H18 g18 => ?_, ?_⟩
      case refine_2 =>
        refine ⟨_, rfl, (n : Int), rfl, by omega, by omega, fun D hD => ?_⟩
        rw [Int.toNat_natCast]
        refine lc_range (lo := 0) (n := n) (fun i H' => Same H16 H' ∧ H' D = some (.lst (((List.range i).map fun j : Nat => ((O.idxOf (j : Int) : Nat) : Int)).map V.int))) ⟨same_new hD, upd_same⟩ (fun i H' hi h' => ?_) (fun H' h' => ?_)
        · obtain ⟨sm, eD⟩ := h'
          rw [Int.zero_add]
          have mi : (i : Int) ∈ O := c16.po.mem_iff.mpr (rg_mem.mpr ⟨by omega, by omega⟩)
          refine ⟨rfl, _, rfl, oa, O, rfl, c16.fo.same sm, _, rfl, (i : Int), rfl, c16.fo.same sm, mi, _, eD, by rw [List.length_map, List.length_map, List.length_range]; exact small1000 (by omega), ?_, ?_⟩
          · exact fun c o ec => by rw [upd_ne (ne_of_none ec hD)]; exact sm c o ec
          · rw [upd_same, List.range_succ, List.map_append, List.map_append]
            rfl
        · obtain ⟨sm, eD⟩ := h'
          refine .inl ⟨D, _, rfl, lstAt eD, fun t ht => ⟨t, rfl, (c16.same sm).same (same_new ht), ?_⟩⟩
          unfold invR
          rw [perm_len c16.po]
          exact tupAt upd_same
      obtain ⟨l, rfl, c18, hl⟩ := g18
      -- habit
      refine ⟨fun σ' H' => ∃ (vh : V) (h : List (List Int)), σ' = [some (.ref a), some (.ref p), some (.int (n : Int)), some (.ref oa), some (.ref ta), some (.int (m : Int)), some (.ref d), some (.int (cst O ns)), some (.int ((prs (bef O2) O : Nat) : Int)), y9, y10, some (.int (2 * stl O2 ns + ((prs (bef O2) O : Nat) : Int) - (ns.length : Int))), some (.ref tt), some (.ref du), some (.ref l), some vh, none, none, none, none, none] ∧ Wh8 K (tabs81 P1 P2) p oa ta d O O2 ns n H' ∧ SqT K H' l ((invR O).map V.int) ∧ TII K H' vh h ∧ Hb n h, fun σ19 H19 g19 => ?_, ?_⟩
      case refine_2 =>
        refine ⟨_, rfl, _, rfl, p, n, rfl, c18.row, n2, n5, fun H' v h hb hB hR hv => ⟨v, h, rfl, c18.but hB hR, (c18.row.fix hB).tups _ _ hl, hv.ti, hb⟩⟩
      obtain ⟨vh, h, rfl, c19, hl, hT, hb⟩ := g19
      have hpi : (invR O).Perm (rg n) := invR_perm c19.po
      -- found, stands
      refine ⟨fun σ' H' => σ' = [some (.ref a), some (.ref p), some (.int (n : Int)), some (.ref oa), some (.ref ta), some (.int (m : Int)), some (.ref d), some (.int (cst O ns)), some (.int ((prs (bef O2) O : Nat) : Int)), y9, y10, some (.int (2 * stl O2 ns + ((prs (bef O2) O : Nat) : Int) - (ns.length : Int))), some (.ref tt), some (.ref du), some (.ref l), some vh, some (.int 0), some (.ref l), none, none, none] ∧ Wh8 K (tabs81 P1 P2) p oa ta d O O2 ns n H' ∧ SqT K H' l ((invR O).map V.int) ∧ TII K H' vh h, fun σ20 H20 g20 => ?_, ?_⟩
      case refine_2 => exact ⟨_, rfl, _, _, rfl, rfl, c19, hl, hT⟩
      obtain ⟨rfl, c20, hl, hT⟩ := g20
      -- the walk
      refine ⟨fun σ' H' => ∃ (la : Addr) (y9 y10 : Option V), σ' = [some (.ref a), some (.ref p), some (.int (n : Int)), some (.ref oa), some (.ref ta), some (.int (m : Int)), some (.ref d), some (.int (cst O ns)), some (.int ((prs (bef O2) O : Nat) : Int)), y9, y10, some (.int (2 * stl O2 ns + ((prs (bef O2) O : Nat) : Int) - (ns.length : Int))), some (.ref tt), some (.ref du), some (.ref l), some vh, some (.int (wlk h (invR O) ns)), some (.ref la), none, none, none] ∧ Wh8 K (tabs81 P1 P2) p oa ta d O O2 ns n H' ∧ SqT K H' l ((invR O).map V.int) ∧ TII K H' vh h, fun σ21 H21 g21 => ?_, ?_⟩
      case refine_2 =>
        refine ⟨_, rfl, d, rfl, ⟨_, c20.nm.at_⟩, ?_⟩
        refine for_tup (xs := ns.map V.int) (fun i σ H' => Same H20 H' ∧ ∃ (la : Addr) (y9 y10 : Option V), σ = [some (.ref a), some (.ref p), some (.int (n : Int)), some (.ref oa), some (.ref ta), some (.int (m : Int)), some (.ref d), some (.int (cst O ns)), some (.int ((prs (bef O2) O : Nat) : Int)), y9, y10, some (.int (2 * stl O2 ns + ((prs (bef O2) O : Nat) : Int) - (ns.length : Int))), some (.ref tt), some (.ref du), some (.ref l), some vh, some (.int (wlk h (invR O) (ns.take i))), some (.ref la), none, none, none] ∧ SqT K H' la (((ns.take i).foldl (lyt h) (invR O)).map V.int)) ⟨Same.refl _, l, _, _, rfl, hl⟩ (fun i σ H' _ h' => (c20.nm.on h'.1).at_) (fun i x σ H' hx h' => ?_) (fun σ H' h' => ?_)
        · obtain ⟨z, hz, rfl⟩ := map_at hx
          obtain ⟨sm, la, y9, y10, rfl, hla⟩ := h'
          have hz2 := rg_mem.mp (c20.nm.in_ z (List.mem_of_getElem? hz))
          have pm := lyt_perm hb (ns := ns.take i) hpi fun y hy => c20.nm.in_ y (List.mem_of_mem_take hy)
          have lM := perm_len pm
          obtain ⟨g, hg⟩ : ∃ g, ((ns.take i).foldl (lyt h) (invR O))[z.toNat]? = some g := ⟨_, List.getElem?_eq_getElem (by omega)⟩
          have eg := getD_at (d := 0) hg
          have ing := rg_mem.mp (pm.mem_iff.mp (List.mem_of_getElem? hg))
          refine ⟨_, rfl, _, rfl, la, _, z, .int g, rfl, rfl, hla, at_int hz2.1 (at_map hg), ?_⟩
          refine ⟨_, rfl, _, rfl, _, _, rfl, rfl, _, 1, rfl, rfl, _, rfl, _, rfl, _, rfl, vh, h, n, la, _, g, rfl, hT.on (Same.tups sm), hb, hla, fun u hu => perm_in pm hu, by omega, ing, fun H4 q4 s4 _ f4 => ⟨_, _, rfl, sm.trans s4, q4, some (.int g), some (.int z), ?_, ?_⟩⟩
          · rw [wlk_more hz, eg]
            rfl
          · have el : lyt h ((ns.take i).foldl (lyt h) (invR O)) z = stp h g ((ns.take i).foldl (lyt h) (invR O)) := by
              show stp h (((ns.take i).foldl (lyt h) (invR O)).getD z.toNat 0) _ = _
              rw [eg]
            rw [fold_more hz, el]
            exact f4.sq
        · obtain ⟨sm, la, y9, y10, rfl, hla⟩ := h'
          rw [List.length_map, List.take_length]
          exact ⟨la, y9, y10, rfl, c20.same sm, onT sm hl, hT.on (Same.tups sm)⟩
      obtain ⟨la, y9, y10, rfl, c21, hl, hT⟩ := g21
      -- walked
      refine ⟨_, rfl, _, rfl, _, rfl, vh, h, n, l, d, invR O, ns, rfl, hT, hb, hl, hpi, c21.nm, fun H2 s2 => ⟨_, rfl, _, _, .int _, rfl, .int _, .int _, True.intro, fun H3 s3 => ⟨_, rfl, ifF rfl ?_⟩⟩⟩
      have s23 := s2.trans s3
      refine ⟨_, rfl, n, rfl, n2, n5, fun v H4 s4 hv => ?_⟩
      have s24 := s23.trans s4
      refine ⟨_, rfl, _, rfl, v, frH n, n, l, d, invR O, ns, rfl, hv, frH_hb n2 n5, onT s24 hl, hpi, (c21.same s24).nm, fun H5 s5 => ⟨_, rfl, rfl, _, rfl, ifF ?_ ⟨_, _, _, _, _, _, rfl, c21.same (s24.trans s5)⟩⟩⟩
      rw [wlk_front n5 ns O c21.po c21.nm.in_]
      simp
    obtain ⟨z9, z10, z14, z15, z16, z17, rfl, c17⟩ := g17
    -- names that are none
    have c17t := c17
    refine ⟨fun σ' H' => ∃ z9 z10 z14 z15 z16 z17, σ' = [some (.ref a), some (.ref p), some (.int (n : Int)), some (.ref oa), some (.ref ta), some (.int (m : Int)), some (.ref d), some (.int (cst O ns)), some (.int ((prs (bef O2) O : Nat) : Int)), z9, z10, some (.int (2 * stl O2 ns + ((prs (bef O2) O : Nat) : Int) - (ns.length : Int))), some (.ref tt), some (.ref du), z14, z15, z16, z17, none, none, none] ∧ Wh8 K (tabs81 P1 P2) p oa ta d O O2 ns n H', fun σ18 H18 g18 => ?_, ?_⟩
    case refine_2 =>
      refine ⟨_, rfl, _, rfl, _, rfl, by show 1 ≤ sizeLine; decide, fun t1 h1 => ⟨0, 1, rfl, rfl, by show 1 ≤ sizeLine; decide, fun t2 h2 => ⟨by show 1 ≤ sizeLine; decide, fun t3 h3 => ⟨by show 1 ≤ sizeLine; decide, fun t4 h4 => ⟨by show 5 ≤ sizeLine; decide, fun l hl => ?_⟩⟩⟩⟩⟩
      have s1 := same_new (o := .tup [.int (n : Int)]) h1
      have s2 := same_new (o := .tup [.int (0 - 1)]) h2
      have s3 := same_new (o := .tup [.bl true]) h3
      have s4 := same_new (o := .lst [.int 0]) h4
      have s5 := same_new (o := .lst [.non, .ref t1, .ref t2, .ref t3, .ref t4]) hl
      have sA := s1.trans (s2.trans (s3.trans (s4.trans s5)))
      have c18 := c17.same sA
      have hlp : l ≠ p := Ne.symm ((c17.same (s1.trans (s2.trans (s3.trans s4)))).row.ne hl)
      refine ⟨p, l, _, rfl, c18.row, upd_same, hlp, by show 0 < 5; decide, by show 5 ≤ 1000; decide, fun i x H3 hi hB hR => ?_⟩
      have c19 := c18.but hB hR
      have fx := (c18.row.fix hB).tups (K := K)
      suffices hh : ∃ wo, Wd K H3 x wo ∧ (rowW 0 200 wo = true → plsW (n : Int) wo = false) by
        obtain ⟨wo, hw, hb⟩ := hh
        exact ⟨oa, x, wo, O, n, rfl, c19.fo.sq, c19.po, c19.n1, c19.n6, hw, hb, fun H4 s6 => ⟨true, en, (fun _ a ha => ⟨_, _, _, _, _, _, rfl, c19.same s6⟩), (fun z => nomatch z)⟩⟩
      match i, hi with
      | 0, hi =>
        cases hi
        exact ⟨none, wd_none .non, fun z => nomatch z⟩
      | 1, hi =>
        cases hi
        have := bad_names (n := n) ⟨t1, rfl, fx _ _ (tupAt (xs := [.int (n : Int)]) (s5 _ _ (s4 _ _ (s3 _ _ (s2 _ _ upd_same)))))⟩ (fun x hm => by rw [List.mem_singleton.mp hm]; exact .int _) (by show 1 < 64; decide) (by show (inV2 0 ((n : Int) - 1) (.int (n : Int)) && true) = false; unfold inV2; simp; omega)
        exact ⟨_, this.1, this.2⟩
      | 2, hi =>
        cases hi
        have := bad_names (n := n) ⟨t2, rfl, fx _ _ (tupAt (xs := [.int (0 - 1)]) (s5 _ _ (s4 _ _ (s3 _ _ upd_same))))⟩ (fun x hm => by rw [List.mem_singleton.mp hm]; exact .int _) (by decide) (by show (inV2 0 ((n : Int) - 1) (.int (0 - 1)) && true) = false; unfold inV2; simp)
        exact ⟨_, this.1, this.2⟩
      | 3, hi =>
        cases hi
        have := bad_names (n := n) ⟨t3, rfl, fx _ _ (tupAt (xs := [.bl true]) (s5 _ _ (s4 _ _ upd_same)))⟩ (fun x hm => by rw [List.mem_singleton.mp hm]; exact .bl _) (by decide) rfl
        exact ⟨_, this.1, this.2⟩
      | 4, hi =>
        cases hi
        have h4p : t4 ≠ p := Ne.symm ((c17.same (s1.trans (s2.trans s3))).row.ne h4)
        exact ⟨none, wd_none (.lst (lstAt (hB _ _ (s5 _ _ upd_same) h4p))), fun z => nomatch z⟩
      | i + 5, hi => simp at hi
    obtain ⟨z9, z10, z14, z15, z16, z17, rfl, c18⟩ := g18
    -- an order that is none
    refine ⟨_, rfl, _, rfl, _, rfl, _, rfl, by show 1 ≤ sizeLine; decide, fun t1 h1 => ?_⟩
    have s1 := same_new (o := .tup [.int (n : Int)]) h1
    have lO := perm_len c18.po
    refine catT_ok (c18.same s1).fo.sq (tupAt upd_same) (by rw [List.length_map, lO]; show n + 1 ≤ 1000; omega) fun r H3 s2 hr3 => ?_
    refine ⟨by show 1 ≤ sizeLine; decide, fun t2 h2 => ⟨_, rfl, (n : Int), 1, rfl, rfl, ?_⟩⟩
    have s3 := same_new (o := .tup [.int 0]) h2
    refine ⟨t2, (n : Int) + 1, [.int 0], rfl, rfl, tupAt upd_same, (fun z => nomatch z), by have := c18.n1; omega, by omega, by show 1 ≤ 1000; decide, fun t3 h3 => ?_⟩
    have eR : (List.replicate ((n : Int) + 1).toNat [V.int 0]).flatten = (List.replicate (n + 1) (0 : Int)).map V.int := by
      rw [show ((n : Int) + 1).toNat = n + 1 by omega, List.map_replicate, List.flatten_replicate_singleton]
    rw [eR]
    have s4 := same_new (o := .tup ((List.replicate (n + 1) (0 : Int)).map V.int)) h3
    have sB := s1.trans (s2.trans (s3.trans s4))
    refine ⟨_, rfl, oa, _, rfl, .inr (c18.same sB).fo.sq, fun t4 h4 => ⟨by show 4 ≤ sizeLine; decide, fun l hl => ?_⟩⟩
    have s5 := same_new (o := .lst (O.map V.int)) h4
    have s6 := same_new (o := .lst [.non, .ref r, .ref t3, .ref t4]) hl
    have sA := sB.trans (s5.trans s6)
    have c19 := c18.same sA
    have hlp : l ≠ p := Ne.symm ((c18.same (sB.trans s5)).row.ne hl)
    refine ⟨p, l, _, rfl, c19.row, upd_same, hlp, by show 0 < 4; decide, by show 4 ≤ 1000; decide, fun i x H4 hi hB hR => ?_⟩
    have c20 := c19.but hB hR
    have fx := (c19.row.fix hB).tups (K := K)
    suffices hh : ∃ wo, Wd K H4 x wo ∧ layW n wo = false by
      obtain ⟨wo, hw, hb⟩ := hh
      exact ⟨oa, x, wo, O, n, rfl, c20.fo.sq, c20.po, c20.n1, c20.n6, hw, hb, fun H5 s7 => ⟨true, el, (fun _ a ha => q H5), (fun z => nomatch z)⟩⟩
    match i, hi with
    | 0, hi =>
      cases hi
      exact ⟨none, wd_none .non, rfl⟩
    | 1, hi =>
      cases hi
      have hr4 : SqT K H4 r ((O ++ [(n : Int)]).map V.int) := fx _ _ (onT s6 (onT s5 (onT s4 (onT s3 (by rw [List.map_append]; exact hr3)))))
      exact ⟨_, wd_ints hr4 (by rw [List.length_append, lO]; show n + 1 < 64; omega), lay_len (by rw [List.length_map, List.length_append, lO]; show n + 1 ≠ n; omega)⟩
    | 2, hi =>
      cases hi
      exact ⟨_, wd_ints (fx _ _ (tupAt (s6 _ _ (s5 _ _ upd_same)))) (by rw [List.length_replicate]; omega), lay_len (by rw [List.length_map, List.length_replicate]; omega)⟩
    | 3, hi =>
      cases hi
      have h4p : t4 ≠ p := Ne.symm ((c18.same sB).row.ne h4)
      exact ⟨none, wd_none (.lst (lstAt (hB _ _ (s6 _ _ upd_same) h4p))), rfl⟩
    | i + 4, hi => simp at hi
end
end RH
set_option Elab.async false
set_option linter.all false
set_option maxRecDepth 100000
set_option maxHeartbeats 2000000
namespace RH
open PySem PySem.Spec PyProof.Rows L2
open LamX (Tabs TabS TabB ExtN CodeO codeO_ne)
/-! ### what the top has left -/
theorem df_mk {K : PySem.W.Frag} {h : Heap} {mg : Str → Option Value} (X : K.In h) (G : h.Ns mainGlobals mg) {x : Str} {st : Stmt} {ps : List Str} {f : Addr} {od an : Option Addr} {sl : Array (Option Value)} {oc kV dc pm cd ct : Value}
    (a : PySem.W.nsIn K mainGlobals x = some (some (.ref f))) (l : K.lookup f = some ⟨oc, od, .func (PySem.W.fnOf x x (defArgs st) (defBody st) (defScope st) .none kV dc pm an cd ct), sl⟩) (c : PySem.W.codeIn K cd x = true) (k : PySem.W.keepIn K (.ref f) = true)
    (b : ∀ (kV doc pm : Value) (an : Option Addr) (cdv ct : Value) (us : List Value), us.length = ps.length → bindArgs (PySem.W.fnOf x x (defArgs st) (defBody st) (defScope st) .none kV doc pm an cdv ct) ⟨us, []⟩ = pure (ps.zip us)) : Df K mg x st ps := by
  have F := fun_mk (st := st) l c k
  exact ⟨f, _, F, PySem.W.mg_of X G a, F.binds b⟩
theorem dfc_mk {K : PySem.W.Frag} {h : Heap} {mg : Str → Option Value} (X : K.In h) (G : h.Ns mainGlobals mg) {x : Str} {st : Stmt} {ps : List Str} {f c : Addr} {od an : Option Addr} {sl : Array (Option Value)} {oc kV dc pm ct : Value}
    (a : PySem.W.nsIn K mainGlobals x = some (some (.ref f))) (l : K.lookup f = some ⟨oc, od, .func (PySem.W.fnOf x x (defArgs st) (defBody st) (defScope st) .none kV dc pm an (.ref c) ct), sl⟩) (cc : PySem.W.codeIn K (.ref c) x = true) (k : PySem.W.keepIn K (.ref f) = true)
    (b : ∀ (kV doc pm : Value) (an : Option Addr) (cdv ct : Value) (us : List Value), us.length = ps.length → bindArgs (PySem.W.fnOf x x (defArgs st) (defBody st) (defScope st) .none kV doc pm an cdv ct) ⟨us, []⟩ = pure (ps.zip us)) : DfC K mg x st ps c := by
  have F := fun_mk (st := st) l cc k
  exact ⟨f, oc, od, kV, dc, pm, an, ct, sl, l, cc, k, PySem.W.mg_of X G a, F.binds b⟩
/-- where a code object's table stands -/
def tabOf (o : Obj) : Option Value := match o.data with
  | .fields vs => vs.toList[11]?
  | _ => none
/-- a maker: its code object, its table -/
structure Mkr (K : PySem.W.Frag) (h : Heap) (mg : Str → Option Value) (x : Str) (st : Stmt) (ps : List Str) (c p : Addr) : Prop where
  df : DfC K mg x st ps c
  hd : PySem.W.CodeHd h c p
  no : K.lookup p = none
  tab : h.get? p = some (PySem.W.tabObj #[])
theorem mkr {K : PySem.W.Frag} {h : Heap} {mg : Str → Option Value} (X : K.In h) (G : h.Ns mainGlobals mg) {x : Str} {st : Stmt} {ps : List Str} {f c p : Addr} {od an : Option Addr} {sl : Array (Option Value)} {oc kV dc pm ct : Value} {o : Obj}
    (a : PySem.W.nsIn K mainGlobals x = some (some (.ref f))) (l : K.lookup f = some ⟨oc, od, .func (PySem.W.fnOf x x (defArgs st) (defBody st) (defScope st) .none kV dc pm an (.ref c) ct), sl⟩) (cc : PySem.W.codeIn K (.ref c) x = true) (k : PySem.W.keepIn K (.ref f) = true)
    (lc : K.lookup c = some o) (t : tabOf o = some (.ref p)) (d : ∀ K' : PySem.W.Frag, K'.lookup c = some o → PySem.W.codeHdIn K' c p = true) (e : K.lookup p = none) (g : h.get? p = some (PySem.W.tabObj #[]))
    (b : ∀ (kV doc pm : Value) (an : Option Addr) (cdv ct : Value) (us : List Value), us.length = ps.length → bindArgs (PySem.W.fnOf x x (defArgs st) (defBody st) (defScope st) .none kV doc pm an cdv ct) ⟨us, []⟩ = pure (ps.zip us)) :
    Mkr K h mg x st ps c p := ⟨dfc_mk X G a l cc k b, PySem.W.codeHd_of_K X (d K lc), e, g⟩
theorem two {A B : Addr → Addr → Prop} {c p c2 p2 : Addr} (a : A c p) (b : B c2 p2) (n : (p != p2) = true) : ∃ c p c2 p2, A c p ∧ B c2 p2 ∧ p ≠ p2 := ⟨c, p, c2, p2, a, b, fun z => by
  rw [z] at n
  simp at n⟩
/-- the written part that is meant -/
abbrev kOf {K : PySem.W.Frag} {h : Heap} (_ : K.In h) : PySem.W.Frag := K
theorem const_mk {K : PySem.W.Frag} {h : Heap} {mg : Str → Option Value} (X : K.In h) (G : h.Ns mainGlobals mg) {x : Str} {i : Int} {t : Tok} (a : PySem.W.nsIn K mainGlobals x = some (some (.int i t))) : ∃ t, mg x = some (.int i t) := ⟨t, PySem.W.mg_of X G a⟩
/-- what the end asks of the law -/
def spEnd (K : PySem.W.Frag) (T : List (Addr × Str)) : Sp := fun vs H Q _ => ∃ (a : Addr) (ns : List Int), vs = [.ref a] ∧ SqL K H a (ns.map V.int) ∧ Tabs T H ∧ ∀ H', Q (.bl true) H'
/-- a list that no one writes may be told by its very object -/
theorem frozen {P : Program} {w : World} {K : PySem.W.Frag} {mg : Str → Option Value} {base : Heap} {k : Nat} {f : Addr} {fd : FuncData} {T : List (Addr × Str)} (F : FnOk P w K mg base CX0 k f fd ["script"] (spLaw K T)) : FnOk P w K mg base CX0 k f fd ["script"] (spEnd K T) := by
  refine ⟨fun vs H Q E h => ?_, fun A outer s H args us vs Q E hr e0 hb r h => ?_⟩
  · obtain ⟨a, ns, rfl, _⟩ := h
    rfl
  obtain ⟨a, ns, rfl, hS, hT, q⟩ := h
  rcases hS with (hS | ⟨o, hS⟩) | hS
  · obtain ⟨z, its, n, rv, ho⟩ := (show ObjOk P w H s.heap a (.lst (ns.map V.int)) from e0.hok a _ hS)
    have hne : ∀ b, H b = none ↔ upd H a (.frz { cls := .type "list", data := .seq its.toArray n } (.lst (ns.map V.int))) b = none := fun b => by
      by_cases e : b = a
      · subst e
        rw [hS, upd_same]
        exact ⟨fun z => (nomatch z), fun z => (nomatch z)⟩
      · rw [upd_ne e]
    have ext : ∀ b u, H b = some u → (∀ xs, u ≠ .lst xs) → upd H a (.frz { cls := .type "list", data := .seq its.toArray n } (.lst (ns.map V.int))) b = some u := fun b u e nu => by
      rw [upd_ne (fun z => by subst z; rw [hS] at e; exact nu _ (Option.some.inj e).symm)]
      exact e
    have hok : HOk P w (upd H a (.frz { cls := .type "list", data := .seq its.toArray n } (.lst (ns.map V.int)))) s.heap := fun b u e => by
      by_cases eb : b = a
      · subst eb
        rw [upd_same] at e
        cases e
        exact ⟨ho, z, its, n, rv, ho⟩
      · rw [upd_ne eb] at e
        exact (e0.hok b u e).stay (fun c v _ h => h) (fun c h => ext _ _ h (fun xs z => nomatch z)) (fun c xs h => ext _ _ h (fun xs z => nomatch z))
    have e1 : Env0 P w K mg base A outer s (upd H a (.frz { cls := .type "list", data := .seq its.toArray n } (.lst (ns.map V.int)))) :=
      ⟨e0.frames, e0.mod, fun b o e => ⟨(e0.bs b o e).1, (hne b).mp (e0.bs b o e).2⟩, e0.bsz, e0.funs, fun b h => (hne b).mp (e0.frf b h), hok, e0.bare⟩
    have hT1 : Tabs T (upd H a (.frz { cls := .type "list", data := .seq its.toArray n } (.lst (ns.map V.int)))) := Fix.tabs (fun b u e nu => ext b u e nu) hT
    refine codeAny_mono (F.run A outer s _ args us [.ref a] Q E hr e1 hb r ⟨a, ns, rfl, .inl ⟨_, upd_same⟩, hT1, q⟩) fun rr s' h => ?_
    cases rr with
    | error e => exact h
    | ok fl =>
      cases fl with
      | ret u =>
        obtain ⟨v, H', os, bare, un, hok', r', q'⟩ := h
        refine ⟨v, H', os, bare, ⟨fun b o e n => un.keep b o e ((hne b).mp n), fun b o e n => un.slot b o e ((hne b).mp n), fun b o e n => un.free b o e ((hne b).mp n), un.there, fun b xs e => un.tups b xs (ext b _ e (fun ys z => nomatch z)), fun b o u e => un.frzs b o u (ext b _ e (fun ys z => nomatch z)), fun b ps e => un.tbls b ps (ext b _ e (fun ys z => nomatch z))⟩, hok', r', q'⟩
      | next => exact h
      | brk => exact h
      | cont => exact h
  · exact F.run A outer s H args us [.ref a] Q E hr e0 hb r ⟨a, ns, rfl, .inl ⟨o, hS⟩, hT, q⟩
  · exact F.run A outer s H args us [.ref a] Q E hr e0 hb r ⟨a, ns, rfl, .inr fun H' => .inr hS, hT, q⟩
/-- the errors, as the top has left them -/
theorem errs_mk {K : PySem.W.Frag} {h : Heap} {mg : Str → Option Value} (P : Program) (X : K.In h) (G : h.Ns mainGlobals mg) {S c0 c1 : Addr} (aS : PySem.W.nsIn K mainGlobals "ShelfError" = some (some (.ref S)))
    (a0 : PySem.W.nsIn K mainGlobals "BadLayout" = some (some (.ref c0)))
    (a1 : PySem.W.nsIn K mainGlobals "BadNames" = some (some (.ref c1)))
    (q0 : PySem.W.excIn K c0 [.type "ValueError", .type "Exception", .type "BaseException", .type "object"] "ValueError.__new__" = true)
    (kp0 : PySem.W.keepIn K (.ref c0) = true) (b0 : PySem.W.subIn K (.ref c0) (.type "BaseException") = some true) (t0 : PySem.W.typeIn K (.ref c0) = some (.type "type"))
    (xg0 : PySem.W.findIn K (.ref c0) "__getattribute__" = some (some (.builtin "BaseException.__getattribute__"))) (xk0 : PySem.W.findIn K (.ref c0) "__getattr__" = some none) (xd0 : PySem.W.hasDictIn K c0 = true) (xa0 : PySem.W.findIn K (.ref c0) "__class__" = some (some (.builtin "object.__class__"))) (xm0 : PySem.W.mroIn K c0 (.type "object") = some true) (es0 : PySem.W.exmOne K (.ref c0) (.ref S) = some true)
    (q1 : PySem.W.excIn K c1 [.type "ValueError", .type "Exception", .type "BaseException", .type "object"] "ValueError.__new__" = true)
    (kp1 : PySem.W.keepIn K (.ref c1) = true) (b1 : PySem.W.subIn K (.ref c1) (.type "BaseException") = some true) (t1 : PySem.W.typeIn K (.ref c1) = some (.type "type"))
    (xg1 : PySem.W.findIn K (.ref c1) "__getattribute__" = some (some (.builtin "BaseException.__getattribute__"))) (xk1 : PySem.W.findIn K (.ref c1) "__getattr__" = some none) (xd1 : PySem.W.hasDictIn K c1 = true) (xa1 : PySem.W.findIn K (.ref c1) "__class__" = some (some (.builtin "object.__class__"))) (xm1 : PySem.W.mroIn K c1 (.type "object") = some true) (es1 : PySem.W.exmOne K (.ref c1) (.ref S) = some true)
    (ex0_0 : PySem.W.exmOne K (.ref c0) (.ref c0) = some true)
    (ex1_1 : PySem.W.exmOne K (.ref c1) (.ref c1) = some true)
    (xn : PySem.W.specialIn K (.builtin "object.__class__") "__get__" = some (some (.builtin "getset_descriptor.__get__"))) (xt : PySem.W.takesIn K (.builtin "object.__class__") = some true)
    : ∃ (S c0 c1 : Addr), (mg "BadLayout" = some (.ref c0)) ∧ (mg "BadNames" = some (.ref c1)) ∧ (PySem.W.exmOne K (.ref c0) (.ref c0) = some true) ∧ (PySem.W.exmOne K (.ref c1) (.ref c1) = some true) ∧ (ExO K mg "BadLayout" c0) ∧ (ExO K mg "BadNames" c1) := by
  have mS := PySem.W.mg_of X G aS
  have m0 := PySem.W.mg_of X G a0
  have m1 := PySem.W.mg_of X G a1
  have x0 : ExcC K c0 := ⟨xg0, xk0, b0, xd0, xa0, xn, xt, xm0⟩
  have x1 : ExcC K c1 := ⟨xg1, xk1, b1, xd1, xa1, xn, xt, xm1⟩
  have X0 : ExO K mg "BadLayout" c0 := ⟨q0, m0, kp0, b0, t0⟩
  have X1 : ExO K mg "BadNames" c1 := ⟨q1, m1, kp1, b1, t1⟩
  exact ⟨S, c0, c1, m0, m1, ex0_0, ex1_1, X0, X1⟩
theorem top {P : Program} {w : World} {K : PySem.W.Frag} {mg : Str → Option Value} {fa : Addr} (hfa : mg "law" = some (.ref fa)) (B : Bu mg) (c_FEWEST_PLACES : ∃ t, mg "FEWEST_PLACES" = some (.int 2 t)) (c_MOST_PLACES : ∃ t, mg "MOST_PLACES" = some (.int 5 t)) (c_MOST_BOOKS : ∃ t, mg "MOST_BOOKS" = some (.int 30 t)) (c_MOST_ASKED : ∃ t, mg "MOST_ASKED" = some (.int 200 t)) (n_sum : mg "sum" = none)
    {k1 p1 k2 p2 : Addr} (hpp : p1 ≠ p2)
    {c0 c1 : Addr} (gl : mg "BadLayout" = some (.ref c0)) (gn : mg "BadNames" = some (.ref c1)) (el : PySem.W.exmOne K (.ref c0) (.ref c0) = some true) (en : PySem.W.exmOne K (.ref c1) (.ref c1) = some true) (Xl : ExO K mg "BadLayout" c0) (Xn : ExO K mg "BadNames" c1)
    (F_is_integer : Df K mg "is_integer" st_is_integer ["value"])
    (F_is_number : Df K mg "is_number" st_is_number ["value", "low", "high"])
    (F_is_row : Df K mg "is_row" st_is_row ["value", "low", "high"])
    (F_is_place : Df K mg "is_place" st_is_place ["value", "places"])
    (F_are_places : Df K mg "are_places" st_are_places ["value", "places"])
    (F_is_layout : Df K mg "is_layout" st_is_layout ["value", "places"])
    (F_check_number : Df K mg "check_number" st_check_number ["value", "low", "high"])
    (F_check_places : Df K mg "check_places" st_check_places ["places"])
    (F_check_habit : Df K mg "check_habit" st_check_habit ["habit"])
    (F_check_layout : Df K mg "check_layout" st_check_layout ["layout", "places"])
    (F_check_row : Df K mg "check_row" st_check_row ["row", "most"])
    (F_check_names : Df K mg "check_names" st_check_names ["names", "places", "most"])
    (F_move : Df K mg "move" st_move ["habit", "layout", "place"])
    (F_inverse : Df K mg "inverse" st_inverse ["row"])
    (F_pairs_crossed : Df K mg "pairs_crossed" st_pairs_crossed ["one", "other"])
    (F_walked : Df K mg "walked" st_walked ["habit", "layout", "names"])
    (F_front_walk : Df K mg "front_walk" st_front_walk ["order", "names"])
    (F_still_walk : Df K mg "still_walk" st_still_walk ["order", "names"])
    (F_best_still : DfC K mg "best_still" st_best_still ["many", "names"] k1)
    (F_crossed : Df K mg "crossed" st_crossed ["one", "other"])
    (F_front_bound : Df K mg "front_bound" st_front_bound ["order", "other", "names"])
    (F_check_two_orders : Df K mg "check_two_orders" st_check_two_orders ["one", "other"])
    (F_front_habit : Df K mg "front_habit" st_front_habit ["places"])
    (F_front_permutation : Df K mg "front_permutation" st_front_permutation ["places", "place"])
    (F__law_taken : Df K mg "_law_taken" st__law_taken ["row", "many"])
    (F__law_pick : Df K mg "_law_pick" st__law_pick ["row", "things"])
    (F__law_alike : Df K mg "_law_alike" st__law_alike ["found", "due"])
    (F__law_permutation : Df K mg "_law_permutation" st__law_permutation ["row", "many"])
    (F__law_habit : Df K mg "_law_habit" st__law_habit ["row", "many"])
    (F__law_touch : Df K mg "_law_touch" st__law_touch ["habit", "layout", "place"])
    (F__law_front : Df K mg "_law_front" st__law_front ["order", "names"])
    (F_law : DfC K mg "law" st_law ["script"] k2)
    : ∃ fd : FuncData, (∀ (s : Shared) (v : Value), BindsTo s fd ⟨[v], []⟩ [("script", v)]) ∧ ∀ base : Heap, TabB base mg k1 p1 → TabB base mg k2 p2 → FnOk P w K mg base CX0 10 fa fd ["script"] (spEnd K (tabs81 p1 p2)) := by
  obtain ⟨f, oc, od, kV, doc, pm, an, ct, osl, lk, hcd, kp, g, b⟩ := F_law.ex
  have e := hfa.symm.trans g
  cases e
  refine ⟨PySem.W.fnOf "law" "law" (defArgs st_law) (defBody st_law) (defScope st_law) .none kV doc pm an (.ref k2) ct, fun s v => .of_eq rfl, fun base T1 T2 => ?_⟩
  · have C1 := ok_is_integer (P := P) (w := w) (K := K) (base := base) F_is_integer B
    have C2 := ok_is_number F_is_number C1
    have CR := ok_is_row (P := P) (w := w) (K := K) (base := base) F_is_row B
    have C3 := ok_is_place F_is_place C2
    have C4 := ok_are_places F_are_places B C3
    have C5 := ok_is_layout F_is_layout B C4
    have D1 := ok_is_integerW (P := P) (w := w) (K := K) (base := base) F_is_integer B
    have D2 := ok_is_numberW F_is_number D1
    have DR := ok_is_rowW (P := P) (w := w) (K := K) (base := base) F_is_row B
    have D3 := ok_is_placeW F_is_place D2
    have D4 := ok_are_placesW F_are_places B D3
    have D5 := ok_is_layoutW F_is_layout B D4
    have CNum := ok_check_number F_check_number C2
    have CPs := ok_check_places F_check_places c_FEWEST_PLACES c_MOST_PLACES CNum
    have CHb := ok_check_habit F_check_habit B c_FEWEST_PLACES c_MOST_PLACES CR C5
    have CLy := ok_check_lay F_check_layout C5
    have CRw := ok_check_row F_check_row B CR C5
    have CNm := ok_check_names F_check_names B CR C4
    have CTw := ok_two F_check_two_orders B c_MOST_BOOKS CRw CLy
    have CM := ok_move (P := P) (w := w) (K := K) (base := base) F_move B
    have CI := ok_inverse (P := P) (w := w) (K := K) (base := base) F_inverse B
    have CPr := ok_pairs (P := P) (w := w) (K := K) (base := base) F_pairs_crossed B
    have CWk := ok_walked F_walked B c_MOST_ASKED CHb CLy CNm CM
    have CFw := ok_front F_front_walk B c_MOST_BOOKS c_MOST_ASKED CRw CNm
    have CSt := ok_still F_still_walk B n_sum c_MOST_BOOKS c_MOST_ASKED CRw CNm
    have CCr := ok_crossed F_crossed CTw CI CPr
    have CBd := ok_bound F_front_bound B c_MOST_ASKED CTw CNm CSt CCr
    have CBs := ok_best F_best_still B T1 hpp c_MOST_BOOKS c_MOST_ASKED C2 CNm CSt
    have CFH := ok_frH F_front_habit B CPs (ok_frP (P := P) (w := w) (base := base) F_front_permutation B)
    have CNX := ok_namesX F_check_names Xn DR D4
    have CLX := ok_layX F_check_layout Xl D5
    have CTX := ok_twoX F_check_two_orders B c_MOST_BOOKS CRw CLX
    have CCX := ok_crossedX F_crossed CTX
    have CFX := ok_frontX F_front_walk B c_MOST_BOOKS c_MOST_ASKED CRw CNX
    have CT := ok_taken (P := P) (w := w) (K := K) (base := base) F__law_taken B
    have CP := ok_lperm F__law_permutation B CT
    have CA := ok_alikeS 1 F__law_alike B (ok_alikeS 0 F__law_alike B (ok_alike0 (P := P) (w := w) (K := K) (base := base) F__law_alike B))
    exact frozen (ok_law lk hcd B n_sum T2 hpp gn gl en el CT (ok_pick F__law_pick B CT) CP (ok_habF F__law_habit B CT CP) (ok_lfront (P := P) (w := w) (base := base) F__law_front B) (ok_ltouch (P := P) (w := w) (base := base) F__law_touch B) CA CFw CSt CCr CBd CBs CWk CFH CFX CCX)
end RH
set_option Elab.async false
set_option linter.all false
open PySem PySem.W PyProof.Rows
set_option maxRecDepth 100000 in
set_option maxHeartbeats 0 in
theorem PySem.Challenge.cw_restlesshelf_k81_whole_walks_holds : PySem.Challenge.rw_restlesshelf_k81_whole_walks.Holds := by
  w_on; o_law; k_head; (case hw => w_witness2)
  k_fill
  refine LamX.walk_ofTs (l := PySem.Challenge.rw_restlesshelf_k81_whole_walks) (n := 63) (k := 10) (x := "script") (CX := fun _ => L2.CX0) rfl (by decide) rfl ⟨rfl, by decide, by decide⟩ (fun w h Y => PySem.W.km_in_of Y) ?F (fun _ _ _ _ _ h => h)
  case F =>
    intro w mg fa h Y KX G hmg
    have TT := PySem.W.km_tabs_of Y
    have B : RH.Bu mg := by
      refine' RH.Bu.mk (PySem.W.mg_none_of KX G ?z0) (PySem.W.mg_none_of KX G ?z1) (PySem.W.mg_none_of KX G ?z2) (PySem.W.mg_none_of KX G ?z3) (PySem.W.mg_none_of KX G ?z4) (PySem.W.mg_none_of KX G ?z5) (PySem.W.mg_none_of KX G ?z6) (PySem.W.mg_none_of KX G ?z7) (PySem.W.mg_none_of KX G ?z8) (PySem.W.mg_none_of KX G ?z9) (PySem.W.mg_none_of KX G ?z10) (PySem.W.mg_none_of KX G ?z11) (PySem.W.mg_none_of KX G ?z12)
      (case z0 => k_is); (case z1 => k_is); (case z2 => k_is); (case z3 => k_is); (case z4 => k_is); (case z5 => k_is); (case z6 => k_is); (case z7 => k_is); (case z8 => k_is); (case z9 => k_is); (case z10 => k_is); (case z11 => k_is); (case z12 => k_is)
    have c_FEWEST_PLACES : ∃ t, mg "FEWEST_PLACES" = some (.int 2 t) := by
      refine' RH.const_mk KX G ?a
      (case a => k_is)
    have c_MOST_PLACES : ∃ t, mg "MOST_PLACES" = some (.int 5 t) := by
      refine' RH.const_mk KX G ?a
      (case a => k_is)
    have c_MOST_BOOKS : ∃ t, mg "MOST_BOOKS" = some (.int 30 t) := by
      refine' RH.const_mk KX G ?a
      (case a => k_is)
    have c_MOST_ASKED : ∃ t, mg "MOST_ASKED" = some (.int 200 t) := by
      refine' RH.const_mk KX G ?a
      (case a => k_is)
    have n_sum : mg "sum" = none := by
      refine' PySem.W.mg_none_of KX G ?a
      (case a => k_is)
    have F_is_integer : RH.Df (RH.kOf KX) mg "is_integer" RH.st_is_integer ["value"] := by
      refine' RH.df_mk KX G ?a ?l ?c ?k (fun _ _ _ _ _ _ us hl => match us, hl with | [_], _ => rfl)
      (case a => k_is); (case l => k_is); (case c => k_is); (case k => k_is)
    have F_is_number : RH.Df (RH.kOf KX) mg "is_number" RH.st_is_number ["value", "low", "high"] := by
      refine' RH.df_mk KX G ?a ?l ?c ?k (fun _ _ _ _ _ _ us hl => match us, hl with | [_, _, _], _ => rfl)
      (case a => k_is); (case l => k_is); (case c => k_is); (case k => k_is)
    have F_is_row : RH.Df (RH.kOf KX) mg "is_row" RH.st_is_row ["value", "low", "high"] := by
      refine' RH.df_mk KX G ?a ?l ?c ?k (fun _ _ _ _ _ _ us hl => match us, hl with | [_, _, _], _ => rfl)
      (case a => k_is); (case l => k_is); (case c => k_is); (case k => k_is)
    have F_is_place : RH.Df (RH.kOf KX) mg "is_place" RH.st_is_place ["value", "places"] := by
      refine' RH.df_mk KX G ?a ?l ?c ?k (fun _ _ _ _ _ _ us hl => match us, hl with | [_, _], _ => rfl)
      (case a => k_is); (case l => k_is); (case c => k_is); (case k => k_is)
    have F_are_places : RH.Df (RH.kOf KX) mg "are_places" RH.st_are_places ["value", "places"] := by
      refine' RH.df_mk KX G ?a ?l ?c ?k (fun _ _ _ _ _ _ us hl => match us, hl with | [_, _], _ => rfl)
      (case a => k_is); (case l => k_is); (case c => k_is); (case k => k_is)
    have F_is_layout : RH.Df (RH.kOf KX) mg "is_layout" RH.st_is_layout ["value", "places"] := by
      refine' RH.df_mk KX G ?a ?l ?c ?k (fun _ _ _ _ _ _ us hl => match us, hl with | [_, _], _ => rfl)
      (case a => k_is); (case l => k_is); (case c => k_is); (case k => k_is)
    have F_check_number : RH.Df (RH.kOf KX) mg "check_number" RH.st_check_number ["value", "low", "high"] := by
      refine' RH.df_mk KX G ?a ?l ?c ?k (fun _ _ _ _ _ _ us hl => match us, hl with | [_, _, _], _ => rfl)
      (case a => k_is); (case l => k_is); (case c => k_is); (case k => k_is)
    have F_check_places : RH.Df (RH.kOf KX) mg "check_places" RH.st_check_places ["places"] := by
      refine' RH.df_mk KX G ?a ?l ?c ?k (fun _ _ _ _ _ _ us hl => match us, hl with | [_], _ => rfl)
      (case a => k_is); (case l => k_is); (case c => k_is); (case k => k_is)
    have F_check_habit : RH.Df (RH.kOf KX) mg "check_habit" RH.st_check_habit ["habit"] := by
      refine' RH.df_mk KX G ?a ?l ?c ?k (fun _ _ _ _ _ _ us hl => match us, hl with | [_], _ => rfl)
      (case a => k_is); (case l => k_is); (case c => k_is); (case k => k_is)
    have F_check_layout : RH.Df (RH.kOf KX) mg "check_layout" RH.st_check_layout ["layout", "places"] := by
      refine' RH.df_mk KX G ?a ?l ?c ?k (fun _ _ _ _ _ _ us hl => match us, hl with | [_, _], _ => rfl)
      (case a => k_is); (case l => k_is); (case c => k_is); (case k => k_is)
    have F_check_row : RH.Df (RH.kOf KX) mg "check_row" RH.st_check_row ["row", "most"] := by
      refine' RH.df_mk KX G ?a ?l ?c ?k (fun _ _ _ _ _ _ us hl => match us, hl with | [_, _], _ => rfl)
      (case a => k_is); (case l => k_is); (case c => k_is); (case k => k_is)
    have F_check_names : RH.Df (RH.kOf KX) mg "check_names" RH.st_check_names ["names", "places", "most"] := by
      refine' RH.df_mk KX G ?a ?l ?c ?k (fun _ _ _ _ _ _ us hl => match us, hl with | [_, _, _], _ => rfl)
      (case a => k_is); (case l => k_is); (case c => k_is); (case k => k_is)
    have F_move : RH.Df (RH.kOf KX) mg "move" RH.st_move ["habit", "layout", "place"] := by
      refine' RH.df_mk KX G ?a ?l ?c ?k (fun _ _ _ _ _ _ us hl => match us, hl with | [_, _, _], _ => rfl)
      (case a => k_is); (case l => k_is); (case c => k_is); (case k => k_is)
    have F_inverse : RH.Df (RH.kOf KX) mg "inverse" RH.st_inverse ["row"] := by
      refine' RH.df_mk KX G ?a ?l ?c ?k (fun _ _ _ _ _ _ us hl => match us, hl with | [_], _ => rfl)
      (case a => k_is); (case l => k_is); (case c => k_is); (case k => k_is)
    have F_pairs_crossed : RH.Df (RH.kOf KX) mg "pairs_crossed" RH.st_pairs_crossed ["one", "other"] := by
      refine' RH.df_mk KX G ?a ?l ?c ?k (fun _ _ _ _ _ _ us hl => match us, hl with | [_, _], _ => rfl)
      (case a => k_is); (case l => k_is); (case c => k_is); (case k => k_is)
    have F_walked : RH.Df (RH.kOf KX) mg "walked" RH.st_walked ["habit", "layout", "names"] := by
      refine' RH.df_mk KX G ?a ?l ?c ?k (fun _ _ _ _ _ _ us hl => match us, hl with | [_, _, _], _ => rfl)
      (case a => k_is); (case l => k_is); (case c => k_is); (case k => k_is)
    have F_front_walk : RH.Df (RH.kOf KX) mg "front_walk" RH.st_front_walk ["order", "names"] := by
      refine' RH.df_mk KX G ?a ?l ?c ?k (fun _ _ _ _ _ _ us hl => match us, hl with | [_, _], _ => rfl)
      (case a => k_is); (case l => k_is); (case c => k_is); (case k => k_is)
    have F_still_walk : RH.Df (RH.kOf KX) mg "still_walk" RH.st_still_walk ["order", "names"] := by
      refine' RH.df_mk KX G ?a ?l ?c ?k (fun _ _ _ _ _ _ us hl => match us, hl with | [_, _], _ => rfl)
      (case a => k_is); (case l => k_is); (case c => k_is); (case k => k_is)
    have F_crossed : RH.Df (RH.kOf KX) mg "crossed" RH.st_crossed ["one", "other"] := by
      refine' RH.df_mk KX G ?a ?l ?c ?k (fun _ _ _ _ _ _ us hl => match us, hl with | [_, _], _ => rfl)
      (case a => k_is); (case l => k_is); (case c => k_is); (case k => k_is)
    have F_front_bound : RH.Df (RH.kOf KX) mg "front_bound" RH.st_front_bound ["order", "other", "names"] := by
      refine' RH.df_mk KX G ?a ?l ?c ?k (fun _ _ _ _ _ _ us hl => match us, hl with | [_, _, _], _ => rfl)
      (case a => k_is); (case l => k_is); (case c => k_is); (case k => k_is)
    have F_check_two_orders : RH.Df (RH.kOf KX) mg "check_two_orders" RH.st_check_two_orders ["one", "other"] := by
      refine' RH.df_mk KX G ?a ?l ?c ?k (fun _ _ _ _ _ _ us hl => match us, hl with | [_, _], _ => rfl)
      (case a => k_is); (case l => k_is); (case c => k_is); (case k => k_is)
    have F_front_habit : RH.Df (RH.kOf KX) mg "front_habit" RH.st_front_habit ["places"] := by
      refine' RH.df_mk KX G ?a ?l ?c ?k (fun _ _ _ _ _ _ us hl => match us, hl with | [_], _ => rfl)
      (case a => k_is); (case l => k_is); (case c => k_is); (case k => k_is)
    have F_front_permutation : RH.Df (RH.kOf KX) mg "front_permutation" RH.st_front_permutation ["places", "place"] := by
      refine' RH.df_mk KX G ?a ?l ?c ?k (fun _ _ _ _ _ _ us hl => match us, hl with | [_, _], _ => rfl)
      (case a => k_is); (case l => k_is); (case c => k_is); (case k => k_is)
    have F__law_taken : RH.Df (RH.kOf KX) mg "_law_taken" RH.st__law_taken ["row", "many"] := by
      refine' RH.df_mk KX G ?a ?l ?c ?k (fun _ _ _ _ _ _ us hl => match us, hl with | [_, _], _ => rfl)
      (case a => k_is); (case l => k_is); (case c => k_is); (case k => k_is)
    have F__law_pick : RH.Df (RH.kOf KX) mg "_law_pick" RH.st__law_pick ["row", "things"] := by
      refine' RH.df_mk KX G ?a ?l ?c ?k (fun _ _ _ _ _ _ us hl => match us, hl with | [_, _], _ => rfl)
      (case a => k_is); (case l => k_is); (case c => k_is); (case k => k_is)
    have F__law_alike : RH.Df (RH.kOf KX) mg "_law_alike" RH.st__law_alike ["found", "due"] := by
      refine' RH.df_mk KX G ?a ?l ?c ?k (fun _ _ _ _ _ _ us hl => match us, hl with | [_, _], _ => rfl)
      (case a => k_is); (case l => k_is); (case c => k_is); (case k => k_is)
    have F__law_permutation : RH.Df (RH.kOf KX) mg "_law_permutation" RH.st__law_permutation ["row", "many"] := by
      refine' RH.df_mk KX G ?a ?l ?c ?k (fun _ _ _ _ _ _ us hl => match us, hl with | [_, _], _ => rfl)
      (case a => k_is); (case l => k_is); (case c => k_is); (case k => k_is)
    have F__law_habit : RH.Df (RH.kOf KX) mg "_law_habit" RH.st__law_habit ["row", "many"] := by
      refine' RH.df_mk KX G ?a ?l ?c ?k (fun _ _ _ _ _ _ us hl => match us, hl with | [_, _], _ => rfl)
      (case a => k_is); (case l => k_is); (case c => k_is); (case k => k_is)
    have F__law_touch : RH.Df (RH.kOf KX) mg "_law_touch" RH.st__law_touch ["habit", "layout", "place"] := by
      refine' RH.df_mk KX G ?a ?l ?c ?k (fun _ _ _ _ _ _ us hl => match us, hl with | [_, _, _], _ => rfl)
      (case a => k_is); (case l => k_is); (case c => k_is); (case k => k_is)
    have F__law_front : RH.Df (RH.kOf KX) mg "_law_front" RH.st__law_front ["order", "names"] := by
      refine' RH.df_mk KX G ?a ?l ?c ?k (fun _ _ _ _ _ _ us hl => match us, hl with | [_, _], _ => rfl)
      (case a => k_is); (case l => k_is); (case c => k_is); (case k => k_is)
    obtain ⟨S, c0, c1, gl, gn, el, en, Xl, Xn⟩ : ∃ (S c0 c1 : PySem.Addr), (mg "BadLayout" = some (.ref c0)) ∧ (mg "BadNames" = some (.ref c1)) ∧ (PySem.W.exmOne (RH.kOf KX) (.ref c0) (.ref c0) = some true) ∧ (PySem.W.exmOne (RH.kOf KX) (.ref c1) (.ref c1) = some true) ∧ (RH.ExO (RH.kOf KX) mg "BadLayout" c0) ∧ (RH.ExO (RH.kOf KX) mg "BadNames" c1) := by
      refine' Exists.elim (RH.errs_mk (PySem.Challenge.rw_restlesshelf_k81_whole_walks).prog KX G ?aS ?a0 ?a1 ?q0 ?kp0 ?b0 ?t0 ?xg0 ?xk0 ?xd0 ?xa0 ?xm0 ?es0 ?q1 ?kp1 ?b1 ?t1 ?xg1 ?xk1 ?xd1 ?xa1 ?xm1 ?es1 ?ex0_0 ?ex1_1 ?xn ?xt) (fun C hC => ⟨C, hC⟩)
      (case aS => k_is); (case a0 => k_is); (case a1 => k_is); (case q0 => k_exc); (case kp0 => k_is); (case b0 => k_is); (case t0 => k_is); (case xg0 => k_is)
      (case xk0 => k_is); (case xd0 => k_is); (case xa0 => k_is); (case xm0 => k_is); (case es0 => kts_exm); (case q1 => k_exc); (case kp1 => k_is); (case b1 => k_is)
      (case t1 => k_is); (case xg1 => k_is); (case xk1 => k_is); (case xd1 => k_is); (case xa1 => k_is); (case xm1 => k_is); (case es1 => kts_exm); (case ex0_0 => kts_exm)
      (case ex1_1 => kts_exm); (case xn => k_is); (case xt => k_is)
    obtain ⟨k1, p1, k2, p2, M1, M2, hpp⟩ : ∃ k1 p1 k2 p2, RH.Mkr (RH.kOf KX) h mg "best_still" RH.st_best_still ["many", "names"] k1 p1 ∧ RH.Mkr (RH.kOf KX) h mg "law" RH.st_law ["script"] k2 p2 ∧ p1 ≠ p2 := by
      refine' RH.two (RH.mkr KX G ?a ?l ?c ?k ?lc ?t ?d ?e ?g (fun _ _ _ _ _ _ us hl => match us, hl with | [_, _], _ => rfl)) (RH.mkr KX G ?a2 ?l2 ?c2 ?k2 ?lc2 ?t2 ?d2 ?e2 ?g2 (fun _ _ _ _ _ _ us hl => match us, hl with | [_], _ => rfl)) ?n
      (case a => k_is); (case l => k_is); (case c => k_is); (case k => k_is); (case lc => k_is); (case t => rfl); (case e => first | rfl | kernel_rfl | (with_unfolding_all rfl)); (case g => exact TT _ (by decide)); (case d => exact fun K' e => by unfold PySem.W.codeHdIn; rw [e]; rfl)
      (case a2 => k_is); (case l2 => k_is); (case c2 => k_is); (case k2 => k_is); (case lc2 => k_is); (case t2 => rfl); (case e2 => first | rfl | kernel_rfl | (with_unfolding_all rfl)); (case g2 => exact TT _ (by decide)); (case d2 => exact fun K' e => by unfold PySem.W.codeHdIn; rw [e]; rfl)
      (case n => decide)
    obtain ⟨F_best_still, hk1, hl1, hm1⟩ := M1
    obtain ⟨F_law, hk2, hl2, hm2⟩ := M2
    obtain ⟨fd, hb, hF⟩ := RH.top (P := (PySem.Challenge.rw_restlesshelf_k81_whole_walks).prog) (w := w) hmg B c_FEWEST_PLACES c_MOST_PLACES c_MOST_BOOKS c_MOST_ASKED n_sum hpp gl gn el en Xl Xn F_is_integer F_is_number F_is_row F_is_place F_are_places F_is_layout F_check_number F_check_places F_check_habit F_check_layout F_check_row F_check_names F_move F_inverse F_pairs_crossed F_walked F_front_walk F_still_walk F_best_still F_crossed F_front_bound F_check_two_orders F_front_habit F_front_permutation F__law_taken F__law_pick F__law_alike F__law_permutation F__law_habit F__law_touch F__law_front F_law
    refine ⟨fd, [(k1, p1), (k2, p2)], RH.spEnd (RH.kOf KX) (RH.tabs81 p1 p2), ?_, ?_, ?_, hb, ?_, ?_⟩
    · intro p hp
      rcases List.mem_cons.mp hp with e | hp
      · rw [e]; exact hm1
      · rw [List.mem_singleton.mp hp]; exact hm2
    · intro p hp
      rcases List.mem_cons.mp hp with e | hp
      · rw [e]; exact hl1
      · rw [List.mem_singleton.mp hp]; exact hl2
    · intro p hp
      rcases List.mem_cons.mp hp with e | hp
      · rw [e]; exact hk1
      · rw [List.mem_singleton.mp hp]; exact hk2
    · intro H a ns _ _ hH hS
      refine ⟨a, ns, rfl, hS, fun p hp => ?_, fun _ => rfl⟩
      rcases List.mem_cons.mp hp with e | hp
      · rw [e]; exact LamX.TabS.nil (hH (k1, p1) (List.mem_cons_self ..))
      · rw [List.mem_singleton.mp hp]; exact LamX.TabS.nil (hH (k2, p2) (List.mem_cons_of_mem _ (List.mem_singleton.mpr rfl)))
    · intro base _ _ TB
      exact hF base (TB (k1, p1) (List.mem_cons_self ..)) (TB (k2, p2) (List.mem_cons_of_mem _ (List.mem_singleton.mpr rfl)))
