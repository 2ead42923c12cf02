import PyProof.Rows.All
import Wide.All
import OpenK.AllK
import Wide.FinOn
import HandS.ForMost
import HandS.Exc
import HandS.TryOnly
import HandS.ExcOwn
import HandS.WordsExc
import HandS.IsInst
import HandS.Conv
import HandS.Sort
import HandS.SortInts
import HandS.Zip
import HandS.Zip0
import HandS.Wide
import HandS.Deep
import HandS.Flow
import HandS.Style
import HandS.TupAny
import KE.GoesEnum
import KE.KEqSeq
import KE.KEqDeep
import PyProof.TupleOfSeq
import HandS.Lambda
import HandS.Nested
import HandS.EndTab
import KE.KDictDisplayH
import KE.KDictCopyH
import KE.KIndexOf
import HandS.Dict
import HandS.DictTup
import HandS.TupLen
import HandS.Defaults
import HandS.SortRule
import KE.GoesZip
import HandS.ExcIs
import HandS.RaiseMore
import HandS.FStr
import HandS.Property
import KE.KExcSuper
import HandS.ExcInit
import HandS.ExcField
import HandS.TupMul
import PyProof.FString2
import PySem.Challenge.RW_restlesshelf_k19_looks_refused
set_option Elab.async false
set_option linter.all false
set_option maxRecDepth 100000
set_option maxHeartbeats 2000000
/-! Two rules more: a walk over enumerate of a tuple, sorted of a tuple of ints. -/
namespace RH
open PySem PySem.Spec PyProof.Rows L2
theorem made_enumB {v : Value} {o : Obj} {H : Heap → Prop} (B : Begins v o H) :
    Meets (Builtin.«enumerate.__new__» ⟨[.type "enumerate", v], []⟩) (fun _ R s => H s.heap ∧
      R (.ok (.ret (.ref (s.heap.push o).objs.size))) { s with heap := (s.heap.push o).push { cls := .type "enumerate", data := .fields #[.none, .bool false, .ref s.heap.objs.size, rawInt 0, .none, .none] } }) :=
  .of_wp fun prog w A R s h => by
    obtain ⟨hp, g, d, tz, oz⟩ := s; obtain ⟨h1, h⟩ := h
    have hsub := sub_enumerate
    have q1 : ∀ {A' : Around} {E : Value → Shared → Prop} {Q : Value → Shared → Prop}, Q (.ref hp.objs.size) ⟨hp.push o, g, d, tz, oz⟩ → wpAny (model prog w) A' (pyIter v) Q E ⟨hp, g, d, tz, oz⟩ :=
      fun q => B.iter prog w _ _ ⟨hp, g, d, tz, oz⟩ _ h1 q
    wp_walk using q1
    refine wpAny_stack_any fun st => wpAny_pure ?_
    split
    · rename_i c _ _ _ _ _
      cases (c == Value.type "enumerate")
      · wp_walk using q1
        exact ⟨_, rfl, h⟩
      · wp_walk using q1
        exact ⟨_, rfl, h⟩
    · wp_walk using q1
      exact ⟨_, rfl, h⟩
section
variable {prog : Program} {w : World} {A : Around} {E : Value → Shared → Prop} {s : Shared}
theorem enum_one {v : Value} {o : Obj} {H : Heap → Prop} {Q : Value → Shared → Prop} (B : Begins v o H) (h1 : H s.heap)
    (h : ∀ h', IsEnum h' (s.heap.objs.size + 1) s.heap.objs.size 0 .none → h'.get? s.heap.objs.size = some o → h'.objs.size = s.heap.objs.size + 2 →
      (∀ b o, s.heap.get? b = some o → h'.get? b = some o) → Q (.ref (s.heap.objs.size + 1)) { s with heap := h' }) :
    wpAny (model prog w) A (call (.type "enumerate") [v]) Q E s := by
  refine callType_new F.called_enumerate (by decide) (F.typeCall_enumerate_1 _) (F.newCall_enumerate_1 _) (fun obj => F.args_object_init_2 obj _) F.entry_enumerate_new
    (made_enumB B) ⟨h1, ?_⟩
  have hZ : (s.heap.push o).objs.size = s.heap.objs.size + 1 := Heap.size_push ..
  show _ ∧ _
  rw [hZ]
  have he : IsEnum ((s.heap.push o).push { cls := .type "enumerate", data := .fields #[.none, .bool false, .ref s.heap.objs.size, rawInt 0, .none, .none] }) (s.heap.objs.size + 1) s.heap.objs.size 0 .none := by
    have := Heap.get?_push_size (s.heap.push o) (o := { cls := .type "enumerate", data := .fields #[.none, .bool false, .ref s.heap.objs.size, rawInt 0, .none, .none] }) rfl
    rw [hZ] at this; exact this
  refine ⟨⟨_, he, rfl⟩, h _ he (Heap.get?_push_of_some _ (Heap.get?_push_size _ B.free)) (by rw [Heap.size_push, hZ]) fun b o x => Heap.get?_push_of_some _ (Heap.get?_push_of_some _ x)⟩
end
/-- the tuple at a, each item with vz number in a new pair -/
def IteT (K : PySem.W.Frag) (a : Addr) : It :=
  ⟨fun i H => ∃ (xs : List V) (x : V), SqT K H a xs ∧ xs[i]? = some x, fun i H v H' => ∃ T x, v = .ref T ∧ H T = none ∧ H' = upd H T (.tup [.int (i : Nat), x]) ∧ ∀ xs, SqT K H a xs → xs[i]? = some x, fun i H => ∃ xs : List V, SqT K H a xs ∧ xs.length ≤ i⟩
theorem ne_enum {h : Heap} {e it a : Addr} {i : Int} {old : Value} {vz : Array Value} (he : IsEnum h e it i old) (p : IsTup h a vz) : e ≠ a := fun z => by
  obtain ⟨o, hO, hC, _⟩ := p
  rw [← z, he] at hO
  cases hO
  exact absurd (Value.type.inj hC) (by decide)
theorem turn_enumT {P : Program} {w : World} {K : PySem.W.Frag} {elts : List Expr} {kk : Nat} {tpos : Pos} (a e it : Addr) :
    Turn P w K (.Tuple elts kk tpos) (IteT K a) [e, it] e (fun i h => (∃ old, IsEnum h e it ((i : Nat) : Int) old) ∧ h.IsTupleIter it a i ∧ e ≠ it ∧ a ≠ it) where
  mem := by simp
  obj := fun i h st b hb => by
    obtain ⟨⟨old, he⟩, ⟨o, hO, hC, hD⟩, _⟩ := st
    have e' : b = e ∨ b = it := by simpa using hb
    rcases e' with z | z
    · rw [z]; exact ⟨_, he, fun v q => nomatch q⟩
    · rw [z]; exact ⟨o, hO, fun v q => by rw [hD] at q; cases q⟩
  keep := fun i h h' st k => let ⟨⟨old, he⟩, hi, nEI⟩ := st; ⟨⟨old, k e (by simp) _ he⟩, hi.at fun o q => k it (by simp) o q, nEI⟩
  item := by
    intro X hP hw hK hC i pins s σ H E I hf st hg
    subst hP hw hK
    obtain ⟨⟨old, he⟩, hIt, nEI, nAI⟩ := st
    obtain ⟨xs, x, hSq, hx⟩ := hg
    obtain ⟨vz, rz, p, hZ⟩ := I.tuple hSq
    obtain ⟨u, hu, ru⟩ := rz.get hx
    have ltE : e < s.heap.objs.size := Heap.lt_size he
    have ltI : it < s.heap.objs.size := by obtain ⟨_, q, _⟩ := hIt; exact Heap.lt_size q
    have hlt : i < vz.toArray.size := by
      have := (List.getElem?_eq_some_iff.mp hu).1
      simpa using this
    refine wpAny_pyNext_enum_itemD (Draws.tuple (show X.A.in1.handled = none from I.ok.hd hC) it a nAI vz.toArray) he ⟨hIt, p⟩ hlt nEI (by
      intro hm
      have e' : e = it ∨ e = a := by simpa using hm
      rcases e' with z | z
      · exact nEI z
      · exact ne_enum he p z) fun x' h' tz hP' hO hit' hT hSz kp => ?_
    have ex : x' = u := by
      have h2 : vz.toArray[i]? = some u := by simpa using hu
      rw [h2] at hP'
      exact (Option.some.inj hP').symm
    subst ex
    refine ⟨_, rfl, wpAny_letOwnedTupleGo_enum (s := { s with heap := h', toks := tz + 1 }) hO fun h'' he' sbu => ?_⟩
    have hT2 : h''.get? s.heap.objs.size = some { cls := .type "tuple", data := .seq #[.int i tz, x'] } := (sbu.2 _ (Nat.ne_of_gt ltE)).trans hT
    have new : ObjOk X.prog X.w (upd H s.heap.objs.size (.tup [.int (i : Nat), x])) h'' s.heap.objs.size (.tup [.int (i : Nat), x]) :=
      ⟨by show 2 ≤ sizeLine; decide, [.int i tz, x'], .cons ⟨_, rfl⟩ (.cons ru .nil), ⟨_, hT2, rfl, _, rfl⟩⟩
    have I1 : Inv X pins σ (upd H s.heap.objs.size (.tup [.int (i : Nat), x])) { s with heap := h'', toks := tz + 1 } :=
      I.turnedNew (ch := [e, it]) (fun b ob hb q => (sbu.2 b (fun z => hb (by simp [z]))).trans (kp b ob (fun z => hb (by simp [z])) (fun z => hb (by simp [z])) q)) hf (Nat.le_refl _) new
    refine ⟨.ref s.heap.objs.size, _, I1, rfl, ⟨_, x, rfl, I.hok.fresh (Nat.le_refl _), rfl, fun ys hy => by rw [I.tuple_inj hy hSq]; exact hx⟩, ⟨⟨x', ?_⟩, hit'.1.at fun o q => (sbu.2 it (Ne.symm nEI)).trans q, nEI, nAI⟩, fun b hb => ?_⟩
    · have e1 : ((i + 1 : Nat) : Int) = (i : Int) + 1 := by omega
      rw [e1]; exact he'
    · have hb' : b < s.heap.objs.size := by
        have e' : b = e ∨ b = it := by simpa using hb
        rcases e' with z | z
        · rw [z]; exact ltE
        · rw [z]; exact ltI
      rw [upd_ne (Nat.ne_of_lt hb')]
      exact (hf b hb).1
  done := by
    intro X hP hw hK hC i pins s σ H E I hf st hg
    subst hP hw hK
    obtain ⟨⟨old, he⟩, hIt, nEI, nAI⟩ := st
    obtain ⟨xs, hSq, hx⟩ := hg
    obtain ⟨vz, rz, p, hZ⟩ := I.tuple hSq
    obtain ⟨f0, f1, f2, f3, f4, f5⟩ := hf it (by simp)
    have hl := rz.length
    have hT : s.TypeIs (.ref e) "enumerate" := ⟨_, he, rfl⟩
    unfold pyNext
    refine wpAny_bind (wpAny_attempt (wpAny_callSpecial?_slot (name := Str.ofString "__next__") hT F.slot_enumerate_next
      (wpAny_call_entry F.slot_enumerate_next hT F.entry_enumerate_next ?_ (F.args_enumerate_next_1 _))))
    show wpAny _ _ (field (.ref e) 2 >>= _) _ _ _
    refine wpAny_bind (wpAny_field he rfl (x := .ref it) rfl ?_)
    refine wpAny_bind (wpAny_nextOf_tuple_end (show X.A.in1.handled = none from I.ok.hd hC) hIt p (by simp; omega) fun h' x he' hx' => ?_)
    obtain ⟨o, hO, hc'⟩ := hx'
    refine wpAny_bind (wpAny_isInstance (T := "StopIteration") (b := true) ⟨o, hO, hc'⟩ isSubtype_stop ?_)
    exact wpAny_pure ⟨rfl, I.turned (t' := s.toks) (fun b o hb q => he' b o hb q) f0 f1 f3 f4 f5⟩
  self := fun A i s Q E st h => let ⟨⟨_, he⟩, _⟩ := st; wpAny_pyIter_enum he h
def iEnumT (K : PySem.W.Frag) (ta : TA) : TI := fun σ H R => ta σ H fun vs H1 => ∃ a xs, vs = [.ref a] ∧ SqT K H1 a xs ∧ R (IteT K a) H1
theorem pi_enumT {X : Cx} {e : Expr} {ta : TA} {p pos tpos : Pos} {elts : List Expr} {kk : Nat} (hg : Gl X "enumerate") (hm : X.mg "enumerate" = none) (ha : PA X [e] ta) (hs : starEach [e] X.env = [(false, eval e X.env)] := by rfl) :
    PI X (.Tuple elts kk tpos) (.Call (.Name "enumerate" p) [e] [] pos) (iEnumT X.K ta) := by
  refine ⟨fun pins s σ H R I h => ?_⟩
  refine Call_ (ld_blt I hg hm boot_enumerate (PyProof.Rows.callWith_type1 (thn (ha.run pos pins s σ H _ I h) fun us s1 ⟨vs, H1, I1, r1, q1⟩ => ?_) hs rfl))
  obtain ⟨a, xs, ex, hSq, q⟩ := q1
  subst ex
  cases r1 with
  | cons r rr =>
    cases rr
    cases r
    obtain ⟨vz, rz, p', hZ⟩ := I1.tuple hSq
    have hal : a < s1.heap.objs.size := by obtain ⟨_, q', _⟩ := id p'; exact Heap.lt_size q'
    refine enum_one (begins_tuple a vz.toArray) p' fun h' he hIt hSz kp => wpAny_pyIter_enum he ?_
    have I2 : Inv X pins σ H1 { s1 with heap := h' } := I1.kept (t' := s1.toks) kp
    refine ⟨s1.heap.objs.size + 1, [s1.heap.objs.size + 1, s1.heap.objs.size], _, _, H1, rfl, I2, turn_enumT a (s1.heap.objs.size + 1) s1.heap.objs.size, ⟨⟨.none, he⟩, ⟨_, hIt, rfl, rfl⟩, Nat.succ_ne_self _, Nat.ne_of_lt hal⟩, fun b hb => ?_, q⟩
    have e' : b = s1.heap.objs.size + 1 ∨ b = s1.heap.objs.size := by simpa using hb
    have hle : s1.heap.objs.size ≤ b := by
      rcases e' with z | z
      · rw [z]; exact Nat.le_add_right _ _
      · rw [z]; exact Nat.le_refl _
    exact I1.fpOk hle (I1.hok.fresh hle)
/-! ### sorted(a tuple of ints) -/
def rSortedTup (K : PySem.W.Frag) : List V → Hp → VK → Prop := fun vs H Q => ∃ (a : Addr) (ns : List Int), vs = [V.ref a] ∧ SqT K H a (ns.map V.int) ∧ ns.length < 64 ∧
  ∀ (ns' : List Int) (p : Addr), ns'.Perm ns → ns'.Pairwise (· ≤ ·) → H p = none → Q (.ref p) (upd H p (.lst (ns'.map V.int)))
section
variable {prog : Program} {w : World} {A : Around} {E : Value → Shared → Prop} {s : Shared}
theorem collect_tup {l : Addr} {vs : List Value} {Q : List Value → Shared → Prop} (hl : IsTup s.heap l vs.toArray)
    (h : Q vs { s with heap := (s.heap.push (seqObj "list" #[] 0)).update s.heap.objs.size (Obj.mapSeq (· ++ vs.toArray)) }) (hSz : vs.length ≤ sizeLine := by size_fits) :
    wpAny (model prog w) A (collect (.ref l)) Q E s := by
  obtain ⟨o, hO, hC, n, hD⟩ := id hl
  unfold collect
  refine wpAny_bind (wpAny_runValue (codeAny_builtin F.entry_proto_collect ?_))
  rw [Around.under_plainId F.plain_proto_collect _]
  show wpAny _ A.in1 (newList [] >>= fun l' => again (.builtin "list.__iadd__" ⟨[l', .ref l], []⟩)) _ _ s
  refine wpAny_bind (wpAny_newList (wpAny_pure ⟨plainId_quiet F.plain_list_iadd _, codeAny_builtin F.entry_list_iadd ?_⟩))
  rw [Around.under_plainId F.plain_list_iadd _]
  show wpAny _ _ (Builtin.List.listExtendWith (.ref s.heap.objs.size) (.ref l) (.ref s.heap.objs.size)) _ _ { s with heap := s.heap.push (seqObj "list" #[] 0) }
  unfold Builtin.List.listExtendWith
  have ho' : (s.heap.push (seqObj "list" #[] 0)).get? l = some o := Heap.get?_push_of_some _ hO
  refine wpAny_bind (wpAny_typeOf (T := "tuple") ⟨o, ho', hC⟩ ?_)
  have hT0 : (Value.type "tuple" == Value.type "tuple") = true := by rfl
  rw [if_pos (by rw [hT0]; simp)]
  refine wpAny_bind (listItems_at ho' hD ?_)
  refine wpAny_bind (listItems_at (xs := #[]) (n := 0) (Heap.get?_push_size _ rfl) rfl ?_)
  rw [if_neg (by simp)]
  refine wpAny_bind (listUpdate_at (xs := #[]) (n := 0) (Heap.get?_push_size _ rfl) rfl ?_ (Nat.zero_le _) (by show (#[] ++ vs.toArray).size ≤ sizeLine + 1; simp only [Array.size_append, List.size_toArray, List.length_nil]; omega))
  refine wpAny_pure ?_
  show wpAny (model prog w) A (do
      let o ← load s.heap.objs.size
      match o.data with
      | .seq xs _ => pure xs.toList
      | _ => unsupported "internal:collect") Q E { s with heap := (s.heap.push (seqObj "list" #[] 0)).update s.heap.objs.size (Obj.mapSeq (· ++ vs.toArray)) }
  refine wpAny_bind (wpAny_load (get?_update_seq (Heap.get?_push_size _ rfl) _) ?_)
  show wpAny _ _ (pure ((#[] : Array Value) ++ vs.toArray).toList) Q E _
  rw [show ((#[] : Array Value) ++ vs.toArray).toList = vs by simp]
  exact wpAny_pure h
theorem sorted_intsT {l : Addr} {vs : List Value} {ns : List Int} {Q : Value → Shared → Prop} (hl : IsTup s.heap l vs.toArray) (hI : IntsAre vs ns) (h64 : vs.length < 64)
    (h : ∀ (out : Array Value) (ns' : List Int), IntsAre out.toList ns' → ns'.Perm ns → ns'.Pairwise (· ≤ ·) → Q (.ref (s.heap.objs.size + 1)) { s with heap := sortedAll s.heap vs out }) :
    wpAny (model prog w) A (call (.builtin "sorted") [.ref l]) Q E s := by
  refine Calls.call_function_entry kind_sorted plain_sorted entry_sorted (args_sorted1 _) ?_
  unfold Builtin.«sorted»
  refine wpAny_bind (m := checkCount "sorted" 1 1 _) (wpAny_pure ?_)
  have hsz0 : vs.length ≤ sizeLine := by
    rw [sizeLine_eq]
    omega
  refine wpAny_bind (collect_tup (hSz := hsz0) hl ?_)
  refine wpAny_bind (wpAny_newList ?_)
  have hSz : ((s.heap.push (seqObj "list" #[] 0)).update s.heap.objs.size (Obj.mapSeq (· ++ vs.toArray))).objs.size = s.heap.objs.size + 1 := by
    rw [Heap.size_update, size_push']
  have hOL : (((s.heap.push (seqObj "list" #[] 0)).update s.heap.objs.size (Obj.mapSeq (· ++ vs.toArray))).push (seqObj "list" vs.toArray 0)).get? (s.heap.objs.size + 1) = some (seqObj "list" vs.toArray 0) := by
    rw [← hSz]; exact Heap.get?_push_size _ rfl
  show wpAny _ _ _ _ _ { s with heap := ((s.heap.push (seqObj "list" #[] 0)).update s.heap.objs.size (Obj.mapSeq (· ++ vs.toArray))).push (seqObj "list" vs.toArray 0) }
  rw [hSz]
  refine wpAny_bind (wpAny_holding (wpAny_call_entry slot_list_sort ⟨_, hOL, rfl⟩ entry_list_sort (list_sort_tree hOL hI h64 fun out ns' a1 a2 a3 => ⟨_, rfl, ?_⟩) (args_list_sort _)))
  exact wpAny_pure ⟨_, rfl, h out ns' a1 a2 a3⟩
end
theorem cr_sortedTup {X : Cx} : CallR X (.builtin "sorted") (rSortedTup X.K) := by
  intro pins s σ H vs us Q I r h
  obtain ⟨a, ns, rfl, hs, h64, q⟩ := h
  obtain ⟨vz, rz, hl, _⟩ := I.tuple hs
  rw [Vals.ref1 r]
  have hi := rz.ints
  refine sorted_intsT hl hi (by rw [hi.length]; exact h64) fun out ns' h1 h2 h3 => ?_
  obtain ⟨ep, he'⟩ := PyProof.Rows.sortedAll_at s.heap vz out
  have hLn : (ns'.map V.int).length ≤ sizeLine := by rw [List.length_map, h2.length_eq]; exact small64 h64
  exact ⟨.ref _, upd H (s.heap.objs.size + 1) (.lst (ns'.map V.int)), I.laid (t' := s.toks) (fun _ _ => PyProof.Rows.sortedAll_old) (Nat.le_succ _) ⟨hLn, out.toList, ep, vals_of_ints h1, he'⟩, rfl, q ns' _ h2 h3 (I.hok.fresh (Nat.le_succ _))⟩
end RH
set_option Elab.async false
set_option linter.all false
set_option maxRecDepth 100000
set_option maxHeartbeats 2000000
/-! Lambdas with parameters and captured names, as values: made, handed to a def of the text, called there. -/
namespace RH
open PySem PySem.Spec PyProof.Rows L2
open LamX (Tabs TabS TabB ExtN CodeO codeO_ne inv_table among_app)
open NdefX (NF CellsAt NScope startF ncx inv_startN codeO_at slotAt Caps cells_of upd_none)
/-- a lambda's words, what it captured, its code object -/
structure LF where
  qual : Str
  params : Arguments
  body : Expr
  scope : Scope
  cl : List (Str × Addr)
  c : Addr
abbrev LF.fd (F : LF) (pm ctv : Value) : FuncData := PySem.W.kla_fn "<lambda>" F.qual F.params F.body F.scope F.cl pm (.ref F.c) ctv
abbrev LF.nf (F : LF) : NF := ⟨"<lambda>", F.qual, F.params, [], F.scope, F.cl, F.c⟩
/-- the object at f is this lambda -/
def FnL (f : Addr) (F : LF) : HO := .ext fun h => ∃ (od : Option Addr) (sl : Array (Option Value)) (pm ctv : Value), h.get? f = some (⟨.type "function", od, .func (F.fd pm ctv), sl⟩ : Obj)
theorem fnL_ne {f : Addr} {F : LF} (ps : Array Value) : FnL f F ≠ .tbl ps := fun z => by
  unfold FnL at z
  cases z
theorem fnL_at {P : Program} {w : World} {H : Hp} {h : Heap} {f : Addr} {F : LF} (hok : HOk P w H h) (e : H f = some (FnL f F)) : ∃ (od : Option Addr) (sl : Array (Option Value)) (pm ctv : Value), h.get? f = some (⟨.type "function", od, .func (F.fd pm ctv), sl⟩ : Obj) := (hok f _ e).1
section
variable {X : Cx} {pins : List (Addr × Obj)} {σ : L2.St} {H : Hp} {s : Shared}
theorem inv_lam {F : LF} {h' : Heap} {t' : Nat} {pm ctv : Value} (I : Inv X pins σ H { s with heap := h', toks := t' }) :
    Inv X pins σ (upd H h'.objs.size (FnL h'.objs.size F)) { s with heap := h'.push { cls := .type "function", data := .func (F.fd pm ctv) }, toks := t' } := by
  refine I.laid (t' := t') (a := h'.objs.size) (fun b u e => Heap.get?_push_of_some _ e) (Nat.le_refl _) ?_
  have e : (h'.push ({ cls := .type "function", data := .func (F.fd pm ctv) } : Obj)).get? h'.objs.size = some ({ cls := .type "function", data := .func (F.fd pm ctv) } : Obj) := Heap.get?_push_size _ rfl
  exact ⟨⟨_, _, pm, ctv, e⟩, ⟨_, e⟩, fun h1 h2 ⟨od, sl, p, t, z⟩ st => ⟨od, sl, p, t, st _ z⟩⟩
/-- the lambda is made -/
theorem lam_made {T : List (Addr × Str)} {c P : Addr} {params : Arguments} {body : Expr} {scope : Scope} {pos : Pos} {E : Value → Shared → Prop} {Q : Value → Shared → Prop} (I : Inv X pins σ H s) (TB : TabB X.base X.mg c P) (hcode : X.env.code = .ref c)
    (hm : (P, X.env.qual ++ "<lambda>") ∈ T) (hu : ∀ p ∈ T, p.1 = P → p.2 = X.env.qual ++ "<lambda>") (hT : Tabs T H) (hdef : defaultsOf params X.env = ([], [])) (hfree : ∀ y ∈ scope.names, y.2 = .free → ∃ c, X.env.cells.lookup y.1 = some c)
    (h : ∀ (f c' : Addr) (H1 : Hp) (s' : Shared), Inv X pins σ H1 s' → ExtN H H1 → (∀ b, H1 b = none → H b = none) → Tabs T H1 → H f = none →
      H1 f = some (FnL f ⟨X.env.qual ++ "<lambda>", params, body, scope, cloFrom X.env.cells scope.names [], c'⟩) → H1 c' = some (CodeO c' (X.env.qual ++ "<lambda>")) → Q (.ref f) s') :
    wpAny (model X.prog X.w) X.A (eval (.Lambda params body scope pos) X.env) Q E s := by
  obtain ⟨ps, hP, ht, ha⟩ := hT _ hm
  refine PySem.W.kla_eval hdef ?_
  have bP : s.heap.BuiltinsAt X.mg P := TB.bm.keeps I.bk
  have hP' : s.heap.get? P = some { cls := .none, data := .fields ps } := I.hok P _ hP
  cases hc : codeAmong pos ps.toList with
  | none =>
    refine PySem.W.kla_makeFunction (mg := X.mg) (c := c) (P := P) (ps := ps) (closure_ok hfree) I.ok.glob (I.mod.glob.keeps I.bk) hcode (TB.code.keeps I.bk) hP' ht hc TB.gP bP fun c' ctv h' tk hx hge hlt hrec htb => ?_
    obtain ⟨c2, oc, vs, t, e2, hoc, hd, hv⟩ := hrec
    cases e2
    have nC : H c' = none := I.hok.fresh hge
    have I1 := inv_table (t' := tk) (more := #[rawInt pos.line, rawInt pos.col, .ref c']) (h' := h') I hP (fun b o hb e => hx b o hb e) htb hge ⟨oc, vs, t, hoc, hd, hv⟩
    generalize hG : upd (upd H P (.tbl (ps ++ #[rawInt pos.line, rawInt pos.col, .ref c']))) c' (CodeO c' (X.env.qual ++ "<lambda>")) = G at I1
    have hE : ExtN H G := fun b o e n => by
      rw [← hG, upd_ne (ne_of_none e nC), upd_ne (fun z => n ps (Option.some.inj (e.symm.trans (by rw [z]; exact hP))))]
      exact e
    have gP : G P = some (.tbl (ps ++ #[rawInt pos.line, rawInt pos.col, .ref c'])) := by rw [← hG, upd_ne (ne_of_none hP nC), upd_same]
    have gC : G c' = some (CodeO c' (X.env.qual ++ "<lambda>")) := by rw [← hG, upd_same]
    have gO : ∀ b ps', b ≠ P → H b = some (.tbl ps') → G b = some (.tbl ps') := fun b ps' nb e => by
      rw [← hG, upd_ne (ne_of_none e nC), upd_ne nb]
      exact e
    have gN : ∀ b, G b = none → H b = none := fun b e => by
      rw [← hG] at e
      exact upd_none (upd_none e)
    have eL : (ps ++ #[rawInt pos.line, rawInt pos.col, .ref c']).toList = ps.toList ++ [rawInt pos.line, rawInt pos.col, .ref c'] := by simp
    have T1 : Tabs T G := fun p hp => by
      by_cases hb : p.1 = P
      · rw [hu p hp hb, hb]
        refine ⟨_, gP, by rw [eL]; exact PySem.TriplesOk_snoc _ _ _ _ ht, fun p' cv hcv => ?_⟩
        rw [eL] at hcv
        rcases among_app _ ht hcv with z | z
        · obtain ⟨c0, e1, e2⟩ := ha p' cv z
          exact ⟨c0, e1, hE _ _ e2 codeO_ne⟩
        · exact ⟨c', z, gC⟩
      · obtain ⟨ps', a1, a2, a3⟩ := hT p hp
        refine ⟨ps', gO _ _ hb a1, a2, fun p' cv hcv => ?_⟩
        obtain ⟨c0, e1, e2⟩ := a3 p' cv hcv
        exact ⟨c0, e1, hE _ _ e2 codeO_ne⟩
    have nF : G h'.objs.size = none := I1.hok.fresh (Nat.le_refl _)
    have I2 := inv_lam (F := ⟨X.env.qual ++ "<lambda>", params, body, scope, cloFrom X.env.cells scope.names [], c'⟩) (pm := (X.mg "__name__").getD .none) (ctv := ctv) I1
    refine h h'.objs.size c' _ _ I2 (fun b o e n => ?_) (fun b e => gN b (upd_none e)) (T1.ext fun b o e => ?_) (gN _ nF) upd_same ?_
    · have e1 := hE b o e n
      exact (upd_ne (ne_of_none e1 nF)).trans e1
    · exact (upd_ne (ne_of_none e nF)).trans e
    · exact (upd_ne (ne_of_none gC nF)).trans gC
  | some cv =>
    obtain ⟨c', e, hco⟩ := ha pos cv hc
    subst e
    refine PySem.W.kla_makeFunctionHit (mg := X.mg) (c := c) (P := P) (ps := ps) (closure_ok hfree) I.ok.glob (I.mod.glob.keeps I.bk) hcode (TB.code.keeps I.bk) hP' ht hc bP fun ctv h' tk hx hsz => ?_
    have I1 : Inv X pins σ H { s with heap := h', toks := tk } := I.kept hx
    have nF : H h'.objs.size = none := I1.hok.fresh (Nat.le_refl _)
    have I2 := inv_lam (F := ⟨X.env.qual ++ "<lambda>", params, body, scope, cloFrom X.env.cells scope.names [], c'⟩) (pm := (X.mg "__name__").getD .none) (ctv := ctv) I1
    refine h h'.objs.size c' _ _ I2 (fun b o e n => ?_) (fun b e => upd_none e) (hT.ext fun b o e => ?_) nF upd_same ?_
    · exact (upd_ne (ne_of_none e nF)).trans e
    · exact (upd_ne (ne_of_none e nF)).trans e
    · exact (upd_ne (ne_of_none hco nF)).trans hco
end
/-- lambda a, b: .. as a value -/
def tLamE (T : List (Addr × Str)) (mk : Addr → LF) : TE := fun _ H Q => Tabs T H ∧ ∀ (f c' : Addr) (H1 : Hp), ExtN H H1 → (∀ b, H1 b = none → H b = none) → Tabs T H1 → H f = none → H1 f = some (FnL f (mk c')) → H1 c' = some (CodeO c' (mk c').qual) → Q (.ref f) H1
theorem pe_lam {X : Cx} {T : List (Addr × Str)} {c P : Addr} {params : Arguments} {body : Expr} {scope : Scope} {pos : Pos} (TB : TabB X.base X.mg c P) (hcode : X.env.code = .ref c)
    (hm : (P, X.env.qual ++ "<lambda>") ∈ T) (hu : ∀ p ∈ T, p.1 = P → p.2 = X.env.qual ++ "<lambda>") (hdef : defaultsOf params X.env = ([], []))
    (hfree : ∀ y ∈ scope.names, y.2 = .free → X.env.scope.names.lookup y.1 = some .cell ∨ X.env.scope.names.lookup y.1 = some .free) :
    PE X (.Lambda params body scope pos) (tLamE T fun c' => ⟨X.env.qual ++ "<lambda>", params, body, scope, cloFrom X.env.cells scope.names [], c'⟩) := by
  refine ⟨fun pins s σ H Q I h => ?_⟩
  obtain ⟨hT, q⟩ := h
  refine lam_made I TB hcode hm hu hT hdef (fun y hy e => (hfree y hy e).elim (fun z => I.ok.has _ (.inl z)) fun z => I.ok.has _ (.inr z)) fun f c' H1 s' I' e n T' hf h1 h2 => ?_
  exact ⟨.ref f, H1, I', rfl, q f c' H1 e n T' hf h1 h2⟩
/-! ### what a lambda promises -/
structure LOk (P : Program) (w : World) (K : PySem.W.Frag) (mg : Str → Option Value) (base : Heap) (CX : CXT) (k : Nat) (f : Addr) (F : LF) (ps fr : List Str) (sp : List (Option V) → Sp) : Prop where
  len : ∀ ws vs H Q E, sp ws vs H Q E → vs.length = ps.length
  run : ∀ (A : Around) (outer : List Env) (s : Shared) (H : Hp) (us : List Value) (vs : List V) (ws : List (Option V)) (Q : VK) (E : XK), Room k A → Env0 P w K mg base A outer s H → H f = some (FnL f F) → H F.c = some (CodeO F.c F.qual) →
    CellsAt F.cl fr ws s.heap H → Vals vs us → sp ws vs H Q E → codeAny (model P w) A (.call (.ref f) ⟨us, []⟩) (CR CX outer P w H s Q E) s
section
variable {CX : CXT} {P : Program} {w : World} {K : PySem.W.Frag} {mg : Str → Option Value} {base : Heap} {N ps fr : List Str} {F : LF} {f : Addr} {k j : Nat} {sp : List (Option V) → Sp}
/-- a lambda by its body -/
theorem lok_of (S : NScope N ps fr F.scope) (hb : ∀ (pm ctv : Value) (us : List Value), us.length = ps.length → bindArgs (F.fd pm ctv) ⟨us, []⟩ = pure (ps.zip us)) (len : ∀ ws vs H Q E, sp ws vs H Q E → vs.length = ps.length)
    (hbody : ∀ (A : Around) (outer : List Env) (s : Shared) (H : Hp) (vs : List V) (ws : List (Option V)) (Q : VK) (E : XK), Room k (A.deeper (NdefX.envF F.nf f s.heap.objs.size)) → ws.length = fr.length → sp ws vs H Q E →
      ∃ t, PE (ncx CX P w K mg base N F.nf f A outer s H E) F.body t ∧ t (startF N vs ws) H Q) :
    LOk P w K mg base CX (k + 1) f F ps fr sp := by
  refine ⟨len, fun A outer s H us vs ws Q E hr e0 hf hc C r hsp => ?_⟩
  have hl := len _ _ _ _ _ hsp
  have lim : s.heap.NoLimit := e0.mod.nolimit.keeps fun b o e => (e0.bs b o e).1
  obtain ⟨od, sl, pm, ctv, ho⟩ := fnL_at e0.hok hf
  refine PySem.W.kla_callFunE hr.depth ho rfl S.co S.gen rfl (codeO_at e0.hok hc) ?_
  rw [hb pm ctv us (by rw [← r.length]; exact hl)]
  refine wpAny_pure (wpAny_newFunctionEnv S.nocell (fun ⟨n, _⟩ hy => S.par n (List.of_mem_zip hy).1) (fun h₁ hns hsb => ⟨lim.fresh _ hsb, ?_⟩) S.kind)
  show codeAny _ _ (.expr F.body (NdefX.envF F.nf f s.heap.objs.size)) _ _
  have kp : ∀ b o, s.heap.get? b = some o → h₁.get? b = some o := fun b o e => hsb.extBut b o (Nat.ne_of_lt (Heap.lt_size e)) (Heap.get?_push_of_some _ e)
  obtain ⟨t, ht, hq⟩ := hbody A outer s H vs ws Q E (hr.deeper _) C.len hsp
  have I : Inv (ncx CX P w K mg base N F.nf f A outer s H E) [] (startF N vs ws) H { s with heap := h₁, toks := s.toks + (ps.zip us).length } := inv_startN (F := F.nf) S hr.hd e0 hl r C hns kp
  refine PySem.W.kla_codeExpr (wpAny_mono (ht.run [] _ (startF N vs ws) H Q I hq) (fun v s' hs => ?_) fun e s' hs => hs)
  obtain ⟨v', H', J, rv, q⟩ := hs
  exact ⟨v', H', J.os, J.bare, J.base, J.hok, rv, q⟩
end
/-! ### a def that is handed things that can be called -/
end RH
set_option Elab.async false
set_option linter.all false
set_option maxRecDepth 100000
set_option maxHeartbeats 2000000
/-! Dicts with tuples for keys: one pair written out, their values; where an int stands in a tuple. -/
set_option Elab.async false
set_option linter.all false
set_option maxRecDepth 100000
set_option maxHeartbeats 2000000
/-! Tuples told by their very object, and dicts whose keys are such tuples of ints. -/
namespace RH
open PySem PySem.Spec PyProof.Rows L2
def keyOf (s : List Int) : List L2.Key := s.map Sum.inl
theorem keyOf_kV (s : List Int) : (keyOf s).map kV = s.map V.int := by
  unfold keyOf
  rw [List.map_map]
  rfl
theorem mapInt_inj : ∀ {s t : List Int}, s.map V.int = t.map V.int → s = t
  | [], [], _ => rfl
  | [], _ :: _, e => by simp at e
  | _ :: _, [], e => by simp at e
  | a :: s, b :: t, e => by
    rw [List.map_cons, List.map_cons] at e
    injection e with e1 e2
    rw [V.int.inj e1, mapInt_inj e2]
theorem keyOf_inj {s t : List Int} (h : keyOf s = keyOf t) : s = t := by
  have e : (keyOf s).map kV = (keyOf t).map kV := by rw [h]
  rw [keyOf_kV, keyOf_kV] at e
  exact mapInt_inj e
/-- b is a tuple of these ints -/
def KX (H : Hp) (b : Addr) (s : List Int) : Prop := Rd H b (.tup (s.map V.int))
/-- the same, and its very object is known, one without a dict -/
def FT (H : Hp) (b : Addr) (s : List Int) : Prop := ∃ ob, H b = some (.frz ob (.tup (s.map V.int))) ∧ ob.dict = none
theorem FT.kx {H : Hp} {b : Addr} {s : List Int} (h : FT H b s) : KX H b s := let ⟨ob, h, _⟩ := h; .inr ⟨ob, h⟩
inductive XS : List (List Int × V) → List Addr → List (List L2.Key × Addr × Value) → Prop
  | nil : XS [] [] []
  | cons {q : List Int × V} {b : Addr} {u : Value} {as : List (List Int × V)} {bs : List Addr} {xs : List (List L2.Key × Addr × Value)} : RelV q.2 u → XS as bs xs → XS (q :: as) (b :: bs) ((keyOf q.1, b, u) :: xs)
inductive KB (H : Hp) : List (List Int × V) → List Addr → Prop
  | nil : KB H [] []
  | cons {q : List Int × V} {b : Addr} {as : List (List Int × V)} {bs : List Addr} : KX H b q.1 → KB H as bs → KB H (q :: as) (b :: bs)
theorem KB.snoc {H : Hp} {q : List Int × V} {b : Addr} (h : KX H b q.1) : ∀ {as : List (List Int × V)} {bs : List Addr}, KB H as bs → KB H (as ++ [q]) (bs ++ [b])
  | _, _, .nil => .cons h .nil
  | _, _, .cons g t => .cons g (t.snoc h)
theorem KB.imp {H H' : Hp} (f : ∀ b s, KX H b s → KX H' b s) : ∀ {as : List (List Int × V)} {bs : List Addr}, KB H as bs → KB H' as bs
  | _, _, .nil => .nil
  | _, _, .cons g t => .cons (f _ _ g) (t.imp f)
theorem XS.len : ∀ {as : List (List Int × V)} {bs : List Addr} {xs : List (List L2.Key × Addr × Value)}, XS as bs xs → xs.length = as.length
  | _, _, _, .nil => rfl
  | _, _, _, .cons _ t => congrArg (· + 1) t.len
theorem XS.snoc {q : List Int × V} {b : Addr} {u : Value} (h : RelV q.2 u) : ∀ {as : List (List Int × V)} {bs : List Addr} {xs : List (List L2.Key × Addr × Value)}, XS as bs xs → XS (as ++ [q]) (bs ++ [b]) (xs ++ [(keyOf q.1, b, u)])
  | _, _, _, .nil => .cons h .nil
  | _, _, _, .cons g t => .cons g (t.snoc h)
theorem atKey_neg {x : List L2.Key × Addr × Value} {xs : List (List L2.Key × Addr × Value)} {k : List L2.Key} (e : ¬ x.1 = k) : atKey (x :: xs) k = atKey xs k := by simp [atKey, List.find?_cons, e]
theorem XS.no {s : List Int} : ∀ {as : List (List Int × V)} {bs : List Addr} {xs : List (List L2.Key × Addr × Value)}, XS as bs xs → s ∉ as.map Prod.fst → atKey xs (keyOf s) = none
  | _, _, _, .nil, _ => rfl
  | _, _, _, .cons g t, h => (atKey_neg fun e => h (by rw [← keyOf_inj e]; exact List.mem_cons_self ..)).trans (t.no fun z => h (List.mem_cons_of_mem _ z))
/-- the dict at d: as with its values, bs its keys' tuples -/
abbrev DE (P : Program) (w : World) (as : List (List Int × V)) (bs : List Addr) (d : Addr) : HO := .ext fun h => (d == sysModules) = false ∧ as.length ≤ sizeLine ∧ ∃ xs : List (List L2.Key × Addr × Value), XS as bs xs ∧
  ∃ o es ep, h.get? d = some o ∧ o.ExactDict ∧ o.data = .dict es ep ∧ es.toList = xs.map (entryOfKey (tupleKind (mixKind P w))) ∧ (xs.map (·.1)).Nodup
theorem DE.ok {P : Program} {w : World} {H : Hp} {h : Heap} {as : List (List Int × V)} {bs : List Addr} {d : Addr} {xs : List (List L2.Key × Addr × Value)} (hd : (d == sysModules) = false) (hl : as.length ≤ sizeLine) (hx : XS as bs xs) (dd : h.DictOfH (tupleKind (mixKind P w)) d xs) : ObjOk P w H h d (DE P w as bs d) := by
  obtain ⟨o, es, ep, h1, h2, h3, h4, _, h5⟩ := dd
  refine ⟨⟨hd, hl, xs, hx, o, es, ep, h1, h2, h3, h4, h5⟩, ⟨o, h1⟩, fun h1 h2 ⟨a1, a2, xs, a3, o, es, ep, b1, b2⟩ k => ⟨a1, a2, xs, a3, o, es, ep, k _ b1, b2⟩⟩
/-! ### the rules -/
section
variable {X : Cx} {o i k v value : Expr} {pos pos' tpos : Pos} {td ty tk tv : TE}
/-- tuple(xs) of a list, told by its very object -/
def kTupF (K : PySem.W.Frag) (x : V) (H : Hp) (Q : VK) : Prop := ∃ p xs, x = .ref p ∧ SqL K H p xs ∧ ∀ q ob, H q = none → ob.dict = none → Q (.ref q) (upd H q (.frz ob (.tup xs)))
theorem pe_tupleF {a : Expr} {ta : TE} {p : Pos} (hg : Gl X "tuple") (hm : X.mg "tuple" = none) (ha : PE X a ta) (na : starEach [a] X.env = (false, eval a X.env) :: starEach [] X.env := by rfl) : PE X (.Call (.Name "tuple" p) [a] [] pos) (tThen ta (kTupF X.K)) := by
  refine ⟨fun pins s σ H Q I h => ?_⟩
  refine Call_ (ld_blt I hg hm boot_tuple (PyProof.Rows.callWith_type1 (one_arg ha I h (fun v s2 x H2 I2 r q => ?_) na) na))
  obtain ⟨p, xs, rfl, hs, q⟩ := q
  obtain rfl : v = .ref p := r
  obtain ⟨its, rv, pl, hz⟩ := I2.list hs
  refine call_tuple_list pl.isList (fun h' hk => ?_) (by rw [List.size_toArray, ← rv.length]; exact hz)
  have I3 : Inv X pins σ H2 { s2 with heap := h' } := I2.kept (t' := s2.toks) hk
  have e : (h'.push { cls := .type "tuple", data := .seq its.toArray }).get? h'.objs.size = some { cls := .type "tuple", data := .seq its.toArray } := Heap.get?_push_size _ rfl
  have I4 : Inv X pins σ (upd H2 h'.objs.size (.frz { cls := .type "tuple", data := .seq its.toArray } (.tup xs))) { s2 with heap := h'.push { cls := .type "tuple", data := .seq its.toArray } } :=
    I3.laid (t' := s2.toks) (fun b o e => Heap.get?_push_of_some _ e) (Nat.le_refl _) ⟨e, hz, its, rv, IsTup.new _ _⟩
  exact ⟨.ref h'.objs.size, _, I4, rfl, q _ _ (I3.hok.fresh (Nat.le_refl _)) rfl⟩
end
end RH
set_option Elab.async false
set_option linter.all false
set_option maxRecDepth 100000
set_option maxHeartbeats 2000000
/-! Sorted lists of tuples of ints, of any length; more rules for dicts whose keys are such tuples. -/
namespace RH
open PySem PySem.Spec PyProof.Rows L2
open SrtO (Swo Srtd Stb SortableO Cmp lt2)
open TS (TupInts intsOf code Bd lex_ints firsts_of)
/-- below 10, by the digits -/
def ltL (s t : List Int) : Bool := decide (code 10 s < code 10 t)
theorem swo_by {α : Type} (f : α → Int) : Swo fun x y : α => decide (f x < f y) := by
  refine ⟨fun x y h => ?_, fun x y z h1 h2 => ?_⟩
  · simp only [decide_eq_true_eq] at h
    simp only [decide_eq_false_iff_not]
    omega
  · simp only [decide_eq_false_iff_not] at *
    omega
theorem ltL_swo : Swo ltL := swo_by (code 10)
/-- each of xs is a tuple of the ints -/
inductive EX (H : Hp) : List V → List (List Int) → Prop
  | nil : EX H [] []
  | cons {b : Addr} {s : List Int} {xs : List V} {ls : List (List Int)} : KX H b s → EX H xs ls → EX H (.ref b :: xs) (s :: ls)
theorem EX.len {H : Hp} : ∀ {xs : List V} {ls : List (List Int)}, EX H xs ls → xs.length = ls.length
  | _, _, .nil => rfl
  | _, _, .cons _ t => congrArg (· + 1) t.len
theorem EX.imp {H H' : Hp} (f : ∀ b s, KX H b s → KX H' b s) : ∀ {xs : List V} {ls : List (List Int)}, EX H xs ls → EX H' xs ls
  | _, _, .nil => .nil
  | _, _, .cons g t => .cons (f _ _ g) (t.imp f)
theorem EX.snoc {H : Hp} {b : Addr} {s : List Int} (h : KX H b s) : ∀ {xs : List V} {ls : List (List Int)}, EX H xs ls → EX H (xs ++ [.ref b]) (ls ++ [s])
  | _, _, .nil => .cons h .nil
  | _, _, .cons g t => .cons g (t.snoc h)
theorem EX.at {H : Hp} : ∀ {xs : List V} {ls : List (List Int)} {i : Nat} {s : List Int}, EX H xs ls → ls[i]? = some s → ∃ b, xs[i]? = some (V.ref b) ∧ KX H b s
  | _, _, _, _, .nil, e => by simp at e
  | _, _, 0, _, .cons h _, e => by
    cases Option.some.inj e
    exact ⟨_, rfl, h⟩
  | _, _, i + 1, _, .cons _ t, e => t.at (i := i) e
/-- what sorted makes of tuples of the ints ls -/
def SoT (H : Hp) (ls : List (List Int)) (ys : List V) (ls' : List (List Int)) : Prop := Srtd ltL ls' ∧ Stb ltL ls' ls ∧ EX H ys ls' ∧ ls'.length = ls.length
theorem SoT.one {H H' : Hp} {ls a b : List (List Int)} {ys zs : List V} (h1 : SoT H ls ys a) (h2 : SoT H' ls zs b) : a = b :=
  SrtO.stb_uniq ltL_swo h1.1 h2.1 ⟨h1.2.1.perm.trans h2.2.1.perm.symm, fun x => (h1.2.1.cls x).trans (h2.2.1.cls x).symm⟩
end RH
set_option Elab.async false
set_option linter.all false
set_option maxRecDepth 100000
set_option maxHeartbeats 2000000
namespace RH
open PySem PySem.Spec PyProof.Rows L2
open SrtO (Swo Srtd Stb SortableO Cmp lt2)
open TS (TupInts intsOf code Bd lex_ints firsts_of)
theorem KB.ex {H : Hp} : ∀ {as : List (List Int × V)} {bs : List Addr}, KB H as bs → EX H (bs.map V.ref) (as.map Prod.fst)
  | _, _, .nil => .nil
  | _, _, .cons g t => .cons g t.ex
/-! ### get, in, a new one, [..] = -/
end RH
set_option Elab.async false
set_option linter.all false
set_option maxRecDepth 100000
set_option maxHeartbeats 2000000
/-! Lambdas that a def hands back: the cells that they caught are tracked from then on. -/
namespace RH
open PySem PySem.Spec PyProof.Rows L2
open LamX (Tabs TabS TabB ExtN CodeO codeO_ne)
open NdefX (NF CellsAt NScope startF ncx codeO_at slotAt Caps cells_of)
/-- the cell at c holds v -/
def CellO (c : Addr) (v : V) : HO := .ext fun h => ∃ u, L2.RelV v u ∧ h.IsCell c (some u)
theorem cellO_ne {c : Addr} {v : V} : (∀ y, CellO c v ≠ .own y) ∧ (∀ xs, CellO c v ≠ .tup xs) ∧ (∀ o u, CellO c v ≠ .frz o u) ∧ (∀ ps, CellO c v ≠ .tbl ps) := by
  unfold CellO
  exact ⟨fun _ z => (nomatch z), fun _ z => (nomatch z), fun _ _ z => (nomatch z), fun _ z => (nomatch z)⟩
theorem cellO_ok {P : Program} {w : World} {H : Hp} {h : Heap} {c : Addr} {v : V} (q : ∃ u, L2.RelV v u ∧ h.IsCell c (some u)) : ObjOk P w H h c (CellO c v) :=
  ⟨q, let ⟨_, _, o, e, _⟩ := q; ⟨o, e⟩, fun _ _ ⟨u, r, o, e, d⟩ st => ⟨u, r, o, st o e, d⟩⟩
abbrev CL := List (Addr × V)
/-- without the cells, with them -/
def era (l : CL) (H : Hp) : Hp := fun b => match l.lookup b with
  | some _ => none
  | none => H b
def lay (l : CL) (H : Hp) : Hp := fun b => match l.lookup b with
  | some v => some (CellO b v)
  | none => H b
theorem era_in {l : CL} {H : Hp} {b : Addr} {v : V} (e : l.lookup b = some v) : era l H b = none := by
  unfold era
  rw [e]
theorem era_no {l : CL} {H : Hp} {b : Addr} (e : l.lookup b = none) : era l H b = H b := by
  unfold era
  rw [e]
theorem lay_in {l : CL} {H : Hp} {b : Addr} {v : V} (e : l.lookup b = some v) : lay l H b = some (CellO b v) := by
  unfold lay
  rw [e]
theorem lay_no {l : CL} {H : Hp} {b : Addr} (e : l.lookup b = none) : lay l H b = H b := by
  unfold lay
  rw [e]
/-- the cells stand -/
def Stand (l : CL) (H : Hp) : Prop := ∀ b v, l.lookup b = some v → H b = some (CellO b v)
theorem Stand.ext {l : CL} {H H' : Hp} (s : Stand l H) (e : ExtN H H') : Stand l H' := fun b v q => e b _ (s b v q) cellO_ne.2.2.2
theorem Stand.same {l : CL} {H H' : Hp} (s : Stand l H) (e : Same H H') : Stand l H' := fun b v q => e b _ (s b v q)
theorem Stand.lay (l : CL) (H : Hp) : Stand l (lay l H) := fun _ _ q => lay_in q
theorem Stand.cases {l : CL} {H : Hp} (s : Stand l H) {b : Addr} {o : HO} (e : H b = some o) : (∃ v, l.lookup b = some v ∧ o = CellO b v) ∨ (l.lookup b = none ∧ era l H b = some o) := by
  cases q : l.lookup b with
  | some v => exact .inl ⟨v, rfl, Option.some.inj (e.symm.trans (s b v q))⟩
  | none => exact .inr ⟨rfl, (era_no q).trans e⟩
theorem Stand.tup {l : CL} {H : Hp} (s : Stand l H) {b : Addr} {xs : List V} (e : H b = some (.tup xs)) : era l H b = some (.tup xs) := by
  rcases s.cases e with ⟨v, _, z⟩ | ⟨_, z⟩
  · exact absurd z.symm (cellO_ne.2.1 xs)
  · exact z
theorem Stand.frz {l : CL} {H : Hp} (s : Stand l H) {b : Addr} {o : Obj} {u : HO} (e : H b = some (.frz o u)) : era l H b = some (.frz o u) := by
  rcases s.cases e with ⟨v, _, z⟩ | ⟨_, z⟩
  · exact absurd z.symm (cellO_ne.2.2.1 o u)
  · exact z
theorem Stand.rd {l : CL} {H : Hp} (s : Stand l H) {b : Addr} {xs : List V} (e : Rd H b (.tup xs)) : Rd (era l H) b (.tup xs) := by
  rcases e with e | ⟨o, e⟩
  · exact .inl (s.tup e)
  · exact .inr ⟨o, s.frz e⟩
/-- the heap with the cells goes on as the one without them does -/
theorem Stand.on {l : CL} {H H2 : Hp} (s : Stand l H) (e : Same (era l H) H2) : Same H (RH.lay l H2) := fun b o q => by
  rcases s.cases q with ⟨v, z, rfl⟩ | ⟨z, y⟩
  · exact lay_in z
  · exact (lay_no z).trans (e b o y)
theorem Stand.hok {P : Program} {w : World} {l : CL} {H : Hp} {h : Heap} (s : Stand l H) (k : HOk P w H h) : HOk P w (era l H) h := fun a o e => by
  cases q : l.lookup a with
  | some v =>
    rw [era_in q] at e
    cases e
  | none =>
    rw [era_no q] at e
    refine (k a o e).stay (fun _ _ _ z => z) (fun b z => ?_) fun b xs z => s.tup z
    rcases s.cases z with ⟨v, _, y⟩ | ⟨_, y⟩
    · exact absurd y.symm (cellO_ne.1 a)
    · exact y
/-- what a lambda caught, and where -/
structure Cap (F : LF) (fr : List Str) (ws : List V) (l : CL) : Prop where
  len : ws.length = fr.length
  all : ∀ y c, F.cl.lookup y = some c → ∃ v, l.lookup c = some v
  inj : ∀ x y c, F.cl.lookup x = some c → F.cl.lookup y = some c → x = y
  has : ∀ (i : Nat) (y : Str), fr[i]? = some y → ∃ c, F.cl.lookup y = some c ∧ ∀ v, ws[i]? = some v → l.lookup c = some v
/-- the lambda at f stands, with its code and its cells -/
structure LiveK (f : Addr) (F : LF) (l : CL) (H : Hp) : Prop where
  fn : H f = some (FnL f F)
  code : H F.c = some (CodeO F.c F.qual)
  st : Stand l H
theorem LiveK.same {f : Addr} {F : LF} {l : CL} {H H' : Hp} (k : LiveK f F l H) (e : Same H H') : LiveK f F l H' := ⟨e _ _ k.fn, e _ _ k.code, k.st.same e⟩
theorem LiveK.ext {f : Addr} {F : LF} {l : CL} {H H' : Hp} (k : LiveK f F l H) (e : ExtN H H') : LiveK f F l H' := ⟨e _ _ k.fn (fun ps => fnL_ne ps), e _ _ k.code (fun ps => codeO_ne ps), k.st.ext e⟩
section
variable {CX : CXT} {P : Program} {w : World} {K : PySem.W.Frag} {mg : Str → Option Value} {base : Heap} {ps fr : List Str} {k : Nat} {f : Addr} {F : LF} {ws : List V} {l : CL} {outer : List Env} {s : Shared} {H : Hp}
theorem LiveK.nofn {h : Heap} (L : LiveK f F l H) (hok : HOk P w H h) : l.lookup f = none ∧ l.lookup F.c = none := by
  constructor
  · cases q : l.lookup f with
    | none => rfl
    | some v =>
      exfalso
      obtain ⟨od, sl, pm, ctv, ho⟩ := fnL_at hok L.fn
      obtain ⟨⟨u, _, o, e, d⟩, _⟩ := hok f _ (L.st f v q)
      rw [ho] at e
      cases e
      cases d
  · cases q : l.lookup F.c with
    | none => rfl
    | some v =>
      exfalso
      obtain ⟨c, oc, vs, t, e0, h1, h2, _⟩ := codeO_at hok L.code
      cases e0
      obtain ⟨⟨u, _, o, e, d⟩, _⟩ := hok F.c _ (L.st F.c v q)
      rw [h1] at e
      cases e
      rw [h2] at d
      cases d
end
/-! ### a body that ends with a return, its names kept -/
structure PSR (X : Cx) (st : List Stmt) (tr : (V → L2.St → Hp → Prop) → L2.St → Hp → Prop) : Prop where
  run : ∀ (pins : List (Addr × Obj)) (s : Shared) (σ : L2.St) (H : Hp) (R : V → L2.St → Hp → Prop), Inv X pins σ H s → tr R σ H → wpAny (model X.prog X.w) X.A (execs st X.env) (fun fl s' => ∃ u v σ' H', fl = .ret u ∧ Inv X pins σ' H' s' ∧ L2.RelV v u ∧ R v σ' H') X.xe s
theorem psr_ret {X : Cx} {e : Expr} {te : TE} {pos : Pos} (he : PE X e te) : PSR X [.Return (some e) pos] (fun R σ H => te σ H fun v H1 => R v σ H1) := by
  refine ⟨fun pins s σ H R I h => ?_⟩
  refine wpAny_execs_cons (wpAny_Return_some (thn (he.run pins s σ H (fun v H1 => R v σ H1) I h) fun v s1 ⟨x, H1, I1, r1, q1⟩ => ?_))
  exact ⟨v, x, σ, H1, rfl, I1, r1, q1⟩
theorem psr_cons {X : Cx} {st : Stmt} {rest : List Stmt} {t : TS} {tr : (V → L2.St → Hp → Prop) → L2.St → Hp → Prop} (h1 : PS X st t) (h2 : PSR X rest tr) : PSR X (st :: rest) (fun R σ H => t { nx := fun σ' H' => tr R σ' H', rt := fun _ _ => False, bk := fun _ _ => False, ct := fun _ _ => False } σ H) := by
  refine ⟨fun pins s σ H R I h => ?_⟩
  refine wpAny_execs_cons (thn (h1.run pins s σ H _ I h) fun f s1 q => ?_)
  cases f with
  | next =>
    obtain ⟨σ', H', I', q⟩ := q
    exact h2.run pins s1 σ' H' R I' q
  | ret v =>
    obtain ⟨_, _, _, _, _, z⟩ := q
    exact z.elim
  | brk =>
    obtain ⟨_, _, _, z⟩ := q
    exact z.elim
  | cont =>
    obtain ⟨_, _, _, z⟩ := q
    exact z.elim
section
variable {P : Program} {w : World} {K : PySem.W.Frag} {mg : Str → Option Value} {base : Heap}
/-- a def whose end is told with its names and its frame -/
theorem fnR_of {k : Nat} {f : Addr} {name qual : Str} {params : Arguments} {body : List Stmt} {scope : Scope} {dV kV doc pm cdv ct oc : Value} {an od : Option Addr}
    {osl : Array (Option Value)} {N ps : List Str} {sp : Sp} (lk : K.lookup f = some ⟨oc, od, .func (PySem.W.fnOf name qual params body scope dV kV doc pm an cdv ct), osl⟩) (hcd : PySem.W.codeIn K cdv qual = true) (S : FnScope N ps scope)
    (len : ∀ vs H Q E, sp vs H Q E → vs.length = ps.length)
    (hbody : ∀ (A : Around) (outer : List Env) (s : Shared) (H : Hp) (vs : List V) (Q : VK) (E : XK), Room k (A.deeper (envOfC qual scope s.heap.objs.size f cdv)) → sp vs H Q E →
      ∃ (R : V → L2.St → Hp → Prop) (tr : (V → L2.St → Hp → Prop) → L2.St → Hp → Prop), PSR (cxOf CX0 P w K mg base N qual scope f cdv A outer s H E) body tr ∧ tr R (start N vs) H ∧
        ∀ (s' : Shared) (σ' : L2.St) (H' : Hp) (v : V) (u : Value), Inv (cxOf CX0 P w K mg base N qual scope f cdv A outer s H E) [] σ' H' s' → L2.RelV v u → R v σ' H' → CE outer P w H s Q u s') :
    FnOk P w K mg base CX0 (k + 1) f (PySem.W.fnOf name qual params body scope dV kV doc pm an cdv ct) ps sp := by
  refine ⟨len, fun A outer s H args us vs Q E hr e0 hb r hsp => ?_⟩
  have hl := len _ _ _ _ hsp
  have KX : K.In s.heap := e0.mod.kin.keeps fun b o e => (e0.bs b o e).1
  have lim : s.heap.NoLimit := e0.mod.nolimit.keeps fun b o e => (e0.bs b o e).1
  have hkind : ∀ y ∈ ps.zip us, scope.names.lookup y.1 = some .local ∨ (scope.names.lookup y.1 = some .cell ∧ ((cellsFrom (s.heap.objs.size + 1) scope.names []).lookup y.1).isSome = true) := fun ⟨n, v⟩ hy => by
    rcases S.par n (List.of_mem_zip hy).1 with q | q
    · exact .inl q
    · exact .inr ⟨q, PySem.W.cellsFrom_some _ _ _ (.inl q)⟩
  refine codeAny_call_function hr.depth (KX _ _ lk) rfl S.co S.gen rfl (PySem.W.codeRec_of KX hcd) (hb _ _ _ _ ?_)
  refine wpAny_newFunctionEnv_cells S.kind hkind fun env he s1 x => ?_
  subst he
  refine ⟨lim.keeps x.toInCall.keep, codeAny_func ?_⟩
  obtain ⟨R, tr, ht, hq, fin⟩ := hbody A outer s H vs Q E (hr.deeper _) hsp
  have I : Inv (cxOf CX0 P w K mg base N qual scope f cdv A outer s H E) [] (start N vs) H s1 := inv_start S hr.hd e0 hl r x
  refine wpAny_mono (ht.run [] s1 (start N vs) H R I hq) (fun fl s' hs => ?_) fun e s' hs => hs
  obtain ⟨u, v, σ', H', rfl, J, rv, q⟩ := hs
  exact fin s' σ' H' v u J rv q
/-- the end of a def that hands back lambdas: its cells are laid -/
theorem ce_lay {X : Cx} {pins : List (Addr × Obj)} {σ : L2.St} {H' : Hp} {s' : Shared} {v : V} {u : Value} {Q : VK} {l : CL} (hf : ∀ x, X.fn x = true) (J : Inv X pins σ H' s') (hx : X.ex = []) (hfs : X.fs = frs X.outer)
    (hl : ∀ b y, l.lookup b = some y → ∃ (x : Str) (i : Nat), X.env.cells.lookup x = some b ∧ X.N[i]? = some x ∧ σ[i]? = some (some y) ∧ X.env.scope.names.lookup x = some .cell)
    (rv : L2.RelV v u) (q : Q v (lay l H')) : CE X.outer X.prog X.w X.H_0 X.s_0 Q u s' := by
  have cell : ∀ b y, l.lookup b = some y → (∃ u, L2.RelV y u ∧ s'.heap.IsCell b (some u)) ∧ X.s_0.heap.objs.size ≤ b ∧ H' b = none := fun b y e => by
    obtain ⟨x, i, h1, h2, h3, h4⟩ := hl b y e
    refine ⟨?_, J.ok.cab x b (hf x) h1, J.freeC x b h1⟩
    obtain ⟨m, _, hm⟩ := J.loc
    obtain ⟨u, r, lk⟩ := hm i x y h2 h3 (.inr (.inl h4))
    rcases lk with ⟨z, _⟩ | ⟨_, a', ha', hc⟩
    · have z' : X.env.scope.names.lookup x = some .local := z
      rw [h4] at z'
      cases z'
    · rw [h1] at ha'
      cases ha'
      exact ⟨u, r, hc⟩
  have low : ∀ b o, X.s_0.heap.get? b = some o → l.lookup b = none := fun b o e => by
    cases q : l.lookup b with
    | none => rfl
    | some y => exact absurd (Nat.lt_of_lt_of_le (Heap.lt_size e) (cell b y q).2.1) (Nat.lt_irrefl _)
  have up : ∀ b o, H' b = some o → lay l H' b = some o := fun b o e => by
    cases q : l.lookup b with
    | none => exact (lay_no q).trans e
    | some y =>
      rw [(cell b y q).2.2] at e
      cases e
  have U := J.base
  rw [hx, hfs] at U
  refine ⟨v, lay l H', J.os, J.bare, ⟨U.keep, U.slot, fun b o e n x => (lay_no (low b o e)).trans (U.free b o e n x), U.there, fun b xs e => up _ _ (U.tups b xs e), fun b o w e => up _ _ (U.frzs b o w e), fun b ps e => ?_⟩, fun a o e => ?_, rv, q⟩
  · obtain ⟨more, z⟩ := U.tbls b ps e
    exact ⟨more, up _ _ z⟩
  · cases q : l.lookup a with
    | some y =>
      rw [lay_in q] at e
      cases e
      exact cellO_ok (cell a y q).1
    | none =>
      rw [lay_no q] at e
      exact (J.hok a o e).stay (fun _ _ _ z => z) (fun b z => up _ _ z) fun b xs z => up _ _ z
end
end RH
set_option Elab.async false
set_option linter.all false
set_option maxRecDepth 100000
set_option maxHeartbeats 2000000
/-! A walk over zip of a tuple and a list. -/
set_option Elab.async false
set_option linter.all false
set_option maxRecDepth 100000
set_option maxHeartbeats 2000000
/-! Defs and methods that may raise, lambdas handed back that are called without arguments and may raise, what an except suite asks of its error. -/
namespace RH
open PySem PySem.Spec PyProof.Rows L2
open LamX (Tabs TabS TabB ExtN CodeO codeO_ne)
open NdefX (NF CellsAt NScope startF ncx codeO_at slotAt Caps cells_of)
/-! ### a lambda that was handed back, called without arguments -/
section
variable {X : Cx} {f : Addr} {F : LF} {fr : List Str} {ws : List V} {l : CL} {k : Nat} {sp : List (Option V) → Sp}
def Gone (l : CL) (H : Hp) : Prop := ∀ b y, l.lookup b = some y → H b = none
theorem kept_run (Fn : LOk X.prog X.w X.K X.mg X.base (L2.CX X.prog X.w) k f F [] fr sp) (C : Cap F fr ws l) (hr : Room k X.A) {pins : List (Addr × Obj)} {σ : L2.St} {H' : Hp} {s' : Shared} {Q : VK} {E : XK} (I : Inv X pins σ H' s') (L : LiveK f F l H') (hx : PassesAt (L2.CX X.prog X.w) X σ E)
    (q : sp (ws.map some) [] (era l H') (fun v H2 => Gone l H2 → Q v (lay l H2)) (fun cls d H2 => Gone l H2 → E cls d (lay l H2))) : wpAny (model X.prog X.w) X.A (call (.ref f) []) (EP X pins σ Q) X.xe s' := by
  obtain ⟨nf, nc⟩ := L.nofn I.hok
  have E0 := I.env0
  have cell : ∀ c v, l.lookup c = some v → ∃ u, L2.RelV v u ∧ s'.heap.IsCell c (some u) := fun c v e => (I.hok c _ (L.st c v e)).1
  have nfr : ∀ c v, l.lookup c = some v → c ∉ frs X.stack := fun c v e z => by
    have := E0.frf c z
    rw [L.st c v e] at this
    cases this
  have Ee : Env0 X.prog X.w X.K X.mg X.base X.A X.stack s' (era l H') := by
    refine ⟨E0.frames, E0.mod, fun b o e => ⟨(E0.bs b o e).1, ?_⟩, E0.bsz, E0.funs, fun b hb => ?_, L.st.hok E0.hok, E0.bare⟩
    · cases q : l.lookup b with
      | some v => exact era_in q
      | none => exact (era_no q).trans (E0.bs b o e).2
    · cases q : l.lookup b with
      | some v => exact era_in q
      | none => exact (era_no q).trans (E0.frf b hb)
  have Ce : CellsAt F.cl fr (ws.map some) s'.heap (era l H') := by
    refine ⟨by rw [List.length_map]; exact C.len, fun y c e => ?_, C.inj, fun i y e => ?_⟩
    · obtain ⟨v, hv⟩ := C.all y c e
      obtain ⟨u, _, z⟩ := cell c v hv
      exact ⟨era_in hv, _, z⟩
    · obtain ⟨c, hc, hv⟩ := C.has i y e
      refine ⟨c, hc, fun v ev => ?_⟩
      rw [List.getElem?_map] at ev
      cases ew : ws[i]? with
      | none =>
        rw [ew] at ev
        cases ev
      | some v' =>
        rw [ew] at ev
        have : v' = v := Option.some.inj (Option.some.inj ev)
        subst this
        exact cell c _ (hv _ ew)
  have fwd : ∀ b, H' b = none → l.lookup b = none := fun b e => by
    cases q : l.lookup b with
    | none => rfl
    | some v =>
      rw [L.st b v q] at e
      cases e
  refine wpAny_call (codeAny_mono (Fn.run X.A X.stack s' (era l H') [] [] (ws.map some) _ _ hr Ee ((era_no nf).trans L.fn) ((era_no nc).trans L.code) Ce .nil q) fun r s'' hq => ?_)
  cases r with
  | error e =>
    obtain ⟨a, B, H2, cls, d, rfl, fl, hok, un, na, os, ag, hE⟩ := hq
    have gone : Gone l H2 := fun c v e => by
      obtain ⟨u, _, o, z, _⟩ := cell c v e
      exact un.free c o z (era_in e)
    have inB : ∀ c v, l.lookup c = some v → ∃ u, L2.RelV v u ∧ B.IsCell c (some u) := fun c v e => by
      obtain ⟨u, ru, o, z, d⟩ := cell c v e
      exact ⟨u, ru, o, un.keep c o z (era_in e) (nfr c v e), d⟩
    have nal : l.lookup a = none := by
      cases q : l.lookup a with
      | none => rfl
      | some v =>
        obtain ⟨u, _, o, z, _⟩ := inB a v q
        have := fl.2.1
        rw [z] at this
        cases this
    refine hx pins H' s' (.ref a) s'' I ⟨a, B, lay l H2, cls, d, rfl, fl, fun b o e => ?_, ?_, (lay_no nal).trans na, os, ag, hE gone⟩
    · cases q : l.lookup b with
      | some v =>
        rw [lay_in q] at e
        cases e
        exact cellO_ok (inB b v q)
      | none =>
        rw [lay_no q] at e
        refine (hok b o e).stay (fun _ _ _ z => z) (fun b z => ?_) fun b xs z => ?_
        · cases q2 : l.lookup b with
          | none => exact (lay_no q2).trans z
          | some v =>
            rw [gone b v q2] at z
            cases z
        · cases q2 : l.lookup b with
          | none => exact (lay_no q2).trans z
          | some v =>
            rw [gone b v q2] at z
            cases z
    · refine ⟨fun b o e n => un.keep b o e ((era_no (fwd b n)).trans n), un.slot, fun b o e n => (lay_no (fwd b n)).trans (un.free b o e ((era_no (fwd b n)).trans n)), un.there, fun b xs e => ?_, fun b o u e => ?_, fun b ps e => ?_⟩
      · rcases L.st.cases e with ⟨v, _, z⟩ | ⟨n, z⟩
        · exact absurd z.symm (cellO_ne.2.1 xs)
        · exact (lay_no n).trans (un.tups b xs z)
      · rcases L.st.cases e with ⟨v, _, z⟩ | ⟨n, z⟩
        · exact absurd z.symm (cellO_ne.2.2.1 o u)
        · exact (lay_no n).trans (un.frzs b o u z)
      · rcases L.st.cases e with ⟨v, _, z⟩ | ⟨n, z⟩
        · exact absurd z.symm (cellO_ne.2.2.2 ps)
        · obtain ⟨more, y⟩ := un.tbls b ps z
          exact ⟨more, (lay_no n).trans y⟩
  | ok fl =>
    cases fl with
    | ret u =>
      obtain ⟨v, H2, os, bare, un, hok, rv, hQ⟩ := hq
      have gone : Gone l H2 := fun c v e => by
        obtain ⟨u, _, o, z, _⟩ := cell c v e
        exact un.free c o z (era_in e) (by simp)
      refine I.after ⟨v, lay l H2, os, bare, ?_, ?_, rv, hQ gone⟩
      · refine ⟨fun b o e n => un.keep b o e ((era_no (fwd b n)).trans n), fun b o e n => un.slot b o e ((era_no (fwd b n)).trans n), fun b o e n x => (lay_no (fwd b n)).trans (un.free b o e ((era_no (fwd b n)).trans n) x), un.there, fun b xs e => ?_, fun b o u e => ?_, fun b ps e => ?_⟩
        · rcases L.st.cases e with ⟨v, _, z⟩ | ⟨n, z⟩
          · exact absurd z.symm (cellO_ne.2.1 xs)
          · exact (lay_no n).trans (un.tups b xs z)
        · rcases L.st.cases e with ⟨v, _, z⟩ | ⟨n, z⟩
          · exact absurd z.symm (cellO_ne.2.2.1 o u)
          · exact (lay_no n).trans (un.frzs b o u z)
        · rcases L.st.cases e with ⟨v, _, z⟩ | ⟨n, z⟩
          · exact absurd z.symm (cellO_ne.2.2.2 ps)
          · obtain ⟨more, y⟩ := un.tbls b ps z
            exact ⟨more, (lay_no n).trans y⟩
      · intro a o e
        cases q : l.lookup a with
        | some v =>
          rw [lay_in q] at e
          cases e
          obtain ⟨u, ru, ob, z, d⟩ := cell a v q
          exact cellO_ok ⟨u, ru, ob, un.keep a ob z (era_in q) (nfr a v q) (by simp), d⟩
        | none =>
          rw [lay_no q] at e
          refine (hok a o e).stay (fun _ _ _ z => z) (fun b z => ?_) fun b xs z => ?_
          · cases q2 : l.lookup b with
            | none => exact (lay_no q2).trans z
            | some v =>
              rw [gone b v q2] at z
              cases z
          · cases q2 : l.lookup b with
            | none => exact (lay_no q2).trans z
            | some v =>
              rw [gone b v q2] at z
              cases z
    | next => exact False.elim hq
    | brk => exact False.elim hq
    | cont => exact False.elim hq
end
/-- what is known of a lambda without parameters that may be called -/
structure Ready (P : Program) (w : World) (K : PySem.W.Frag) (mg : Str → Option Value) (base : Heap) (k : Nat) (f : Addr) (H : Hp) (ok : (Hp → VK → XK → Prop)) : Prop where
  ex : ∃ (F : LF) (fr : List Str) (ws : List V) (l : CL) (sp : List (Option V) → Sp), LOk P w K mg base (L2.CX P w) k f F [] fr sp ∧ Cap F fr ws l ∧ LiveK f F l H ∧
    ∀ Q E, ok H Q E → sp (ws.map some) [] (era l H) (fun v H2 => Gone l H2 → Q v (lay l H2)) (fun cls d H2 => Gone l H2 → E cls d (lay l H2))
/-- f(), f a name that holds such a lambda -/
def tCall0K (P : Program) (w : World) (K : PySem.W.Frag) (mg : Str → Option Value) (base : Heap) (k i : Nat) (E : L2.St → XK) : TE := fun σ H Q => ∃ (f : Addr) (ok : Hp → VK → XK → Prop), σ[i]? = some (some (.ref f)) ∧ Ready P w K mg base k f H ok ∧ ok H Q (E σ)
theorem pe_call0K {X : Cx} {i j k : Nat} {x : Str} {E : L2.St → XK} {p pos : Pos} (hr : Room j X.A) (hk : k ≤ j) (hx : ∀ σ, PassesAt (L2.CX X.prog X.w) X σ (E σ)) (hN : X.N[i]? = some x) (hv : Vis X.env.scope x)
    (hd : (x == ("__debug__" : Str)) = false := by decide) (hcd : (x == ("__classdict__" : Str)) = false := by decide) : PE X (.Call (.Name x p) [] [] pos) (tCall0K X.prog X.w X.K X.mg X.base k i E) := by
  refine ⟨fun pins s σ H Q I h => ?_⟩
  obtain ⟨f, ok, hs, ⟨F, fr, ws, l, sp, Fn, C, L, hok⟩, q⟩ := h
  refine wpAny_Call_Name_kw (thn ((pe_var (pos := p) hN hv hd hcd).run pins s σ H (fun v H1 => v = .ref f ∧ H1 = H) I ⟨.ref f, hs, rfl, rfl⟩) fun u s1 ⟨v, H1, I1, r1, q1⟩ => ?_)
  obtain ⟨ev, eH⟩ := q1
  subst ev
  rw [eH] at I1
  obtain rfl : u = Value.ref f := r1
  obtain ⟨od, sl, pm, ctv, ho⟩ := fnL_at I1.hok L.fn
  refine PySem.W.callWith_F0 (first := []) ⟨_, od, _, sl, ho⟩ ?_
  exact kept_run Fn C (hr.mono hk) I1 L (hx σ) (hok _ _ q)
/-! ### what an except suite asks of its error -/
/-! ### list.count of flat things -/
def rCntF (K : PySem.W.Frag) : V → List V → Hp → VK → Prop := fun x xs H Q => ∃ (a : Addr) (ys : List V) (y : V), x = V.ref a ∧ xs = [y] ∧ SqL K H a ys ∧ flatV y = true ∧ ys.all flatV = true ∧ Q (.int ((ys.countP fun z => eqV z y : Nat) : Int)) H
theorem mt_countF {X : Cx} : MtR X "list.count" (rCntF X.K) := by
  intro pins s σ H x xs v us Q I rx rxs h
  obtain ⟨a, ys, y, rfl, rfl, hs, fy, fys, q⟩ := h
  cases rx
  cases rxs with
  | cons ry rt =>
    rename_i uy ut
    cases rt
    obtain ⟨its, rv, ⟨⟨cls, dd, data, sl⟩, n, ho, hc, hdn, hd⟩, hlen⟩ := I.list hs
    simp only at hc hd
    subst hc hd
    refine call_meets PySem.F.slot_list_count ⟨_, ho, rfl⟩ PySem.F.entry_list_count (PySem.F.args_list_count_2 _ _)
      (SeqAt.list_countAt a its.toArray n dd sl uy (eqU y)) ⟨ho, fun u' hu' => mem_eqAt ry fy rv fys u' (by simpa using hu'), ?_⟩
    have cnt : ∀ {zs : List V} {us : List Value}, Vals zs us → zs.all flatV = true → us.countP (eqU y) = zs.countP fun z => eqV z y := by
      intro zs us r
      induction r with
      | nil => exact fun _ => rfl
      | cons r _ ih =>
        intro f
        rw [List.all_cons, Bool.and_eq_true] at f
        rw [List.countP_cons, List.countP_cons, ih f.2, eqU_of r f.1]
    refine ⟨.int ((ys.countP fun z => eqV z y : Nat) : Int), H, I.tok _, ⟨s.toks, ?_⟩, q⟩
    show Value.int ((its.toArray.toList.countP (eqU y) : Nat) : Int) s.toks = _
    have e := cnt rv fys
    rw [show its.toArray.toList = its from by simp, e]
/-- what leaves a def that may raise -/
theorem passE {P : Program} {w : World} {K : PySem.W.Frag} {mg : Str → Option Value} {base : Heap} {N : List Str} {qual : Str} {scope : Scope} {f : Addr} {cd : Value} {A : Around} {outer : List Env} {s : Shared} {H : Hp} {E : XK} :
    Passes (L2.CX P w) (cxOf (L2.CX P w) P w K mg base N qual scope f cd A outer s H E) E := passes_call (W := fun cls d _ H => E cls d H) (takes_of rfl rfl rfl rfl) (fun _ _ _ _ h => h)
theorem takesE {P : Program} {w : World} {K : PySem.W.Frag} {mg : Str → Option Value} {base : Heap} {N : List Str} {qual : Str} {scope : Scope} {f : Addr} {cd : Value} {A : Around} {outer : List Env} {s : Shared} {H : Hp} {E : XK} :
    Takes (cxOf (L2.CX P w) P w K mg base N qual scope f cd A outer s H E) (fun cls d _ H => E cls d H) := takes_of rfl rfl rfl rfl
end RH
set_option Elab.async false
set_option linter.all false
set_option maxRecDepth 100000
set_option maxHeartbeats 4000000
/-! own errors whose __init__ asks super().__init__ first -/
namespace L2
open PySem PySem.Calls PySem.Spec PyProof.Rows PySem.W
open NdefX (NScope NF CellsAt startF ncx envF inv_startN)
section
variable {X : Cx} {pins : List (Addr × Obj)} {σ : St} {H : Hp} {s : Shared} {a C u : Addr} {E : Value → Shared → Prop} {A : Around}
/-- the bound ValueError.__init__ is called: nothing of it is told -/
theorem call_mw {us : List Value} {Q : Value → Shared → Prop} (T : OexC X.K C) (I : Inv X pins σ H s) (hu : s.heap.get? u = some (kxs_mw "ValueError.__init__" a)) (e : H a = some (exo a C none)) (hl : us.length ≤ sizeLine) (h : ∀ s', Inv X pins σ H s' → Q .none s') :
    wpAny (model X.prog X.w) A (call (.ref u) us) Q E s := by
  obtain ⟨nm, q, N, bs, bm, sn, sub, ab, col, dd, k0, k1, k2, k3, k5, hC, hbm⟩ := T.cls
  obtain ⟨t1, ho⟩ := exo_at I.hok e
  obtain ⟨hp, g, d, t, os⟩ := s
  refine wpAny_call (codeAny_of_tree ?_)
  show wpAny _ A.in1 (callAny (.ref u) ⟨us, []⟩) _ _ _
  simp only [callAny]
  refine wpAny_bind (wpAny_load hu ?_)
  simp only [kxs_mw, show (Value.type "method-wrapper" == Value.type "method" || Value.type "method-wrapper" == Value.type "builtin_function_or_method" || Value.type "method-wrapper" == Value.type "method-wrapper") = true by decide, if_true]
  refine KFB.if_so (by decide) ?_
  refine wpAny_bind (check_bound_init PySem.F.excBase_ValueError.toExcCallFacts (I.kIn _ _ hC) ho rfl ?_)
  refine wpAny_bind (wpAny_pure (wpAny_pure ?_))
  refine ⟨plainId_quiet PySem.F.excBase_ValueError.init.plain _, codeAny_builtin PySem.F.excBase_ValueError.initEntry ?_⟩
  refine exc_init_tree (cls := .ref C) (t0 := t1) (dv := none) (c2 := .none) (c3 := .none) (b4 := .bool false) ho hl fun h' k hx _ => ?_
  have J := I.write (t' := t) (x := a) (e := a) (o := exo a C none) (by rw [e]; exact True.intro) (.inl rfl) k ⟨_, hx⟩ (exo_ok hx)
  have eu : upd H a (exo a C none) = H := by
    funext b
    by_cases hb : b = a
    · rw [hb, upd_same, e]
    · rw [upd_ne hb]
  rw [eu] at J
  exact h _ J
end
theorem mw_args {M : Model} {i : String} {a u : Addr} {s : Shared} {A : Around} {E : Value → Shared → Prop} {pos : Pos} {env : Env} {e : Expr} {es : List Expr} {Q : Value → Shared → Prop}
    (h : wpAny M A (spliced (backTo pos (starEach (e :: es) env))) (fun vs s₁ => KxsAt i u a s₁.heap ∧ wpAny M A (call (.ref u) vs) Q E s₁) E s)
    (he : starEach (e :: es) env = (false, eval e env) :: starEach es env) (hp : (backTo pos (starEach es env)).any (·.1) = false) : wpAny M A (callWith pos (.ref u) [] (backTo pos (starEach (e :: es) env)) []) Q E s := by
  rw [he] at h ⊢
  exact kxs_callWith (i := i) (x := a) (by show (false || (backTo pos (starEach es env)).any (·.1)) = false; rw [hp]; rfl) (evalArgs_plain h)
/-- the class C with an own __init__ that asks super().__init__ first -/
structure SupC (P : Program) (K : Frag) (mg : Str → Option Value) (C : Addr) (qual : Str) (st : Stmt) (f : Addr) (fd : FuncData) (cc cda : Addr) : Prop where
  t : OexC K C
  ex : ∃ (oc : Value) (od : Option Addr) (kV doc pm : Value) (an : Option Addr) (ct : Value) (osl : Array (Option Value)), fd = fnX "__init__" qual (defArgs st) (defBody st) (defScope st) [("__class__", cc)] .none kV doc pm an (.ref cda) ct ∧ K.lookup f = some ⟨oc, od, .func fd, osl⟩
  code : codeIn K (.ref cda) qual = true
  rec_ : ∃ (ccl : Value) (cdd : Option Addr) (vs : Array Value) (ccs : Array (Option Value)) (file : Str) (tf : Tok), K.lookup cda = some ⟨ccl, cdd, .fields vs, ccs⟩ ∧ vs[2]? = some (.str file tf) ∧ ((P.main.file : Str) == file) = true
  cell : ∃ (cl : Value) (cld : Option Addr) (csl : Array (Option Value)), K.lookup cc = some ⟨cl, cld, .cell (some (.ref C)), csl⟩
  mro : mroIn K C (.ref C) = some true
  any : nsIn K cStatics "thirdparty.any" = some none
  sup : ks_superIn K C C "__init__" = some (some (.builtin "ValueError.__init__"))
  ve : subIn K (.ref C) (.type "ValueError") = some true
  gs : mg "super" = none
  top : (P.main.scope.names.lookup ("super" : Str)).isSome = false
def supF (qual : Str) (st : Stmt) (cc cda : Addr) : NF := ⟨"__init__", qual, defArgs st, defBody st, defScope st, [("__class__", cc)], cda⟩
section
variable {P : Program} {w : World} {K : Frag} {mg : Str → Option Value} {base : Heap}
theorem fn_super {pl : Env → Sem Bool} {CX : CXT} {N ps : List Str} {k : Nat} {sp : Sp} {C f cc cda : Addr} {fd : FuncData} {qual self : Str} {st : Stmt} {rest : List Stmt} {e : Expr} {es : List Expr} {p0 p1 p2 p3 p4 : Pos} {ar : Arg} (M : SupC P K mg C qual st f fd cc cda) (S : NScope N ps ["__class__"] (defScope st))
    (hps : ps[0]? = some self) (har : ((defArgs st).posonlyargs ++ (defArgs st).args).head? = some ar) (hse : ar.arg = self) (hks : (defScope st).names.lookup ("super" : Str) = some .globalImplicit)
    (hb0 : defBody st = .Expr (.Call (.Attribute (.Call (.Name "super" p0) [] [] p1) "__init__" p2) (e :: es) [] p3) p4 :: rest) (len : ∀ vs H Q E, sp vs H Q E → vs.length = ps.length)
    (hbody : ∀ (A : Around) (outer : List Env) (s : Shared) (H : Hp) (vs : List V) (Q : VK) (E : XK), Room k (A.deeper (envF (supF qual st cc cda) f s.heap.objs.size)) → sp vs H Q E →
      ∃ (a : Addr) (ta : TA) (t : TS), vs[0]? = some (.ref a) ∧ H a = some (exo a C none) ∧ PA (ncx CX P w K mg base N (supF qual st cc cda) f A outer s H E) (e :: es) ta ∧ PSs (ncx CX P w K mg base N (supF qual st cc cda) f A outer s H E) rest t ∧
        ta (startF N vs [some (.ref C)]) H (fun us H1 => us.length ≤ 1000 ∧ H1 a = some (exo a C none) ∧ t { nx := fun _ H' => Q .non H', rt := Q } (startF N vs [some (.ref C)]) H1))
    (he : ∀ env, starEach (e :: es) env = (false, eval e env) :: starEach es env := by intro _; rfl) (hpl : ∀ env, (backTo p3 (starEach es env)).any (·.1) = false := by intro _; rfl)
    (hev : ∀ env : Env, eval (.Call (.Attribute (.Call (.Name "super" p0) [] [] p1) "__init__" p2) (e :: es) [] p3) env = (do
      let ov ← attributeBase (.Call (.Name "super" p0) [] [] p1) "__init__" env (eval (.Call (.Name "super" p0) [] [] p1) env)
      standAt p2.atName
      let (f, first) ← holding [ov] (getMethod ov "__init__" (pl env))
      callWith p3 f first (backTo p3 (starEach (e :: es) env)) []) := by intro _; rfl)
    (hsw : ∀ env, swapsWith (.Call (.Attribute (.Call (.Name "super" p0) [] [] p1) "__init__" p2) (e :: es) [] p3) none p4.line env = pure false := by intro _; rfl) :
    FnOk P w K mg base CX (k + 1) f fd ps sp := by
  obtain ⟨oc, od, kV, doc, pm, an, ct, osl, efd, lk⟩ := M.ex
  obtain ⟨ccl, cdd, fvs, ccs, file, tf, hcode, hvs, hfile⟩ := M.rec_
  obtain ⟨cl, cld, csl, hcell⟩ := M.cell
  obtain ⟨nm, qn, Nn, bs, bm, sn, sub, ab, col, dd, k0, k1, k2, k3, k5, hC, hbm⟩ := M.t.cls
  subst efd
  refine ⟨len, fun A outer s H args us vs Q E hr e0 hb r hsp => ?_⟩
  have hl := len _ _ _ _ hsp
  have KX : K.In s.heap := e0.mod.kin.keeps fun b o e => (e0.bs b o e).1
  have lim : s.heap.NoLimit := e0.mod.nolimit.keeps fun b o e => (e0.bs b o e).1
  have kH : ∀ b o, K.lookup b = some o → H b = none := fun b o e => (e0.bs b o (e0.mod.kin _ _ e)).2
  have hkc : (defScope st).names.lookup ("__class__" : Str) = some .free := S.frk _ (List.mem_singleton.mpr rfl)
  have CA : CellsAt (supF qual st cc cda).cl ["__class__"] [some (.ref C)] s.heap H := by
    have one : ∀ y c, ([("__class__", cc)] : List (Str × Addr)).lookup y = some c → y = ("__class__" : Str) ∧ c = cc := fun y c e => by
      have := PySem.mem_of_lookup e
      obtain ⟨rfl, rfl⟩ := Prod.mk.inj (List.mem_singleton.mp this)
      exact ⟨rfl, rfl⟩
    have ic : s.heap.IsCell cc (some (.ref C)) := ⟨_, KX _ _ hcell, rfl⟩
    refine ⟨rfl, fun y c e => ?_, fun x y c e1 e2 => (one x c e1).1.trans (one y c e2).1.symm, fun i y hi => ?_⟩
    · obtain ⟨_, rfl⟩ := one y c e
      exact ⟨kH _ _ hcell, _, ic⟩
    · match i, hi with
      | 0, hi =>
        cases Option.some.inj hi
        refine ⟨cc, by show ([("__class__", cc)] : List (Str × Addr)).lookup ("__class__" : Str) = some cc; rw [List.lookup_cons]; simp, fun v hv => ?_⟩
        cases Option.some.inj (Option.some.inj hv)
        exact ⟨_, rfl, ic⟩
      | i + 1, hi => simp at hi
  refine ks_codeAny_call_defAt (body := defBody st) (binds := ps.zip us) hr.depth (KX _ _ lk) rfl lim (codeRec_of KX M.code) rfl hb S.nocell (fun ⟨n, _⟩ hy => S.par n (List.of_mem_zip hy).1) (fun h₁ hns kp => ?_) S.co S.gen S.kind
  show _root_.PySem.wpAt _ (A.deeper (envF (supF qual st cc cda) f s.heap.objs.size)) (.func (defBody st) (envF (supF qual st cc cda) f s.heap.objs.size)) (execs (defBody st) (envF (supF qual st cc cda) f s.heap.objs.size)) _ _ _
  obtain ⟨a, ta, t, hv0, ha0, hA, ht, hT⟩ := hbody A outer s H vs Q E (hr.deeper _) hsp
  have I : Inv (ncx CX P w K mg base N (supF qual st cc cda) f A outer s H E) [] (startF N vs [some (.ref C)]) H { s with heap := h₁, toks := s.toks + (ps.zip us).length } := inv_startN S hr.hd e0 hl r CA hns kp
  have hx := r.get hv0
  obtain ⟨ux, hux, rx⟩ := hx
  obtain rfl : ux = Value.ref a := rx
  have ndP : ps.Nodup := by
    have q := S.nd.sublist (List.take_sublist (ps.length + (["__class__"] : List Str).length) N)
    rw [S.pre] at q
    exact (List.nodup_append.mp q).1
  have hself : (ps.zip us).reverse.lookup self = some (Value.ref a) := NdefX.zip_look ndP hps hux
  have hka : (defScope st).names.lookup self = some .local := S.par self (List.mem_of_getElem? hps)
  have K1 : K.In h₁ := KX.keeps kp
  have hD1 := K1 _ _ hC
  obtain ⟨t1, hxo⟩ := exo_at I.hok ha0
  have hcl : clsIn K C = some { name := nm, bases := bs, mro := .ref C :: bm, ns := Nn, qualname := qn, hasDict := true, slotNames := sn, subclasses := sub, abstract := ab, collection := col, hasDel := false } := by unfold clsIn; rw [hC] <;> rfl
  have hsup := M.sup
  unfold ks_superIn at hsup
  rw [hcl, Option.bind_some] at hsup
  have IA : InstAt h₁ a { cls := .ref C, dict := none, data := .fields #[.ref t1, .none, .none, .none, .bool false, .none] } C none := ⟨hxo, rfl, rfl, trivial⟩
  rw [hb0]
  refine ks_wpAt_execs_cons (ks_wpAt_Expr_any (ks_wpAt_MethodCall ?_ (hev _)) I.quiet (hsw _))
  refine ks_wpAt_super_base (env := envF (supF qual st cc cda) f s.heap.objs.size) hks hkc (by decide) rfl (K1 _ _ lk) rfl har rfl (K1 _ _ hcode) rfl hvs hfile M.top ?_
  obtain ⟨mb, h1, h2⟩ := I.mod.blt
  refine ks_loadName_global S.kind hks (loadGlobal_builtin (I.mod.glob.keeps I.bk) M.gs (h1.keeps I.bk) ((h2 "super" (by decide)).trans (by first | boot_by_name | rfl | kernel_rfl)) ⟨rfl, ?_⟩)
  refine wpAny_loadName_free S.kind hkc (by show ([("__class__", cc)] : List (Str × Addr)).lookup ("__class__" : Str) = some cc; rw [List.lookup_cons]; simp) ⟨_, K1 _ _ hcell, rfl⟩ ?_
  rw [hse]
  refine wpAny_loadName_local S.kind hka hns hself ?_
  refine ks_wpAny_isType_cls hD1 rfl ⟨rfl, ?_⟩
  refine ks_wpAny_call_super hD1 rfl hxo rfl (fun c z => nomatch z) (looks_mroIn K1 M.mro) (fun h2 eso k2 => ?_)
  have I1 := I.kept (t' := s.toks + (ps.zip us).length) k2
  have K2 : K.In h2 := K1.keeps k2
  have IA2 : InstAt h2 a { cls := .ref C, dict := none, data := .fields #[.ref t1, .none, .none, .none, .bool false, .none] } C none := ⟨k2 _ _ hxo, rfl, rfl, trivial⟩
  have hI : Looks (model P w) h2 (isInstance (.ref a) (.type "ValueError")) true := IA2.type.andThen (looks_subIn K2 M.ve)
  refine kxs_getMethod kxs_ValueError eso (looks_opaque K2 M.any) (l₀ := .ref C :: bm) ?_ rfl K2 hsup hI (ks_ne K1 IA hcl) (by decide) ?_
  · exact fun A Q E s k q => wpAny_bind ((looks_clsIn K2 hcl) A _ E s k (wpAny_pure q))
  have k3 : ∀ b o, h2.get? b = some o → (h2.push (kxs_mw "ValueError.__init__" a)).get? b = some o := fun b o e => Heap.get?_push_of_some _ e
  have I2 := I1.kept (t' := s.toks + (ps.zip us).length + 1) k3
  have hu : (h2.push (kxs_mw "ValueError.__init__" a)).get? h2.objs.size = some (kxs_mw "ValueError.__init__" a) := Heap.get?_push_at rfl rfl
  have I3 : Inv (ncx CX P w K mg base N (supF qual st cc cda) f A outer s H E) [(h2.objs.size, kxs_mw "ValueError.__init__" a)] (startF N vs [some (.ref C)]) H _ := I2.pins_of fun p hp => by
    rw [List.mem_singleton.mp hp]
    exact ⟨hu, I1.hok.fresh (Nat.le_refl _), (Nat.ne_of_lt I1.lt).symm, I1.nofs (Nat.le_refl _), fun v z => nomatch z⟩
  refine mw_args (i := "ValueError.__init__") (a := a) ?_ (he _) (hpl _)
  refine thn (hA.run p3 [(h2.objs.size, kxs_mw "ValueError.__init__" a)] _ (startF N vs [some (.ref C)]) H _ I3 hT) fun us1 s1 ⟨vs1, H1, J, r1, hl1, ha1, q1⟩ => ?_
  have hu1 : s1.heap.get? h2.objs.size = some (kxs_mw "ValueError.__init__" a) := (J.pin _ (List.mem_append_right _ (List.mem_singleton.mpr rfl))).1
  refine ⟨hu1, call_mw M.t J hu1 ha1 (by rw [← Paired.length r1, sizeLine_eq]; omega) fun s2 J2 => ?_⟩
  have J3 : Inv (ncx CX P w K mg base N (supF qual st cc cda) f A outer s H E) [] (startF N vs [some (.ref C)]) H1 s2 := J2.pins_of fun p hp => absurd hp (by simp)
  refine wpAt_of_wpAny (wpAny_mono (ht.run [] s2 (startF N vs [some (.ref C)]) H1 _ J3 q1) (fun fl s' hs => ?_) fun e s' hs => hs)
  have fin : ∀ {σ' : L2.St} {H' : Hp} {v : V} {u : Value}, Inv (ncx CX P w K mg base N (supF qual st cc cda) f A outer s H E) [] σ' H' s' → L2.RelV v u → Q v H' → CE outer P w H s Q u s' :=
    fun {σ' H' v u} J rv q => ⟨v, H', J.os, J.bare, J.base, J.hok, rv, q⟩
  cases fl with
  | ret u =>
    obtain ⟨v, σ', H', J, rv, q⟩ := hs
    exact fin J rv q
  | next =>
    obtain ⟨σ', H', J, q⟩ := hs
    exact fin (v := V.non) (u := Value.none) J rfl q
  | brk =>
    obtain ⟨_, _, _, q⟩ := hs
    exact False.elim q
  | cont =>
    obtain ⟨_, _, _, q⟩ := hs
    exact False.elim q
end
end L2
/-! ### isinstance of an error with a dict -/
namespace PySem.W
open PySem PySem.Spec PySem.Calls PyProof.Rows
section
variable {prog : Program} {w : World} {A : Around} {E : Value → Shared → Prop} {s : Shared} {K : Frag} {x D : Addr} {ox : Obj} {odx : Option Obj}
theorem findObj_dataX {C : Addr} {name : Str} {a g : Value} (hc : (clsIn K C).isSome = true) (ha : findIn K (.ref C) name = some (some a)) (hg : specialIn K a "__get__" = some (some g)) (ht : takesIn K a = some true) : findObj K C odx name = some (.bind g a) := by
  obtain ⟨cd, hc⟩ := Option.isSome_iff_exists.mp hc
  unfold findObj
  rw [hc, Option.bind_some, ha, Option.bind_some]
  simp [hg, ht]
theorem kin_classX {Q : Option Value → Shared → Prop} (C : L2.ExcC K D) (X : K.In s.heap) (I : InstAt s.heap x ox D odx) (h : Q (some (.ref D)) { s with toks := s.toks + 1 }) : wpAny (model prog w) A (getAttr? (.ref x) "__class__") Q E s := by
  have hf : findObj K D odx "__class__" = some (.bind (.builtin "getset_descriptor.__get__") (.builtin "object.__class__")) := findObj_dataX (by obtain ⟨cd, hc, _⟩ := any_some C.hd; rw [hc]; rfl) C.ha C.hn C.ht
  obtain ⟨hp, g, d, t, os⟩ := s
  have L0 := I.type (M := model prog w)
  have L1 := looks_findIn (M := model prog w) X C.hg
  have L2 := looks_findIn (M := model prog w) X C.hk
  have L3 := looks_find (M := model prog w) X I hf
  have sub : Looks (model prog w) hp (isInstance (.ref x) (.type "BaseException")) true := L0.andThen (looks_subIn X C.hs)
  have hx0 : (false && onTheHeap (Value.builtin "BaseException.__getattribute__")) = false := rfl
  have hx2 : (Value.builtin "BaseException.__getattribute__" == Value.builtin "object.__getattribute__") = false := by decide +kernel
  have hx1 : (onTheHeap (Value.ref D) && Value.builtin "BaseException.__getattribute__" == Value.builtin "object.__getattribute__") = false := by rw [hx2]; rfl
  unfold getAttr? getAttrBy? getAttrBy
  refine wpAny_bind (wpAny_mkText (wpAny_bind (wpAny_attempt (wpAny_holding (wpAny_bind (L0.at (wpAny_bind (L1.at ?_))))))))
  show wpAny _ _ (if (onTheHeap (Value.ref D) && Value.builtin "BaseException.__getattribute__" == Value.builtin "object.__getattribute__") = true then _ else _) _ _ _
  rw [hx1, if_neg Bool.false_ne_true]
  unfold getAttrByItsOwn hookBefore
  refine wpAny_bind ?_
  rw [if_pos (show onTheHeap (Value.ref D) = true from rfl)]
  refine L2.at ?_
  refine wpAny_bind (wpAny_attempt (wpAny_holding ?_))
  unfold callGetattribute
  rw [hx0, if_neg Bool.false_ne_true]
  unfold boundAndCalled
  rw [PySem.F.excAttr_ValueError.ga.bind (.ref x)]
  refine wpAny_bind (wpAny_pure ?_)
  show wpAny _ _ (call (.builtin "BaseException.__getattribute__") [.ref x, .str "__class__" t]) _ _ _
  refine wpAny_call (codeAny_call_builtin PySem.F.excAttr_ValueError.ga.plain PySem.F.entry_bexc_ga ?_)
  refine @check_slot (model prog w) _ _ ⟨hp, g, d, t + 1, os⟩ "BaseException.__getattribute__" "BaseException" "__getattribute__" (.ref x) [.str "__class__" t] [] _ (by decide +kernel) (by decide +kernel) sub (PySem.F.args_bexc_ga (.ref x) (.str "__class__" t)) ?_
  unfold Builtin.«object.__getattribute__»
  refine wpAny_bind (wpAny_of_eq (a := ((Value.ref x : Value), [Value.str "__class__" t])) (by first | rfl | (simp only [slotArgs]; rfl)) ?_)
  refine wpAny_bind (wpAny_pure (wpAny_bind (L0.at (wpAny_bind (L3.at ?_)))))
  show wpAny _ _ (holding [Value.builtin "object.__class__"] (call (.builtin "getset_descriptor.__get__") [.builtin "object.__class__", .ref x, .ref D]) >>= ret) _ _ _
  refine wpAny_bind (wpAny_holding (wpAny_call (class_get (s := ⟨hp, g, d, t + 1, os⟩) (ox := ox) (od := odx) X I C.hm ?_)))
  refine wpAny_pure ?_
  show wpAny _ _ (handedOut (.ref D)) _ _ _
  rw [handedOut_of (v := .ref D) rfl]
  first
    | exact wpAny_pure (wpAny_pure h)
    | exact wpAny_pure h
    | exact wpAny_pure (wpAny_bind (wpAny_pure (wpAny_pure h)))
theorem kitx_errX (C : L2.ExcC K D) : KitX K (.ref x) (.ref D) (fun h => InstAt h x ox D odx) where
  ty := fun _ _ _ I => I.type
  it := fun _ _ X _ => by
    obtain ⟨cdD, hcD, _⟩ := any_some C.hd
    unfold clsIn at hcD
    split at hcD
    · rename_i c' d' cd' sl' ho
      intro A' Q' E' s' k q
      unfold isType loadHead
      exact wpAny_bind (wpAny_loadPart (k _ _ (X _ _ ho)) (wpAny_pure q))
    · cases hcD
  ne := fun h tp dd its n sl X htp => by
    obtain ⟨cdD, hcD, _⟩ := any_some C.hd
    refine Bool.eq_false_iff.mpr fun q => ?_
    have e : D = tp := Value.ref.inj (beq_iff_eq.mp q)
    subst e
    unfold clsIn at hcD
    split at hcD
    · rename_i c' d' cd' sl' ho
      have z := (X _ _ ho).symm.trans htp
      cases z
    · cases hcD
  ca := fun X I k => kin_classX C X I k
end
end PySem.W
namespace L2
open PySem PySem.Spec PyProof.Rows
/-- isinstance(e, C), whether e has a dict or not -/
def rIsY (K : PySem.W.Frag) (cls : Value) (d : Option Addr) (a : Addr) : List V → Hp → VK → Prop := fun xs H Q => ∃ (D c : Addr) (b : Bool), cls = .ref D ∧ (d = none ∨ ∃ (dd : Addr) (fs : List (Str × V)), d = some dd ∧ H dd = some (.xd fs)) ∧ ExcC K D ∧ xs = [.ref a, .ref c] ∧ PySem.W.kitOne K (.ref D) (.ref c) = some b ∧ Q (.bl b) H
theorem call_isY {X : Cx} {a : Addr} {oe : Obj} {cls : Value} {d : Option Addr} {pn : List (Addr × Obj)} (hz : Zc cls d oe) (hf : ∃ vs, oe.data = .fields vs) : CallR (X.suite a ((a, oe) :: pn)) (.builtin "isinstance") (rIsY X.K cls d a) := by
  intro pins s σ H xs us Q I r h
  obtain ⟨D, c, b, rfl, hd, C, rfl, e, q⟩ := h
  cases r with
  | cons rx rr =>
    cases rr with
    | cons rt rr =>
      cases rr
      cases rx
      cases rt
      obtain ⟨hget, _⟩ := I.pin (a, oe) (List.mem_append.mpr (.inl List.mem_cons_self))
      obtain ⟨vs, hv⟩ := hf
      have J : ∃ odx, PySem.W.InstAt s.heap a oe D odx := by
        obtain ⟨oc, od, oda, osl⟩ := oe
        obtain ⟨h1, h2⟩ := hz
        dsimp only at h1 h2 hv
        subst h1 h2 hv
        rcases hd with rfl | ⟨dd, fs, rfl, ed⟩
        · exact ⟨none, hget, rfl, rfl, trivial⟩
        · have hx : ObjOk X.prog X.w H s.heap dd (.xd fs) := I.hok dd _ ed
          obtain ⟨mA, hns, hr⟩ := hx
          obtain ⟨od, ho, hl⟩ := lookIn_ns hns
          exact ⟨some od, hget, rfl, rfl, ho⟩
      obtain ⟨odx, J⟩ := J
      exact PySem.W.kia_one (PySem.W.kitx_errX C) I.kIn J e (fun z => nomatch z) fun tk => ⟨.bl b, H, I.kept (t' := tk) fun _ _ z => z, rfl, q⟩
/-! ### f-strings with None -/
def tFmtN (te : TE) : TE := fun σ H Q => te σ H fun x H1 => (x = .non ∧ Q (.str "None") H1) ∨ ∃ i : Int, x = .int i ∧ i.natAbs.log2 < 1920 ∧ Q (.str (toString i)) H1
theorem pe_fmtN {X : Cx} {e : Expr} {te : TE} {pos : Pos} (he : PE X e te) : PE X (.FormattedValue e (-1) none pos) (tFmtN te) := by
  refine ⟨fun pins s σ H Q I h => ?_⟩
  refine wpAny_FormattedValue_plain (thn (he.run pins s σ H _ I h) fun v s1 hv => ?_)
  obtain ⟨x, H1, I1, r1, q⟩ := hv
  rcases q with ⟨rfl, q⟩ | ⟨i, rfl, hz, q⟩
  · obtain rfl : v = Value.none := r1
    exact wpAny_formatField_none ⟨.str "None", H1, I1.tok _, ⟨_, rfl⟩, q⟩
  · obtain ⟨t, rfl⟩ := r1
    exact wpAny_formatField_int hz ⟨.str (toString i), H1, I1.tok _, ⟨_, rfl⟩, q⟩
end L2
set_option Elab.async false
set_option linter.all false
set_option maxRecDepth 100000
set_option maxHeartbeats 2000000
namespace RH
open PySem PySem.Spec PyProof.Rows L2
def topS (i : Nat) : Stmt := PySem.Challenge.pw_restlesshelf_k19_looks_refused.main.body.getD i (.Pass ⟨0, 0, 0, 0⟩)
abbrev st_e_BadHabit : Stmt := inClass (topS 2) 0
theorem sc_e_BadHabit : NdefX.NScope ["self", "place", "__class__"] ["self", "place"] ["__class__"] (defScope st_e_BadHabit) := NdefX.nscope_by (by decide +kernel)
abbrev st_e_BadProgram : Stmt := inClass (topS 6) 0
theorem sc_e_BadProgram : NdefX.NScope ["self", "index", "__class__"] ["self", "index"] ["__class__"] (defScope st_e_BadProgram) := NdefX.nscope_by (by decide +kernel)
abbrev st_is_integer : Stmt := topS 19
theorem sc_is_integer : FnScope ["value"] ["value"] (defScope st_is_integer) :=
  ⟨rfl, rfl, rfl, by decide +kernel, rfl, by decide +kernel, by decide +kernel⟩
abbrev st_is_number : Stmt := topS 20
theorem sc_is_number : FnScope ["value", "low", "high"] ["value", "low", "high"] (defScope st_is_number) :=
  ⟨rfl, rfl, rfl, by decide +kernel, rfl, by decide +kernel, by decide +kernel⟩
abbrev st_is_row : Stmt := topS 21
theorem sc_is_row : FnScope ["value", "low", "high"] ["value", "low", "high"] (defScope st_is_row) :=
  ⟨rfl, rfl, rfl, by decide +kernel, rfl, by decide +kernel, by decide +kernel⟩
abbrev st_is_place : Stmt := topS 22
theorem sc_is_place : FnScope ["value", "places"] ["value", "places"] (defScope st_is_place) :=
  ⟨rfl, rfl, rfl, by decide +kernel, rfl, by decide +kernel, by decide +kernel⟩
abbrev st_are_places : Stmt := topS 23
theorem sc_are_places : FnScope ["value", "places", "place"] ["value", "places"] (defScope st_are_places) :=
  ⟨rfl, rfl, rfl, by decide +kernel, rfl, by decide +kernel, by decide +kernel⟩
abbrev st_is_layout : Stmt := topS 24
theorem sc_is_layout : FnScope ["value", "places"] ["value", "places"] (defScope st_is_layout) :=
  ⟨rfl, rfl, rfl, by decide +kernel, rfl, by decide +kernel, by decide +kernel⟩
abbrev st_is_word : Stmt := topS 25
theorem sc_is_word : FnScope ["value", "places"] ["value", "places"] (defScope st_is_word) :=
  ⟨rfl, rfl, rfl, by decide +kernel, rfl, by decide +kernel, by decide +kernel⟩
abbrev st_is_instruction : Stmt := topS 26
theorem sc_is_instruction : FnScope ["value", "places", "count", "is_restless", "word"] ["value", "places", "count", "is_restless"] (defScope st_is_instruction) :=
  ⟨rfl, rfl, rfl, by decide +kernel, rfl, by decide +kernel, by decide +kernel⟩
abbrev st_check_number : Stmt := topS 27
theorem sc_check_number : FnScope ["value", "low", "high"] ["value", "low", "high"] (defScope st_check_number) :=
  ⟨rfl, rfl, rfl, by decide +kernel, rfl, by decide +kernel, by decide +kernel⟩
abbrev st_check_string : Stmt := topS 28
theorem sc_check_string : FnScope ["text"] ["text"] (defScope st_check_string) :=
  ⟨rfl, rfl, rfl, by decide +kernel, rfl, by decide +kernel, by decide +kernel⟩
abbrev st_check_places : Stmt := topS 29
theorem sc_check_places : FnScope ["places"] ["places"] (defScope st_check_places) :=
  ⟨rfl, rfl, rfl, by decide +kernel, rfl, by decide +kernel, by decide +kernel⟩
abbrev st_check_habit : Stmt := topS 30
theorem sc_check_habit : FnScope ["habit", "place", "moves"] ["habit"] (defScope st_check_habit) :=
  ⟨rfl, rfl, rfl, by decide +kernel, rfl, by decide +kernel, by decide +kernel⟩
abbrev st_check_layout : Stmt := topS 31
theorem sc_check_layout : FnScope ["layout", "places"] ["layout", "places"] (defScope st_check_layout) :=
  ⟨rfl, rfl, rfl, by decide +kernel, rfl, by decide +kernel, by decide +kernel⟩
abbrev st_check_place : Stmt := topS 32
theorem sc_check_place : FnScope ["place", "places"] ["place", "places"] (defScope st_check_place) :=
  ⟨rfl, rfl, rfl, by decide +kernel, rfl, by decide +kernel, by decide +kernel⟩
abbrev st_check_word : Stmt := topS 33
theorem sc_check_word : FnScope ["word", "places"] ["word", "places"] (defScope st_check_word) :=
  ⟨rfl, rfl, rfl, by decide +kernel, rfl, by decide +kernel, by decide +kernel⟩
abbrev st_check_program : Stmt := topS 34
theorem sc_check_program : FnScope ["program", "places", "most", "is_restless", "index", "instruction"] ["program", "places", "most", "is_restless"] (defScope st_check_program) :=
  ⟨rfl, rfl, rfl, by decide +kernel, rfl, by decide +kernel, by decide +kernel⟩
abbrev st_check_restless : Stmt := topS 35
theorem sc_check_restless : FnScope ["program", "places"] ["program", "places"] (defScope st_check_restless) :=
  ⟨rfl, rfl, rfl, by decide +kernel, rfl, by decide +kernel, by decide +kernel⟩
abbrev st_book_at : Stmt := topS 41
theorem sc_book_at : FnScope ["habit", "layout", "word", "place"] ["habit", "layout", "word", "place"] (defScope st_book_at) :=
  ⟨rfl, rfl, rfl, by decide +kernel, rfl, by decide +kernel, by decide +kernel⟩
abbrev st_books_of : Stmt := topS 42
theorem sc_books_of : FnScope ["habit", "layout", "word", "books", "place"] ["habit", "layout", "word"] (defScope st_books_of) :=
  ⟨rfl, rfl, rfl, by decide +kernel, rfl, by decide +kernel, by decide +kernel⟩
abbrev st_loss_shown : Stmt := topS 43
theorem sc_loss_shown : FnScope ["habit", "layout", "word", "spot", "stands", "should_stand", "at", "place"] ["habit", "layout", "word", "spot"] (defScope st_loss_shown) :=
  ⟨rfl, rfl, rfl, by decide +kernel, rfl, by decide +kernel, by decide +kernel⟩
abbrev st_hidden_losses : Stmt := topS 44
theorem sc_hidden_losses : FnScope ["habit", "layout", "word", "nothing_moves", "spot", "place"] ["habit", "layout", "word"] (defScope st_hidden_losses) :=
  ⟨rfl, rfl, rfl, by decide +kernel, rfl, by decide +kernel, by decide +kernel⟩
abbrev st_check_word_on_shelf : Stmt := topS 45
theorem sc_check_word_on_shelf : FnScope ["habit", "layout", "word"] ["habit", "layout", "word"] (defScope st_check_word_on_shelf) :=
  ⟨rfl, rfl, rfl, by decide +kernel, rfl, by decide +kernel, by decide +kernel⟩
abbrev st_lines_in : Stmt := topS 48
theorem sc_lines_in : FnScope ["text", "line", "word"] ["text"] (defScope st_lines_in) :=
  ⟨rfl, rfl, rfl, by decide +kernel, rfl, by decide +kernel, by decide +kernel⟩
abbrev st_write_program : Stmt := topS 53
theorem sc_write_program : FnScope ["places", "program", "instruction", "part"] ["places", "program"] (defScope st_write_program) :=
  ⟨rfl, rfl, rfl, by decide +kernel, rfl, by decide +kernel, by decide +kernel⟩
abbrev st_read_program : Stmt := topS 54
theorem sc_read_program : FnScope ["places", "text", "program", "at", "instruction", "words"] ["places", "text"] (defScope st_read_program) :=
  ⟨rfl, rfl, rfl, by decide +kernel, rfl, by decide +kernel, by decide +kernel⟩
abbrev st__law_taken : Stmt := topS 58
theorem sc__law_taken : FnScope ["row", "many", "found", "cell"] ["row", "many"] (defScope st__law_taken) :=
  ⟨rfl, rfl, rfl, by decide +kernel, rfl, by decide +kernel, by decide +kernel⟩
abbrev st__law_order : Stmt := topS 59
theorem sc__law_order : FnScope ["row", "many", "left", "found"] ["row", "many"] (defScope st__law_order) :=
  ⟨rfl, rfl, rfl, by decide +kernel, rfl, by decide +kernel, by decide +kernel⟩
abbrev st__law_habit : Stmt := topS 60
theorem sc__law_habit : FnScope ["row", "places", "way", "found", "place", "moved", "other", "spot"] ["row", "places"] (defScope st__law_habit) :=
  ⟨rfl, rfl, rfl, by decide +kernel, rfl, by decide +kernel, by decide +kernel⟩
abbrev st__law_pick : Stmt := topS 61
theorem sc__law_pick : FnScope ["row", "things"] ["row", "things"] (defScope st__law_pick) :=
  ⟨rfl, rfl, rfl, by decide +kernel, rfl, by decide +kernel, by decide +kernel⟩
abbrev st__law_refused : Stmt := topS 62
theorem sc__law_refused : FnScope ["work", "found", "e", "kinds", "names"] ["work"] (defScope st__law_refused) :=
  ⟨rfl, rfl, rfl, by decide +kernel, rfl, by decide +kernel, by decide +kernel⟩
abbrev st__law_works : Stmt := topS 63
theorem sc__law_works : FnScope ["one", "other", "third", "fourth", "works"] ["one", "other", "third", "fourth"] (defScope st__law_works) :=
  ⟨rfl, rfl, rfl, by decide +kernel, rfl, by decide +kernel, by decide +kernel⟩
abbrev st__law_texts : Stmt := topS 64
theorem sc__law_texts : FnScope ["one", "other", "works"] ["one", "other"] (defScope st__law_texts) :=
  ⟨rfl, rfl, rfl, by decide +kernel, rfl, by decide +kernel, by decide +kernel⟩
abbrev st_law : Stmt := topS 65
theorem sc_law : FnScope ["script", "row", "places", "habit", "layout", "bad", "wrong", "word", "spot", "number", "value", "work"] ["script"] (defScope st_law) :=
  ⟨rfl, rfl, rfl, by decide +kernel, rfl, by decide +kernel, by decide +kernel⟩
/-! ### what the top has written -/
/-- the def x of the text stands in the module under its name -/
structure Df (K : PySem.W.Frag) (mg : Str → Option Value) (x : Str) (st : Stmt) (ps : List Str) : Prop where
  ex : ∃ (f : Addr) (fd : FuncData), Fun K x x st f fd ∧ mg x = some (.ref f) ∧ Binds K fd ps []
/-- names of the interpreter that the module leaves alone -/
structure Bu (mg : Str → Option Value) : Prop where
  isi : mg "isinstance" = none
  int : mg "int" = none
  bool : mg "bool" = none
  str : mg "str" = none
  tuple : mg "tuple" = none
  list : mg "list" = none
  len : mg "len" = none
  all : mg "all" = none
  zip : mg "zip" = none
  range : mg "range" = none
  sorted : mg "sorted" = none
  enumerate : mg "enumerate" = none
  max : mg "max" = none
section
variable {P : Program} {w : World} {K : PySem.W.Frag} {mg : Str → Option Value} {base : Heap}
/-- a def that may be called by its name -/
structure Cal (P : Program) (w : World) (K : PySem.W.Frag) (mg : Str → Option Value) (base : Heap) (k : Nat) (x : Str) (sp : Sp) : Prop where
  ex : ∃ (f : Addr) (fd : FuncData) (ps : List Str), FnOk P w K mg base CX0 k f fd ps sp ∧ mg x = some (.ref f) ∧ PySem.W.keepIn K (.ref f) = true ∧ Binds K fd ps []
theorem mkCal {x : Str} {st : Stmt} {N ps : List Str} {k : Nat} {sp : Sp} (F : Df K mg x st ps) (S : FnScope N ps (defScope st)) (len : ∀ vs H Q E, sp vs H Q E → vs.length = ps.length)
    (hbody : ∀ (f : Addr) (cdv : Value) (A : Around) (outer : List Env) (s : Shared) (H : Hp) (vs : List V) (Q : VK) (E : XK), Room k (A.deeper (envOfC x (defScope st) s.heap.objs.size f cdv)) → sp vs H Q E →
      ∃ t, PSs (cxOf CX0 P w K mg base N x (defScope st) f cdv A outer s H E).nox (defBody st) t ∧ t { nx := fun _ H' => Q .non H', rt := Q } (start N vs) H) : Cal P w K mg base (k + 1) x sp := by
  obtain ⟨f, fd, F, g, b⟩ := F.ex
  exact ⟨f, fd, ps, F.ok S len (hbody f), g, F.kp, b⟩
theorem Cal.imp {k : Nat} {x : Str} {sp sp' : Sp} (c : Cal P w K mg base k x sp) (h : ∀ vs H Q E, sp' vs H Q E → sp vs H Q E) : Cal P w K mg base k x sp' := by
  obtain ⟨f, fd, ps, F, g, kp, b⟩ := c.ex
  exact ⟨f, fd, ps, F.imp h, g, kp, b⟩
end
theorem pc {X : Cx} {k j : Nat} {x : Str} {sp : Sp} {p pos : Pos} {e : Expr} {es : List Expr} {t : TA} (c : Cal X.prog X.w X.K X.mg X.base k x sp) (hr : Room j X.A) (ha : PA X (e :: es) t) (hk : k ≤ j := by decide) (hg : Gl X x := by rfl)
    (hdb : (x == ("__debug__" : Str)) = false := by decide) (he : starEach (e :: es) X.env = (false, eval e X.env) :: starEach es X.env := by rfl) (hpl : (backTo pos (starEach es X.env)).any (·.1) = false := by rfl) :
    PE X (.Call (.Name x p) (e :: es) [] pos) (tCall sp [] E0 t) := by
  obtain ⟨f, fd, ps, F, hm, kp, b⟩ := c.ex
  exact pe_call F (hr.mono hk) hg hm kp b .nil pass0 ha hdb he hpl
/-- a statement that is never come to -/
theorem ps_no {X : Cx} {st : Stmt} : PS X st (fun _ _ _ => False) := ⟨fun _ _ _ _ _ _ h => h.elim⟩
/-! ### heaps, tuples of ints, and of such -/
theorem same_new {H : Hp} {p : Addr} {o : HO} (h : H p = none) : Same H (upd H p o) := fun b x e => by
  rw [upd_ne (ne_of_none e h)]
  exact e
theorem seqT {K : PySem.W.Frag} {H H' : Hp} {a : Addr} {xs : List V} (e : ∀ o, H a = some o → H' a = some o) (h : SqT K H a xs) : SqT K H' a xs := by
  rcases h with (h | ⟨o, h⟩) | h
  · exact .inl (.inl (e _ h))
  · exact .inl (.inr ⟨o, e _ h⟩)
  · exact .inr h
theorem onT {K : PySem.W.Frag} {H H' : Hp} {a : Addr} {xs : List V} (e : Same H H') (h : SqT K H a xs) : SqT K H' a xs := seqT (fun o => e a o) h
theorem tupAt {K : PySem.W.Frag} {H : Hp} {a : Addr} {xs : List V} (h : H a = some (.tup xs)) : SqT K H a xs := .inl (.inl h)
theorem lstAt {K : PySem.W.Frag} {H : Hp} {a : Addr} {xs : List V} (h : H a = some (.lst xs)) : SqL K H a xs := .inl (.inl h)
/-- a tuple's type -/
theorem ty_tup {K : PySem.W.Frag} {H : Hp} {a : Addr} {xs : List V} (h : SqT K H a xs) : TyX K H (.ref a) (.type "tuple") := by
  rcases h with (h | ⟨o, h⟩) | ⟨o, its, n, h, c, _⟩
  · exact .base (.tup h)
  · exact .fTuple h
  · exact .kTuple h c
/-- each by each -/
inductive Each {α : Type} (R : V → α → Prop) : List V → List α → Prop
  | nil : Each R [] []
  | cons {v : V} {d : α} {vs : List V} {ds : List α} : R v d → Each R vs ds → Each R (v :: vs) (d :: ds)
theorem Each.len {α : Type} {R : V → α → Prop} : ∀ {vs : List V} {ds : List α}, Each R vs ds → vs.length = ds.length
  | _, _, .nil => rfl
  | _, _, .cons _ t => congrArg (· + 1) t.len
theorem Each.imp {α : Type} {R R' : V → α → Prop} (f : ∀ v d, R v d → R' v d) : ∀ {vs : List V} {ds : List α}, Each R vs ds → Each R' vs ds
  | _, _, .nil => .nil
  | _, _, .cons h t => .cons (f _ _ h) (t.imp f)
theorem Each.at {α : Type} {R : V → α → Prop} : ∀ {vs : List V} {ds : List α} {i : Nat} {v : V}, Each R vs ds → vs[i]? = some v → ∃ d, ds[i]? = some d ∧ R v d
  | _, _, _, _, .nil, e => by simp at e
  | _, _, 0, _, .cons h _, e => by
    have e' := Option.some.inj e
    subst e'
    exact ⟨_, rfl, h⟩
  | _, _, i + 1, _, .cons _ t, e => t.at (i := i) e
theorem Each.snoc {α : Type} {R : V → α → Prop} {v : V} {d : α} (h : R v d) : ∀ {vs : List V} {ds : List α}, Each R vs ds → Each R (vs ++ [v]) (ds ++ [d])
  | _, _, .nil => .cons h .nil
  | _, _, .cons g t => .cons g (t.snoc h)
/-- a tuple of ints -/
def TI (K : PySem.W.Frag) (H : Hp) (v : V) (ns : List Int) : Prop := ∃ a, v = .ref a ∧ SqT K H a (ns.map V.int)
/-- a tuple of such -/
def TII (K : PySem.W.Frag) (H : Hp) (v : V) (nss : List (List Int)) : Prop := ∃ a vs, v = .ref a ∧ SqT K H a vs ∧ Each (TI K H) vs nss
def THs (K : PySem.W.Frag) (H : Hp) (v : V) (hs : List (List (List Int))) : Prop := ∃ a vs, v = .ref a ∧ SqT K H a vs ∧ Each (TII K H) vs hs
/-- all tuples stand -/
def Tups (K : PySem.W.Frag) (H H' : Hp) : Prop := ∀ a xs, SqT K H a xs → SqT K H' a xs
theorem Same.tups {K : PySem.W.Frag} {H H' : Hp} (e : Same H H') : Tups K H H' := fun _ _ h => onT e h
theorem TI.on {K : PySem.W.Frag} {H H' : Hp} {v : V} {ns : List Int} (e : Tups K H H') (h : TI K H v ns) : TI K H' v ns := let ⟨a, h1, h2⟩ := h; ⟨a, h1, e _ _ h2⟩
theorem TII.on {K : PySem.W.Frag} {H H' : Hp} {v : V} {nss : List (List Int)} (e : Tups K H H') (h : TII K H v nss) : TII K H' v nss := let ⟨a, vs, h1, h2, h3⟩ := h; ⟨a, vs, h1, e _ _ h2, h3.imp fun _ _ z => z.on e⟩
theorem THs.on {K : PySem.W.Frag} {H H' : Hp} {v : V} {hs : List (List (List Int))} (e : Tups K H H') (h : THs K H v hs) : THs K H' v hs := let ⟨a, vs, h1, h2, h3⟩ := h; ⟨a, vs, h1, e _ _ h2, h3.imp fun _ _ z => z.on e⟩
theorem at_map {ns : List Int} {i : Nat} {n : Int} (h : ns[i]? = some n) : (ns.map V.int)[i]? = some (.int n) := by
  rw [List.getElem?_map, h]
  rfl
theorem all_snoc {α : Type} (f : α → Bool) {l : List α} {i : Nat} {x : α} (h : l[i]? = some x) : (l.take (i + 1)).map f = (l.take i).map f ++ [f x] := by
  rw [List.take_add_one, h, List.map_append]
  rfl
/-! ### lists of ints, compared -/
theorem dpAll_ints {K : PySem.W.Frag} {H : Hp} : ∀ ns : List Int, DpAll K H (ns.map V.int) (ns.map PyData.int)
  | [] => .nil
  | n :: ns => .cons (.int n) (dpAll_ints ns)
theorem dp_lst {K : PySem.W.Frag} {H : Hp} {a : Addr} {ns : List Int} (h : SqL K H a (ns.map V.int)) : Dp K H (.ref a) (.list (ns.map PyData.int)) := .lst h (dpAll_ints ns)
theorem eqv_lst (ns ms : List Int) : PyData.eqv (.list (ns.map PyData.int)) (.list (ms.map PyData.int)) = decide (ns = ms) := by
  rw [PyData.eqv]
  exact PySem.W.ked_eqvAll ns ms
def rg (n : Nat) : List Int := (List.range n).map fun i : Nat => (i : Int)
theorem rgV_rg (n : Nat) : rgV 0 (n : Int) = (rg n).map V.int := by
  unfold rgV rg
  rw [List.map_map, Int.sub_zero, Int.toNat_natCast]
  refine List.map_congr_left fun i _ => ?_
  show V.int (0 + (i : Int)) = V.int (i : Int)
  rw [Int.zero_add]
theorem rg_len (n : Nat) : (rg n).length = n := by
  unfold rg
  rw [List.length_map, List.length_range]
theorem rg_mem {n : Nat} {x : Int} : x ∈ rg n ↔ 0 ≤ x ∧ x < n := by
  unfold rg
  rw [List.mem_map]
  constructor
  · rintro ⟨i, h, rfl⟩
    have := List.mem_range.mp h
    omega
  · rintro ⟨h1, h2⟩
    exact ⟨x.toNat, List.mem_range.mpr (by omega), by omega⟩
/-! ### walks over enumerate and zip of tuples -/
section
variable {K : PySem.W.Frag} {a b : Addr} {xs ys : List V}
theorem for_enumT {g : TG} {tb : TS} {D : Ends} {σ : L2.St} {H : Hp} (Pv : Nat → L2.St → Hp → Prop) (h0 : Pv 0 σ H) (hl : ∀ i σ H, Pv i σ H → SqT K H a xs)
    (hs : ∀ i x T σ H, xs[i]? = some x → Pv i σ H → H T = none → g (.ref T) σ (upd H T (.tup [.int (i : Nat), x])) fun σ2 H2 => tb { D with nx := Pv (i + 1), ct := Pv (i + 1), bk := D.nx } σ2 H2) (hd : ∀ σ H, Pv xs.length σ H → D.nx σ H) :
    ∃ W : Nat → Nat → L2.St → Hp → Prop, (∃ m, W 0 m σ H) ∧ ∀ i m σ H, W i m σ H →
      ((IteT K a).stop i H ∧ D.nx σ H) ∨ ((IteT K a).go i H ∧ ∃ N : L2.St → Hp → Prop, (∀ σ' H', N σ' H' → ∃ m', m' < m ∧ W (i + 1) m' σ' H') ∧ ∀ x H', (IteT K a).yld i H x H' → g x σ H' fun σ2 H2 => tb { D with nx := N, ct := N, bk := D.nx } σ2 H2) := by
  refine ⟨fun i m σ H => m = xs.length - i ∧ i ≤ xs.length ∧ Pv i σ H, ⟨xs.length, rfl, Nat.zero_le _, h0⟩, ?_⟩
  rintro i m σ H ⟨rfl, hi, p⟩
  have q := hl i σ H p
  by_cases hlt : i < xs.length
  · have hx : xs[i]? = some xs[i] := List.getElem?_eq_getElem hlt
    refine .inr ⟨⟨xs, _, q, hx⟩, Pv (i + 1), fun σ' H' p' => ⟨xs.length - (i + 1), by omega, rfl, hlt, p'⟩, fun v H' y => ?_⟩
    obtain ⟨T, x', rfl, hT, rfl, f1⟩ := y
    exact hs i x' T σ H (f1 xs q) p hT
  · have e : i = xs.length := by omega
    subst e
    exact .inl ⟨⟨xs, q, Nat.le_refl _⟩, hd σ H p⟩
end
end RH
set_option Elab.async false
set_option linter.all false
set_option maxRecDepth 100000
set_option maxHeartbeats 2000000
set_option Elab.async false
set_option linter.all false
set_option maxRecDepth 100000
set_option maxHeartbeats 2000000
namespace RH
open PySem PySem.Spec PyProof.Rows L2
section
variable {P : Program} {w : World} {K : PySem.W.Frag} {mg : Str → Option Value} {base : Heap}
/-- all are places -/
def inP (p : Int) (ns : List Int) : Bool := ns.all fun i => decide (0 ≤ i) && decide (i ≤ p - 1)
end
end RH
set_option Elab.async false
set_option linter.all false
set_option maxRecDepth 100000
set_option maxHeartbeats 2000000
namespace RH
open PySem PySem.Spec PyProof.Rows L2
/-! ### slices and constants -/
theorem cut_from (xs : List V) (k : Nat) : cutV xs (some (k : Int)) none = xs.drop k := by
  unfold cutV
  rw [HT.sIx_nat, HT.sIx_none]
  rcases Nat.le_total k xs.length with h | h
  · rw [Nat.min_eq_left h]
    exact List.take_of_length_le (by rw [List.length_drop]; exact Nat.le_refl _)
  · rw [Nat.min_eq_right h, Nat.sub_self, List.take_zero, List.drop_eq_nil_of_le h]
theorem cut_to (xs : List V) (k : Nat) : cutV xs none (some (k : Int)) = xs.take k := by
  unfold cutV
  rw [HT.sIx_nat, HT.sIx_none, List.drop_zero, Nat.sub_zero]
  rcases Nat.le_total k xs.length with h | h
  · rw [Nat.min_eq_left h]
  · rw [Nat.min_eq_right h, List.take_length, List.take_of_length_le h]
/-- t[k:], k written -/
theorem slT_from {K : PySem.W.Frag} {H : Hp} {a : Addr} {xs : List V} {Q : VK} (z : Int) (k : Nat) (hz : z = (k : Int)) (h : SqT K H a xs) (q : ∀ b H2, Same H H2 → SqT K H2 b (xs.drop k) → Q (.ref b) H2) : rSlA K (.ref a) (some z) none H Q := by
  subst hz
  refine ⟨a, xs, rfl, h, fun hf => q a H (Same.refl H) ?_, fun _ p hp => q p _ (same_new hp) (tupAt (by rw [upd_same, cut_from]))⟩
  have e := hf.1
  rw [HT.sIx_nat] at e
  rcases Nat.le_total k xs.length with h' | h'
  · rw [Nat.min_eq_left h'] at e
    rw [e, List.drop_zero]
    exact h
  · rw [Nat.min_eq_right h'] at e
    have e2 : xs = [] := List.eq_nil_of_length_eq_zero e
    subst e2
    rw [List.drop_nil]
    exact h
/-- a number that the module keeps -/
theorem pk {X : Cx} {x : Str} {i : Int} {pos : Pos} (h : ∃ t, X.mg x = some (.int i t)) (hg : Gl X x := by rfl) (hn : x ≠ "__name__" := by decide) (hd : (x == ("__debug__" : Str)) = false := by decide) : PE X (.Name x pos) (tC (.int i)) := by
  obtain ⟨t, h⟩ := h
  exact pe_glob (v := .int i) hg h ⟨_, rfl⟩ hd
/-! ### rules within a comprehension: the written part is told -/
def rLenK (K : PySem.W.Frag) : List V → Hp → VK → Prop := fun xs H Q => ∃ p ys, xs = [.ref p] ∧ (SqL K H p ys ∨ SqT K H p ys) ∧ Q (.int ys.length) H
theorem cl_len {X : Cx} (K : PySem.W.Frag) (h : X.K = K := by rfl) : CallR X (.builtin "len") (rLenK K) := by
  subst h
  exact call_len_seq
theorem ixT {X : Cx} (K : PySem.W.Frag) (h : X.K = K := by rfl) : IxR X (rIxT K) := by
  subst h
  exact ix_tup
theorem opIn {X : Cx} (K : PySem.W.Frag) (h : X.K = K := by rfl) : OpR X (compareOp .In) (rIn K false) := by
  subst h
  exact op_in_seq
/-! ### rising, a layout, a habit -/
def isLay (p : Nat) (ns : List Int) : Bool := ns.isPerm (rg p)
theorem rg_le (p : Nat) : (rg p).Pairwise (· ≤ ·) := by
  unfold rg
  rw [List.pairwise_map]
  exact (List.pairwise_lt_range (n := p)).imp fun h => by omega
end RH
set_option Elab.async false
set_option linter.all false
set_option maxRecDepth 100000
set_option maxHeartbeats 2000000
namespace RH
open PySem PySem.Spec PyProof.Rows L2
/-! ### the mathematics of marks -/
theorem ifT {c : Bool} {A B : Prop} (hc : c = true) (h : A) : if c = true then A else B := by
  rw [if_pos hc]
  exact h
theorem ifF {c : Bool} {A B : Prop} (hc : c = false) (h : B) : if c = true then A else B := by
  rw [hc, if_neg Bool.false_ne_true]
  exact h
/-- a habit of n places -/
structure Hb (n : Nat) (h : List (List Int)) : Prop where
  len : h.length = n
  perm : ∀ ns ∈ h, ns.Perm (rg n)
  lo : 2 ≤ n
  hi : n ≤ 5
theorem Hb.short {n : Nat} {h : List (List Int)} (q : Hb n h) {ns : List Int} (hm : ns ∈ h) : ns.length = n := by
  rw [(q.perm ns hm).length_eq, rg_len]
def mv (h : List (List Int)) (t s : Int) : Int := (h.getD t.toNat []).getD s.toNat 0
theorem Hb.at {n : Nat} {h : List (List Int)} (q : Hb n h) {t s : Int} (t0 : 0 ≤ t) (t1 : t < n) (s0 : 0 ≤ s) (s1 : s < n) :
    ∃ ns, h[t.toNat]? = some ns ∧ ns[s.toNat]? = some (mv h t s) ∧ 0 ≤ mv h t s ∧ mv h t s < n := by
  have h1 : t.toNat < h.length := by rw [q.len]; omega
  have e1 : h[t.toNat]? = some h[t.toNat] := List.getElem?_eq_getElem h1
  have hm : h[t.toNat] ∈ h := List.getElem_mem h1
  have h2 : s.toNat < h[t.toNat].length := by rw [q.short hm]; omega
  have e2 : h[t.toNat][s.toNat]? = some h[t.toNat][s.toNat] := List.getElem?_eq_getElem h2
  have e4 : h.getD t.toNat [] = h[t.toNat] := by
    rw [List.getD_eq_getElem?_getD, e1]
    rfl
  have e3 : mv h t s = h[t.toNat][s.toNat] := by
    unfold mv
    rw [e4, List.getD_eq_getElem?_getD, e2]
    rfl
  have h4 := rg_mem.mp ((q.perm _ hm).mem_iff.mp (List.getElem_mem h2))
  rw [← e3] at h4
  exact ⟨_, e1, by rw [e3]; exact e2, h4⟩
/-- an item of an int's place -/
theorem at_int {α : Type} {xs : List α} {z : Int} {v : α} (h0 : 0 ≤ z) (h : xs[z.toNat]? = some v) : atI xs z = some v := by
  have e : z = ((z.toNat : Nat) : Int) := by omega
  rw [e]
  exact atI_nat h
end RH
set_option Elab.async false
set_option linter.all false
set_option maxRecDepth 100000
set_option maxHeartbeats 2000000
namespace RH
open PySem PySem.Spec PyProof.Rows L2
/-! ### the law's own row of draws -/
/-- all but what stands at p is as it was -/
def But (p : Addr) (H H' : Hp) : Prop := ∀ b o, H b = some o → b ≠ p → H' b = some o
theorem But.refl (p : Addr) (H : Hp) : But p H H := fun _ _ e _ => e
theorem But.trans {p : Addr} {H H1 H2 : Hp} (a : But p H H1) (b : But p H1 H2) : But p H H2 := fun c o e n => b c o (a c o e n) n
theorem But.same {p : Addr} {H H1 : Hp} (a : Same H H1) : But p H H1 := fun c o e _ => a c o e
theorem But.upd {p : Addr} {H H1 : Hp} {o : HO} (a : But p H H1) : But p H (upd H1 p o) := fun c u e n => by
  rw [upd_ne n]
  exact a c u e n
/-- all that is no list is as it was -/
def Fix (H H' : Hp) : Prop := ∀ b o, H b = some o → (∀ xs, o ≠ .lst xs) → H' b = some o
theorem Fix.refl (H : Hp) : Fix H H := fun _ _ e _ => e
theorem Fix.trans {H H1 H2 : Hp} (a : Fix H H1) (b : Fix H1 H2) : Fix H H2 := fun c o e n => b c o (a c o e n) n
theorem Fix.same {H H1 : Hp} (a : Same H H1) : Fix H H1 := fun c o e _ => a c o e
theorem Fix.lst {H : Hp} {p : Addr} {xs : List V} {o : HO} (h : H p = some (.lst xs)) : Fix H (L2.upd H p o) := fun b u e n => by
  by_cases z : b = p
  · subst z
    rw [h] at e
    cases e
    exact absurd rfl (n _)
  · rw [upd_ne z]
    exact e
theorem Fix.tups {K : PySem.W.Frag} {H H' : Hp} (b : Fix H H') : Tups K H H' := fun a xs hS => by
  rcases hS with (hS | ⟨u, hS⟩) | hS
  · exact .inl (.inl (b _ _ hS (fun _ z => nomatch z)))
  · exact .inl (.inr ⟨u, b _ _ hS (fun _ z => nomatch z)⟩)
  · exact .inr hS
theorem But.fix {H H' : Hp} {p : Addr} {xs : List V} (h : H p = some (.lst xs)) (b : But p H H') : Fix H H' := fun c o e n => b c o e fun z => by
  subst z
  rw [h] at e
  cases e
  exact n _ rfl
/-- a list that never changes -/
def Fz (K : PySem.W.Frag) (H : Hp) (a : Addr) (xs : List V) : Prop := (∃ o, H a = some (.frz o (.lst xs))) ∨ ∀ H', SqL K H' a xs
theorem Fz.seq {K : PySem.W.Frag} {H : Hp} {a : Addr} {xs : List V} (h : Fz K H a xs) : SqL K H a xs := by
  rcases h with ⟨o, h⟩ | h
  · exact .inl (.inr ⟨o, h⟩)
  · exact h H
theorem Fz.on {K : PySem.W.Frag} {H H' : Hp} {a : Addr} {xs : List V} (f : Fix H H') (h : Fz K H a xs) : Fz K H' a xs := by
  rcases h with ⟨o, h⟩ | h
  · exact .inl ⟨o, f _ _ h (fun _ z => nomatch z)⟩
  · exact .inr h
/-- row: the script, how many of it are taken, the running number, what is left of a great one -/
structure RowA (K : PySem.W.Frag) (H : Hp) (p a : Addr) (ns : List Int) (i r c : Int) : Prop where
  at_ : H p = some (.lst [.ref a, .int i, .int r, .int c])
  fz : Fz K H a (ns.map V.int)
  pos : 0 ≤ i
theorem RowA.scr {K : PySem.W.Frag} {H : Hp} {p a : Addr} {ns : List Int} {i r c : Int} (h : RowA K H p a ns i r c) : SqL K H a (ns.map V.int) := h.fz.seq
def Row (K : PySem.W.Frag) (H : Hp) (p : Addr) : Prop := ∃ a ns i r c, RowA K H p a ns i r c
theorem RowA.put {K : PySem.W.Frag} {H : Hp} {p a : Addr} {ns : List Int} {i r c i' r' c' : Int} (h : RowA K H p a ns i r c) (hi : 0 ≤ i') :
    RowA K (upd H p (.lst [.ref a, .int i', .int r', .int c'])) p a ns i' r' c' :=
  ⟨upd_same, h.fz.on (Fix.lst h.at_), hi⟩
theorem RowA.row {K : PySem.W.Frag} {H : Hp} {p a : Addr} {ns : List Int} {i r c : Int} (h : RowA K H p a ns i r c) : Row K H p := ⟨_, _, _, _, _, h⟩
theorem Row.lst {K : PySem.W.Frag} {H : Hp} {p : Addr} (h : Row K H p) : ∃ xs, H p = some (.lst xs) := by
  obtain ⟨a, ns, i, r, c, h⟩ := h
  exact ⟨_, h.at_⟩
theorem Row.fix {K : PySem.W.Frag} {H H' : Hp} {p : Addr} (h : Row K H p) (b : But p H H') : Fix H H' := by
  obtain ⟨xs, e⟩ := h.lst
  exact But.fix e b
theorem Row.on {K : PySem.W.Frag} {H H' : Hp} {p : Addr} (h : Row K H p) (f : Fix H H') (e : H' p = H p) : Row K H' p := by
  obtain ⟨a, ns, i, r, c, h⟩ := h
  exact ⟨a, ns, i, r, c, e.trans h.at_, h.fz.on f, h.pos⟩
theorem Row.same {K : PySem.W.Frag} {H H' : Hp} {p : Addr} (h : Row K H p) (s : Same H H') : Row K H' p := by
  obtain ⟨xs, e⟩ := h.lst
  exact h.on (Fix.same s) ((s _ _ e).trans e.symm)
/-- another list is written -/
theorem Row.lst_upd {K : PySem.W.Frag} {H : Hp} {p q : Addr} {xs : List V} {o : HO} (h : Row K H p) (e : H q = some (.lst xs)) (n : p ≠ q) : Row K (upd H q o) p := h.on (Fix.lst e) (upd_ne n)
/-- a new object -/
theorem Row.new {K : PySem.W.Frag} {H : Hp} {p q : Addr} {o : HO} (h : Row K H p) (e : H q = none) : Row K (upd H q o) p := h.same (same_new e)
theorem Row.ne {K : PySem.W.Frag} {H : Hp} {p q : Addr} (h : Row K H p) (e : H q = none) : p ≠ q := by
  obtain ⟨xs, e'⟩ := h.lst
  exact ne_of_none e' e
section
variable {P : Program} {w : World} {K : PySem.W.Frag} {mg : Str → Option Value} {base : Heap}
def spTaken (K : PySem.W.Frag) : Sp := fun vs H Q _ => ∃ (p : Addr) (m : Int), vs = [.ref p, .int m] ∧ Row K H p ∧ 0 < m ∧ m < 1048576 ∧ ∀ k H', 0 ≤ k → k < m → But p H H' → Row K H' p → Q (.int k) H'
theorem ok_taken (F : Df K mg "_law_taken" st__law_taken ["row", "many"]) (B : Bu mg) : Cal P w K mg base 1 "_law_taken" (spTaken K) := by
  refine mkCal F sc__law_taken (fun vs H Q E h => ?_) (fun f cdv A outer s H vs Q E hr h => ?_)
  · obtain ⟨p, m, rfl, _⟩ := h
    rfl
  · obtain ⟨p, m, rfl, ⟨a, ns, i, r, c, hR⟩, m0, m1, q⟩ := h
    refine ⟨_, pss_cons (ps_if (pt_cmpR op_gt (pe_ix ix_list (pv 0) pe_int (fun _ _ => rfl)) pe_int (nomark _))
        (pss_cons (ps_set (i := 2) sc__law_taken.nd rfl (.inl rfl) (pe_op op_mod (pe_callTy call_int1 (by rfl) B.int (by decide +kernel) (pa_cons (pe_ix ix_list (pv 0) pe_int (fun _ _ => rfl)) pa_nil)) (pv 1)))
        (pss_cons (ps_asg (pe_op op_fdiv (pe_ix ix_list (pv 0) pe_int (fun _ _ => rfl)) (pv 1)) (pg_sub (pv 0) pe_int set_list))
        (pss_one (ps_ret (pv 2))))) pss_nil)
      (pss_cons (ps_asg (pe_op op_add (pe_ix ix_list (pv 0) pe_int (fun _ _ => rfl)) pe_int) (pg_sub (pv 0) pe_int set_list))
      (pss_cons (ps_if (pt_cmpR op_gt (pe_ix ix_list (pv 0) pe_int (fun _ _ => rfl)) (pe_callB (cl_len K) (by rfl) B.len PySem.boot_len (pa_cons (pe_ix ix_list (pv 0) pe_int (fun _ _ => rfl)) pa_nil)) (nomark _))
        (pss_cons (ps_asg (pe_op op_mod (pe_callTy call_int1 (by rfl) B.int (by decide +kernel) (pa_cons (pe_op op_add (pe_op op_mul (pe_ix ix_list (pv 0) pe_int (fun _ _ => rfl)) pe_int) pe_int) pa_nil)) pe_int) (pg_sub (pv 0) pe_int set_list))
        (pss_one (ps_ret (pe_op op_mod (pe_callTy call_int1 (by rfl) B.int (by decide +kernel) (pa_cons (pe_op op_fdiv (pe_ix ix_list (pv 0) pe_int (fun _ _ => rfl)) pe_int) pa_nil)) (pv 1))))) pss_nil)
      (pss_cons (ps_set (i := 3) sc__law_taken.nd rfl (.inl rfl) (pe_ix ix_list (pe_ix ix_list (pv 0) pe_int (fun _ _ => rfl)) (pe_op op_sub (pe_ix ix_list (pv 0) pe_int (fun _ _ => rfl)) pe_int) (fun _ _ => rfl)))
      (pss_cons (ps_asg (pe_op op_mod (pe_callTy call_int1 (by rfl) B.int (by decide +kernel) (pa_cons (pe_op op_add (pe_op op_add (pe_op op_mul (pe_ix ix_list (pv 0) pe_int (fun _ _ => rfl)) pe_int) (pv 3)) pe_int) pa_nil)) pe_int) (pg_sub (pv 0) pe_int set_list))
      (pss_cons (ps_if (pt_cmpR op_ge (pv 3) (pe_op op_pow pe_int pe_int) (nomark _))
        (pss_one (ps_asg (pe_op op_fdiv (pv 3) (pv 1)) (pg_sub (pv 0) pe_int set_list))) pss_nil)
      (pss_one (ps_ret (pe_op op_mod (pe_callTy call_int1 (by rfl) B.int (by decide +kernel) (pa_cons (pv 3) pa_nil)) (pv 1))))))))), ?_⟩
    have L := hR.at_
    refine ⟨_, rfl, p, _, 3, .int c, rfl, rfl, lstAt L, rfl, c, 0, rfl, rfl, _, rfl, ite2 (fun e => ?_) (fun e => ?_)⟩
    · refine ⟨_, rfl, p, _, 3, .int c, rfl, rfl, lstAt L, rfl, .inl ⟨c, rfl, _, rfl, c, m, rfl, rfl, m0, ?_⟩⟩
      refine ⟨_, rfl, p, _, 3, .int c, rfl, rfl, lstAt L, rfl, _, rfl, c, m, rfl, rfl, ⟨m0, by omega⟩, _, rfl, p, _, 3, 3, rfl, rfl, L, rfl, ?_⟩
      exact ⟨_, rfl, q (c % m) _ (Int.emod_nonneg _ (by omega)) (Int.emod_lt_of_pos _ m0) (But.upd (But.refl p H)) (hR.put hR.pos).row⟩
    · refine ⟨_, rfl, p, _, 1, .int i, rfl, rfl, lstAt L, rfl, i, 1, rfl, rfl, _, rfl, p, _, 1, 1, rfl, rfl, L, rfl, ?_⟩
      have R1 : RowA K (upd H p (.lst [.ref a, .int (i + 1), .int r, .int c])) p a ns (i + 1) r c := hR.put (by have := hR.pos; omega)
      have L1 := R1.at_
      refine ⟨_, rfl, p, _, 1, .int (i + 1), rfl, rfl, lstAt L1, rfl, _, rfl, p, _, 0, .ref a, rfl, rfl, lstAt L1, rfl, a, _, rfl, .inl R1.scr, _, _, rfl, rfl, _, rfl, ite2 (fun e1 => ?_) (fun e1 => ?_)⟩
      · refine ⟨_, rfl, p, _, 2, .int r, rfl, rfl, lstAt L1, rfl, r, 48271, rfl, rfl, .inr ⟨by decide, by decide⟩, _, 11, rfl, rfl, .inl ⟨_, rfl, _, _, rfl, rfl, (by show (0 : Int) < 2147483647; decide), _, rfl, p, _, 2, 2, rfl, rfl, L1, rfl, ?_⟩⟩
        have R2 : RowA K (upd (upd H p (.lst [.ref a, .int (i + 1), .int r, .int c])) p (.lst [.ref a, .int (i + 1), .int ((r * 48271 + 11) % 2147483647), .int c])) p a ns (i + 1) ((r * 48271 + 11) % 2147483647) c := R1.put R1.pos
        refine ⟨_, rfl, p, _, 2, _, rfl, rfl, lstAt R2.at_, rfl, _, 7, rfl, rfl, ⟨by decide, by decide⟩, .inl ⟨_, rfl, _, rfl, _, m, rfl, rfl, m0, ?_⟩⟩
        exact q _ _ (Int.emod_nonneg _ (by omega)) (Int.emod_lt_of_pos _ m0) (But.upd (But.upd (But.refl p H))) R2.row
      · have hi : i < (ns.length : Int) := by
          rw [List.length_map] at e1
          have e9 : i + 1 ≤ (ns.length : Int) := by simpa using e1
          omega
        have hi0 := hR.pos
        obtain ⟨z, hz⟩ : ∃ z, ns[i.toNat]? = some z := ⟨ns[i.toNat]'(by omega), List.getElem?_eq_getElem (by omega)⟩
        refine ⟨_, rfl, p, _, 0, .ref a, rfl, rfl, lstAt L1, rfl, _, rfl, p, _, 1, .int (i + 1), rfl, rfl, lstAt L1, rfl, _, 1, rfl, rfl, a, _, i + 1 - 1, .int z, rfl, rfl, R1.scr, at_int (by omega) (at_map (by rw [show (i + 1 - 1).toNat = i.toNat by omega]; exact hz)), ?_⟩
        refine ⟨_, rfl, p, _, 2, .int r, rfl, rfl, lstAt L1, rfl, r, 48271, rfl, rfl, .inr ⟨by decide, by decide⟩, _, rfl, _, z, rfl, rfl, _, 11, rfl, rfl, .inl ⟨_, rfl, _, _, rfl, rfl, (by show (0 : Int) < 2147483647; decide), _, rfl, p, _, 2, 2, rfl, rfl, L1, rfl, ?_⟩⟩
        have R2 : RowA K (upd (upd H p (.lst [.ref a, .int (i + 1), .int r, .int c])) p (.lst [.ref a, .int (i + 1), .int ((r * 48271 + z + 11) % 2147483647), .int c])) p a ns (i + 1) ((r * 48271 + z + 11) % 2147483647) c := R1.put R1.pos
        refine ⟨_, rfl, 10, 18, rfl, rfl, ⟨by decide, by decide, by decide⟩, z, _, rfl, rfl, _, rfl, ite2 (fun e2 => ?_) (fun e2 => ?_)⟩
        · refine ⟨_, rfl, _, rfl, z, m, rfl, rfl, ⟨m0, by omega⟩, _, rfl, p, _, 3, 3, rfl, rfl, R2.at_, rfl, ?_⟩
          refine ⟨_, rfl, .inl ⟨z, rfl, _, rfl, z, m, rfl, rfl, m0, ?_⟩⟩
          exact q _ _ (Int.emod_nonneg _ (by omega)) (Int.emod_lt_of_pos _ m0) (But.upd (But.upd (But.upd (But.refl p H)))) (R2.put R2.pos).row
        · refine ⟨_, rfl, .inl ⟨z, rfl, _, rfl, z, m, rfl, rfl, m0, ?_⟩⟩
          exact q _ _ (Int.emod_nonneg _ (by omega)) (Int.emod_lt_of_pos _ m0) (But.upd (But.upd (But.refl p H))) R2.row
end
end RH
set_option Elab.async false
set_option linter.all false
set_option maxRecDepth 100000
set_option maxHeartbeats 2000000
namespace RH
open PySem PySem.Spec PyProof.Rows L2
theorem ix_nat {n : Nat} {k : Int} (h0 : 0 ≤ k) (h1 : k < n) : seqIndex? k n = some k.toNat := by
  unfold seqIndex?
  have e : (if k < 0 then k + (n : Int) else k) = k := if_neg (by omega)
  simp only [e]
  rw [if_pos]
  simp [h0, h1]
theorem But.fresh {p l : Addr} {H H1 : Hp} {o : HO} (a : But p H H1) (e : H l = none) : But p H (L2.upd H1 l o) := fun c u h n => by
  rw [upd_ne (ne_of_none h e)]
  exact a c u h n
theorem map_erase (ns : List Int) (k : Nat) : (ns.map V.int).eraseIdx k = (ns.eraseIdx k).map V.int := by
  induction ns generalizing k with
  | nil => rfl
  | cons n ns ih =>
    cases k with
    | zero => rfl
    | succ k =>
      show V.int n :: (ns.map V.int).eraseIdx k = V.int n :: (ns.eraseIdx k).map V.int
      rw [ih]
theorem perm_erase : ∀ {ls : List Int} {k : Nat} {y : Int}, ls[k]? = some y → ls.Perm (y :: ls.eraseIdx k)
  | [], k, y, h => by simp at h
  | a :: ls, 0, y, h => by
    have e : a = y := Option.some.inj h
    subst e
    exact List.Perm.refl _
  | a :: ls, k + 1, y, h => by
    have ih := perm_erase (ls := ls) (k := k) (y := y) h
    exact (ih.cons a).trans (List.Perm.swap ..)
section
variable {P : Program} {w : World} {K : PySem.W.Frag} {mg : Str → Option Value} {base : Heap}
def spPick (K : PySem.W.Frag) : Sp := fun vs H Q _ => ∃ (p l : Addr) (xs : List V), vs = [.ref p, .ref l] ∧ Row K H p ∧ H l = some (.lst xs) ∧ l ≠ p ∧ 0 < xs.length ∧ xs.length ≤ 1000 ∧
  ∀ (i : Nat) x H', xs[i]? = some x → But p H H' → Row K H' p → Q x H'
theorem ok_pick (F : Df K mg "_law_pick" st__law_pick ["row", "things"]) (B : Bu mg) (CT : Cal P w K mg base 1 "_law_taken" (spTaken K)) : Cal P w K mg base 2 "_law_pick" (spPick K) := by
  refine mkCal F sc__law_pick (fun vs H Q E h => ?_) (fun f cdv A outer s H vs Q E hr h => ?_)
  · obtain ⟨p, l, xs, rfl, _⟩ := h
    rfl
  · obtain ⟨p, l, xs, rfl, hR, hl, hlp, l0, l1, q⟩ := h
    refine ⟨_, pss_one (ps_ret (pe_ix ix_list (pv 1) (pc CT hr (pa_cons (pv 0) (pa_cons (pe_callB (cl_len K) (by rfl) B.len PySem.boot_len (pa_cons (pv 1) pa_nil)) pa_nil))) (fun _ _ => rfl))), ?_⟩
    refine ⟨_, rfl, _, rfl, _, rfl, l, xs, rfl, .inl (lstAt hl), p, xs.length, rfl, hR, by omega, by omega, fun k H' k0 k1 hB hR' => ?_⟩
    have hk : k.toNat < xs.length := by omega
    exact ⟨l, xs, k, _, rfl, rfl, lstAt (hB _ _ hl hlp), at_int k0 (List.getElem?_eq_getElem hk), q _ _ H' (List.getElem?_eq_getElem hk) hB hR'⟩
def spOrder (K : PySem.W.Frag) : Sp := fun vs H Q _ => ∃ (p : Addr) (n : Nat), vs = [.ref p, .int n] ∧ Row K H p ∧ n ≤ 1000 ∧ ∀ (H' : Hp) (q : Addr) (ns : List Int), ns.Perm (rg n) → But p H H' → Row K H' p → H q = none → FT H' q ns → Q (.ref q) H'
theorem ok_order (F : Df K mg "_law_order" st__law_order ["row", "many"]) (B : Bu mg) (CT : Cal P w K mg base 1 "_law_taken" (spTaken K)) : Cal P w K mg base 2 "_law_order" (spOrder K) := by
  refine mkCal F sc__law_order (fun vs H Q E h => ?_) (fun f cdv A outer s H vs Q E hr h => ?_)
  · obtain ⟨p, n, rfl, _⟩ := h
    rfl
  · obtain ⟨p, n, rfl, hR, hn, q⟩ := h
    refine ⟨_, pss_cons (ps_par (i := 2) (j := 3) rfl sc__law_order.nd rfl rfl (by decide) rfl rfl (pa_cons (pe_listRg rfl (by rfl) B.list (prg_1 (by rfl) B.range (pv 1))) (pa_cons (pe_lst pa_nil) pa_nil)) rfl)
      (pss_cons (ps_while PassesOwn.never (pt_cmpR (op_neD hr.units) (pv 2) (pe_lst pa_nil) (nomark _))
        (pss_one (ps_expr (pe_bm PySem.F.plainAttrs_list PySem.F.slot_list_append PySem.F.type_list_append mt_append (pv 3) (pa_cons (pe_bm PySem.F.plainAttrs_list PySem.F.slot_list_pop PySem.F.type_list_pop mt_popAt (pv 2)
          (pa_cons (pc CT hr (pa_cons (pv 0) (pa_cons (pe_callB (cl_len K) (by rfl) B.len PySem.boot_len (pa_cons (pv 2) pa_nil)) pa_nil))) pa_nil)) pa_nil)))))
      (pss_one (ps_ret (pe_tupleF (by rfl) B.tuple (pv 3))))), ?_⟩
    refine ⟨_, rfl, n, rfl, ⟨by omega, by omega, by omega, by omega, by omega⟩, fun l hl => ⟨Nat.zero_le _, fun g hg => ⟨_, _, rfl, ?_⟩⟩⟩
    have hlg : l ≠ g := ne_of_none upd_same hg
    have hgH : H g = none := by
      rw [upd_ne (Ne.symm hlg)] at hg
      exact hg
    have hpl : p ≠ l := hR.ne hl
    have hpg : p ≠ g := hR.ne hgH
    refine ⟨fun m σ H' => ∃ ls fs : List Int, m = ls.length ∧ σ = [some (.ref p), some (.int n), some (.ref l), some (.ref g)] ∧ But p H H' ∧ Row K H' p ∧ H' l = some (.lst (ls.map V.int)) ∧ H' g = some (.lst (fs.map V.int)) ∧ (fs ++ ls).Perm (rg n),
      ⟨(rg n).length, rg n, [], rfl, rfl, But.same (Same.trans (same_new hl) (same_new hg)), (hR.new hl).new hg, ?_, upd_same, List.Perm.refl _⟩, ?_⟩
    · rw [upd_ne hlg, upd_same, rgV_rg]
    rintro m σ H1 ⟨ls, fs, rfl, rfl, hB, hR1, e1, e2, hpm⟩
    refine ⟨_, rfl, Nat.zero_le _, fun z hz => ?_⟩
    have sz : Same H1 (upd H1 z (.lst [])) := same_new hz
    refine ⟨_, _, dp_lst (ns := ls) (lstAt (sz _ _ e1)), dp_lst (ns := []) (lstAt upd_same), PySem.W.ke_shaped_ints _, PySem.W.ke_shaped_ints _, _, rfl, ?_⟩
    rw [eqv_lst]
    have len1 : fs.length + ls.length = n := by
      have := hpm.length_eq
      rw [List.length_append, rg_len] at this
      exact this
    cases ls with
    | nil =>
      refine ifF rfl ⟨_, rfl, g, _, rfl, lstAt (sz _ _ e2), fun t ob ht hob => ?_⟩
      rw [List.append_nil] at hpm
      have st : Same H1 (upd (upd H1 z (.lst [])) t (.frz ob (.tup (fs.map V.int)))) := sz.trans (same_new ht)
      refine q _ t fs hpm (hB.trans (But.same st)) (hR1.same st) ?_ ⟨ob, upd_same, hob⟩
      cases e : H t with
      | none => rfl
      | some o =>
        exfalso
        by_cases zp : t = p
        · obtain ⟨xs, ep⟩ := hR1.lst
          rw [zp, sz _ _ ep] at ht
          cases ht
        · rw [sz _ _ (hB _ _ e zp)] at ht
          cases ht
    | cons y ls =>
      have hRz : Row K (upd H1 z (.lst [])) p := hR1.same sz
      have e1z := sz _ _ e1
      have e2z := sz _ _ e2
      refine ifT rfl ⟨fun σ' H' => ∃ m', m' < (y :: ls).length ∧ ∃ ls fs : List Int, m' = ls.length ∧ σ' = [some (.ref p), some (.int n), some (.ref l), some (.ref g)] ∧ But p H H' ∧ Row K H' p ∧ H' l = some (.lst (ls.map V.int)) ∧ H' g = some (.lst (fs.map V.int)) ∧ (fs ++ ls).Perm (rg n), fun _ _ h => h, ?_⟩
      refine ⟨_, rfl, .inl ⟨rfl, _, lstAt e2z⟩, _, rfl, .inl ⟨rfl, _, lstAt e1z⟩, _, rfl, _, rfl, l, _, rfl, .inl (lstAt e1z), p, _, rfl, hRz, ?_, ?_, fun k H3 k0 k1 hB3 hR3 => ?_⟩
      · rw [List.length_map, List.length_cons]
        omega
      · rw [List.length_map]
        omega
      rw [List.length_map] at k1
      have e1' := hB3 _ _ e1z (Ne.symm hpl)
      have e2' := hB3 _ _ e2z (Ne.symm hpg)
      have hk : k.toNat < (y :: ls).length := by omega
      obtain ⟨v, hv⟩ : ∃ v, (y :: ls)[k.toNat]? = some v := ⟨_, List.getElem?_eq_getElem hk⟩
      have e2u : (upd H3 l (.lst (((y :: ls).map V.int).eraseIdx k.toNat))) g = some (.lst (fs.map V.int)) := by
        rw [upd_ne (Ne.symm hlg)]
        exact e2'
      refine ⟨l, _, k, k.toNat, .int v, rfl, rfl, e1', by omega, by omega, ?_, at_map hv, g, _, .int v, rfl, rfl, e2u, ?_, ?_⟩
      · rw [List.length_map]
        exact ix_nat k0 k1
      · rw [List.length_map]
        exact small1000 (by have := List.length_cons (a := y) (as := ls); omega)
      · refine ⟨((y :: ls).eraseIdx k.toNat).length, ?_, (y :: ls).eraseIdx k.toNat, fs ++ [v], rfl, rfl, ?_, ?_, ?_, ?_, ?_⟩
        · rw [List.length_eraseIdx_of_lt hk]
          omega
        · exact (((hB.trans (But.same sz)).trans hB3).fresh hl).fresh hgH
        · exact (hR3.lst_upd e1' hpl).lst_upd e2u hpg
        · rw [upd_ne hlg, upd_same, map_erase]
        · rw [upd_same, List.map_append]
          rfl
        · have hp2 := perm_erase hv
          refine List.Perm.trans ?_ hpm
          rw [List.append_assoc]
          exact List.Perm.append_left fs hp2.symm
end
end RH
set_option Elab.async false
set_option linter.all false
set_option maxRecDepth 100000
set_option maxHeartbeats 2000000
namespace RH
open PySem PySem.Spec PyProof.Rows L2
/-! ### _law_alike of equal data -/
theorem Dp.on {K : PySem.W.Frag} {H H' : Hp} (s : Same H H') : ∀ (d : PyData) (v : V), Dp K H v d → Dp K H' v d
  | d, v, h => by
    refine Dp.rec (motive_1 := fun v d _ => Dp K H' v d) (motive_2 := fun vs ds _ => DpAll K H' vs ds) .non .bl .int .str ?_ ?_ .nil ?_ h
    · intro a xs ds h1 _ h2
      exact .lst (s.seq h1) h2
    · intro a xs ds h1 _ h2
      exact .tup (onT s h1) h2
    · intro v vs d ds _ _ h1 h2
      exact .cons h1 h2
theorem DpAll.len {K : PySem.W.Frag} {H : Hp} : ∀ {vs : List V} {ds : List PyData}, DpAll K H vs ds → vs.length = ds.length
  | _, _, .nil => rfl
  | _, _, .cons _ t => congrArg (· + 1) (DpAll.len t)
theorem ty_lst {K : PySem.W.Frag} {H : Hp} {a : Addr} {xs : List V} (h : SqL K H a xs) : TyX K H (.ref a) (.type "list") := by
  rcases h with (h | ⟨o, h⟩) | ⟨o, vz, n, h, c, _⟩
  · exact .base (.lst h)
  · exact .base (.frz h)
  · exact .kList h c
end RH
set_option Elab.async false
set_option linter.all false
set_option maxRecDepth 100000
set_option maxHeartbeats 2000000
namespace RH
open PySem PySem.Spec PyProof.Rows L2
theorem ixN_int {n : Nat} {k : Int} (h0 : 0 ≤ k) (h1 : k < n) : ixN n k = some k.toNat := by
  unfold ixN
  rw [if_pos h0, if_pos h1]
def tF (n pl : Nat) : List Int := (List.range n).map fun s : Nat => ((s : Int) + (pl : Int)) % (n : Int)
def mF (n pl : Nat) : List Int := (List.range n).map fun s : Nat => (s : Int) + (if decide ((s : Int) < (pl : Int)) = true then 1 else 0)
def fF (n pl : Nat) : List Int := (mF n pl).take pl ++ [0] ++ (mF n pl).drop (pl + 1)
def sF (n pl : Nat) : List Int := ((rg n).set pl ((pl - 1 : Nat) : Int)).set (pl - 1) (pl : Int)
theorem perm_all : ∀ n, n < 6 → ∀ pl, pl < n → (tF n pl).isPerm (rg n) = true ∧ (fF n pl).isPerm (rg n) = true ∧ (sF n pl).isPerm (rg n) = true := by decide +kernel
theorem mF_len (n pl : Nat) : (mF n pl).length = n := by
  unfold mF
  rw [List.length_map, List.length_range]
theorem range_more {f : Nat → Int} (i : Nat) : ((List.range (i + 1)).map f).map V.int = ((List.range i).map f).map V.int ++ [V.int (f i)] := by
  rw [List.range_succ, List.map_append, List.map_append]
  rfl
/-- the permutations found so far -/
def HI (K : PySem.W.Frag) (p g : Addr) (H : Hp) (n i : Nat) (H' : Hp) : Prop := ∃ (xs : List V) (hs : List (List Int)), But p H H' ∧ Row K H' p ∧ H' g = some (.lst xs) ∧ Each (TI K H') xs hs ∧ hs.length = i ∧ ∀ ns ∈ hs, ns.Perm (rg n)
theorem HI.step {K : PySem.W.Frag} {p g : Addr} {H H1 H5 : Hp} {n i : Nat} (h : HI K p g H n i H1) (hg : H g = none) (hpg : p ≠ g) (b : But p H1 H5) (r : Row K H5 p) :
    ∃ xs, H5 g = some (.lst xs) ∧ xs.length = i ∧ ∀ (q : Addr) (ns : List Int) (H6 : Hp), Same H5 H6 → SqT K H6 q (ns.map V.int) → ns.Perm (rg n) → HI K p g H n (i + 1) (upd H6 g (.lst (xs ++ [.ref q]))) := by
  obtain ⟨xs, hs, hB, hR, e, hE, hl, hp⟩ := h
  have e5 := b _ _ e (Ne.symm hpg)
  refine ⟨xs, e5, hE.len.trans hl, fun q ns H6 s6 hq hpm => ⟨xs ++ [.ref q], hs ++ [ns], ?_, ?_, upd_same, ?_, ?_, ?_⟩⟩
  · exact ((hB.trans b).trans (But.same s6)).fresh hg
  · exact (r.same s6).lst_upd (s6 _ _ e5) hpg
  · have f1 : Fix H1 (upd H6 g (.lst (xs ++ [.ref q]))) := (hR.fix b).trans ((Fix.same s6).trans (Fix.lst (s6 _ _ e5)))
    exact Each.snoc ⟨q, rfl, Fix.tups (Fix.lst (s6 _ _ e5)) _ _ hq⟩ (hE.imp fun _ _ z => z.on f1.tups)
  · rw [List.length_append, hl]
    rfl
  · intro ns' hm
    rcases List.mem_append.mp hm with h1 | h1
    · exact hp _ h1
    · rw [List.mem_singleton.mp h1]
      exact hpm
section
variable {P : Program} {w : World} {K : PySem.W.Frag} {mg : Str → Option Value} {base : Heap}
def spHabit (K : PySem.W.Frag) : Sp := fun vs H Q _ => ∃ (p : Addr) (n : Nat), vs = [.ref p, .int n] ∧ Row K H p ∧ 2 ≤ n ∧ n ≤ 5 ∧ ∀ (H' : Hp) (v : V) (h : List (List Int)), Hb n h → But p H H' → Row K H' p → TII K H' v h → Q v H'
theorem ok_habit (F : Df K mg "_law_habit" st__law_habit ["row", "places"]) (B : Bu mg) (CT : Cal P w K mg base 1 "_law_taken" (spTaken K)) (CO : Cal P w K mg base 2 "_law_order" (spOrder K)) : Cal P w K mg base 3 "_law_habit" (spHabit K) := by
  refine mkCal F sc__law_habit (fun vs H Q E h => ?_) (fun f cdv A outer s H vs Q E hr h => ?_)
  · obtain ⟨p, n, rfl, _⟩ := h
    rfl
  · obtain ⟨p, n, rfl, hR, n2, n5, q⟩ := h
    refine ⟨_, pss_cons (ps_par (i := 2) (j := 3) rfl sc__law_habit.nd rfl rfl (by decide) rfl rfl (pa_cons (pc CT hr (pa_cons (pv 0) (pa_cons pe_int pa_nil))) (pa_cons (pe_lst pa_nil) pa_nil)) rfl)
      (pss_cons (ps_for PassesOwn.never rfl (pi_range1 (by rfl) B.range (pa_cons (pv 1) pa_nil)) (pg_name (i := 4) sc__law_habit.nd rfl (Or.inr rfl))
        (pss_one (ps_if (pt_cmpR op_eq (pv 2) pe_int (nomark _))
          (pss_one (ps_expr (pe_bm PySem.F.plainAttrs_list PySem.F.slot_list_append PySem.F.type_list_append mt_append (pv 3) (pa_cons (pe_tupleOf (by rfl) B.tuple (pe_lc (own := [("spot", 7)]) (g := gName 7) (tt := tYes) rfl sc__law_habit.nd
            (pi_range1 (by rfl) B.range (pa_cons (pv 1) pa_nil)) (blkOk_by (N := ["row", "places", "way", "found", "place", "moved", "other", "spot"]) (sc := defScope st__law_habit) (by decide +kernel)) (fun _ _ _ _ _ => pg_name (i := 7) sc__law_habit.nd rfl (Or.inl rfl))
            (fun _ _ _ _ _ => pts_nil) (fun _ _ _ _ _ => pe_op op_mod (pe_op op_add (pv 7) (pv 4)) (pv 1)))) pa_nil))))
        (pss_one (ps_if (pt_cmpR op_eq (pv 2) pe_int (nomark _))
          (pss_cons (ps_setLc (i := 5) (own := [("spot", 7)]) (g := gName 7) (tt := tYes) rfl sc__law_habit.nd rfl rfl (sw_true rfl rfl rfl (by decide +kernel)) (pi_range1 (by rfl) B.range (pa_cons (pv 1) pa_nil))
            (blkOk_by (N := ["row", "places", "way", "found", "place", "moved", "other", "spot"]) (sc := defScope st__law_habit) (by decide +kernel)) (fun _ _ _ _ _ => pg_name (i := 7) sc__law_habit.nd rfl (Or.inl rfl))
            (fun _ _ _ _ _ => pts_nil) (fun _ _ _ _ _ => pe_op op_add (pv 7) (pe_callTy call_int1 (by rfl) B.int (by decide +kernel) (pa_cons (pe_cmpR op_lt (pv 7) (pv 4) (nomark _)) pa_nil))))
          (pss_one (ps_expr (pe_bm PySem.F.plainAttrs_list PySem.F.slot_list_append PySem.F.type_list_append mt_append (pv 3) (pa_cons (pe_tupleOf (by rfl) B.tuple (pe_op op_cat (pe_op op_cat (pe_slice sl_list (pv 5) po_none (po_some (pv 4))) (pe_lst (pa_cons pe_int pa_nil)))
            (pe_slice sl_list (pv 5) (po_some (pe_op op_add (pv 4) pe_int)) po_none))) pa_nil)))))
        (pss_one (ps_if (pt_cmpR op_eq (pv 2) pe_int (nomark _))
          (pss_cons (ps_set (i := 6) sc__law_habit.nd rfl (.inl rfl) (pe_callB (call_max2 rfl) (by rfl) B.max (by decide +kernel) (pa_cons pe_int (pa_cons (pe_op op_sub (pv 4) pe_int) pa_nil))))
          (pss_cons (ps_set (i := 5) sc__law_habit.nd rfl (.inl rfl) (pe_listRg rfl (by rfl) B.list (prg_1 (by rfl) B.range (pv 1))))
          (pss_cons (ps_asg (pe_tup (pa_cons (pv 6) (pa_cons (pv 4) pa_nil))) (pg_tup rfl (pgs_cons (pg_sub (pv 5) (pv 4) set_list) (pgs_cons (pg_sub (pv 5) (pv 6) set_list) pgs_nil))))
          (pss_one (ps_expr (pe_bm PySem.F.plainAttrs_list PySem.F.slot_list_append PySem.F.type_list_append mt_append (pv 3) (pa_cons (pe_tupleOf (by rfl) B.tuple (pv 5)) pa_nil)))))))
        (pss_one (ps_if (PW.pt (pw_and (pt_cmpR op_eq (pv 2) pe_int (nomark _)) (pw_and1 (pt_cmpR op_eq (pc CT hr (pa_cons (pv 0) (pa_cons pe_int pa_nil))) pe_int (nomark _)))))
          (pss_one (ps_expr (pe_bm PySem.F.plainAttrs_list PySem.F.slot_list_append PySem.F.type_list_append mt_append (pv 3) (pa_cons (pe_tupRg rfl (by rfl) B.tuple (prg_1 (by rfl) B.range (pv 1))) pa_nil))))
          (pss_one (ps_expr (pe_bm PySem.F.plainAttrs_list PySem.F.slot_list_append PySem.F.type_list_append mt_append (pv 3) (pa_cons (pc CO hr (pa_cons (pv 0) (pa_cons (pv 1) pa_nil))) pa_nil))))))))))))) 
      (pss_one (ps_ret (pe_tupleOf (by rfl) B.tuple (pv 3))))), ?_⟩
    refine ⟨_, rfl, p, 5, rfl, hR, by decide, by decide, fun wy H0 w0 w1 hB0 hR0 => ⟨Nat.zero_le _, fun g hg0 => ⟨_, _, rfl, ?_⟩⟩⟩
    have hpg : p ≠ g := hR0.ne hg0
    have hg : H g = none := by
      cases e : H g with
      | none => rfl
      | some o =>
        rw [hB0 _ _ e (Ne.symm hpg)] at hg0
        cases hg0
    refine ⟨_, rfl, n, rfl, by omega, by omega, ?_⟩
    rw [Int.toNat_natCast]
    refine for_range (lo := 0) (n := n) (fun i σ H' => HI K p g H n i H' ∧ ∃ y4 y5 y6 y7, σ = [some (.ref p), some (.int n), some (.int wy), some (.ref g), y4, y5, y6, y7])
      ⟨⟨[], [], hB0.fresh hg, hR0.new hg0, upd_same, .nil, rfl, fun _ hm => absurd hm (List.not_mem_nil)⟩, none, none, none, none, rfl⟩ (fun i σ H1 hi h' => ?_) (fun σ H' h' => ?_)
    · obtain ⟨hI, y4, y5, y6, y7, rfl⟩ := h'
      obtain ⟨pT, pF, pS⟩ := perm_all n (by omega) i hi
      have hR1 : Row K H1 p := hI.choose_spec.choose_spec.2.1
      rw [Int.zero_add]
      refine ⟨_, rfl, rfl, _, rfl, ite2 (fun _ => ?_) (fun _ => ?_)⟩
      · -- turned round
        obtain ⟨xs, e1, xl, st⟩ := hI.step hg hpg (But.refl p H1) hR1
        refine ⟨_, rfl, .inl ⟨rfl, _, lstAt e1⟩, _, rfl, n, rfl, by omega, by omega, fun D hD => ?_⟩
        rw [Int.toNat_natCast]
        refine lc_range (lo := 0) (n := n) (fun j H' => Same H1 H' ∧ H' D = some (.lst (((List.range j).map fun s : Nat => ((s : Int) + (i : Int)) % (n : Int)).map V.int))) ⟨same_new hD, upd_same⟩ (fun j H' hj h' => ?_) (fun H' h' => ?_)
        · obtain ⟨sm, eD⟩ := h'
          refine ⟨rfl, _, rfl, _, rfl, _, _, rfl, rfl, _, rfl, _, n, rfl, rfl, by omega, _, eD, ?_, ?_, ?_⟩
          · rw [List.length_map, List.length_map, List.length_range]
            exact small1000 (by omega)
          · intro b o e
            rw [upd_ne (ne_of_none e hD)]
            exact sm b o e
          · rw [upd_same, range_more, Int.zero_add]
        · obtain ⟨sm, eD⟩ := h'
          refine .inl ⟨D, _, rfl, lstAt eD, fun t ht => ?_⟩
          have sT := sm.trans (same_new (o := .tup ((tF n i).map V.int)) ht)
          refine ⟨g, xs, .ref t, rfl, rfl, sT _ _ e1, small1000 (by omega), st t (tF n i) _ sT (tupAt upd_same) (List.isPerm_iff.mp pT), _, _, _, _, rfl⟩
      · refine ⟨_, rfl, rfl, _, rfl, ite2 (fun _ => ?_) (fun _ => ?_)⟩
        · -- to the front
          refine ⟨_, rfl, n, rfl, by omega, by omega, fun D hD => ?_⟩
          rw [Int.toNat_natCast]
          refine lc_range (lo := 0) (n := n) (fun j H' => Same H1 H' ∧ H' D = some (.lst (((List.range j).map fun s : Nat => (s : Int) + (if decide ((s : Int) < (i : Int)) = true then 1 else 0)).map V.int))) ⟨same_new hD, upd_same⟩ (fun j H' hj h' => ?_) (fun H' h' => ?_)
          · obtain ⟨sm, eD⟩ := h'
            refine ⟨rfl, _, rfl, _, rfl, _, rfl, _, _, rfl, rfl, .inr ⟨_, rfl, _, _, rfl, rfl, _, eD, ?_, ?_, ?_⟩⟩
            · rw [List.length_map, List.length_map, List.length_range]
              exact small1000 (by omega)
            · intro b o e
              rw [upd_ne (ne_of_none e hD)]
              exact sm b o e
            · rw [upd_same, range_more, Int.zero_add]
          · obtain ⟨sm, eD⟩ := h'
            have hR2 := hR1.same sm
            obtain ⟨xs, e1, xl, st⟩ := hI.step hg hpg (But.same sm) hR2
            have hDl : ((List.range n).map fun s : Nat => (s : Int) + (if decide ((s : Int) < (i : Int)) = true then 1 else 0)) = mF n i := rfl
            rw [hDl] at eD
            refine ⟨_, rfl, .inl ⟨rfl, _, lstAt e1⟩, _, rfl, _, rfl, (i : Int), rfl, D, _, rfl, lstAt eD, fun a1 ha1 => ⟨by show 1 ≤ sizeLine; decide, fun a2 ha2 => ?_⟩⟩
            rw [cut_to] at *
            have q1 := same_new (o := .lst (((mF n i).map V.int).take i)) ha1
            have q2 := same_new (o := .lst [.int 0]) ha2
            refine ⟨a1, a2, ((mF n i).map V.int).take i, [.int 0], rfl, rfl, q2 _ _ upd_same, upd_same, ?_, fun a3 ha3 => ?_⟩
            · rw [List.length_take, List.length_map, mF_len]
              exact Nat.le_of_lt (small1000 (by show min i n + 1 ≤ 1000; omega))
            have q3 := same_new (o := .lst (((mF n i).map V.int).take i ++ [.int 0])) ha3
            refine ⟨_, rfl, _, rfl, (i : Int), 1, rfl, rfl, (i : Int) + 1, rfl, D, _, rfl, lstAt (q3 _ _ (q2 _ _ (q1 _ _ eD))), fun a4 ha4 => ?_⟩
            have q4 := same_new (o := .lst (cutV ((mF n i).map V.int) (some ((i : Int) + 1)) none)) ha4
            have ec : cutV ((mF n i).map V.int) (some ((i : Int) + 1)) none = ((mF n i).map V.int).drop (i + 1) := cut_from _ (i + 1)
            refine ⟨a3, a4, _, _, rfl, rfl, q4 _ _ upd_same, upd_same, ?_, fun a5 ha5 => ?_⟩
            · rw [ec, List.length_append, List.length_take, List.length_drop, List.length_map, mF_len]
              exact Nat.le_of_lt (small1000 (by show min i n + 1 + (n - (i + 1)) ≤ 1000; omega))
            have q5 := same_new (o := .lst ((((mF n i).map V.int).take i ++ [.int 0]) ++ cutV ((mF n i).map V.int) (some ((i : Int) + 1)) none)) ha5
            refine .inl ⟨a5, _, rfl, lstAt upd_same, fun t ht => ?_⟩
            have q6 := same_new (o := .tup ((((mF n i).map V.int).take i ++ [.int 0]) ++ cutV ((mF n i).map V.int) (some ((i : Int) + 1)) none)) ht
            have qq := q1.trans (q2.trans (q3.trans (q4.trans (q5.trans q6))))
            have et : ((((mF n i).map V.int).take i ++ [.int 0]) ++ cutV ((mF n i).map V.int) (some ((i : Int) + 1)) none) = (fF n i).map V.int := by
              rw [ec]
              unfold fF
              rw [List.map_append, List.map_append, List.map_take, List.map_drop]
              rfl
            exact ⟨g, xs, .ref t, rfl, rfl, qq _ _ e1, small1000 (by omega), st t (fF n i) _ qq (tupAt (by rw [upd_same, et])) (List.isPerm_iff.mp pF), _, _, _, _, rfl⟩
        · refine ⟨_, rfl, rfl, _, rfl, ite2 (fun _ => ?_) (fun _ => ?_)⟩
          · -- neighbours
            refine ⟨_, rfl, (i : Int), 1, rfl, rfl, 0, (i : Int) - 1, rfl, ?_⟩
            have eo : (if (i : Int) - 1 > 0 then (i : Int) - 1 else 0) = ((i - 1 : Nat) : Int) := by
              split <;> omega
            rw [eo]
            refine ⟨_, rfl, n, rfl, ⟨by omega, by omega, by omega, by omega, by omega⟩, fun m hm => ?_⟩
            rw [rgV_rg] at *
            have hpm : p ≠ m := hR1.ne hm
            have s1 := same_new (o := .lst ((rg n).map V.int)) hm
            refine ⟨_, rfl, _, rfl, by show 2 ≤ sizeLine; decide, fun t ht => ?_⟩
            have s2 := same_new (o := .tup [.int ((i - 1 : Nat) : Int), .int (i : Int)]) ht
            have em := s2 _ _ (upd_same (H := H1) (a := m) (o := .lst ((rg n).map V.int)))
            have ll : ((rg n).map V.int).length = n := by rw [List.length_map, rg_len]
            refine ⟨t, _, rfl, tupAt upd_same, rfl, _, _, rfl, _, rfl, _, rfl, m, _, (i : Int), i, rfl, rfl, em, ?_, ?_⟩
            · have := ixN_int (n := ((rg n).map V.int).length) (k := (i : Int)) (by omega) (by omega)
              exact this
            refine ⟨_, _, rfl, _, rfl, _, rfl, m, _, ((i - 1 : Nat) : Int), i - 1, rfl, rfl, upd_same, ?_, rfl, ?_⟩
            · have := ixN_int (n := (((rg n).map V.int).set i (.int ((i - 1 : Nat) : Int))).length) (k := ((i - 1 : Nat) : Int)) (by omega) (by rw [List.length_set]; omega)
              exact this
            have et : (((rg n).map V.int).set i (.int ((i - 1 : Nat) : Int))).set (i - 1) (.int (i : Int)) = (sF n i).map V.int := by
              unfold sF
              rw [List.map_set, List.map_set]
            rw [et]
            have hR5 := ((hR1.same (s1.trans s2)).lst_upd (o := .lst (((rg n).map V.int).set i (.int ((i - 1 : Nat) : Int)))) em hpm).lst_upd (o := .lst ((sF n i).map V.int)) upd_same hpm
            obtain ⟨xs, e1, xl, st⟩ := hI.step hg hpg (((But.same (s1.trans s2)).fresh (o := .lst (((rg n).map V.int).set i (.int ((i - 1 : Nat) : Int)))) hm).fresh (o := .lst ((sF n i).map V.int)) hm) hR5
            refine ⟨_, rfl, .inl ⟨rfl, _, lstAt e1⟩, _, rfl, .inl ⟨m, _, rfl, lstAt upd_same, fun t2 ht2 => ?_⟩⟩
            have s6 := same_new (o := .tup ((sF n i).map V.int)) ht2
            exact ⟨g, xs, .ref t2, rfl, rfl, s6 _ _ e1, small1000 (by omega), st t2 (sF n i) _ s6 (tupAt upd_same) (List.isPerm_iff.mp pS), _, _, _, _, rfl⟩
          · have any : ∀ H3, But p H1 H3 → Row K H3 p → ∃ xs, H3 g = some (.lst xs) ∧ xs.length = i ∧ ∀ (q : Addr) (ns : List Int) (H6 : Hp), Same H3 H6 → SqT K H6 q (ns.map V.int) → ns.Perm (rg n) → HI K p g H n (i + 1) (upd H6 g (.lst (xs ++ [.ref q]))) := fun H3 b3 r3 => hI.step hg hpg b3 r3
            refine ⟨_, rfl, rfl, _, rfl, ite2 (fun _ => ?_) (fun _ => ?_)⟩
            · refine ⟨_, rfl, p, 2, rfl, hR1, by decide, by decide, fun k H3 k0 k1 hB3 hR3 => ⟨rfl, _, rfl, ite2 (fun _ => ?_) (fun _ => ?_)⟩⟩
              · obtain ⟨xs, e1, xl, st⟩ := any H3 hB3 hR3
                refine ⟨_, rfl, .inl ⟨rfl, _, lstAt e1⟩, _, rfl, n, rfl, ⟨by omega, by omega, by omega, by omega, by omega⟩, fun t ht => ?_⟩
                rw [rgV_rg] at *
                have s6 := same_new (o := .tup ((rg n).map V.int)) ht
                exact ⟨g, xs, .ref t, rfl, rfl, s6 _ _ e1, small1000 (by omega), st t (rg n) _ s6 (tupAt upd_same) (List.Perm.refl _), _, _, _, _, rfl⟩
              · obtain ⟨xs, e1, xl, st⟩ := any H3 hB3 hR3
                refine ⟨_, rfl, .inl ⟨rfl, _, lstAt e1⟩, _, rfl, _, rfl, p, n, rfl, hR3, by omega, fun H4 t ns pm b4 r4 _ e4 => ?_⟩
                obtain ⟨xs', e1', xl', st'⟩ := any H4 (hB3.trans b4) r4
                exact ⟨g, xs', .ref t, rfl, rfl, e1', small1000 (by omega), st' t ns _ (Same.refl H4) (.inl (FT.kx e4)) pm, _, _, _, _, rfl⟩
            · obtain ⟨xs, e1, xl, st⟩ := any H1 (But.refl p H1) hR1
              refine iteF ⟨_, rfl, .inl ⟨rfl, _, lstAt e1⟩, _, rfl, _, rfl, p, n, rfl, hR1, by omega, fun H4 t ns pm b4 r4 _ e4 => ?_⟩
              obtain ⟨xs', e1', xl', st'⟩ := any H4 b4 r4
              exact ⟨g, xs', .ref t, rfl, rfl, e1', small1000 (by omega), st' t ns _ (Same.refl H4) (.inl (FT.kx e4)) pm, _, _, _, _, rfl⟩
    · obtain ⟨⟨xs, hs, hB, hR', e, hE, hl, hp⟩, y4, y5, y6, y7, rfl⟩ := h'
      refine ⟨_, rfl, .inl ⟨g, xs, rfl, lstAt e, fun t ht => q _ _ hs ⟨hl, hp, n2, n5⟩ (hB.trans (But.same (same_new ht))) (hR'.new ht) ⟨t, xs, rfl, tupAt upd_same, hE.imp fun _ _ z => z.on (Same.tups (same_new ht))⟩⟩⟩
end
end RH
set_option Elab.async false
set_option linter.all false
set_option maxRecDepth 100000
set_option maxHeartbeats 2000000
namespace RH
open PySem PySem.Spec PyProof.Rows L2
/-! ### defs that may raise; checks of values of many kinds -/
structure CalX (P : Program) (w : World) (K : PySem.W.Frag) (mg : Str → Option Value) (base : Heap) (k : Nat) (x : Str) (sp : Sp) : Prop where
  ex : ∃ (f : Addr) (fd : FuncData) (ps : List Str), FnOk P w K mg base (L2.CX P w) k f fd ps sp ∧ mg x = some (.ref f) ∧ PySem.W.keepIn K (.ref f) = true ∧ Binds K fd ps []
/-- an own error without an __init__ -/
structure ExO (K : PySem.W.Frag) (mg : Str → Option Value) (x : Str) (C : Addr) : Prop where
  q : PySem.W.excIn K C [.type "ValueError", .type "Exception", .type "BaseException", .type "object"] "ValueError.__new__" = true
  g : mg x = some (.ref C)
  k : PySem.W.keepIn K (.ref C) = true
  b : PySem.W.subIn K (.ref C) (.type "BaseException") = some true
  t : PySem.W.typeIn K (.ref C) = some (.type "type")
section
variable {P : Program} {w : World} {K : PySem.W.Frag} {mg : Str → Option Value} {base : Heap}
theorem mkCalX {x : Str} {st : Stmt} {N ps : List Str} {k : Nat} {sp : Sp} (F : Df K mg x st ps) (S : FnScope N ps (defScope st)) (len : ∀ vs H Q E, sp vs H Q E → vs.length = ps.length)
    (hbody : ∀ (f : Addr) (cdv : Value) (A : Around) (outer : List Env) (s : Shared) (H : Hp) (vs : List V) (Q : VK) (E : XK), Room k (A.deeper (envOfC x (defScope st) s.heap.objs.size f cdv)) → sp vs H Q E →
      ∃ t, PSs (cxOf (L2.CX P w) P w K mg base N x (defScope st) f cdv A outer s H E) (defBody st) t ∧ t { nx := fun _ H' => Q .non H', rt := Q } (start N vs) H) : CalX P w K mg base (k + 1) x sp := by
  obtain ⟨f, fd, F, g, b⟩ := F.ex
  exact ⟨f, fd, ps, F.okX S len (hbody f), g, F.kp, b⟩
end
theorem pcX {X : Cx} {k j : Nat} {x : Str} {sp : Sp} {E : XK} {p pos : Pos} {e : Expr} {es : List Expr} {t : TA} (c : CalX X.prog X.w X.K X.mg X.base k x sp) (hx : Passes (L2.CX X.prog X.w) X E) (hr : Room j X.A) (ha : PA X (e :: es) t) (hk : k ≤ j := by decide) (hg : Gl X x := by rfl)
    (hdb : (x == ("__debug__" : Str)) = false := by decide) (he : starEach (e :: es) X.env = (false, eval e X.env) :: starEach es X.env := by rfl) (hpl : (backTo pos (starEach es X.env)).any (·.1) = false := by rfl) :
    PE X (.Call (.Name x p) (e :: es) [] pos) (tCall sp [] E t) := by
  obtain ⟨f, fd, ps, F, hm, kp, b⟩ := c.ex
  exact pe_call F (hr.mono hk) hg hm kp b .nil hx ha hdb he hpl
/-- a value of any kind -/
inductive Sw (K : PySem.W.Frag) (H : Hp) : V → Prop
  | int (i : Int) : Sw K H (.int i)
  | bl (b : Bool) : Sw K H (.bl b)
  | non : Sw K H .non
  | str (s : Str) : Sw K H (.str s)
  | tup {a : Addr} {xs : List V} : SqT K H a xs → Sw K H (.ref a)
  | lst {a : Addr} {xs : List V} : SqL K H a xs → Sw K H (.ref a)
def isI : V → Bool
  | .int _ => true
  | _ => false
def inV2 (lo hi : Int) : V → Bool
  | .int i => decide (lo ≤ i) && decide (i ≤ hi)
  | _ => false
theorem few_log {n : Nat} (h : n ≤ 5) : ((n : Nat) : Int).natAbs.log2 < 1920 := by
  have : n = 0 ∨ n = 1 ∨ n = 2 ∨ n = 3 ∨ n = 4 ∨ n = 5 := by omega
  rcases this with rfl | rfl | rfl | rfl | rfl | rfl <;> decide +kernel
section
variable {P : Program} {w : World} {K : PySem.W.Frag} {mg : Str → Option Value} {base : Heap}
theorem Sw.on {H H' : Hp} {v : V} (e : Same H H') (h : Sw K H v) : Sw K H' v := by
  cases h with
  | int i => exact .int i
  | bl b => exact .bl b
  | non => exact .non
  | str s => exact .str s
  | tup h => exact .tup (onT e h)
  | lst h => exact .lst (e.seq h)
def spIsIntegerW (K : PySem.W.Frag) : Sp := fun vs H Q _ => ∃ v, vs = [v] ∧ Sw K H v ∧ Q (.bl (isI v)) H
theorem ok_is_integerW (F : Df K mg "is_integer" st_is_integer ["value"]) (B : Bu mg) : Cal P w K mg base 1 "is_integer" (spIsIntegerW K) := by
  refine mkCal F sc_is_integer (fun vs H Q E h => ?_) (fun f cdv A outer s H vs Q E hr h => ?_)
  · obtain ⟨v, rfl, _⟩ := h
    rfl
  · obtain ⟨v, rfl, hv, q⟩ := h
    refine ⟨_, pss_one (ps_ret (pe_and (pe_callB call_isi (by rfl) B.isi (by decide +kernel) (pa_cons (pv 0) (pa_cons (pe_bltn (v := .ty "int") (by rfl) B.int (by decide +kernel) rfl) pa_nil)))
      (pe_one (pe_not (pe_callB call_isi (by rfl) B.isi (by decide +kernel) (pa_cons (pv 0) (pa_cons (pe_bltn (v := .ty "bool") (by rfl) B.bool (by decide +kernel) rfl) pa_nil))))))), ?_⟩
    cases hv with
    | int i => exact ⟨_, rfl, .int i, .ty "int", _, _, true, rfl, .ty "int", .base (.int i), kit_ty (by decide +kernel), true, rfl, _, rfl, .int i, .ty "bool", _, _, false, rfl, .ty "bool", .base (.int i), kit_ty (by decide +kernel), false, rfl, q⟩
    | bl b => exact ⟨_, rfl, .bl b, .ty "int", _, _, true, rfl, .ty "int", .base (.bl b), kit_ty (by decide +kernel), true, rfl, _, rfl, .bl b, .ty "bool", _, _, true, rfl, .ty "bool", .base (.bl b), kit_ty (by decide +kernel), true, rfl, q⟩
    | non => exact ⟨_, rfl, .non, .ty "int", _, _, false, rfl, .ty "int", .base .non, kit_ty (by decide +kernel), false, rfl, q⟩
    | str z => exact ⟨_, rfl, .str z, .ty "int", _, _, false, rfl, .ty "int", .base (.str z), kit_ty (by decide +kernel), false, rfl, q⟩
    | @tup a xs h => exact ⟨_, rfl, .ref a, .ty "int", _, _, false, rfl, .ty "int", ty_tup h, kit_ty (by decide +kernel), false, rfl, q⟩
    | @lst a xs h => exact ⟨_, rfl, .ref a, .ty "int", _, _, false, rfl, .ty "int", ty_lst h, kit_ty (by decide +kernel), false, rfl, q⟩
def spIsNumberW (K : PySem.W.Frag) : Sp := fun vs H Q _ => ∃ (v : V) (lo hi : Int), vs = [v, .int lo, .int hi] ∧ Sw K H v ∧ Q (.bl (inV2 lo hi v)) H
theorem inV2_no {lo hi : Int} {v : V} (h : isI v = false) : inV2 lo hi v = false := by
  cases v <;> first | rfl | (cases h)
theorem isI_yes {v : V} (h : isI v = true) : ∃ i, v = .int i := by
  cases v <;> first | exact ⟨_, rfl⟩ | (cases h)
theorem ok_is_numberW (F : Df K mg "is_number" st_is_number ["value", "low", "high"]) (C1 : Cal P w K mg base 1 "is_integer" (spIsIntegerW K)) : Cal P w K mg base 2 "is_number" (spIsNumberW K) := by
  refine mkCal F sc_is_number (fun vs H Q E h => ?_) (fun f cdv A outer s H vs Q E hr h => ?_)
  · obtain ⟨v, lo, hi, rfl, _⟩ := h
    rfl
  · obtain ⟨v, lo, hi, rfl, hv, q⟩ := h
    refine ⟨_, pss_one (ps_ret (pe_and (pc C1 hr (pa_cons (pv 0) pa_nil)) (pe_one (pe_chain op_le op_le (pv 1) (pv 0) (pv 2))))), ?_⟩
    refine ⟨_, rfl, v, rfl, hv, ?_⟩
    cases ei : isI v with
    | true =>
      obtain ⟨i, rfl⟩ := isI_yes ei
      refine ⟨true, rfl, _, rfl, _, rfl, lo, i, rfl, rfl, _, rfl, ite2 (fun e => ?_) (fun e => ?_)⟩
      · refine ⟨_, rfl, i, hi, rfl, rfl, ?_⟩
        have q : Q (.bl (decide (lo ≤ i) && decide (i ≤ hi))) H := q
        rw [e, Bool.true_and] at q
        exact q
      · have e' : decide (lo ≤ i) = false := by simpa using e
        have q : Q (.bl (decide (lo ≤ i) && decide (i ≤ hi))) H := q
        rw [e', Bool.false_and] at q
        exact q
    | false =>
      rw [inV2_no ei] at q
      exact ⟨false, rfl, q⟩
def spIsPlaceW (K : PySem.W.Frag) : Sp := fun vs H Q _ => ∃ (v : V) (p : Int), vs = [v, .int p] ∧ Sw K H v ∧ Q (.bl (inV2 0 (p - 1) v)) H
theorem ok_is_placeW (F : Df K mg "is_place" st_is_place ["value", "places"]) (C2 : Cal P w K mg base 2 "is_number" (spIsNumberW K)) : Cal P w K mg base 3 "is_place" (spIsPlaceW K) := by
  refine mkCal F sc_is_place (fun vs H Q E h => ?_) (fun f cdv A outer s H vs Q E hr h => ?_)
  · obtain ⟨v, p, rfl, _⟩ := h
    rfl
  · obtain ⟨v, p, rfl, hv, q⟩ := h
    refine ⟨_, pss_one (ps_ret (pc C2 hr (pa_cons (pv 0) (pa_cons pe_int (pa_cons (pe_op op_sub (pv 1) pe_int) pa_nil))))), ?_⟩
    exact ⟨_, rfl, _, rfl, p, 1, rfl, rfl, v, 0, p - 1, rfl, hv, q⟩
/-- a place, or the error -/
def spCheckPlX (K : PySem.W.Frag) (C : Addr) : Sp := fun vs H Q E => ∃ (v : V) (n : Nat), vs = [v, .int n] ∧ n ≤ 5 ∧ Sw K H v ∧ (inV2 0 ((n : Int) - 1) v = true → Q .non H) ∧ (inV2 0 ((n : Int) - 1) v = false → E (.ref C) none H)
theorem ok_check_placeX {C : Addr} (F : Df K mg "check_place" st_check_place ["place", "places"]) (Xn : ExO K mg "BadPlace" C) (C3 : Cal P w K mg base 3 "is_place" (spIsPlaceW K)) : CalX P w K mg base 4 "check_place" (spCheckPlX K C) := by
  refine mkCalX F sc_check_place (fun vs H Q E h => ?_) (fun f cdv A outer s H vs Q E hr h => ?_)
  · obtain ⟨v, n, rfl, _⟩ := h
    rfl
  · obtain ⟨v, n, rfl, n5, hv, q1, q2⟩ := h
    refine ⟨_, pss_one (ps_if (pt_not (pt_val (pc C3 hr (pa_cons (pv 0) (pa_cons (pv 1) pa_nil))))) (pss_one (ps_raise rfl takesE (SkE.pmk_own1 PySem.F.excBase_ValueError Xn.q Xn.g Xn.k (raises_own Xn.b Xn.t) rfl
      (pe_joined (.cons pe_str (.cons (pe_fmt (pv 1)) (.cons pe_str .nil))))))) pss_nil), ?_⟩
    refine ⟨_, rfl, _, rfl, v, n, rfl, hv, _, rfl, ?_⟩
    cases ei : inV2 0 ((n : Int) - 1) v with
    | true => exact ifF rfl (q1 ei)
    | false =>
      refine ifT rfl ?_
      have hn : n = 0 ∨ n = 1 ∨ n = 2 ∨ n = 3 ∨ n = 4 ∨ n = 5 := by omega
      refine ⟨_, rfl, ?_, _, rfl, .inr ⟨(n : Int), rfl, few_log n5, _, rfl, ?_, _, rfl, ?_, q2 ei⟩⟩
      · rw [sizeLine_eq]; decide +kernel
      · rw [sizeLine_eq]
        rcases hn with rfl | rfl | rfl | rfl | rfl | rfl <;> decide +kernel
      · rw [sizeLine_eq]
        rcases hn with rfl | rfl | rfl | rfl | rfl | rfl <;> decide +kernel
end
end RH
set_option Elab.async false
set_option linter.all false
set_option maxRecDepth 100000
set_option maxHeartbeats 2000000
namespace RH
open PySem PySem.Spec PyProof.Rows L2
open NdefX (NScope NF CellsAt startF ncx envF)
/-! ### errors that keep something -/
/-- a class of errors that can be made -/
structure BhX (P : Program) (w : World) (K : PySem.W.Frag) (mg : Str → Option Value) (base : Heap) (cls fld : Str) (C : Addr) (sp : Sp) : Prop where
  t : OexC K C
  g : mg cls = some (.ref C)
  f : ∃ (f : Addr) (fd : FuncData), FnOk P w K mg base CX0 1 f fd ["self", fld] sp ∧ PySem.W.findIn K (.ref C) "__init__" = some (some (.ref f)) ∧ PySem.W.typeIn K (.ref f) = some (.type "function") ∧ Binds K fd ["self", fld] []
/-- what an error keeps: none, or a small number -/
def plV (v : V) : Prop := v = .non ∨ ∃ i : Nat, i < 16 ∧ v = .int (i : Int)
def spBI (fld : Str) (C : Addr) : Sp := fun vs H Q _ => ∃ (a : Addr) (v : V), vs = [.ref a, v] ∧ plV v ∧ H a = some (exo a C none) ∧ ∀ d, H d = none → d ≠ a → Q .non (upd (upd H d (exd d [(fld, v)])) a (exo a C (some d)))
theorem few_of {i : Nat} (h : i < 16) : i = 0 ∨ i = 1 ∨ i = 2 ∨ i = 3 ∨ i = 4 ∨ i = 5 ∨ i = 6 ∨ i = 7 ∨ i = 8 ∨ i = 9 ∨ i = 10 ∨ i = 11 ∨ i = 12 ∨ i = 13 ∨ i = 14 ∨ i = 15 := by omega
theorem fmt_few {i : Nat} (h : i < 16) : ((i : Nat) : Int).natAbs.log2 < 1920 := by
  rcases few_of h with rfl | rfl | rfl | rfl | rfl | rfl | rfl | rfl | rfl | rfl | rfl | rfl | rfl | rfl | rfl | rfl <;> decide +kernel
/-- an error that keeps pl comes -/
def bhE (C : Addr) (fn : Str) (pl : V) (H : Hp) (E : XK) : Prop := ∀ d H', Same H H' → H' d = some (.xd [(fn, pl)]) → E (.ref C) (some d) H'
/-- an error without more comes -/
def noE (C : Addr) (H : Hp) (E : XK) : Prop := ∀ H', Same H H' → E (.ref C) none H'
theorem bhE.on {C : Addr} {fn : Str} {pl : V} {H H' : Hp} {E : XK} (h : bhE C fn pl H E) (s : Same H H') : bhE C fn pl H' E := fun d H2 s2 => h d H2 (s.trans s2)
theorem noE.on {C : Addr} {H H' : Hp} {E : XK} (h : noE C H E) (s : Same H H') : noE C H' E := fun H2 s2 => h H2 (s.trans s2)
section
variable {P : Program} {w : World} {K : PySem.W.Frag} {mg : Str → Option Value} {base : Heap}
theorem ok_BadHabit {C f cc cda : Addr} {fd : FuncData} (M : SupC P K mg C "BadHabit.__init__" st_e_BadHabit f fd cc cda) (hno : PySem.W.findIn K (.ref C) "place" = some none) : FnOk P w K mg base CX0 1 f fd ["self", "place"] (spBI "place" C) := by
  refine fn_super (self := "self") M sc_e_BadHabit rfl rfl rfl (by decide +kernel) rfl (fun vs H Q E h => ?_) (fun A outer s H vs Q E hr h => ?_)
  · obtain ⟨a, v, rfl, _⟩ := h
    rfl
  · obtain ⟨a, v, rfl, hv, ha, q⟩ := h
    refine ⟨a, _, _, rfl, ha, pa_cons (pe_joined (.cons pe_str (.cons (pe_fmtN (pv 1)) .nil))) pa_nil, pss_one (ps_ost (pv 0) (pv 1)), ?_⟩
    have go : ∀ H1, H1 = H → ([V.str "x"] : List V).length ≤ 1000 ∧ H1 a = some (exo a C none) ∧ tOst K "place" (tVar 0) (tVar 1) { nx := fun _ H' => Q .non H', rt := Q } [some (.ref a), some v, some (.ref C)] H1 := fun H1 e => by
      subst e
      exact ⟨by decide, ha, _, rfl, _, rfl, a, C, rfl, M.t, hno, .inl ⟨ha, fun dx n ne => q dx n ne⟩⟩
    rcases hv with rfl | ⟨i, hi, rfl⟩
    · refine ⟨_, rfl, ?_, _, rfl, .inl ⟨rfl, _, rfl, ?_, go _ rfl⟩⟩
      · rw [sizeLine_eq]; decide +kernel
      · rw [sizeLine_eq]; decide +kernel
    · refine ⟨_, rfl, ?_, _, rfl, .inr ⟨(i : Int), rfl, fmt_few hi, _, rfl, ?_, go _ rfl⟩⟩
      · rw [sizeLine_eq]; decide +kernel
      · rw [sizeLine_eq]
        rcases few_of hi with rfl | rfl | rfl | rfl | rfl | rfl | rfl | rfl | rfl | rfl | rfl | rfl | rfl | rfl | rfl | rfl <;> decide +kernel
theorem ok_BadProgram {C f cc cda : Addr} {fd : FuncData} (M : SupC P K mg C "BadProgram.__init__" st_e_BadProgram f fd cc cda) (hno : PySem.W.findIn K (.ref C) "index" = some none) : FnOk P w K mg base CX0 1 f fd ["self", "index"] (spBI "index" C) := by
  refine fn_super (self := "self") M sc_e_BadProgram rfl rfl rfl (by decide +kernel) rfl (fun vs H Q E h => ?_) (fun A outer s H vs Q E hr h => ?_)
  · obtain ⟨a, v, rfl, _⟩ := h
    rfl
  · obtain ⟨a, v, rfl, hv, ha, q⟩ := h
    refine ⟨a, _, _, rfl, ha, pa_cons (pe_joined (.cons pe_str (.cons (pe_fmtN (pv 1)) .nil))) pa_nil, pss_one (ps_ost (pv 0) (pv 1)), ?_⟩
    have go : ∀ H1, H1 = H → ([V.str "x"] : List V).length ≤ 1000 ∧ H1 a = some (exo a C none) ∧ tOst K "index" (tVar 0) (tVar 1) { nx := fun _ H' => Q .non H', rt := Q } [some (.ref a), some v, some (.ref C)] H1 := fun H1 e => by
      subst e
      exact ⟨by decide, ha, _, rfl, _, rfl, a, C, rfl, M.t, hno, .inl ⟨ha, fun dx n ne => q dx n ne⟩⟩
    rcases hv with rfl | ⟨i, hi, rfl⟩
    · refine ⟨_, rfl, ?_, _, rfl, .inl ⟨rfl, _, rfl, ?_, go _ rfl⟩⟩
      · rw [sizeLine_eq]; decide +kernel
      · rw [sizeLine_eq]; decide +kernel
    · refine ⟨_, rfl, ?_, _, rfl, .inr ⟨(i : Int), rfl, fmt_few hi, _, rfl, ?_, go _ rfl⟩⟩
      · rw [sizeLine_eq]; decide +kernel
      · rw [sizeLine_eq]
        rcases few_of hi with rfl | rfl | rfl | rfl | rfl | rfl | rfl | rfl | rfl | rfl | rfl | rfl | rfl | rfl | rfl | rfl <;> decide +kernel
/-- the error is made: its dict stands at d -/
theorem bh_made {C : Addr} {fn : Str} {v : V} {H1 : Hp} {Q : XK} (hv : plV v) (q : ∀ d, H1 d = none → Q (.ref C) (some d) (upd H1 d (.xd [(fn, v)]))) :
    ([v] : List V).length ≤ 1000 ∧ ∀ a, H1 a = none → spBI fn C (.ref a :: ([v] ++ [])) (upd H1 a (exo a C none)) (fun u H2 => u = .non ∧ ∃ (d : Addr) (fs : List (Str × V)), H2 a = some (exo a C (some d)) ∧ H2 d = some (exd d fs) ∧ H1 d = none ∧ Q (.ref C) (some d) (upd (del H2 a) d (.xd fs))) (fun _ _ _ => False) := by
  refine ⟨by show 1 ≤ 1000; decide, fun a ha => ⟨a, v, rfl, hv, upd_same, fun d hd ne => ⟨rfl, d, [(fn, v)], upd_same, ?_, ?_, ?_⟩⟩⟩
  · rw [upd_ne ne, upd_same]
  · rw [upd_ne ne] at hd
    exact hd
  · have hd' : H1 d = none := by
      rw [upd_ne ne] at hd
      exact hd
    have e : upd (del (upd (upd (upd H1 a (exo a C none)) d (exd d [(fn, v)])) a (exo a C (some d))) a) d (.xd [(fn, v)]) = upd H1 d (.xd [(fn, v)]) := by
      funext b
      by_cases hb : b = d
      · rw [hb, upd_same, upd_same]
      · rw [upd_ne hb, upd_ne hb]
        by_cases hba : b = a
        · rw [hba, del_same, ha]
        · rw [del_ne hba, upd_ne hba, upd_ne hb, upd_ne hba]
    rw [e]
    exact q d hd'
end
end RH
set_option Elab.async false
set_option linter.all false
set_option maxRecDepth 100000
set_option maxHeartbeats 2000000
namespace RH
open PySem PySem.Spec PyProof.Rows L2
/-! ### the checks, for values of whatever kind -/
/-- a value: a tuple of values, or what is none -/
inductive Tk (K : PySem.W.Frag) (H : Hp) : V → Option (List V) → Prop
  | tup {a : Addr} {xs : List V} : SqT K H a xs → Tk K H (.ref a) (some xs)
  | lst {a : Addr} {xs : List V} : SqL K H a xs → Tk K H (.ref a) none
  | dct {a : Addr} {kvs : List (L2.Key × V)} : H a = some (.dK kvs) → Tk K H (.ref a) none
  | int (i : Int) : Tk K H (.int i) none
  | bl (b : Bool) : Tk K H (.bl b) none
  | non : Tk K H .non none
  | str (z : Str) : Tk K H (.str z) none
theorem Tk.on {K : PySem.W.Frag} {H H' : Hp} (e : Same H H') {v : V} {wo : Option (List V)} (h : Tk K H v wo) : Tk K H' v wo := by
  cases h with
  | tup h => exact .tup (onT e h)
  | lst h => exact .lst (e.seq h)
  | dct h => exact .dct (e _ _ h)
  | int i => exact .int i
  | bl b => exact .bl b
  | non => exact .non
  | str z => exact .str z
/-- .. of values -/
structure Wd (K : PySem.W.Frag) (H : Hp) (v : V) (wo : Option (List V)) : Prop where
  t : Tk K H v wo
  s : ∀ xs, wo = some xs → ∀ x ∈ xs, Sw K H x
  l : ∀ xs, wo = some xs → xs.length < 64
theorem Wd.on {K : PySem.W.Frag} {H H' : Hp} (e : Same H H') {v : V} {wo : Option (List V)} (h : Wd K H v wo) : Wd K H' v wo := ⟨h.t.on e, fun xs z x hm => (h.s xs z x hm).on e, h.l⟩
def rowW (lo hi : Int) : Option (List V) → Bool
  | some xs => decide (lo ≤ (xs.length : Int)) && decide ((xs.length : Int) ≤ hi)
  | none => false
def plsW (p : Int) : Option (List V) → Bool
  | some xs => xs.all (inV2 0 (p - 1))
  | none => false
theorem inV2_yes0 {n : Nat} {i : Int} (h0 : 0 ≤ i) (h1 : i < n) : inV2 0 ((n : Int) - 1) (.int i) = true := by
  show (decide (0 ≤ i) && decide (i ≤ (n : Int) - 1)) = true
  rw [decide_eq_true h0, decide_eq_true (by omega)]
  rfl
theorem inV2_get {n : Nat} {v : V} (h : inV2 0 ((n : Int) - 1) v = true) : ∃ i, v = .int i ∧ 0 ≤ i ∧ i < n := by
  cases v <;> first | (cases h; done) | skip
  rename_i i
  have h : (decide (0 ≤ i) && decide (i ≤ (n : Int) - 1)) = true := h
  rw [Bool.and_eq_true, decide_eq_true_iff, decide_eq_true_iff] at h
  exact ⟨i, rfl, h.1, by omega⟩
/-- places all: numbers all -/
theorem all_ints {n : Nat} : ∀ {xs : List V}, (xs.all (inV2 0 ((n : Int) - 1))) = true → ∃ ns : List Int, xs = ns.map V.int ∧ inP n ns = true
  | [], _ => ⟨[], rfl, rfl⟩
  | x :: xs, h => by
    rw [List.all_cons, Bool.and_eq_true] at h
    obtain ⟨i, rfl, h0, h1⟩ := inV2_get h.1
    obtain ⟨ns, rfl, e⟩ := all_ints h.2
    refine ⟨i :: ns, rfl, ?_⟩
    unfold inP at e ⊢
    rw [List.all_cons, e, decide_eq_true h0, decide_eq_true (by omega)]
    rfl
def valI : V → Int
  | .int i => i
  | _ => -1
/-- is it a layout? -/
def layW (n : Nat) : Option (List V) → Bool
  | some xs => xs.all (inV2 0 ((n : Int) - 1)) && isLay n (xs.map valI)
  | none => false
section
variable {P : Program} {w : World} {K : PySem.W.Frag} {mg : Str → Option Value} {base : Heap}
def spIsRowW (K : PySem.W.Frag) : Sp := fun vs H Q _ => ∃ (v : V) (wo : Option (List V)) (lo hi : Int), vs = [v, .int lo, .int hi] ∧ Tk K H v wo ∧ Q (.bl (rowW lo hi wo)) H
theorem ok_is_rowW (F : Df K mg "is_row" st_is_row ["value", "low", "high"]) (B : Bu mg) : Cal P w K mg base 1 "is_row" (spIsRowW K) := by
  refine mkCal F sc_is_row (fun vs H Q E h => ?_) (fun f cdv A outer s H vs Q E hr h => ?_)
  · obtain ⟨v, ro, lo, hi, rfl, _⟩ := h
    rfl
  · obtain ⟨v, ro, lo, hi, rfl, hk, q⟩ := h
    refine ⟨_, pss_one (ps_ret (pe_and (pe_callB call_isi (by rfl) B.isi (by decide +kernel) (pa_cons (pv 0) (pa_cons (pe_bltn (v := .ty "tuple") (by rfl) B.tuple (by decide +kernel) rfl) pa_nil)))
      (pe_one (pe_chain op_le op_le (pv 1) (pe_callB call_len_seq (by rfl) B.len PySem.boot_len (pa_cons (pv 0) pa_nil)) (pv 2))))), ?_⟩
    cases hk with
    | int i => exact ⟨_, rfl, .int i, .ty "tuple", _, _, false, rfl, .ty "tuple", .base (.int i), kit_ty (by decide +kernel), false, rfl, q⟩
    | bl b => exact ⟨_, rfl, .bl b, .ty "tuple", _, _, false, rfl, .ty "tuple", .base (.bl b), kit_ty (by decide +kernel), false, rfl, q⟩
    | non => exact ⟨_, rfl, .non, .ty "tuple", _, _, false, rfl, .ty "tuple", .base .non, kit_ty (by decide +kernel), false, rfl, q⟩
    | str z => exact ⟨_, rfl, .str z, .ty "tuple", _, _, false, rfl, .ty "tuple", .base (.str z), kit_ty (by decide +kernel), false, rfl, q⟩
    | @lst a xs hS => exact ⟨_, rfl, .ref a, .ty "tuple", _, _, false, rfl, .ty "tuple", ty_lst hS, kit_ty (by decide +kernel), false, rfl, q⟩
    | @dct a kvs e => exact ⟨_, rfl, .ref a, .ty "tuple", _, _, false, rfl, .ty "tuple", .base (.dK e), kit_ty (by decide +kernel), false, rfl, q⟩
    | @tup a xs hS =>
      refine ⟨_, rfl, .ref a, .ty "tuple", _, _, true, rfl, .ty "tuple", ty_tup hS, kit_ty (by decide +kernel), true, rfl, _, rfl, _, rfl, a, xs, rfl, .inr hS, lo, (xs.length : Int), rfl, rfl, _, rfl, ite2 (fun e => ?_) (fun e => ?_)⟩
      · refine ⟨_, rfl, _, hi, rfl, rfl, ?_⟩
        have q : Q (.bl (decide (lo ≤ (xs.length : Int)) && decide ((xs.length : Int) ≤ hi))) H := q
        rw [e, Bool.true_and] at q
        exact q
      · have e' : decide (lo ≤ (xs.length : Int)) = false := by simpa using e
        have q : Q (.bl (decide (lo ≤ (xs.length : Int)) && decide ((xs.length : Int) ≤ hi))) H := q
        rw [e', Bool.false_and] at q
        exact q
def spArePlacesW (K : PySem.W.Frag) : Sp := fun vs H Q _ => ∃ (v : V) (wo : Option (List V)) (p : Int), vs = [v, .int p] ∧ Wd K H v wo ∧ ∀ H', Same H H' → Q (.bl (plsW p wo)) H'
theorem ok_are_placesW (F : Df K mg "are_places" st_are_places ["value", "places"]) (B : Bu mg) (C3 : Cal P w K mg base 3 "is_place" (spIsPlaceW K)) : Cal P w K mg base 4 "are_places" (spArePlacesW K) := by
  refine mkCal F sc_are_places (fun vs H Q E h => ?_) (fun f cdv A outer s H vs Q E hr h => ?_)
  · obtain ⟨v, wo, p, rfl, _⟩ := h
    rfl
  · obtain ⟨v, wo, p, rfl, hw, q⟩ := h
    refine ⟨_, pss_one (ps_ret (pe_and (pe_callB call_isi (by rfl) B.isi (by decide +kernel) (pa_cons (pv 0) (pa_cons (pe_bltn (v := .ty "tuple") (by rfl) B.tuple (by decide +kernel) rfl) pa_nil)))
      (pe_one (pe_callB (cr_all rfl) (by rfl) B.all (by decide +kernel) (pa_cons (pe_lc (own := [("place", 2)]) (g := gName 2) (tt := tYes) rfl sc_are_places.nd (pi_tup (pv 0)) (blkOk_by (N := ["value", "places", "place"]) (sc := defScope st_are_places) (by decide +kernel))
        (fun _ _ _ _ _ => pg_name (i := 2) sc_are_places.nd rfl (Or.inl rfl)) (fun _ _ _ _ _ => pts_nil) (fun _ _ _ _ _ => pc C3 hr (pa_cons (pv 2) (pa_cons (pv 1) pa_nil)))) pa_nil))))), ?_⟩
    obtain ⟨ht, hsw, hlen⟩ := hw
    cases ht with
    | int i => exact ⟨_, rfl, .int i, .ty "tuple", _, _, false, rfl, .ty "tuple", .base (.int i), kit_ty (by decide +kernel), false, rfl, q H (Same.refl H)⟩
    | bl b => exact ⟨_, rfl, .bl b, .ty "tuple", _, _, false, rfl, .ty "tuple", .base (.bl b), kit_ty (by decide +kernel), false, rfl, q H (Same.refl H)⟩
    | non => exact ⟨_, rfl, .non, .ty "tuple", _, _, false, rfl, .ty "tuple", .base .non, kit_ty (by decide +kernel), false, rfl, q H (Same.refl H)⟩
    | str z => exact ⟨_, rfl, .str z, .ty "tuple", _, _, false, rfl, .ty "tuple", .base (.str z), kit_ty (by decide +kernel), false, rfl, q H (Same.refl H)⟩
    | @lst a xs hS => exact ⟨_, rfl, .ref a, .ty "tuple", _, _, false, rfl, .ty "tuple", ty_lst hS, kit_ty (by decide +kernel), false, rfl, q H (Same.refl H)⟩
    | @dct a kvs e => exact ⟨_, rfl, .ref a, .ty "tuple", _, _, false, rfl, .ty "tuple", .base (.dK e), kit_ty (by decide +kernel), false, rfl, q H (Same.refl H)⟩
    | @tup a xs hS =>
      have hl := hlen xs rfl
      have hx := hsw xs rfl
      refine ⟨_, rfl, .ref a, .ty "tuple", _, _, true, rfl, .ty "tuple", ty_tup hS, kit_ty (by decide +kernel), true, rfl, ?_⟩
      refine ⟨_, rfl, a, rfl, ⟨_, hS⟩, fun D hD => ?_⟩
      refine lc_tup (xs := xs) (fun i H' => Same H H' ∧ H' D = some (.lst (((xs.take i).map (inV2 0 (p - 1))).map V.bl))) ⟨same_new hD, upd_same⟩ (fun i H' _ h' => onT h'.1 hS) (fun i x H' hi h' => ?_) (fun H' h' => ?_)
      · obtain ⟨sm, eD⟩ := h'
        refine ⟨rfl, _, rfl, _, rfl, x, p, rfl, (hx x (List.mem_of_getElem? hi)).on sm, _, eD, ?_, ?_, ?_⟩
        · rw [List.length_map, List.length_map, List.length_take]
          exact small1000 (by omega)
        · intro b o e
          rw [upd_ne (ne_of_none e hD)]
          exact sm b o e
        · rw [upd_same, all_snoc _ hi, List.map_append]
          rfl
      · obtain ⟨sm, eD⟩ := h'
        rw [List.take_length] at eD
        refine ⟨D, _, rfl, lstAt eD, ?_⟩
        have e : ((xs.map (inV2 0 (p - 1))).all id) = plsW p (some xs) := by
          rw [List.all_map]
          rfl
        rw [e]
        exact q H' sm
def spIsLayoutW (K : PySem.W.Frag) : Sp := fun vs H Q _ => ∃ (v : V) (wo : Option (List V)) (p : Nat), vs = [v, .int p] ∧ Wd K H v wo ∧ p ≤ 1000 ∧ ∀ H', Same H H' → Q (.bl (layW p wo)) H'
theorem ok_is_layoutW (F : Df K mg "is_layout" st_is_layout ["value", "places"]) (B : Bu mg) (C4 : Cal P w K mg base 4 "are_places" (spArePlacesW K)) : Cal P w K mg base 5 "is_layout" (spIsLayoutW K) := by
  refine mkCal F sc_is_layout (fun vs H Q E h => ?_) (fun f cdv A outer s H vs Q E hr h => ?_)
  · obtain ⟨v, wo, p, rfl, _⟩ := h
    rfl
  · obtain ⟨v, wo, p, rfl, hw, hp, q⟩ := h
    refine ⟨_, pss_one (ps_ret (pe_and (pc C4 hr (pa_cons (pv 0) (pa_cons (pv 1) pa_nil)))
      (pe_one (pe_cmpR (op_eqD hr.units) (pe_callB cr_sortedTup (by rfl) B.sorted (by decide +kernel) (pa_cons (pv 0) pa_nil)) (pe_listRg rfl (by rfl) B.list (prg_1 (by rfl) B.range (pv 1))) (nomark _))))), ?_⟩
    refine ⟨_, rfl, _, rfl, v, wo, p, rfl, hw, fun H1 sm1 => ⟨_, rfl, ite2 (fun e => ?_) (fun e => ?_)⟩⟩
    · obtain ⟨ht, hsw, hlen⟩ := hw
      cases ht with
      | @tup a xs hS =>
        obtain ⟨ns, rfl, hin⟩ := all_ints (n := p) e
        have hl : ns.length < 64 := by
          have := hlen _ rfl
          rwa [List.length_map] at this
        refine ⟨_, rfl, a, ns, rfl, onT sm1 hS, hl, fun ns' pL hpm hpw nL => ⟨_, rfl, (p : Int), rfl, ⟨by omega, by omega, by omega, by omega, by omega⟩, fun q' nq => ?_⟩⟩
        have nqp : pL ≠ q' := ne_of_none upd_same nq
        refine ⟨_, _, dp_lst (ns := ns') (lstAt ?_), dp_lst (ns := rg p) (lstAt ?_), PySem.W.ke_shaped_ints _, PySem.W.ke_shaped_ints _, ?_⟩
        · rw [upd_ne nqp, upd_same]
        · rw [upd_same, rgV_rg]
        · have em : ((ns.map V.int).map valI) = ns := by
            rw [List.map_map]
            exact List.map_id' ns
          have e2 : PyData.eqv (.list (ns'.map PyData.int)) (.list ((rg p).map PyData.int)) = layW p (some (ns.map V.int)) := by
            have e3 : layW p (some (ns.map V.int)) = isLay p ns := by
              have e : ((ns.map V.int).all (inV2 0 ((p : Int) - 1))) = true := e
              show ((ns.map V.int).all (inV2 0 ((p : Int) - 1)) && isLay p ((ns.map V.int).map valI)) = isLay p ns
              rw [e, Bool.true_and, em]
            rw [e3, eqv_lst, Bool.eq_iff_iff, decide_eq_true_iff]
            unfold isLay
            rw [List.isPerm_iff]
            constructor
            · intro z
              rw [← z]
              exact hpm.symm
            · intro z
              exact PySem.W.ksm_same (hpm.trans z) hpw (rg_le p)
          rw [e2]
          exact q _ (sm1.trans (Same.trans (same_new nL) (same_new nq)))
      | _ => cases e
    · have e2 : layW p wo = false := by
        cases wo with
        | none => rfl
        | some xs =>
          have e' : (xs.all (inV2 0 ((p : Int) - 1))) = false := by
            have e3 : ¬ (xs.all (inV2 0 ((p : Int) - 1))) = true := e
            simpa using e3
          show (xs.all (inV2 0 ((p : Int) - 1)) && isLay p (xs.map valI)) = false
          rw [e', Bool.false_and]
      have q := q H1 sm1
      rw [e2] at q
      exact q
end
end RH
set_option Elab.async false
set_option linter.all false
set_option maxRecDepth 100000
set_option maxHeartbeats 2000000
namespace RH
open PySem PySem.Spec PyProof.Rows L2
/-! ### the checks that raise -/
/-- a habit, or what is none: of each row what it is -/
inductive Hk (K : PySem.W.Frag) (H : Hp) : V → Option (List (Option (List V))) → Prop
  | tup {a : Addr} {xs : List V} {wos : List (Option (List V))} : SqT K H a xs → Each (Wd K H) xs wos → Hk K H (.ref a) (some wos)
  | no {v : V} : Tk K H v none → Hk K H v none
theorem Hk.on {K : PySem.W.Frag} {H H' : Hp} (e : Same H H') {v : V} {ho : Option (List (Option (List V)))} (h : Hk K H v ho) : Hk K H' v ho := by
  cases h with
  | tup h hx => exact .tup (onT e h) (hx.imp fun v d z => z.on e)
  | no h => exact .no (h.on e)
/-- the place that BadHabit tells, if it is none -/
def hbBad : Option (List (Option (List V))) → Option V
  | none => some .non
  | some wos => if (decide (2 ≤ wos.length) && decide (wos.length ≤ 5)) = true then (wos.findIdx? fun wo => !layW wos.length wo).map (fun i => V.int (i : Nat)) else some .non
theorem hbBad_pl {ho : Option (List (Option (List V)))} {pl : V} (h : hbBad ho = some pl) : plV pl := by
  cases ho with
  | none => exact .inl (Option.some.inj h).symm
  | some wos =>
    unfold hbBad at h
    dsimp only at h
    split at h
    · rename_i hc
      rw [Bool.and_eq_true, decide_eq_true_iff, decide_eq_true_iff] at hc
      obtain ⟨i, hi, e⟩ := Option.map_eq_some_iff.mp h
      have := (List.findIdx?_eq_some_iff_getElem.mp hi).1
      exact .inr ⟨i, by omega, e.symm⟩
    · exact .inl (Option.some.inj h).symm
theorem few_cast (n : Nat) : (decide ((2 : Int) ≤ (n : Int)) && decide ((n : Int) ≤ 5)) = (decide (2 ≤ n) && decide (n ≤ 5)) := by
  rw [Bool.eq_iff_iff]
  simp only [Bool.and_eq_true, decide_eq_true_iff]
  omega
theorem hbBad_few {wos : List (Option (List V))} (h : hbBad (some wos) = none) : 2 ≤ wos.length ∧ wos.length ≤ 5 := by
  unfold hbBad at h
  dsimp only at h
  split at h
  · rename_i hc
    rw [Bool.and_eq_true, decide_eq_true_iff, decide_eq_true_iff] at hc
    exact hc
  · cases h
section
variable {P : Program} {w : World} {K : PySem.W.Frag} {mg : Str → Option Value} {base : Heap}
def spCheckHabitX (K : PySem.W.Frag) (C : Addr) : Sp := fun vs H Q E => ∃ (v : V) (ho : Option (List (Option (List V)))), vs = [v] ∧ Hk K H v ho ∧ (hbBad ho = none → ∀ H', Same H H' → Q .non H') ∧ (∀ pl, hbBad ho = some pl → bhE C "place" pl H E)
theorem ok_check_habitX {C : Addr} (F : Df K mg "check_habit" st_check_habit ["habit"]) (B : Bu mg) (c2 : ∃ t, mg "FEWEST_PLACES" = some (.int 2 t)) (c5 : ∃ t, mg "MOST_PLACES" = some (.int 5 t)) (T : BhX P w K mg base "BadHabit" "place" C (spBI "place" C))
    (C1 : Cal P w K mg base 1 "is_row" (spIsRowW K)) (C5 : Cal P w K mg base 5 "is_layout" (spIsLayoutW K)) : CalX P w K mg base 6 "check_habit" (spCheckHabitX K C) := by
  refine mkCalX F sc_check_habit (fun vs H Q E h => ?_) (fun f cdv A outer s H vs Q E hr h => ?_)
  · obtain ⟨v, ho, rfl, _⟩ := h
    rfl
  · obtain ⟨v, ho, rfl, hk, q1, q2⟩ := h
    obtain ⟨fI, fdI, FI, iC, tI, bI⟩ := T.f
    refine ⟨_, pss_cons (ps_if (pt_not (pt_val (pc C1 hr (pa_cons (pv 0) (pa_cons (pk c2) (pa_cons (pk c5) pa_nil)))))) (pss_one (ps_raise rfl takesE (pmk_oex T.t iC tI FI (hr.mono (by decide)) bI .nil pass0 rfl T.g (pa_cons pe_non pa_nil)))) pss_nil)
      (pss_one (ps_for (passes_of rfl) rfl (pi_enumT (by rfl) B.enumerate (pa_cons (pv 0) pa_nil)) (pg_tup rfl (pgs_cons (pg_name (i := 1) sc_check_habit.nd rfl (.inl rfl)) (pgs_cons (pg_name (i := 2) sc_check_habit.nd rfl (.inl rfl)) pgs_nil)))
        (pss_one (ps_if (pt_not (pt_val (pc C5 hr (pa_cons (pv 2) (pa_cons (pe_callB (cl_len K) (by rfl) B.len PySem.boot_len (pa_cons (pv 0) pa_nil)) pa_nil))))) (pss_one (ps_raise rfl takesE (pmk_oex T.t iC tI FI (hr.mono (by decide)) bI .nil pass0 rfl T.g (pa_cons (pv 1) pa_nil)))) pss_nil)))), ?_⟩
    have none_ : ∀ {H1 : Hp}, Same H H1 → hbBad ho = some .non → ∀ d, H1 d = none → E (.ref C) (some d) (upd H1 d (.xd [("place", .non)])) := fun {H1} s1 e d hd => q2 _ e d _ (s1.trans (same_new hd)) upd_same
    cases hk with
    | @no v ht => exact ⟨_, rfl, v, none, 2, 5, rfl, ht, _, rfl, ifT rfl (bh_made (.inl rfl) (none_ (Same.refl H) rfl))⟩
    | @tup a xs wos hS hE =>
      have hlen := hE.len
      refine ⟨_, rfl, .ref a, some xs, 2, 5, rfl, .tup hS, _, rfl, ?_⟩
      cases hc : (decide (2 ≤ wos.length) && decide (wos.length ≤ 5)) with
      | false =>
        refine ifT ?_ (bh_made (.inl rfl) (none_ (Same.refl H) ?_))
        · show (!(decide ((2 : Int) ≤ (xs.length : Int)) && decide ((xs.length : Int) ≤ 5))) = true
          rw [hlen, few_cast, hc]
          rfl
        · unfold hbBad
          dsimp only
          rw [hc]
          rfl
      | true =>
        have hc' := hc
        rw [Bool.and_eq_true, decide_eq_true_iff, decide_eq_true_iff] at hc'
        refine ifF ?_ ?_
        · show (!(decide ((2 : Int) ≤ (xs.length : Int)) && decide ((xs.length : Int) ≤ 5))) = false
          rw [hlen, decide_eq_true (by omega), decide_eq_true (by omega)]
          rfl
        refine ⟨_, rfl, a, xs, rfl, hS, ?_⟩
        refine for_enumT (xs := xs) (fun i σ H' => Same H H' ∧ (∀ j wo, j < i → wos[j]? = some wo → layW wos.length wo = true) ∧ ∃ y1 y2, σ = [some (.ref a), y1, y2]) ⟨Same.refl H, fun j wo hj => absurd hj (Nat.not_lt_zero _), none, none, rfl⟩ (fun i σ H' h' => onT h'.1 hS) (fun i x T σ H' hx h' hT => ?_) (fun σ H' h' => q1 ?_ H' h'.1)
        · obtain ⟨sm, old, y1, y2, rfl⟩ := h'
          obtain ⟨wo, hwo, hTx⟩ := hE.at hx
          have sT : Same H (upd H' T (.tup [.int (i : Nat), x])) := sm.trans (same_new hT)
          refine ⟨T, _, rfl, tupAt upd_same, rfl, _, _, rfl, _, _, rfl, rfl, _, rfl, _, rfl, a, xs, rfl, .inr (onT sT hS), x, wo, wos.length, by rw [hlen]; rfl, hTx.on sT, by omega, fun H3 sm3 => ⟨_, rfl, ?_⟩⟩
          cases hl : layW wos.length wo with
          | true =>
            refine ifF rfl ⟨sT.trans sm3, fun j wo' hj e => ?_, _, _, rfl⟩
            rcases Nat.lt_succ_iff_lt_or_eq.mp hj with hj | rfl
            · exact old j wo' hj e
            · rw [hwo] at e
              cases e
              exact hl
          | false =>
            refine ifT rfl ⟨_, rfl, ?_⟩
            have hi : i < wos.length := (List.getElem?_eq_some_iff.mp hwo).1
            have e : hbBad (some wos) = some (.int (i : Nat)) := by
              unfold hbBad
              dsimp only
              rw [if_pos hc]
              have : (wos.findIdx? fun wo => !layW wos.length wo) = some i := by
                rw [List.findIdx?_eq_some_iff_getElem]
                refine ⟨hi, ?_, fun j hj => ?_⟩
                · rw [(List.getElem?_eq_some_iff.mp hwo).2, hl]
                  rfl
                · rw [old j _ hj (List.getElem?_eq_getElem _)]
                  decide
              rw [this]
              rfl
            exact bh_made (hbBad_pl e) fun d hd => q2 _ e d _ ((sT.trans sm3).trans (same_new hd)) upd_same
        · unfold hbBad
          dsimp only
          rw [if_pos hc]
          have : (wos.findIdx? fun wo => !layW wos.length wo) = none := by
            rw [List.findIdx?_eq_none_iff]
            intro wo hm
            obtain ⟨j, hj⟩ := List.mem_iff_getElem?.mp hm
            rw [h'.2.1 j wo (by rw [hlen]; exact (List.getElem?_eq_some_iff.mp hj).1) hj]
            rfl
          rw [this]
          rfl
theorem small_text {n : Nat} (h : n ≤ 5) : n = 0 ∨ n = 1 ∨ n = 2 ∨ n = 3 ∨ n = 4 ∨ n = 5 := by omega
def spCheckLayoutX (K : PySem.W.Frag) (C : Addr) : Sp := fun vs H Q E => ∃ (v : V) (wo : Option (List V)) (n : Nat), vs = [v, .int n] ∧ Wd K H v wo ∧ n ≤ 5 ∧ (layW n wo = true → ∀ H', Same H H' → Q .non H') ∧ (layW n wo = false → noE C H E)
theorem ok_check_layoutX {C : Addr} (F : Df K mg "check_layout" st_check_layout ["layout", "places"]) (Xn : ExO K mg "BadLayout" C) (C5 : Cal P w K mg base 5 "is_layout" (spIsLayoutW K)) : CalX P w K mg base 6 "check_layout" (spCheckLayoutX K C) := by
  refine mkCalX F sc_check_layout (fun vs H Q E h => ?_) (fun f cdv A outer s H vs Q E hr h => ?_)
  · obtain ⟨v, wo, n, rfl, _⟩ := h
    rfl
  · obtain ⟨v, wo, n, rfl, hw, n5, q1, q2⟩ := h
    refine ⟨_, pss_one (ps_if (pt_not (pt_val (pc C5 hr (pa_cons (pv 0) (pa_cons (pv 1) pa_nil))))) (pss_one (ps_raise rfl takesE (SkE.pmk_own1 PySem.F.excBase_ValueError Xn.q Xn.g Xn.k (raises_own Xn.b Xn.t) rfl
      (pe_joined (.cons pe_str (.cons (pe_fmt (pv 1)) (.cons pe_str .nil))))))) pss_nil), ?_⟩
    refine ⟨_, rfl, _, rfl, v, wo, n, rfl, hw, by omega, fun H1 s1 => ⟨_, rfl, ?_⟩⟩
    cases el : layW n wo with
    | true => exact ifF rfl (q1 el H1 s1)
    | false =>
      refine ifT rfl ?_
      refine ⟨_, rfl, ?_, _, rfl, .inr ⟨(n : Int), rfl, few_log n5, _, rfl, ?_, _, rfl, ?_, q2 el H1 s1⟩⟩
      · rw [sizeLine_eq]; decide +kernel
      · rw [sizeLine_eq]
        rcases small_text n5 with rfl | rfl | rfl | rfl | rfl | rfl <;> decide +kernel
      · rw [sizeLine_eq]
        rcases small_text n5 with rfl | rfl | rfl | rfl | rfl | rfl <;> decide +kernel
/-- a word's value: told row by row -/
structure Ww (K : PySem.W.Frag) (H : Hp) (v : V) (wo : Option (List V)) : Prop where
  t : Tk K H v wo
  w : rowW 0 400 wo = true → Wd K H v wo
theorem Ww.on {H H' : Hp} (e : Same H H') {v : V} {wo : Option (List V)} (h : Ww K H v wo) : Ww K H' v wo := ⟨h.t.on e, fun z => (h.w z).on e⟩
def wrdW (n : Nat) (wo : Option (List V)) : Bool := rowW 0 400 wo && plsW n wo
def spIsWordW (K : PySem.W.Frag) : Sp := fun vs H Q _ => ∃ (v : V) (wo : Option (List V)) (n : Nat), vs = [v, .int n] ∧ Ww K H v wo ∧ ∀ H', Same H H' → Q (.bl (wrdW n wo)) H'
theorem ok_is_wordW (F : Df K mg "is_word" st_is_word ["value", "places"]) (c400 : ∃ t, mg "MOST_TOUCHES" = some (.int 400 t)) (C1 : Cal P w K mg base 1 "is_row" (spIsRowW K)) (C4 : Cal P w K mg base 4 "are_places" (spArePlacesW K)) : Cal P w K mg base 5 "is_word" (spIsWordW K) := by
  refine mkCal F sc_is_word (fun vs H Q E h => ?_) (fun f cdv A outer s H vs Q E hr h => ?_)
  · obtain ⟨v, wo, n, rfl, _⟩ := h
    rfl
  · obtain ⟨v, wo, n, rfl, hw, q⟩ := h
    refine ⟨_, pss_one (ps_ret (pe_and (pc C1 hr (pa_cons (pv 0) (pa_cons pe_int (pa_cons (pk c400) pa_nil)))) (pe_one (pc C4 hr (pa_cons (pv 0) (pa_cons (pv 1) pa_nil)))))), ?_⟩
    refine ⟨_, rfl, v, wo, 0, 400, rfl, hw.t, _, rfl, ite2 (fun e => ?_) (fun e => ?_)⟩
    · refine ⟨_, rfl, _, rfl, v, wo, n, rfl, hw.w e, fun H1 s1 => ?_⟩
      have q := q H1 s1
      unfold wrdW at q
      rw [show rowW 0 400 wo = true from e, Bool.true_and] at q
      exact q
    · have e' : rowW 0 400 wo = false := by
        have e3 : ¬ rowW 0 400 wo = true := e
        simpa using e3
      have q := q H (Same.refl H)
      unfold wrdW at q
      rw [e', Bool.false_and] at q
      exact q
def spCheckWordX (K : PySem.W.Frag) (C : Addr) : Sp := fun vs H Q E => ∃ (v : V) (wo : Option (List V)) (n : Nat), vs = [v, .int n] ∧ Ww K H v wo ∧ n ≤ 5 ∧ (wrdW n wo = true → ∀ H', Same H H' → Q .non H') ∧ (wrdW n wo = false → noE C H E)
theorem ok_check_wordX {C : Addr} (F : Df K mg "check_word" st_check_word ["word", "places"]) (Xn : ExO K mg "BadWord" C) (C5 : Cal P w K mg base 5 "is_word" (spIsWordW K)) : CalX P w K mg base 6 "check_word" (spCheckWordX K C) := by
  refine mkCalX F sc_check_word (fun vs H Q E h => ?_) (fun f cdv A outer s H vs Q E hr h => ?_)
  · obtain ⟨v, wo, n, rfl, _⟩ := h
    rfl
  · obtain ⟨v, wo, n, rfl, hw, n5, q1, q2⟩ := h
    refine ⟨_, pss_one (ps_if (pt_not (pt_val (pc C5 hr (pa_cons (pv 0) (pa_cons (pv 1) pa_nil))))) (pss_one (ps_raise rfl takesE (SkE.pmk_own1 PySem.F.excBase_ValueError Xn.q Xn.g Xn.k (raises_own Xn.b Xn.t) rfl
      (pe_joined (.cons pe_str (.cons (pe_fmt (pv 1)) .nil)))))) pss_nil), ?_⟩
    refine ⟨_, rfl, _, rfl, v, wo, n, rfl, hw, fun H1 s1 => ⟨_, rfl, ?_⟩⟩
    cases el : wrdW n wo with
    | true => exact ifF rfl (q1 el H1 s1)
    | false =>
      refine ifT rfl ?_
      refine ⟨_, rfl, ?_, _, rfl, .inr ⟨(n : Int), rfl, few_log n5, _, rfl, ?_, q2 el H1 s1⟩⟩
      · rw [sizeLine_eq]; decide +kernel
      · rw [sizeLine_eq]
        rcases small_text n5 with rfl | rfl | rfl | rfl | rfl | rfl <;> decide +kernel
def spCheckNumX (K : PySem.W.Frag) (C : Addr) : Sp := fun vs H Q E => ∃ v : V, vs = [v, .int 2, .int 5] ∧ Sw K H v ∧ (inV2 2 5 v = true → Q .non H) ∧ (inV2 2 5 v = false → E (.ref C) none H)
theorem ok_check_numberX {C : Addr} (F : Df K mg "check_number" st_check_number ["value", "low", "high"]) (Xn : ExO K mg "BadNumber" C) (C2 : Cal P w K mg base 2 "is_number" (spIsNumberW K)) : CalX P w K mg base 3 "check_number" (spCheckNumX K C) := by
  refine mkCalX F sc_check_number (fun vs H Q E h => ?_) (fun f cdv A outer s H vs Q E hr h => ?_)
  · obtain ⟨v, rfl, _⟩ := h
    rfl
  · obtain ⟨v, rfl, hv, q1, q2⟩ := h
    refine ⟨_, pss_one (ps_if (pt_not (pt_val (pc C2 hr (pa_cons (pv 0) (pa_cons (pv 1) (pa_cons (pv 2) pa_nil)))))) (pss_one (ps_raise rfl takesE (SkE.pmk_own1 PySem.F.excBase_ValueError Xn.q Xn.g Xn.k (raises_own Xn.b Xn.t) rfl
      (pe_joined (.cons pe_str (.cons (pe_fmt (pv 1)) (.cons pe_str (.cons (pe_fmt (pv 2)) .nil)))))))) pss_nil), ?_⟩
    refine ⟨_, rfl, _, rfl, _, rfl, v, 2, 5, rfl, hv, _, rfl, ?_⟩
    cases el : inV2 2 5 v with
    | true => exact ifF rfl (q1 el)
    | false =>
      refine ifT rfl ?_
      refine ⟨_, rfl, ?_, _, rfl, .inr ⟨2, rfl, by decide +kernel, _, rfl, ?_, _, rfl, ?_, _, rfl, .inr ⟨5, rfl, by decide +kernel, _, rfl, ?_, q2 el⟩⟩⟩ <;> (rw [sizeLine_eq]; decide +kernel)
def spCheckPlacesX (K : PySem.W.Frag) (C : Addr) : Sp := fun vs H Q E => ∃ v : V, vs = [v] ∧ Sw K H v ∧ (inV2 2 5 v = true → Q .non H) ∧ (inV2 2 5 v = false → E (.ref C) none H)
theorem ok_check_placesX {C : Addr} (F : Df K mg "check_places" st_check_places ["places"]) (c2 : ∃ t, mg "FEWEST_PLACES" = some (.int 2 t)) (c5 : ∃ t, mg "MOST_PLACES" = some (.int 5 t)) (C3 : CalX P w K mg base 3 "check_number" (spCheckNumX K C)) :
    CalX P w K mg base 4 "check_places" (spCheckPlacesX K C) := by
  refine mkCalX F sc_check_places (fun vs H Q E h => ?_) (fun f cdv A outer s H vs Q E hr h => ?_)
  · obtain ⟨v, rfl, _⟩ := h
    rfl
  · obtain ⟨v, rfl, hv, q1, q2⟩ := h
    exact ⟨_, pss_one (ps_expr (pcX C3 passE hr (pa_cons (pv 0) (pa_cons (pk c2) (pa_cons (pk c5) pa_nil))))), _, rfl, v, rfl, hv, q1, q2⟩
end
end RH
set_option Elab.async false
set_option linter.all false
set_option maxRecDepth 100000
set_option maxHeartbeats 2000000
namespace RH
open PySem PySem.Spec PyProof.Rows L2
/-! ### instructions, of whatever kind -/
/-- a tuple of texts among the module's names -/
def CTup (K : PySem.W.Frag) (mg : Str → Option Value) (x : Str) (zs : List Str) : Prop := ∃ (a : Addr) (o : Obj) (its : Array Value) (n : Nat), mg x = some (.ref a) ∧ K.lookup a = some o ∧ o.cls = .type "tuple" ∧ o.data = .seq its n ∧ its.size ≤ sizeLine ∧ Vals (zs.map V.str) its.toList
theorem CTup.at {K : PySem.W.Frag} {mg : Str → Option Value} {x : Str} {zs : List Str} (h : CTup K mg x zs) : ∃ a : Addr, mg x = some (.ref a) ∧ ∀ H, SqT K H a (zs.map V.str) := by
  obtain ⟨a, o, its, n, h1, h2, h3, h4, h5, h6⟩ := h
  exact ⟨a, h1, fun H => .inr ⟨o, its, n, h2, h3, h4, h5, h6⟩⟩
def bareZ : List Str := ["say", "ask", "stop"]
def jumpZ : List Str := ["zero", "go"]
def accZ : List Str := ["get", "set", "plus", "minus"]
def inZ (w : Str) (zs : List Str) : Bool := inV (.str w) (zs.map V.str)
/-- is it an instruction? -/
def insW (p cnt : Int) (rl : Bool) : Option (List V) → Bool
  | some [.str w] => inZ w bareZ
  | some [.str w, v] => !inZ w bareZ && (if inZ w jumpZ then inV2 0 cnt v else if w == "put" then inV2 (-1000000) 1000000 v else (inZ w accZ || (w == "touch" && rl)) && inV2 0 (p - 1) v)
  | _ => false
theorem row12 {xs : List V} (h : rowW 1 2 (some xs) = true) : (∃ x, xs = [x]) ∨ ∃ x y, xs = [x, y] := by
  match xs with
  | [] => cases h
  | [x] => exact .inl ⟨x, rfl⟩
  | [x, y] => exact .inr ⟨x, y, rfl⟩
  | x :: y :: z :: r =>
    have h : (decide ((1 : Int) ≤ ((x :: y :: z :: r).length : Int)) && decide (((x :: y :: z :: r).length : Int) ≤ 2)) = true := h
    rw [Bool.and_eq_true, decide_eq_true_iff, decide_eq_true_iff] at h
    have := h.2
    simp only [List.length_cons] at this
    omega
def isS : V → Bool
  | .str _ => true
  | _ => false
section
variable {P : Program} {w : World} {K : PySem.W.Frag} {mg : Str → Option Value} {base : Heap} {Cb Cl Cp Cw Cn Cg Cs : Addr}
def spIsInsW (K : PySem.W.Frag) : Sp := fun vs H Q _ => ∃ (v : V) (wo : Option (List V)) (p cnt : Int) (rl : Bool), vs = [v, .int p, .int cnt, .bl rl] ∧ Wd K H v wo ∧ Q (.bl (insW p cnt rl wo)) H
theorem ok_is_insW (F : Df K mg "is_instruction" st_is_instruction ["value", "places", "count", "is_restless"]) (B : Bu mg) (bare : CTup K mg "BARE" bareZ) (jump : CTup K mg "JUMPS" jumpZ) (acc : CTup K mg "ACCESSES" accZ) (great : ∃ t, mg "GREATEST" = some (.int 1000000 t))
    (C1 : Cal P w K mg base 1 "is_row" (spIsRowW K)) (C2 : Cal P w K mg base 2 "is_number" (spIsNumberW K)) (C3 : Cal P w K mg base 3 "is_place" (spIsPlaceW K)) : Cal P w K mg base 4 "is_instruction" (spIsInsW K) := by
  obtain ⟨ab, gb, hb⟩ := bare.at
  obtain ⟨aj, gj, hj⟩ := jump.at
  obtain ⟨aa, ga, ha⟩ := acc.at
  refine mkCal F sc_is_instruction (fun vs H Q E h => ?_) (fun f cdv A outer s H vs Q E hr h => ?_)
  · obtain ⟨v, wo, p, cnt, rl, rfl, _⟩ := h
    rfl
  · obtain ⟨v, wo, p, cnt, rl, rfl, hw, q⟩ := h
    refine ⟨_, pss_cons (ps_if (PW.pt (pw_or (pt_not (pt_val (pc C1 hr (pa_cons (pv 0) (pa_cons pe_int (pa_cons pe_int pa_nil)))))) (pw_or1 (pt_not (pt_val (pe_callB call_isi (by rfl) B.isi (by decide +kernel) (pa_cons (pe_ix (ixT K) (pv 0) pe_int (fun _ _ => rfl)) (pa_cons (pe_bltn (v := .ty "str") (by rfl) B.str (by decide +kernel) rfl) pa_nil)))))))) (pss_one (ps_ret pe_bl)) pss_nil)
      (pss_cons (ps_set (i := 4) sc_is_instruction.nd rfl (.inl rfl) (pe_ix (ixT K) (pv 0) pe_int (fun _ _ => rfl)))
      (pss_cons (ps_if (pt_cmpR (opIn K) (pv 4) (pe_glob (v := .ref ab) (by rfl) gb (by rfl)) rfl) (pss_one (ps_ret (pe_cmpR op_eq (pe_callB (cl_len K) (by rfl) B.len PySem.boot_len (pa_cons (pv 0) pa_nil)) pe_int (nomark _)))) pss_nil)
      (pss_cons (ps_if (pt_cmpR op_eq (pe_callB (cl_len K) (by rfl) B.len PySem.boot_len (pa_cons (pv 0) pa_nil)) pe_int (nomark _)) (pss_one (ps_ret pe_bl)) pss_nil)
      (pss_cons (ps_if (pt_cmpR (opIn K) (pv 4) (pe_glob (v := .ref aj) (by rfl) gj (by rfl)) rfl) (pss_one (ps_ret (pc C2 hr (pa_cons (pe_ix (ixT K) (pv 0) pe_int (fun _ _ => rfl)) (pa_cons pe_int (pa_cons (pv 2) pa_nil)))))) pss_nil)
      (pss_cons (ps_if (pt_cmpR op_eq (pv 4) pe_str (nomark _)) (pss_one (ps_ret (pc C2 hr (pa_cons (pe_ix (ixT K) (pv 0) pe_int (fun _ _ => rfl)) (pa_cons (pe_un un_neg (pk great)) (pa_cons (pk great) pa_nil)))))) pss_nil)
      (pss_cons (ps_if (PW.pt (pw_or (pt_cmpR (opIn K) (pv 4) (pe_glob (v := .ref aa) (by rfl) ga (by rfl)) rfl) (pw_or1 (PW.pt (pw_and (pt_cmpR op_eq (pv 4) pe_str (nomark _)) (pw_and1 (pt_val (pv 3)))))))) (pss_one (ps_ret (pc C3 hr (pa_cons (pe_ix (ixT K) (pv 0) pe_int (fun _ _ => rfl)) (pa_cons (pv 1) pa_nil))))) pss_nil)
      (pss_one (ps_ret pe_bl)))))))), ?_⟩
    refine ⟨_, rfl, v, wo, 1, 2, rfl, hw.t, _, rfl, ?_⟩
    cases er : rowW 1 2 wo with
    | false =>
      refine ifT (by rfl) (ifT rfl ?_)
      have : insW p cnt rl wo = false := by
        cases wo with
        | none => rfl
        | some xs =>
          match xs with
          | [] => rfl
          | [x] => cases er
          | [x, y] => cases er
          | x :: y :: z :: r =>
            cases x <;> rfl
      rw [this] at q
      exact q
    | true =>
      refine ifF (by rfl) ?_
      obtain ⟨ht, hsw, hlen⟩ := hw
      cases ht with
      | @tup a xs hS =>
        have main : ∀ x, xs[0]? = some x → Sw K H x → (isS x = false → insW p cnt rl (some xs) = false) := fun x hx _ hs => by
          match xs, hx with
          | [y], hx => cases Option.some.inj hx; cases x <;> first | rfl | cases hs
          | [y, z], hx => cases Option.some.inj hx; cases x <;> first | rfl | cases hs
          | y :: z :: t :: r, hx => cases Option.some.inj hx; cases x <;> first | rfl | cases hs
        obtain ⟨x, hx⟩ : ∃ x, xs[0]? = some x := by
          rcases row12 er with ⟨x, rfl⟩ | ⟨x, y, rfl⟩ <;> exact ⟨x, rfl⟩
        have hsx := hsw xs rfl x (List.mem_of_getElem? hx)
        refine ⟨_, rfl, a, xs, 0, x, rfl, rfl, hS, atI_nat (j := 0) hx, ?_⟩
        have no : ∀ k, isS x = k → k = false → insW p cnt rl (some xs) = false := fun k e1 e2 => main x hx hsx (e1.trans e2)
        cases hsx with
        | int i => exact ⟨.int i, .ty "str", _, _, false, rfl, .ty "str", .base (.int i), kit_ty (by decide +kernel), _, rfl, ifT rfl (by rw [no _ rfl rfl] at q; exact q)⟩
        | bl b => exact ⟨.bl b, .ty "str", _, _, false, rfl, .ty "str", .base (.bl b), kit_ty (by decide +kernel), _, rfl, ifT rfl (by rw [no _ rfl rfl] at q; exact q)⟩
        | non => exact ⟨.non, .ty "str", _, _, false, rfl, .ty "str", .base .non, kit_ty (by decide +kernel), _, rfl, ifT rfl (by rw [no _ rfl rfl] at q; exact q)⟩
        | @tup a2 xs2 h => exact ⟨.ref a2, .ty "str", _, _, false, rfl, .ty "str", ty_tup h, kit_ty (by decide +kernel), _, rfl, ifT rfl (by rw [no _ rfl rfl] at q; exact q)⟩
        | @lst a2 xs2 h => exact ⟨.ref a2, .ty "str", _, _, false, rfl, .ty "str", ty_lst h, kit_ty (by decide +kernel), _, rfl, ifT rfl (by rw [no _ rfl rfl] at q; exact q)⟩
        | str z =>
          refine ⟨.str z, .ty "str", _, _, true, rfl, .ty "str", .base (.str z), kit_ty (by decide +kernel), _, rfl, ifF rfl ?_⟩
          refine ⟨_, rfl, a, xs, 0, .str z, rfl, rfl, hS, atI_nat (j := 0) hx, ?_⟩
          refine ⟨_, rfl, ab, _, rfl, .inr (hb _), rfl, by decide, _, rfl, ?_⟩
          rcases row12 er with ⟨x, rfl⟩ | ⟨x, y, rfl⟩
          · cases Option.some.inj hx
            have q : Q (.bl (inZ z bareZ)) H := q
            cases e1 : inZ z bareZ with
            | true =>
              rw [e1] at q
              exact ifT e1 ⟨_, rfl, a, _, rfl, .inr hS, rfl, q⟩
            | false =>
              rw [e1] at q
              exact ifF e1 ⟨_, rfl, a, _, rfl, .inr hS, rfl, _, rfl, ifT rfl q⟩
          · cases Option.some.inj hx
            have hsy := hsw _ rfl y (List.mem_cons_of_mem _ (List.mem_cons_self ..))
            have q : Q (.bl (!inZ z bareZ && (if inZ z jumpZ then inV2 0 cnt y else if z == "put" then inV2 (-1000000) 1000000 y else (inZ z accZ || (z == "touch" && rl)) && inV2 0 (p - 1) y))) H := q
            cases e1 : inZ z bareZ with
            | true =>
              rw [e1] at q
              exact ifT e1 ⟨_, rfl, a, _, rfl, .inr hS, rfl, q⟩
            | false =>
              rw [e1, Bool.not_false, Bool.true_and] at q
              refine ifF e1 ⟨_, rfl, a, _, rfl, .inr hS, rfl, _, rfl, ifF rfl ?_⟩
              refine ⟨_, rfl, aj, _, rfl, .inr (hj _), rfl, by decide, _, rfl, ?_⟩
              cases e2 : inZ z jumpZ with
              | true =>
                rw [e2, if_pos rfl] at q
                exact ifT e2 ⟨_, rfl, a, _, 1, y, rfl, rfl, hS, rfl, _, rfl, y, 0, cnt, rfl, hsy, q⟩
              | false =>
                rw [e2, if_neg (by decide)] at q
                refine ifF e2 ⟨_, rfl, rfl, _, rfl, ?_⟩
                rw [dec_str]
                cases e3 : z == "put" with
                | true =>
                  rw [e3, if_pos rfl] at q
                  exact ifT rfl ⟨_, rfl, a, _, 1, y, rfl, rfl, hS, rfl, 1000000, rfl, y, -1000000, 1000000, rfl, hsy, q⟩
                | false =>
                  rw [e3, if_neg (by decide)] at q
                  refine ifF rfl ⟨_, rfl, aa, _, rfl, .inr (ha _), rfl, by decide, _, rfl, ?_⟩
                  have yes : (inZ z accZ || (z == "touch" && rl)) = true → tRet (tCall (spIsPlaceW K) [] E0 (tCons (tOp (rIxT K) (tVar 0) (tC (V.int 1))) (tCons (tVar 1) tNil))) { nx := fun _ H' => Q .non H', rt := Q } [some (.ref a), some (.int p), some (.int cnt), some (.bl rl), some (.str z)] H := fun e => by
                    rw [e, Bool.true_and] at q
                    exact ⟨_, rfl, a, _, 1, y, rfl, rfl, hS, rfl, _, rfl, y, p, rfl, hsy, q⟩
                  cases e4 : inZ z accZ with
                  | true => exact ifT e4 (yes (by rw [e4]; rfl))
                  | false =>
                    refine ifF e4 ⟨_, rfl, rfl, _, rfl, ?_⟩
                    rw [dec_str]
                    cases e5 : z == "touch" with
                    | false =>
                      rw [e4, e5] at q
                      exact ifF rfl q
                    | true =>
                      refine ifT rfl ⟨_, rfl, _, rfl, ?_⟩
                      cases rl with
                      | true => exact yes (by rw [e4, e5]; rfl)
                      | false =>
                        rw [e4, e5] at q
                        exact q
      | _ => cases er
end
end RH
set_option Elab.async false
set_option linter.all false
set_option maxRecDepth 100000
set_option maxHeartbeats 2000000
namespace RH
open PySem PySem.Spec PyProof.Rows L2
/-! ### programs, of whatever kind -/
theorem callr_no {X : Cx} {f : Value} : CallR X f (fun _ _ _ => False) := fun _ _ _ _ _ _ _ _ _ h => h.elim
/-- a comprehension whose things never come -/
theorem pe_lcX {X : Cx} {elt tg iter : Expr} {ifs : List Expr} {scope : Scope} {own : List (Str × Nat)} {pos : Pos} {te : TE} (hi : PE X iter te) (ok : BlkOk X.N X.env.scope scope own) (hs : ∀ x, foldedSetIterable iter X.env x = pure x := by intro _; rfl) :
    PE X (.ListComp elt [⟨tg, iter, ifs, 0⟩] scope pos) (fun σ H _ => te σ H fun _ _ => False) := by
  refine ⟨fun pins s σ H Q I h => ?_⟩
  rw [PySem.eval_ListComp]
  have hfree : ∀ y ∈ scope.names, y.2 = .free → ∃ c, X.env.cells.lookup y.1 = some c := fun y hy e => by
    rcases ok.free y hy e with k | k
    · exact I.ok.has _ (.inl k)
    · exact I.ok.has _ (.inr k)
  refine wpAny_comprehension_free rfl hs (closure_ok hfree) ok.kind (fun y hy e => by rw [ok.uniq y hy, e]) (thn (hi.run pins s σ H _ I h) fun xv s1 hx => ?_)
  obtain ⟨_, _, _, _, hx⟩ := hx
  exact hx.elim
section
variable {P : Program} {w : World} {K : PySem.W.Frag} {mg : Str → Option Value} {base : Heap} {Cb Cl Cp Cw Cn Cg Cs : Addr}
/-- the index that BadProgram tells, if it is none -/
def pgBad (p most : Int) (rl : Bool) : Option (List (Option (List V))) → Option V
  | none => some .non
  | some wos => if (decide ((1 : Int) ≤ (wos.length : Int)) && decide ((wos.length : Int) ≤ most)) = true then (wos.findIdx? fun wo => !insW p wos.length rl wo).map (fun i => V.int (i : Nat)) else some .non
def spCheckProgX (K : PySem.W.Frag) (C : Addr) : Sp := fun vs H Q E => ∃ (v : V) (ho : Option (List (Option (List V)))) (p most : Int) (rl : Bool), vs = [v, .int p, .int most, .bl rl] ∧ Hk K H v ho ∧ (pgBad p most rl ho = none → ∀ H', Same H H' → Q .non H') ∧ (∀ pl, pgBad p most rl ho = some pl → plV pl ∧ bhE C "index" pl H E)
theorem ok_check_programX {C : Addr} (F : Df K mg "check_program" st_check_program ["program", "places", "most", "is_restless"]) (B : Bu mg) (T : BhX P w K mg base "BadProgram" "index" C (spBI "index" C)) (C1 : Cal P w K mg base 1 "is_row" (spIsRowW K)) (C4 : Cal P w K mg base 4 "is_instruction" (spIsInsW K)) :
    CalX P w K mg base 5 "check_program" (spCheckProgX K C) := by
  refine mkCalX F sc_check_program (fun vs H Q E h => ?_) (fun f cdv A outer s H vs Q E hr h => ?_)
  · obtain ⟨v, ho, p, most, rl, rfl, _⟩ := h
    rfl
  · obtain ⟨v, ho, p, most, rl, rfl, hk, q1, q2⟩ := h
    obtain ⟨fI, fdI, FI, iC, tI, bI⟩ := T.f
    refine ⟨_, pss_cons (ps_if (pt_not (pt_val (pc C1 hr (pa_cons (pv 0) (pa_cons pe_int (pa_cons (pv 2) pa_nil)))))) (pss_one (ps_raise rfl takesE (pmk_oex T.t iC tI FI (hr.mono (by decide)) bI .nil pass0 rfl T.g (pa_cons pe_non pa_nil)))) pss_nil)
      (pss_one (ps_for (passes_of rfl) rfl (pi_enumT (by rfl) B.enumerate (pa_cons (pv 0) pa_nil)) (pg_tup rfl (pgs_cons (pg_name (i := 4) sc_check_program.nd rfl (.inl rfl)) (pgs_cons (pg_name (i := 5) sc_check_program.nd rfl (.inl rfl)) pgs_nil)))
        (pss_one (ps_if (pt_not (pt_val (pc C4 hr (pa_cons (pv 5) (pa_cons (pv 1) (pa_cons (pe_callB (cl_len K) (by rfl) B.len PySem.boot_len (pa_cons (pv 0) pa_nil)) (pa_cons (pv 3) pa_nil))))))) (pss_one (ps_raise rfl takesE (pmk_oex T.t iC tI FI (hr.mono (by decide)) bI .nil pass0 rfl T.g (pa_cons (pv 4) pa_nil)))) pss_nil)))), ?_⟩
    have none_ : ∀ {H1 : Hp}, Same H H1 → pgBad p most rl ho = some .non → ∀ d, H1 d = none → E (.ref C) (some d) (upd H1 d (.xd [("index", .non)])) := fun {H1} s1 e d hd => (q2 _ e).2 d _ (s1.trans (same_new hd)) upd_same
    cases hk with
    | @no v ht => exact ⟨_, rfl, _, rfl, v, none, 1, most, rfl, ht, _, rfl, ifT rfl (bh_made (.inl rfl) (none_ (Same.refl H) rfl))⟩
    | @tup a xs wos hS hE =>
      have hlen := hE.len
      refine ⟨_, rfl, _, rfl, .ref a, some xs, 1, most, rfl, .tup hS, _, rfl, ?_⟩
      have er : rowW 1 most (some xs) = (decide ((1 : Int) ≤ (wos.length : Int)) && decide ((wos.length : Int) ≤ most)) := by
        show (decide ((1 : Int) ≤ (xs.length : Int)) && decide ((xs.length : Int) ≤ most)) = _
        rw [hlen]
      rw [er]
      cases hc : (decide ((1 : Int) ≤ (wos.length : Int)) && decide ((wos.length : Int) ≤ most)) with
      | false =>
        refine ifT rfl (bh_made (.inl rfl) (none_ (Same.refl H) ?_))
        unfold pgBad
        dsimp only
        rw [hc]
        rfl
      | true =>
        refine ifF rfl ?_
        refine ⟨_, rfl, a, xs, rfl, hS, ?_⟩
        refine for_enumT (xs := xs) (fun i σ H' => Same H H' ∧ (∀ j wo, j < i → wos[j]? = some wo → insW p wos.length rl wo = true) ∧ ∃ y1 y2, σ = [some (.ref a), some (.int p), some (.int most), some (.bl rl), y1, y2]) ⟨Same.refl H, fun j wo hj => absurd hj (Nat.not_lt_zero _), none, none, rfl⟩ (fun i σ H' h' => onT h'.1 hS) (fun i x T σ H' hx h' hT => ?_) (fun σ H' h' => q1 ?_ H' h'.1)
        · obtain ⟨sm, old, y1, y2, rfl⟩ := h'
          obtain ⟨wo, hwo, hTx⟩ := hE.at hx
          have sT : Same H (upd H' T (.tup [.int (i : Nat), x])) := sm.trans (same_new hT)
          refine ⟨T, _, rfl, tupAt upd_same, rfl, _, _, rfl, _, _, rfl, rfl, _, rfl, _, rfl, _, rfl, a, xs, rfl, .inr (onT sT hS), _, rfl, x, wo, p, (wos.length : Int), rl, by rw [hlen]; rfl, hTx.on sT, _, rfl, ?_⟩
          cases hl : insW p wos.length rl wo with
          | true =>
            refine ifF rfl ⟨sT, fun j wo' hj e => ?_, _, _, rfl⟩
            rcases Nat.lt_succ_iff_lt_or_eq.mp hj with hj | rfl
            · exact old j wo' hj e
            · rw [hwo] at e
              cases e
              exact hl
          | false =>
            refine ifT rfl ⟨_, rfl, ?_⟩
            have hi : i < wos.length := (List.getElem?_eq_some_iff.mp hwo).1
            have e : pgBad p most rl (some wos) = some (.int (i : Nat)) := by
              unfold pgBad
              dsimp only
              rw [if_pos hc]
              have : (wos.findIdx? fun wo => !insW p wos.length rl wo) = some i := by
                rw [List.findIdx?_eq_some_iff_getElem]
                refine ⟨hi, ?_, fun j hj => ?_⟩
                · rw [(List.getElem?_eq_some_iff.mp hwo).2, hl]
                  rfl
                · rw [old j _ hj (List.getElem?_eq_getElem _)]
                  decide
              rw [this]
              rfl
            exact bh_made (q2 _ e).1 fun d hd => (q2 _ e).2 d _ (sT.trans (same_new hd)) upd_same
        · unfold pgBad
          dsimp only
          rw [if_pos hc]
          have : (wos.findIdx? fun wo => !insW p wos.length rl wo) = none := by
            rw [List.findIdx?_eq_none_iff]
            intro wo hm
            obtain ⟨j, hj⟩ := List.mem_iff_getElem?.mp hm
            rw [h'.2.1 j wo (by rw [hlen]; exact (List.getElem?_eq_some_iff.mp hj).1) hj]
            rfl
          rw [this]
          rfl
def spCheckPg2 (K : PySem.W.Frag) (C : Addr) (most : Int) (rl : Bool) : Sp := fun vs H Q E => ∃ (v : V) (ho : Option (List (Option (List V)))) (p : Int), vs = [v, .int p] ∧ Hk K H v ho ∧ (pgBad p most rl ho = none → ∀ H', Same H H' → Q .non H') ∧ (∀ pl, pgBad p most rl ho = some pl → plV pl ∧ bhE C "index" pl H E)
theorem ok_check_restlessX {C : Addr} (F : Df K mg "check_restless" st_check_restless ["program", "places"]) (c4000 : ∃ t, mg "MOST_RESTLESS" = some (.int 4000 t)) (CP : CalX P w K mg base 5 "check_program" (spCheckProgX K C)) : CalX P w K mg base 6 "check_restless" (spCheckPg2 K C 4000 true) := by
  refine mkCalX F sc_check_restless (fun vs H Q E h => ?_) (fun f cdv A outer s H vs Q E hr h => ?_)
  · obtain ⟨v, ho, p, rfl, _⟩ := h
    rfl
  · obtain ⟨v, ho, p, rfl, hk, q1, q2⟩ := h
    exact ⟨_, pss_one (ps_expr (pcX CP passE hr (pa_cons (pv 0) (pa_cons (pv 1) (pa_cons (pk c4000) (pa_cons pe_bl pa_nil)))))), _, rfl, _, rfl, v, ho, p, 4000, true, rfl, hk, q1, q2⟩
/-- no places, or no program -/
def spPg (K : PySem.W.Frag) (Cn Cg : Addr) (most : Int) (rl : Bool) : Sp := fun vs H Q E => ∃ v1 v2, vs = [v1, v2] ∧ Sw K H v1 ∧ ((inV2 2 5 v1 = false ∧ noE Cn H E) ∨ ∃ (n : Int) (ho : Option (List (Option (List V)))) (pl : V), v1 = .int n ∧ inV2 2 5 v1 = true ∧ Hk K H v2 ho ∧ pgBad n most rl ho = some pl ∧ plV pl ∧ bhE Cg "index" pl H E)
theorem ok_writeX (F : Df K mg "write_program" st_write_program ["places", "program"]) (CP : CalX P w K mg base 4 "check_places" (spCheckPlacesX K Cn)) (CG : CalX P w K mg base 6 "check_restless" (spCheckPg2 K Cg 4000 true)) : CalX P w K mg base 7 "write_program" (spPg K Cn Cg 4000 true) := by
  refine mkCalX F sc_write_program (fun vs H Q E h => ?_) (fun f cdv A outer s H vs Q E hr h => ?_)
  · obtain ⟨v1, v2, rfl, _⟩ := h
    rfl
  · obtain ⟨v1, v2, rfl, hv, h⟩ := h
    refine ⟨_, pss_cons (ps_expr (pcX CP passE hr (pa_cons (pv 0) pa_nil))) (pss_cons (ps_expr (pcX CG passE hr (pa_cons (pv 1) (pa_cons (pv 0) pa_nil)))) (pss_one ps_no)), _, rfl, v1, rfl, hv, fun e => ?_, fun e => ?_⟩
    · rcases h with ⟨bad, _⟩ | ⟨n, ho, pl, rfl, _, hk, hp, hv, he⟩
      · rw [e] at bad
        cases bad
      · exact ⟨_, rfl, _, rfl, v2, ho, n, rfl, hk, fun z => (by rw [hp] at z; cases z), fun pl' z => by rw [hp] at z; cases z; exact ⟨hv, he⟩⟩
    · rcases h with ⟨_, he⟩ | ⟨n, ho, pl, rfl, good, _⟩
      · exact he H (Same.refl H)
      · rw [e] at good
        cases good
/-- no text -/
def isSt : V → Bool
  | .str _ => true
  | _ => false
def NoSt (K : PySem.W.Frag) (H : Hp) (v : V) : Prop := isSt v = false ∧ ∃ wo, Tk K H v wo
def spNoSt (K : PySem.W.Frag) (Cs : Addr) : Sp := fun vs H Q E => ∃ v, vs = [v] ∧ NoSt K H v ∧ noE Cs H E
theorem ok_check_stringX (F : Df K mg "check_string" st_check_string ["text"]) (B : Bu mg) (Xs : ExO K mg "BadString" Cs) : CalX P w K mg base 1 "check_string" (spNoSt K Cs) := by
  refine mkCalX F sc_check_string (fun vs H Q E h => ?_) (fun f cdv A outer s H vs Q E hr h => ?_)
  · obtain ⟨v, rfl, _⟩ := h
    rfl
  · obtain ⟨v, rfl, ⟨hs, wo, ht⟩, he⟩ := h
    refine ⟨_, pss_one (ps_if (pt_not (pt_val (pe_callB call_isi (by rfl) B.isi (by decide +kernel) (pa_cons (pv 0) (pa_cons (pe_bltn (v := .ty "str") (by rfl) B.str (by decide +kernel) rfl) pa_nil))))) (pss_one (ps_raise rfl takesE (pmk_own PySem.F.excBase_ValueError Xs.q Xs.g Xs.k (raises_own Xs.b Xs.t) rfl))) pss_nil), ?_⟩
    have he := he H (Same.refl H)
    cases ht with
    | int i => exact ⟨_, rfl, .int i, .ty "str", _, _, false, rfl, .ty "str", .base (.int i), kit_ty (by decide +kernel), _, rfl, ifT rfl he⟩
    | bl b => exact ⟨_, rfl, .bl b, .ty "str", _, _, false, rfl, .ty "str", .base (.bl b), kit_ty (by decide +kernel), _, rfl, ifT rfl he⟩
    | non => exact ⟨_, rfl, .non, .ty "str", _, _, false, rfl, .ty "str", .base .non, kit_ty (by decide +kernel), _, rfl, ifT rfl he⟩
    | str z => cases hs
    | @lst a xs hS => exact ⟨_, rfl, .ref a, .ty "str", _, _, false, rfl, .ty "str", ty_lst hS, kit_ty (by decide +kernel), _, rfl, ifT rfl he⟩
    | @dct a kvs e => exact ⟨_, rfl, .ref a, .ty "str", _, _, false, rfl, .ty "str", .base (.dK e), kit_ty (by decide +kernel), _, rfl, ifT rfl he⟩
    | @tup a xs hS => exact ⟨_, rfl, .ref a, .ty "str", _, _, false, rfl, .ty "str", ty_tup hS, kit_ty (by decide +kernel), _, rfl, ifT rfl he⟩
theorem ok_lines_inX (F : Df K mg "lines_in" st_lines_in ["text"]) (CS : CalX P w K mg base 1 "check_string" (spNoSt K Cs)) : CalX P w K mg base 2 "lines_in" (spNoSt K Cs) := by
  refine mkCalX F sc_lines_in (fun vs H Q E h => ?_) (fun f cdv A outer s H vs Q E hr h => ?_)
  · obtain ⟨v, rfl, _⟩ := h
    rfl
  · obtain ⟨v, rfl, h⟩ := h
    exact ⟨_, pss_cons (ps_expr (pcX CS passE hr (pa_cons (pv 0) pa_nil))) (pss_one ps_no), _, rfl, v, rfl, h⟩
/-- no places, or no text -/
def spRd (K : PySem.W.Frag) (Cn Cs : Addr) : Sp := fun vs H Q E => ∃ v1 v2, vs = [v1, v2] ∧ Sw K H v1 ∧ ((inV2 2 5 v1 = false ∧ noE Cn H E) ∨ (inV2 2 5 v1 = true ∧ NoSt K H v2 ∧ noE Cs H E))
theorem ok_readX (F : Df K mg "read_program" st_read_program ["places", "text"]) (B : Bu mg) (CP : CalX P w K mg base 4 "check_places" (spCheckPlacesX K Cn)) (CL : CalX P w K mg base 2 "lines_in" (spNoSt K Cs)) : CalX P w K mg base 5 "read_program" (spRd K Cn Cs) := by
  refine mkCalX F sc_read_program (fun vs H Q E h => ?_) (fun f cdv A outer s H vs Q E hr h => ?_)
  · obtain ⟨v1, v2, rfl, _⟩ := h
    rfl
  · obtain ⟨v1, v2, rfl, hv, h⟩ := h
    refine ⟨_, pss_cons (ps_expr (pcX CP passE hr (pa_cons (pv 0) pa_nil))) (pss_cons (ps_set (i := 2) sc_read_program.nd rfl (.inl rfl) (pe_tupleOf (by rfl) B.tuple (pe_lcX (own := [("at", 3), ("words", 5)]) (pe_callTy (T := "enumerate") callr_no (by rfl) B.enumerate (by decide +kernel) (pa_cons (pcX CL passE hr (pa_cons (pv 1) pa_nil)) pa_nil)) (blkOk_by (N := ["places", "text", "program", "at", "instruction", "words"]) (sc := defScope st_read_program) (by decide +kernel)))))
      (pss_cons ps_no (pss_cons ps_no (pss_one ps_no)))), _, rfl, v1, rfl, hv, fun e => ?_, fun e => ?_⟩
    · rcases h with ⟨bad, _⟩ | ⟨_, hn, he⟩
      · rw [e] at bad
        cases bad
      · exact ⟨_, rfl, v2, rfl, hn, he⟩
    · rcases h with ⟨_, he⟩ | ⟨good, _⟩
      · exact he H (Same.refl H)
      · rw [e] at good
        cases good
end
end RH
set_option Elab.async false
set_option linter.all false
set_option maxRecDepth 100000
set_option maxHeartbeats 2000000
namespace RH
open PySem PySem.Spec PyProof.Rows L2
/-! ### the functions, where they refuse -/
/-- no habit, or no layout of it -/
def badHL (K : PySem.W.Frag) (Cb Cl : Addr) (H : Hp) (v1 v2 : V) (E : XK) : Prop := (∃ (ho : Option (List (Option (List V)))) (pl : V), Hk K H v1 ho ∧ hbBad ho = some pl ∧ bhE Cb "place" pl H E) ∨ ∃ (wos : List (Option (List V))) (w2 : Option (List V)), Hk K H v1 (some wos) ∧ hbBad (some wos) = none ∧ Wd K H v2 w2 ∧ layW wos.length w2 = false ∧ noE Cl H E
/-- a habit of n places and a layout -/
def goodHL (K : PySem.W.Frag) (H : Hp) (v1 v2 : V) (n : Nat) : Prop := ∃ (wos : List (Option (List V))) (w2 : Option (List V)), Hk K H v1 (some wos) ∧ hbBad (some wos) = none ∧ wos.length = n ∧ Wd K H v2 w2 ∧ layW n w2 = true
section
variable {P : Program} {w : World} {K : PySem.W.Frag} {mg : Str → Option Value} {base : Heap} {Cb Cl Cp Cw Cn : Addr}
def spHL3 (K : PySem.W.Frag) (Cb Cl : Addr) (R : Nat → V → Hp → XK → Prop) : Sp := fun vs H Q E => ∃ v1 v2 v3, vs = [v1, v2, v3] ∧ (badHL K Cb Cl H v1 v2 E ∨ ∃ n, goodHL K H v1 v2 n ∧ R n v3 H E)
def rPlace (K : PySem.W.Frag) (Cp : Addr) : Nat → V → Hp → XK → Prop := fun n v H E => Sw K H v ∧ inV2 0 ((n : Int) - 1) v = false ∧ noE Cp H E
def rWord (K : PySem.W.Frag) (Cw : Addr) : Nat → V → Hp → XK → Prop := fun n v H E => ∃ wo, Ww K H v wo ∧ wrdW n wo = false ∧ noE Cw H E
/-- the three checks of a word on a shelf -/
def spShelf (K : PySem.W.Frag) (Cb Cl Cw : Addr) : Sp := fun vs H Q E => ∃ v1 v2 v3, vs = [v1, v2, v3] ∧ (badHL K Cb Cl H v1 v2 E ∨ ∃ n, goodHL K H v1 v2 n ∧ ∃ wo, Ww K H v3 wo ∧ (wrdW n wo = true → ∀ H', Same H H' → Q .non H') ∧ (wrdW n wo = false → noE Cw H E))
theorem hk_tup {H : Hp} {v : V} {wos : List (Option (List V))} (h : Hk K H v (some wos)) : ∃ a xs, v = .ref a ∧ SqT K H a xs ∧ xs.length = wos.length := by
  cases h with
  | tup h hx => exact ⟨_, _, rfl, h, hx.len⟩
/-- the two checks: the error comes -/
theorem hl_bad {H : Hp} {v1 v2 : V} {E : XK} (h : badHL K Cb Cl H v1 v2 E) : ∃ ho, Hk K H v1 ho ∧ (∀ pl, hbBad ho = some pl → bhE Cb "place" pl H E) ∧ ∀ H1, Same H H1 → hbBad ho = none → ∃ (a : Addr) (xs : List V) (wos : List (Option (List V))) (w2 : Option (List V)), v1 = .ref a ∧ SqT K H1 a xs ∧ xs.length = wos.length ∧ Wd K H1 v2 w2 ∧ wos.length ≤ 5 ∧ layW wos.length w2 = false ∧ noE Cl H1 E := by
  rcases h with ⟨ho, pl, hk, hp, he⟩ | ⟨wos, w2, hk, hb, hw, hl, he⟩
  · exact ⟨ho, hk, fun pl' e => by rw [hp] at e; cases e; exact he, fun H1 s1 e => by rw [hp] at e; cases e⟩
  · obtain ⟨a, xs, rfl, hS, hlen⟩ := hk_tup hk
    exact ⟨some wos, hk, fun pl e => (by rw [hb] at e; cases e), fun H1 s1 _ => ⟨a, xs, wos, w2, rfl, onT s1 hS, hlen, hw.on s1, (hbBad_few hb).2, hl, he.on s1⟩⟩
theorem ok_shelfX (F : Df K mg "check_word_on_shelf" st_check_word_on_shelf ["habit", "layout", "word"]) (B : Bu mg) (CH : CalX P w K mg base 6 "check_habit" (spCheckHabitX K Cb)) (CL : CalX P w K mg base 6 "check_layout" (spCheckLayoutX K Cl)) (CW : CalX P w K mg base 6 "check_word" (spCheckWordX K Cw)) :
    CalX P w K mg base 7 "check_word_on_shelf" (spShelf K Cb Cl Cw) := by
  refine mkCalX F sc_check_word_on_shelf (fun vs H Q E h => ?_) (fun f cdv A outer s H vs Q E hr h => ?_)
  · obtain ⟨v1, v2, v3, rfl, _⟩ := h
    rfl
  · obtain ⟨v1, v2, v3, rfl, h⟩ := h
    refine ⟨_, pss_cons (ps_expr (pcX CH passE hr (pa_cons (pv 0) pa_nil))) (pss_cons (ps_expr (pcX CL passE hr (pa_cons (pv 1) (pa_cons (pe_callB (cl_len K) (by rfl) B.len PySem.boot_len (pa_cons (pv 0) pa_nil)) pa_nil))))
      (pss_one (ps_expr (pcX CW passE hr (pa_cons (pv 2) (pa_cons (pe_callB (cl_len K) (by rfl) B.len PySem.boot_len (pa_cons (pv 0) pa_nil)) pa_nil)))))), ?_⟩
    rcases h with h | ⟨n, ⟨wos, w2, hk, hb, rfl, hw, hl⟩, wo3, hv3, good, bad⟩
    · obtain ⟨ho, hk, q2, q1⟩ := hl_bad h
      refine ⟨_, rfl, v1, ho, rfl, hk, fun e H1 s1 => ?_, q2⟩
      obtain ⟨a, xs, wos, w2, rfl, hS, hlen, hw, n5, hl, he⟩ := q1 H1 s1 e
      exact ⟨_, rfl, _, rfl, a, xs, rfl, .inr hS, v2, w2, wos.length, by rw [hlen]; rfl, hw, n5, fun e => (by rw [hl] at e; cases e), fun _ => he⟩
    · obtain ⟨a, xs, rfl, hS, hlen⟩ := hk_tup hk
      refine ⟨_, rfl, _, some wos, rfl, hk, fun _ H1 s1 => ?_, fun pl e => (by rw [hb] at e; cases e)⟩
      refine ⟨_, rfl, _, rfl, a, xs, rfl, .inr (onT s1 hS), v2, w2, wos.length, by rw [hlen]; rfl, hw.on s1, (hbBad_few hb).2, fun _ H2 s2 => ?_, fun e => (by rw [hl] at e; cases e)⟩
      have s12 := s1.trans s2
      exact ⟨_, rfl, _, rfl, a, xs, rfl, .inr (onT s12 hS), v3, wo3, wos.length, by rw [hlen]; rfl, hv3.on s12, (hbBad_few hb).2, fun e H3 s3 => good e H3 (s12.trans s3), fun e => (bad e).on s12⟩
theorem hl3_shelf {H : Hp} {v1 v2 v3 : V} {Qn : Hp → Prop} {E : XK} (h : badHL K Cb Cl H v1 v2 E ∨ ∃ n, goodHL K H v1 v2 n ∧ rWord K Cw n v3 H E) : badHL K Cb Cl H v1 v2 E ∨ ∃ n, goodHL K H v1 v2 n ∧ ∃ wo, Ww K H v3 wo ∧ (wrdW n wo = true → ∀ H', Same H H' → Qn H') ∧ (wrdW n wo = false → noE Cw H E) := by
  rcases h with h | ⟨n, g, wo, hw, bad, he⟩
  · exact .inl h
  · exact .inr ⟨n, g, wo, hw, fun e => (by rw [bad] at e; cases e), fun _ => he⟩
theorem ok_books_ofX (F : Df K mg "books_of" st_books_of ["habit", "layout", "word"]) (CS : CalX P w K mg base 7 "check_word_on_shelf" (spShelf K Cb Cl Cw)) : CalX P w K mg base 8 "books_of" (spHL3 K Cb Cl (rWord K Cw)) := by
  refine mkCalX F sc_books_of (fun vs H Q E h => ?_) (fun f cdv A outer s H vs Q E hr h => ?_)
  · obtain ⟨v1, v2, v3, rfl, _⟩ := h
    rfl
  · obtain ⟨v1, v2, v3, rfl, h⟩ := h
    exact ⟨_, pss_cons (ps_expr (pcX CS passE hr (pa_cons (pv 0) (pa_cons (pv 1) (pa_cons (pv 2) pa_nil))))) (pss_cons ps_no (pss_cons ps_no (pss_one ps_no))), _, rfl, _, rfl, _, rfl, v1, v2, v3, rfl, hl3_shelf h⟩
theorem ok_hiddenX (F : Df K mg "hidden_losses" st_hidden_losses ["habit", "layout", "word"]) (CS : CalX P w K mg base 7 "check_word_on_shelf" (spShelf K Cb Cl Cw)) : CalX P w K mg base 8 "hidden_losses" (spHL3 K Cb Cl (rWord K Cw)) := by
  refine mkCalX F sc_hidden_losses (fun vs H Q E h => ?_) (fun f cdv A outer s H vs Q E hr h => ?_)
  · obtain ⟨v1, v2, v3, rfl, _⟩ := h
    rfl
  · obtain ⟨v1, v2, v3, rfl, h⟩ := h
    exact ⟨_, pss_cons (ps_expr (pcX CS passE hr (pa_cons (pv 0) (pa_cons (pv 1) (pa_cons (pv 2) pa_nil))))) (pss_cons ps_no (pss_one ps_no)), _, rfl, _, rfl, _, rfl, v1, v2, v3, rfl, hl3_shelf h⟩
/-- no habit, layout, word; or what is asked of the fourth -/
def spHL4 (K : PySem.W.Frag) (Cb Cl Cw : Addr) (R : Nat → V → V → Hp → XK → Prop) : Sp := fun vs H Q E => ∃ v1 v2 v3 v4, vs = [v1, v2, v3, v4] ∧ ((badHL K Cb Cl H v1 v2 E ∨ ∃ n, goodHL K H v1 v2 n ∧ rWord K Cw n v3 H E) ∨ ∃ n wo, goodHL K H v1 v2 n ∧ Ww K H v3 wo ∧ wrdW n wo = true ∧ R n v3 v4 H E)
theorem ok_book_atX (F : Df K mg "book_at" st_book_at ["habit", "layout", "word", "place"]) (B : Bu mg) (CS : CalX P w K mg base 7 "check_word_on_shelf" (spShelf K Cb Cl Cw)) (CP : CalX P w K mg base 4 "check_place" (spCheckPlX K Cp)) : CalX P w K mg base 8 "book_at" (spHL4 K Cb Cl Cw (fun n _ => rPlace K Cp n)) := by
  refine mkCalX F sc_book_at (fun vs H Q E h => ?_) (fun f cdv A outer s H vs Q E hr h => ?_)
  · obtain ⟨v1, v2, v3, v4, rfl, _⟩ := h
    rfl
  · obtain ⟨v1, v2, v3, v4, rfl, h⟩ := h
    refine ⟨_, pss_cons (ps_expr (pcX CS passE hr (pa_cons (pv 0) (pa_cons (pv 1) (pa_cons (pv 2) pa_nil))))) (pss_cons (ps_expr (pcX CP passE hr (pa_cons (pv 3) (pa_cons (pe_callB (cl_len K) (by rfl) B.len PySem.boot_len (pa_cons (pv 0) pa_nil)) pa_nil)))) (pss_one ps_no)), ?_⟩
    rcases h with h | ⟨n, wo, g, hw, ok, hv4, bad, he⟩
    · exact ⟨_, rfl, _, rfl, _, rfl, v1, v2, v3, rfl, hl3_shelf h⟩
    · obtain ⟨wos, w2, hk, hb, e, _⟩ := id g
      obtain ⟨a, xs, rfl, hS, hlen⟩ := hk_tup hk
      refine ⟨_, rfl, _, rfl, _, rfl, _, v2, v3, rfl, .inr ⟨n, g, wo, hw, fun _ H1 s1 => ?_, fun z => (by rw [ok] at z; cases z)⟩⟩
      exact ⟨_, rfl, _, rfl, a, xs, rfl, .inr (onT s1 hS), v4, n, by rw [hlen, e]; rfl, by rw [← e]; exact (hbBad_few hb).2, hv4.on s1, fun z => (by rw [bad] at z; cases z), fun _ => he H1 s1⟩
def spCheckNum0 (K : PySem.W.Frag) (C : Addr) : Sp := fun vs H Q E => ∃ v : V, vs = [v, .int 0, .int 0] ∧ Sw K H v ∧ inV2 0 0 v = false ∧ E (.ref C) none H
theorem ok_check_number0 {C : Addr} (F : Df K mg "check_number" st_check_number ["value", "low", "high"]) (Xn : ExO K mg "BadNumber" C) (C2 : Cal P w K mg base 2 "is_number" (spIsNumberW K)) : CalX P w K mg base 3 "check_number" (spCheckNum0 K C) := by
  refine mkCalX F sc_check_number (fun vs H Q E h => ?_) (fun f cdv A outer s H vs Q E hr h => ?_)
  · obtain ⟨v, rfl, _⟩ := h
    rfl
  · obtain ⟨v, rfl, hv, bad, he⟩ := h
    refine ⟨_, pss_one (ps_if (pt_not (pt_val (pc C2 hr (pa_cons (pv 0) (pa_cons (pv 1) (pa_cons (pv 2) pa_nil)))))) (pss_one (ps_raise rfl takesE (SkE.pmk_own1 PySem.F.excBase_ValueError Xn.q Xn.g Xn.k (raises_own Xn.b Xn.t) rfl
      (pe_joined (.cons pe_str (.cons (pe_fmt (pv 1)) (.cons pe_str (.cons (pe_fmt (pv 2)) .nil)))))))) pss_nil), ?_⟩
    refine ⟨_, rfl, _, rfl, _, rfl, v, 0, 0, rfl, hv, _, rfl, ?_⟩
    refine ifT (by rw [bad]; rfl) ?_
    refine ⟨_, rfl, ?_, _, rfl, .inr ⟨0, rfl, by decide +kernel, _, rfl, ?_, _, rfl, ?_, _, rfl, .inr ⟨0, rfl, by decide +kernel, _, rfl, ?_, he⟩⟩⟩ <;> (rw [sizeLine_eq]; decide +kernel)
theorem ok_lossX (F : Df K mg "loss_shown" st_loss_shown ["habit", "layout", "word", "spot"]) (B : Bu mg) (CS : CalX P w K mg base 7 "check_word_on_shelf" (spShelf K Cb Cl Cw)) (CN : CalX P w K mg base 3 "check_number" (spCheckNum0 K Cn)) :
    CalX P w K mg base 8 "loss_shown" (spHL4 K Cb Cl Cw (fun _ v3 v4 H E => (∃ (a : Addr) (x : V), v3 = .ref a ∧ SqT K H a [x]) ∧ Sw K H v4 ∧ inV2 0 0 v4 = false ∧ noE Cn H E)) := by
  refine mkCalX F sc_loss_shown (fun vs H Q E h => ?_) (fun f cdv A outer s H vs Q E hr h => ?_)
  · obtain ⟨v1, v2, v3, v4, rfl, _⟩ := h
    rfl
  · obtain ⟨v1, v2, v3, v4, rfl, h⟩ := h
    refine ⟨_, pss_cons (ps_expr (pcX CS passE hr (pa_cons (pv 0) (pa_cons (pv 1) (pa_cons (pv 2) pa_nil))))) (pss_cons (ps_expr (pcX CN passE hr (pa_cons (pv 3) (pa_cons pe_int (pa_cons (pe_op op_sub (pe_callB (cl_len K) (by rfl) B.len PySem.boot_len (pa_cons (pv 2) pa_nil)) pe_int) pa_nil)))))
      (pss_cons ps_no (pss_cons ps_no (pss_cons ps_no (pss_one ps_no))))), ?_⟩
    rcases h with h | ⟨n, wo, g, hw, ok, ⟨a, x, rfl, hS⟩, hv4, bad, he⟩
    · exact ⟨_, rfl, _, rfl, _, rfl, v1, v2, v3, rfl, hl3_shelf h⟩
    · refine ⟨_, rfl, _, rfl, _, rfl, v1, v2, _, rfl, .inr ⟨n, g, wo, hw, fun _ H1 s1 => ?_, fun z => (by rw [ok] at z; cases z)⟩⟩
      exact ⟨_, rfl, _, rfl, a, _, rfl, .inr (onT s1 hS), 1, 1, rfl, rfl, v4, rfl, hv4.on s1, bad, he H1 s1⟩
end
end RH
set_option Elab.async false
set_option linter.all false
set_option maxRecDepth 100000
set_option maxHeartbeats 2000000
namespace RH
open PySem PySem.Spec PyProof.Rows L2
open NdefX (NScope CellsAt Caps slotAt slotAt_of cells_of startF ncx)
open LamX (Tabs TabS TabB ExtN CodeO codeO_ne)
/-! ### the lambdas that the law makes -/
def lamP : Expr → Arguments
  | .Lambda p _ _ _ => p
  | _ => defArgs st_law
def lamB : Expr → Expr
  | .Lambda _ b _ _ => b
  | e => e
def lamS : Expr → Scope
  | .Lambda _ _ sc _ => sc
  | _ => defScope st_law
def lamO : Expr → Pos
  | .Lambda _ _ _ p => p
  | _ => ⟨0, 0, 0, 0⟩
/-- a def of the text with its code object -/
structure DfC (K : PySem.W.Frag) (mg : Str → Option Value) (x : Str) (st : Stmt) (ps : List Str) (c : Addr) : Prop where
  ex : ∃ (f : Addr) (oc : Value) (od : Option Addr) (kV doc pm : Value) (an : Option Addr) (ct : Value) (osl : Array (Option Value)), K.lookup f = some ⟨oc, od, .func (PySem.W.fnOf x x (defArgs st) (defBody st) (defScope st) .none kV doc pm an (.ref c) ct), osl⟩ ∧
    PySem.W.codeIn K (.ref c) x = true ∧ PySem.W.keepIn K (.ref f) = true ∧ mg x = some (.ref f) ∧ Binds K (PySem.W.fnOf x x (defArgs st) (defBody st) (defScope st) .none kV doc pm an (.ref c) ct) ps []
/-- the first argument of a call that stands alone -/
def argOf : Stmt → Expr
  | .Expr (.Call _ as _ _) _ => as.getD 0 (.Constant .none 0 ⟨0, 0, 0, 0⟩)
  | _ => .Constant .none 0 ⟨0, 0, 0, 0⟩
section
variable {P : Program} {w : World} {K : PySem.W.Frag} {mg : Str → Option Value} {base : Heap}
theorem passN {N : List Str} {F : NdefX.NF} {f : Addr} {A : Around} {outer : List Env} {s : Shared} {H : Hp} {E : XK} : Passes (L2.CX P w) (ncx (L2.CX P w) P w K mg base N F f A outer s H E) E :=
  passes_call (W := fun cls d _ H => E cls d H) (takes_of rfl rfl rfl rfl) (fun _ _ _ _ h => h)
def spW (sp : Sp) (g : List V → List V) : List (Option V) → Sp := fun ws vs H Q E => ∃ us : List V, ws = us.map some ∧ vs = [] ∧ sp (g us) H Q E
/-- a lambda of the law's stands with what it caught -/
structure LamAt (lam : Expr) (fr : List Str) (ws : List V) (l : CL) (f : Addr) (H : Hp) : Prop where
  ex : ∃ q cl c, LiveK f ⟨q, lamP lam, lamB lam, lamS lam, cl, c⟩ l H ∧ Cap ⟨q, lamP lam, lamB lam, lamS lam, cl, c⟩ fr ws l
def lamQ (x : Str) : Str := (envOfC x (defScope st__law_works) 0 0 .none).qual ++ "<lambda>"
theorem cells_kind {y : Str} {c : Addr} : ∀ (names : List (Str × NameKind)) (n : Nat) (acc : List (Str × Addr)), (PySem.cellsFrom n names acc).lookup y = some c → (y, NameKind.cell) ∈ names ∨ acc.lookup y = some c
  | [], _, _, h => .inr h
  | (x, k) :: r, n, acc, h => by
    unfold PySem.cellsFrom at h
    split at h
    · rename_i hk
      have hk : k = .cell := by simpa using hk
      rcases cells_kind r _ _ h with z | z
      · exact .inl (List.mem_cons_of_mem _ z)
      · rw [List.lookup_cons] at z
        split at z
        · rename_i e
          have e : y = x := by simpa using e
          rw [e, hk]
          exact .inl (List.mem_cons_self ..)
        · exact .inr z
    · rcases cells_kind r _ _ h with z | z
      · exact .inl (List.mem_cons_of_mem _ z)
      · exact .inr z
theorem extN_upd {H H' : Hp} {p : Addr} {o : HO} (e : ExtN H H') (h : H p = none) : ExtN H (upd H' p o) := fun b u q n => by
  rw [upd_ne (ne_of_none q h)]
  exact e b u q n
theorem tabs_lst {T : List (Addr × Str)} {H : Hp} {p : Addr} {xs : List V} {o : HO} (t : Tabs T H) (h : H p = some (.lst xs)) : Tabs T (upd H p o) := fun q hq => by
  obtain ⟨ps, h1, h2, h3⟩ := t q hq
  refine ⟨ps, by rw [upd_ne (ne_of h1 h (fun z => nomatch z))]; exact h1, h2, fun pos cv hc => ?_⟩
  obtain ⟨c, e1, e2⟩ := h3 pos cv hc
  exact ⟨c, e1, by rw [upd_ne (ne_of e2 h (fun z => by unfold CodeO at z; cases z))]; exact e2⟩
/-- the first lambdas are in the list -/
def WSt (mk : Nat → Addr → LF) (T : List (Addr × Str)) (H : Hp) (lst : Addr) (fcs : List (Addr × Addr)) (H' : Hp) : Prop := ExtN H H' ∧ Tabs T H' ∧ H lst = none ∧ H' lst = some (.lst (fcs.map fun x => .ref x.1)) ∧
  ∀ i x, fcs[i]? = some x → H' x.1 = some (FnL x.1 (mk (i + 1) x.2)) ∧ H' x.2 = some (CodeO x.2 (mk (i + 1) x.2).qual)
theorem WSt.step {mk : Nat → Addr → LF} {T : List (Addr × Str)} {H : Hp} {lst : Addr} {fcs : List (Addr × Addr)} {H0 H1 : Hp} {f c : Addr} (s : WSt mk T H lst fcs H0) (ex : ExtN H0 H1) (t1 : Tabs T H1) (e1 : H1 f = some (FnL f (mk (fcs.length + 1) c))) (e2 : H1 c = some (CodeO c (mk (fcs.length + 1) c).qual)) :
    H1 lst = some (.lst (fcs.map fun x => .ref x.1)) ∧ WSt mk T H lst (fcs ++ [(f, c)]) (upd H1 lst (.lst ((fcs.map fun x => V.ref x.1) ++ [.ref f]))) := by
  obtain ⟨x0, t0, hn, el, hx⟩ := s
  have el1 : H1 lst = some (.lst (fcs.map fun x => .ref x.1)) := ex _ _ el (fun ps z => nomatch z)
  have nf : ∀ b F, H1 b = some (FnL b F) → b ≠ lst := fun b F e => ne_of e el1 (fun z => by unfold FnL at z; cases z)
  have nc : ∀ b q, H1 b = some (CodeO b q) → b ≠ lst := fun b q e => ne_of e el1 (fun z => by unfold CodeO at z; cases z)
  refine ⟨el1, extN_upd (x0.trans ex) hn, tabs_lst t1 el1, hn, ?_, fun i x hi => ?_⟩
  · rw [upd_same, List.map_append]
    rfl
  · rcases Nat.lt_or_ge i fcs.length with z | z
    · rw [List.getElem?_append_left z] at hi
      obtain ⟨a1, a2⟩ := hx i x hi
      have b1 := ex _ _ a1 (fun ps => fnL_ne ps)
      have b2 := ex _ _ a2 (fun ps => codeO_ne ps)
      exact ⟨by rw [upd_ne (nf _ _ b1)]; exact b1, by rw [upd_ne (nc _ _ b2)]; exact b2⟩
    · rw [List.getElem?_append_right z] at hi
      have hz : i = fcs.length := by
        have := (List.getElem?_eq_some_iff.mp hi).1
        rw [List.length_singleton] at this
        omega
      subst hz
      rw [Nat.sub_self] at hi
      obtain rfl : (f, c) = x := Option.some.inj hi
      exact ⟨by rw [upd_ne (nf _ _ e1)]; exact e1, by rw [upd_ne (nc _ _ e2)]; exact e2⟩
theorem mem_lk : ∀ {l : CL} {b : Addr} {y : V}, l.lookup b = some y → (b, y) ∈ l
  | [], _, _, h => by cases h
  | (a, v) :: l, b, y, h => by
    rw [List.lookup_cons] at h
    split at h
    · rename_i e
      have e : b = a := by simpa using e
      rw [e, ← Option.some.inj h]
      exact List.mem_cons_self ..
    · exact List.mem_cons_of_mem _ (mem_lk h)
end
/-! ### the lambdas of _law_works -/
abbrev lamW (i : Nat) : Expr := argOf ((defBody st__law_works).getD i (.Pass ⟨0, 0, 0, 0⟩))
theorem nsW1 : NScope ["one", "other", "third"] [] ["one", "other", "third"] (lamS (lamW 1)) := NdefX.nscope_by (by decide +kernel)
theorem nsW2 : NScope ["one", "other", "third"] [] ["one", "other", "third"] (lamS (lamW 2)) := NdefX.nscope_by (by decide +kernel)
theorem nsW3 : NScope ["one", "other", "third", "fourth"] [] ["one", "other", "third", "fourth"] (lamS (lamW 3)) := NdefX.nscope_by (by decide +kernel)
theorem nsW4 : NScope ["one", "other", "third", "fourth"] [] ["one", "other", "third", "fourth"] (lamS (lamW 4)) := NdefX.nscope_by (by decide +kernel)
section
variable {P : Program} {w : World} {K : PySem.W.Frag} {mg : Str → Option Value} {base : Heap}
theorem lokW1 {sp : Sp} (M : CalX P w K mg base 8 "books_of" sp) (q : Str) (cl : List (Str × Addr)) (c f : Addr) : LOk P w K mg base (L2.CX P w) 9 f ⟨q, lamP (lamW 1), lamB (lamW 1), lamS (lamW 1), cl, c⟩ [] ["one", "other", "third"] (spW sp id) := by
  refine lok_of nsW1 (fun pm ctv us hl => ?_) (fun ws vs H Q E hq => ?_) (fun A outer s H vs ws Q E hr hwl hsp => ?_)
  · match us, hl with
    | [], _ => rfl
  · obtain ⟨us, _, rfl, _⟩ := hq
    rfl
  · obtain ⟨us, rfl, rfl, hsp⟩ := hsp
    rw [List.length_map] at hwl
    match us, hwl, hsp with
    | [u1, u2, u3], _, hsp => exact ⟨_, pcX M passN hr (pa_cons (pv 0) (pa_cons (pv 1) (pa_cons (pv 2) pa_nil))), _, rfl, _, rfl, _, rfl, hsp⟩
theorem lokW2 {sp : Sp} (M : CalX P w K mg base 8 "hidden_losses" sp) (q : Str) (cl : List (Str × Addr)) (c f : Addr) : LOk P w K mg base (L2.CX P w) 9 f ⟨q, lamP (lamW 2), lamB (lamW 2), lamS (lamW 2), cl, c⟩ [] ["one", "other", "third"] (spW sp id) := by
  refine lok_of nsW2 (fun pm ctv us hl => ?_) (fun ws vs H Q E hq => ?_) (fun A outer s H vs ws Q E hr hwl hsp => ?_)
  · match us, hl with
    | [], _ => rfl
  · obtain ⟨us, _, rfl, _⟩ := hq
    rfl
  · obtain ⟨us, rfl, rfl, hsp⟩ := hsp
    rw [List.length_map] at hwl
    match us, hwl, hsp with
    | [u1, u2, u3], _, hsp => exact ⟨_, pcX M passN hr (pa_cons (pv 0) (pa_cons (pv 1) (pa_cons (pv 2) pa_nil))), _, rfl, _, rfl, _, rfl, hsp⟩
theorem lokW3 {sp : Sp} (M : CalX P w K mg base 8 "book_at" sp) (q : Str) (cl : List (Str × Addr)) (c f : Addr) : LOk P w K mg base (L2.CX P w) 9 f ⟨q, lamP (lamW 3), lamB (lamW 3), lamS (lamW 3), cl, c⟩ [] ["one", "other", "third", "fourth"] (spW sp id) := by
  refine lok_of nsW3 (fun pm ctv us hl => ?_) (fun ws vs H Q E hq => ?_) (fun A outer s H vs ws Q E hr hwl hsp => ?_)
  · match us, hl with
    | [], _ => rfl
  · obtain ⟨us, _, rfl, _⟩ := hq
    rfl
  · obtain ⟨us, rfl, rfl, hsp⟩ := hsp
    rw [List.length_map] at hwl
    match us, hwl, hsp with
    | [u1, u2, u3, u4], _, hsp => exact ⟨_, pcX M passN hr (pa_cons (pv 0) (pa_cons (pv 1) (pa_cons (pv 2) (pa_cons (pv 3) pa_nil)))), _, rfl, _, rfl, _, rfl, _, rfl, hsp⟩
theorem lokW4 {sp : Sp} (M : CalX P w K mg base 8 "loss_shown" sp) (q : Str) (cl : List (Str × Addr)) (c f : Addr) : LOk P w K mg base (L2.CX P w) 9 f ⟨q, lamP (lamW 4), lamB (lamW 4), lamS (lamW 4), cl, c⟩ [] ["one", "other", "third", "fourth"] (spW sp id) := by
  refine lok_of nsW4 (fun pm ctv us hl => ?_) (fun ws vs H Q E hq => ?_) (fun A outer s H vs ws Q E hr hwl hsp => ?_)
  · match us, hl with
    | [], _ => rfl
  · obtain ⟨us, _, rfl, _⟩ := hq
    rfl
  · obtain ⟨us, rfl, rfl, hsp⟩ := hsp
    rw [List.length_map] at hwl
    match us, hwl, hsp with
    | [u1, u2, u3, u4], _, hsp => exact ⟨_, pcX M passN hr (pa_cons (pv 0) (pa_cons (pv 1) (pa_cons (pv 2) (pa_cons (pv 3) pa_nil)))), _, rfl, _, rfl, _, rfl, _, rfl, hsp⟩
def spWorks (T : List (Addr × Str)) : Sp := fun vs H Q _ => ∃ (v1 v2 v3 v4 : V), vs = [v1, v2, v3, v4] ∧ Tabs T H ∧ ∀ (lst f1 f2 f3 f4 : Addr) (l : CL) (H' : Hp), ExtN H H' → Tabs T H' → H' lst = some (.lst [.ref f1, .ref f2, .ref f3, .ref f4]) → Stand l H' →
  LamAt (lamW 1) ["one", "other", "third"] [v1, v2, v3] l f1 H' → LamAt (lamW 2) ["one", "other", "third"] [v1, v2, v3] l f2 H' → LamAt (lamW 3) ["one", "other", "third", "fourth"] [v1, v2, v3, v4] l f3 H' → LamAt (lamW 4) ["one", "other", "third", "fourth"] [v1, v2, v3, v4] l f4 H' → Q (.ref lst) H'
theorem of_W {a1 a2 a3 a4 : Addr} {v1 v2 v3 v4 : V} {b : Addr} {y : V} (h : ([(a1, v1), (a2, v2), (a3, v3), (a4, v4)] : CL).lookup b = some y) : (b = a1 ∧ y = v1) ∨ (b = a2 ∧ y = v2) ∨ (b = a3 ∧ y = v3) ∨ (b = a4 ∧ y = v4) := by
  have := mem_lk h
  simpa using this
theorem ok_works {c P1 : Addr} {T : List (Addr × Str)} (hmT : (P1, lamQ "_law_works") ∈ T) (huT0 : ∀ p ∈ T, p.1 = P1 → p.2 = lamQ "_law_works") (F : DfC K mg "_law_works" st__law_works ["one", "other", "third", "fourth"] c) (TB : TabB base mg c P1) : Cal P w K mg base 1 "_law_works" (spWorks T) := by
  obtain ⟨f, oc, od, kV, doc, pm, an, ct, osl, lk, hcd, kp, g, b⟩ := F.ex
  refine ⟨f, _, _, fnR_of lk hcd sc__law_works (fun vs H Q E h => ?_) (fun A outer s H vs Q E hr h => ?_), g, kp, b⟩
  · obtain ⟨v1, v2, v3, v4, rfl, _⟩ := h
    rfl
  · obtain ⟨v1, v2, v3, v4, rfl, hT, q⟩ := h
    let X : Cx := cxOf CX0 P w K mg base ["one", "other", "third", "fourth", "works"] "_law_works" (defScope st__law_works) f (.ref c) A outer s H E
    have h1 : ∀ y ∈ (lamS (lamW 1)).names, y.2 = .free → X.env.scope.names.lookup y.1 = some .cell ∨ X.env.scope.names.lookup y.1 = some .free := by
      have : ∀ y ∈ (lamS (lamW 1)).names, y.2 = .free → (defScope st__law_works).names.lookup y.1 = some .cell ∨ (defScope st__law_works).names.lookup y.1 = some .free := by decide +kernel
      exact this
    have h2 : ∀ y ∈ (lamS (lamW 2)).names, y.2 = .free → X.env.scope.names.lookup y.1 = some .cell ∨ X.env.scope.names.lookup y.1 = some .free := by
      have : ∀ y ∈ (lamS (lamW 2)).names, y.2 = .free → (defScope st__law_works).names.lookup y.1 = some .cell ∨ (defScope st__law_works).names.lookup y.1 = some .free := by decide +kernel
      exact this
    have h3 : ∀ y ∈ (lamS (lamW 3)).names, y.2 = .free → X.env.scope.names.lookup y.1 = some .cell ∨ X.env.scope.names.lookup y.1 = some .free := by
      have : ∀ y ∈ (lamS (lamW 3)).names, y.2 = .free → (defScope st__law_works).names.lookup y.1 = some .cell ∨ (defScope st__law_works).names.lookup y.1 = some .free := by decide +kernel
      exact this
    have h4 : ∀ y ∈ (lamS (lamW 4)).names, y.2 = .free → X.env.scope.names.lookup y.1 = some .cell ∨ X.env.scope.names.lookup y.1 = some .free := by
      have : ∀ y ∈ (lamS (lamW 4)).names, y.2 = .free → (defScope st__law_works).names.lookup y.1 = some .cell ∨ (defScope st__law_works).names.lookup y.1 = some .free := by decide +kernel
      exact this
    let mk : Nat → Addr → LF := fun i c' => ⟨X.env.qual ++ "<lambda>", lamP (lamW i), lamB (lamW i), lamS (lamW i), cloFrom X.env.cells (lamS (lamW i)).names [], c'⟩
    have huT : ∀ p ∈ T, p.1 = P1 → p.2 = X.env.qual ++ "<lambda>" := fun p hp e => huT0 p hp e
    refine ⟨fun r σ' H' => ∃ lst fcs, r = .ref lst ∧ σ' = [some v1, some v2, some v3, some v4, some (.ref lst)] ∧ fcs.length = 4 ∧ WSt mk T H lst fcs H', _, psr_cons (ps_set (i := 4) sc__law_works.nd rfl (.inl rfl) (pe_lst pa_nil))
      (psr_cons (ps_expr (pe_bm PySem.F.plainAttrs_list PySem.F.slot_list_append PySem.F.type_list_append mt_append (pv 4) (pa_cons (pe_lam (T := T) (params := lamP (lamW 1)) (body := lamB (lamW 1)) (scope := lamS (lamW 1)) (pos := lamO (lamW 1)) TB rfl (by exact hmT) huT rfl h1) pa_nil)))
      (psr_cons (ps_expr (pe_bm PySem.F.plainAttrs_list PySem.F.slot_list_append PySem.F.type_list_append mt_append (pv 4) (pa_cons (pe_lam (T := T) (params := lamP (lamW 2)) (body := lamB (lamW 2)) (scope := lamS (lamW 2)) (pos := lamO (lamW 2)) TB rfl (by exact hmT) huT rfl h2) pa_nil)))
      (psr_cons (ps_expr (pe_bm PySem.F.plainAttrs_list PySem.F.slot_list_append PySem.F.type_list_append mt_append (pv 4) (pa_cons (pe_lam (T := T) (params := lamP (lamW 3)) (body := lamB (lamW 3)) (scope := lamS (lamW 3)) (pos := lamO (lamW 3)) TB rfl (by exact hmT) huT rfl h3) pa_nil)))
      (psr_cons (ps_expr (pe_bm PySem.F.plainAttrs_list PySem.F.slot_list_append PySem.F.type_list_append mt_append (pv 4) (pa_cons (pe_lam (T := T) (params := lamP (lamW 4)) (body := lamB (lamW 4)) (scope := lamS (lamW 4)) (pos := lamO (lamW 4)) TB rfl (by exact hmT) huT rfl h4) pa_nil)))
      (psr_ret (pv 4)))))), ?_, fun s' σ' H' r ur J rv hR => ?_⟩
    · refine ⟨Nat.zero_le _, fun lst hl => ?_⟩
      have W0 : WSt mk T H lst [] (upd H lst (.lst [])) := ⟨extN_upd (ExtN.refl H) hl, hT.ext fun bb o e => same_new hl bb o e, hl, upd_same, fun i x hi => by simp at hi⟩
      refine ⟨_, rfl, .inl ⟨rfl, _, lstAt W0.2.2.2.1⟩, W0.2.1, fun f1 c1 G1 x1 nn1 t1 nf1 a1 b1 => ?_⟩
      obtain ⟨l1, W1⟩ := W0.step (f := f1) (c := c1) x1 t1 a1 b1
      refine ⟨lst, _, _, rfl, rfl, l1, by show 0 < sizeLine; decide +kernel, ?_⟩
      refine ⟨_, rfl, .inl ⟨rfl, _, lstAt W1.2.2.2.1⟩, W1.2.1, fun f2 c2 G2 x2 nn2 t2 nf2 a2 b2 => ?_⟩
      obtain ⟨l2, W2⟩ := W1.step (f := f2) (c := c2) x2 t2 a2 b2
      refine ⟨lst, _, _, rfl, rfl, l2, by show 1 < sizeLine; decide +kernel, ?_⟩
      refine ⟨_, rfl, .inl ⟨rfl, _, lstAt W2.2.2.2.1⟩, W2.2.1, fun f3 c3 G3 x3 nn3 t3 nf3 a3 b3 => ?_⟩
      obtain ⟨l3, W3⟩ := W2.step (f := f3) (c := c3) x3 t3 a3 b3
      refine ⟨lst, _, _, rfl, rfl, l3, by show 2 < sizeLine; decide +kernel, ?_⟩
      refine ⟨_, rfl, .inl ⟨rfl, _, lstAt W3.2.2.2.1⟩, W3.2.1, fun f4 c4 G4 x4 nn4 t4 nf4 a4 b4 => ?_⟩
      obtain ⟨l4, W4⟩ := W3.step (f := f4) (c := c4) x4 t4 a4 b4
      refine ⟨lst, _, _, rfl, rfl, l4, by show 3 < sizeLine; decide +kernel, ?_⟩
      exact ⟨_, rfl, lst, _, rfl, rfl, rfl, W4⟩
    · obtain ⟨lst, fcs, rfl, rfl, hl5, ex, T1, _, el, hx⟩ := hR
      match fcs, hl5, el, hx with
      | [x1, x2, x3, x4], _, el, hx =>
      have k1 : (defScope st__law_works).names.lookup ("one" : Str) = some NameKind.cell := by decide +kernel
      have k2 : (defScope st__law_works).names.lookup ("other" : Str) = some NameKind.cell := by decide +kernel
      have k3 : (defScope st__law_works).names.lookup ("third" : Str) = some NameKind.cell := by decide +kernel
      have k4 : (defScope st__law_works).names.lookup ("fourth" : Str) = some NameKind.cell := by decide +kernel
      have only : ∀ y ∈ (defScope st__law_works).names, y.2 = NameKind.cell → y.1 = ("one" : Str) ∨ y.1 = ("other" : Str) ∨ y.1 = ("third" : Str) ∨ y.1 = ("fourth" : Str) := by decide +kernel
      obtain ⟨a1, ha1⟩ := J.ok.has "one" (.inl k1)
      obtain ⟨a2, ha2⟩ := J.ok.has "other" (.inl k2)
      obtain ⟨a3, ha3⟩ := J.ok.has "third" (.inl k3)
      obtain ⟨a4, ha4⟩ := J.ok.has "fourth" (.inl k4)
      have n12 : a1 ≠ a2 := fun z => by
        have := J.ok.inj "one" "other" a1 ha1 (by rw [z]; exact ha2)
        exact absurd this (by decide)
      have n13 : a1 ≠ a3 := fun z => by
        have := J.ok.inj "one" "third" a1 ha1 (by rw [z]; exact ha3)
        exact absurd this (by decide)
      have n14 : a1 ≠ a4 := fun z => by
        have := J.ok.inj "one" "fourth" a1 ha1 (by rw [z]; exact ha4)
        exact absurd this (by decide)
      have n23 : a2 ≠ a3 := fun z => by
        have := J.ok.inj "other" "third" a2 ha2 (by rw [z]; exact ha3)
        exact absurd this (by decide)
      have n24 : a2 ≠ a4 := fun z => by
        have := J.ok.inj "other" "fourth" a2 ha2 (by rw [z]; exact ha4)
        exact absurd this (by decide)
      have n34 : a3 ≠ a4 := fun z => by
        have := J.ok.inj "third" "fourth" a3 ha3 (by rw [z]; exact ha4)
        exact absurd this (by decide)
      have l1 : ([(a1, v1), (a2, v2), (a3, v3), (a4, v4)] : CL).lookup a1 = some v1 := by
        rw [List.lookup_cons]
        simp
      have l2 : ([(a1, v1), (a2, v2), (a3, v3), (a4, v4)] : CL).lookup a2 = some v2 := by
        rw [List.lookup_cons]
        rw [show (a2 == a1) = false from by simpa using Ne.symm n12, List.lookup_cons]
        simp
      have l3 : ([(a1, v1), (a2, v2), (a3, v3), (a4, v4)] : CL).lookup a3 = some v3 := by
        rw [List.lookup_cons]
        rw [show (a3 == a1) = false from by simpa using Ne.symm n13, List.lookup_cons]
        rw [show (a3 == a2) = false from by simpa using Ne.symm n23, List.lookup_cons]
        simp
      have l4 : ([(a1, v1), (a2, v2), (a3, v3), (a4, v4)] : CL).lookup a4 = some v4 := by
        rw [List.lookup_cons]
        rw [show (a4 == a1) = false from by simpa using Ne.symm n14, List.lookup_cons]
        rw [show (a4 == a2) = false from by simpa using Ne.symm n24, List.lookup_cons]
        rw [show (a4 == a3) = false from by simpa using Ne.symm n34, List.lookup_cons]
        simp
      have up : ∀ b o, H' b = some o → lay [(a1, v1), (a2, v2), (a3, v3), (a4, v4)] H' b = some o := fun b o e => by
        cases z : ([(a1, v1), (a2, v2), (a3, v3), (a4, v4)] : CL).lookup b with
        | none => exact (lay_no z).trans e
        | some y =>
          exfalso
          rcases of_W z with ⟨rfl, _⟩ | ⟨rfl, _⟩ | ⟨rfl, _⟩ | ⟨rfl, _⟩
          · rw [J.freeC "one" _ ha1] at e
            cases e
          · rw [J.freeC "other" _ ha2] at e
            cases e
          · rw [J.freeC "third" _ ha3] at e
            cases e
          · rw [J.freeC "fourth" _ ha4] at e
            cases e
      have cap : ∀ (i : Nat) (fr : List Str) (ws : List V) (c' : Addr), (∀ y ∈ (lamS (lamW i)).names, y.2 = .free → X.env.scope.names.lookup y.1 = some .cell ∨ X.env.scope.names.lookup y.1 = some .free) → ws.length = fr.length →
          (∀ (j : Nat) (y : Str), fr[j]? = some y → (y, NameKind.free) ∈ (lamS (lamW i)).names ∧ ∃ (a : Addr) (v : V), X.env.cells.lookup y = some a ∧ ([(a1, v1), (a2, v2), (a3, v3), (a4, v4)] : CL).lookup a = some v ∧ ws[j]? = some v) → Cap (mk i c') fr ws [(a1, v1), (a2, v2), (a3, v3), (a4, v4)] := fun i fr ws c' hf hl hj => by
        have hfm : ∀ y ∈ (lamS (lamW i)).names, y.2 = .free → ∃ c, X.env.cells.lookup y.1 = some c := fun y hy e => (hf y hy e).elim (fun z => J.ok.has _ (.inl z)) fun z => J.ok.has _ (.inr z)
        refine ⟨hl, fun y c e => ?_, fun x y c ex1 ey1 => J.ok.inj x y c (NdefX.clo_cm hfm ex1) (NdefX.clo_cm hfm ey1), fun j y e => ?_⟩
        · have h1 := NdefX.clo_cm hfm e
          have h2 : (PySem.cellsFrom (s.heap.objs.size + 1) (defScope st__law_works).names []).lookup y = some c := h1
          rcases cells_kind _ _ _ h2 with z | z
          · rcases only _ z rfl with w1 | w1 | w1 | w1
            · have w1 : y = ("one" : Str) := w1
              subst w1
              have := ha1.symm.trans h1
              rw [← Option.some.inj this]
              exact ⟨_, l1⟩
            · have w1 : y = ("other" : Str) := w1
              subst w1
              have := ha2.symm.trans h1
              rw [← Option.some.inj this]
              exact ⟨_, l2⟩
            · have w1 : y = ("third" : Str) := w1
              subst w1
              have := ha3.symm.trans h1
              rw [← Option.some.inj this]
              exact ⟨_, l3⟩
            · have w1 : y = ("fourth" : Str) := w1
              subst w1
              have := ha4.symm.trans h1
              rw [← Option.some.inj this]
              exact ⟨_, l4⟩
          · cases z
        · obtain ⟨m, a, v, e1, e2, e3⟩ := hj j y e
          exact ⟨a, NdefX.clo_has hfm m e1, fun v' ev => by
            rw [e3] at ev
            rw [← Option.some.inj ev]
            exact e2⟩
      have sl : Stand [(a1, v1), (a2, v2), (a3, v3), (a4, v4)] (lay [(a1, v1), (a2, v2), (a3, v3), (a4, v4)] H') := Stand.lay _ _
      have liv : ∀ (i : Nat) (x : Addr × Addr), H' x.1 = some (FnL x.1 (mk i x.2)) → H' x.2 = some (CodeO x.2 (mk i x.2).qual) → LiveK x.1 (mk i x.2) [(a1, v1), (a2, v2), (a3, v3), (a4, v4)] (lay [(a1, v1), (a2, v2), (a3, v3), (a4, v4)] H') := fun i x e1 e2 => ⟨up _ _ e1, up _ _ e2, sl⟩
      have m1 : LamAt (lamW 1) ["one", "other", "third"] [v1, v2, v3] [(a1, v1), (a2, v2), (a3, v3), (a4, v4)] x1.1 (lay [(a1, v1), (a2, v2), (a3, v3), (a4, v4)] H') := by
        obtain ⟨e1, e2⟩ := hx 0 x1 rfl
        refine ⟨_, _, _, liv 1 x1 e1 e2, cap 1 _ _ _ h1 rfl fun j y e => ?_⟩
        match j, e with
        | 0, e =>
          cases Option.some.inj e
          exact ⟨by decide +kernel, a1, v1, ha1, l1, rfl⟩
        | 1, e =>
          cases Option.some.inj e
          exact ⟨by decide +kernel, a2, v2, ha2, l2, rfl⟩
        | 2, e =>
          cases Option.some.inj e
          exact ⟨by decide +kernel, a3, v3, ha3, l3, rfl⟩
        | j + 3, e => simp at e
      have m2 : LamAt (lamW 2) ["one", "other", "third"] [v1, v2, v3] [(a1, v1), (a2, v2), (a3, v3), (a4, v4)] x2.1 (lay [(a1, v1), (a2, v2), (a3, v3), (a4, v4)] H') := by
        obtain ⟨e1, e2⟩ := hx 1 x2 rfl
        refine ⟨_, _, _, liv 2 x2 e1 e2, cap 2 _ _ _ h2 rfl fun j y e => ?_⟩
        match j, e with
        | 0, e =>
          cases Option.some.inj e
          exact ⟨by decide +kernel, a1, v1, ha1, l1, rfl⟩
        | 1, e =>
          cases Option.some.inj e
          exact ⟨by decide +kernel, a2, v2, ha2, l2, rfl⟩
        | 2, e =>
          cases Option.some.inj e
          exact ⟨by decide +kernel, a3, v3, ha3, l3, rfl⟩
        | j + 3, e => simp at e
      have m3 : LamAt (lamW 3) ["one", "other", "third", "fourth"] [v1, v2, v3, v4] [(a1, v1), (a2, v2), (a3, v3), (a4, v4)] x3.1 (lay [(a1, v1), (a2, v2), (a3, v3), (a4, v4)] H') := by
        obtain ⟨e1, e2⟩ := hx 2 x3 rfl
        refine ⟨_, _, _, liv 3 x3 e1 e2, cap 3 _ _ _ h3 rfl fun j y e => ?_⟩
        match j, e with
        | 0, e =>
          cases Option.some.inj e
          exact ⟨by decide +kernel, a1, v1, ha1, l1, rfl⟩
        | 1, e =>
          cases Option.some.inj e
          exact ⟨by decide +kernel, a2, v2, ha2, l2, rfl⟩
        | 2, e =>
          cases Option.some.inj e
          exact ⟨by decide +kernel, a3, v3, ha3, l3, rfl⟩
        | 3, e =>
          cases Option.some.inj e
          exact ⟨by decide +kernel, a4, v4, ha4, l4, rfl⟩
        | j + 4, e => simp at e
      have m4 : LamAt (lamW 4) ["one", "other", "third", "fourth"] [v1, v2, v3, v4] [(a1, v1), (a2, v2), (a3, v3), (a4, v4)] x4.1 (lay [(a1, v1), (a2, v2), (a3, v3), (a4, v4)] H') := by
        obtain ⟨e1, e2⟩ := hx 3 x4 rfl
        refine ⟨_, _, _, liv 4 x4 e1 e2, cap 4 _ _ _ h4 rfl fun j y e => ?_⟩
        match j, e with
        | 0, e =>
          cases Option.some.inj e
          exact ⟨by decide +kernel, a1, v1, ha1, l1, rfl⟩
        | 1, e =>
          cases Option.some.inj e
          exact ⟨by decide +kernel, a2, v2, ha2, l2, rfl⟩
        | 2, e =>
          cases Option.some.inj e
          exact ⟨by decide +kernel, a3, v3, ha3, l3, rfl⟩
        | 3, e =>
          cases Option.some.inj e
          exact ⟨by decide +kernel, a4, v4, ha4, l4, rfl⟩
        | j + 4, e => simp at e
      refine ce_lay (X := X) (l := [(a1, v1), (a2, v2), (a3, v3), (a4, v4)]) (fun _ => rfl) J rfl rfl (fun b y e => ?_) rv (q lst x1.1 x2.1 x3.1 x4.1 [(a1, v1), (a2, v2), (a3, v3), (a4, v4)] _ (fun b o e n => up _ _ (ex b o e n)) (T1.ext up) (up _ _ el) sl m1 m2 m3 m4)
      rcases of_W e with ⟨rfl, rfl⟩ | ⟨rfl, rfl⟩ | ⟨rfl, rfl⟩ | ⟨rfl, rfl⟩
      · exact ⟨"one", 0, ha1, rfl, rfl, k1⟩
      · exact ⟨"other", 1, ha2, rfl, rfl, k2⟩
      · exact ⟨"third", 2, ha3, rfl, rfl, k3⟩
      · exact ⟨"fourth", 3, ha4, rfl, rfl, k4⟩
end
/-! ### the lambdas of _law_texts -/
abbrev lamT (i : Nat) : Expr := argOf ((defBody st__law_texts).getD i (.Pass ⟨0, 0, 0, 0⟩))
theorem nsT1 : NScope ["one", "other"] [] ["one", "other"] (lamS (lamT 1)) := NdefX.nscope_by (by decide +kernel)
theorem nsT2 : NScope ["one", "other"] [] ["one", "other"] (lamS (lamT 2)) := NdefX.nscope_by (by decide +kernel)
section
variable {P : Program} {w : World} {K : PySem.W.Frag} {mg : Str → Option Value} {base : Heap}
theorem lokT1 {sp : Sp} (M : CalX P w K mg base 5 "read_program" sp) (q : Str) (cl : List (Str × Addr)) (c f : Addr) : LOk P w K mg base (L2.CX P w) 9 f ⟨q, lamP (lamT 1), lamB (lamT 1), lamS (lamT 1), cl, c⟩ [] ["one", "other"] (spW sp id) := by
  refine lok_of nsT1 (fun pm ctv us hl => ?_) (fun ws vs H Q E hq => ?_) (fun A outer s H vs ws Q E hr hwl hsp => ?_)
  · match us, hl with
    | [], _ => rfl
  · obtain ⟨us, _, rfl, _⟩ := hq
    rfl
  · obtain ⟨us, rfl, rfl, hsp⟩ := hsp
    rw [List.length_map] at hwl
    match us, hwl, hsp with
    | [u1, u2], _, hsp => exact ⟨_, pcX M passN hr (pa_cons (pv 0) (pa_cons (pv 1) pa_nil)), _, rfl, _, rfl, hsp⟩
theorem lokT2 {sp : Sp} (M : CalX P w K mg base 7 "write_program" sp) (q : Str) (cl : List (Str × Addr)) (c f : Addr) : LOk P w K mg base (L2.CX P w) 9 f ⟨q, lamP (lamT 2), lamB (lamT 2), lamS (lamT 2), cl, c⟩ [] ["one", "other"] (spW sp id) := by
  refine lok_of nsT2 (fun pm ctv us hl => ?_) (fun ws vs H Q E hq => ?_) (fun A outer s H vs ws Q E hr hwl hsp => ?_)
  · match us, hl with
    | [], _ => rfl
  · obtain ⟨us, _, rfl, _⟩ := hq
    rfl
  · obtain ⟨us, rfl, rfl, hsp⟩ := hsp
    rw [List.length_map] at hwl
    match us, hwl, hsp with
    | [u1, u2], _, hsp => exact ⟨_, pcX M passN hr (pa_cons (pv 0) (pa_cons (pv 1) pa_nil)), _, rfl, _, rfl, hsp⟩
def spTexts (T : List (Addr × Str)) : Sp := fun vs H Q _ => ∃ (v1 v2 : V), vs = [v1, v2] ∧ Tabs T H ∧ ∀ (lst f1 f2 : Addr) (l : CL) (H' : Hp), ExtN H H' → Tabs T H' → H' lst = some (.lst [.ref f1, .ref f2]) → Stand l H' →
  LamAt (lamT 1) ["one", "other"] [v1, v2] l f1 H' → LamAt (lamT 2) ["one", "other"] [v1, v2] l f2 H' → Q (.ref lst) H'
theorem of_T {a1 a2 : Addr} {v1 v2 : V} {b : Addr} {y : V} (h : ([(a1, v1), (a2, v2)] : CL).lookup b = some y) : (b = a1 ∧ y = v1) ∨ (b = a2 ∧ y = v2) := by
  have := mem_lk h
  simpa using this
theorem ok_texts {c P1 : Addr} {T : List (Addr × Str)} (hmT : (P1, lamQ "_law_texts") ∈ T) (huT0 : ∀ p ∈ T, p.1 = P1 → p.2 = lamQ "_law_texts") (F : DfC K mg "_law_texts" st__law_texts ["one", "other"] c) (TB : TabB base mg c P1) : Cal P w K mg base 1 "_law_texts" (spTexts T) := by
  obtain ⟨f, oc, od, kV, doc, pm, an, ct, osl, lk, hcd, kp, g, b⟩ := F.ex
  refine ⟨f, _, _, fnR_of lk hcd sc__law_texts (fun vs H Q E h => ?_) (fun A outer s H vs Q E hr h => ?_), g, kp, b⟩
  · obtain ⟨v1, v2, rfl, _⟩ := h
    rfl
  · obtain ⟨v1, v2, rfl, hT, q⟩ := h
    let X : Cx := cxOf CX0 P w K mg base ["one", "other", "works"] "_law_texts" (defScope st__law_texts) f (.ref c) A outer s H E
    have h1 : ∀ y ∈ (lamS (lamT 1)).names, y.2 = .free → X.env.scope.names.lookup y.1 = some .cell ∨ X.env.scope.names.lookup y.1 = some .free := by
      have : ∀ y ∈ (lamS (lamT 1)).names, y.2 = .free → (defScope st__law_texts).names.lookup y.1 = some .cell ∨ (defScope st__law_texts).names.lookup y.1 = some .free := by decide +kernel
      exact this
    have h2 : ∀ y ∈ (lamS (lamT 2)).names, y.2 = .free → X.env.scope.names.lookup y.1 = some .cell ∨ X.env.scope.names.lookup y.1 = some .free := by
      have : ∀ y ∈ (lamS (lamT 2)).names, y.2 = .free → (defScope st__law_texts).names.lookup y.1 = some .cell ∨ (defScope st__law_texts).names.lookup y.1 = some .free := by decide +kernel
      exact this
    let mk : Nat → Addr → LF := fun i c' => ⟨X.env.qual ++ "<lambda>", lamP (lamT i), lamB (lamT i), lamS (lamT i), cloFrom X.env.cells (lamS (lamT i)).names [], c'⟩
    have huT : ∀ p ∈ T, p.1 = P1 → p.2 = X.env.qual ++ "<lambda>" := fun p hp e => huT0 p hp e
    refine ⟨fun r σ' H' => ∃ lst fcs, r = .ref lst ∧ σ' = [some v1, some v2, some (.ref lst)] ∧ fcs.length = 2 ∧ WSt mk T H lst fcs H', _, psr_cons (ps_set (i := 2) sc__law_texts.nd rfl (.inl rfl) (pe_lst pa_nil))
      (psr_cons (ps_expr (pe_bm PySem.F.plainAttrs_list PySem.F.slot_list_append PySem.F.type_list_append mt_append (pv 2) (pa_cons (pe_lam (T := T) (params := lamP (lamT 1)) (body := lamB (lamT 1)) (scope := lamS (lamT 1)) (pos := lamO (lamT 1)) TB rfl (by exact hmT) huT rfl h1) pa_nil)))
      (psr_cons (ps_expr (pe_bm PySem.F.plainAttrs_list PySem.F.slot_list_append PySem.F.type_list_append mt_append (pv 2) (pa_cons (pe_lam (T := T) (params := lamP (lamT 2)) (body := lamB (lamT 2)) (scope := lamS (lamT 2)) (pos := lamO (lamT 2)) TB rfl (by exact hmT) huT rfl h2) pa_nil)))
      (psr_ret (pv 2)))), ?_, fun s' σ' H' r ur J rv hR => ?_⟩
    · refine ⟨Nat.zero_le _, fun lst hl => ?_⟩
      have W0 : WSt mk T H lst [] (upd H lst (.lst [])) := ⟨extN_upd (ExtN.refl H) hl, hT.ext fun bb o e => same_new hl bb o e, hl, upd_same, fun i x hi => by simp at hi⟩
      refine ⟨_, rfl, .inl ⟨rfl, _, lstAt W0.2.2.2.1⟩, W0.2.1, fun f1 c1 G1 x1 nn1 t1 nf1 a1 b1 => ?_⟩
      obtain ⟨l1, W1⟩ := W0.step (f := f1) (c := c1) x1 t1 a1 b1
      refine ⟨lst, _, _, rfl, rfl, l1, by show 0 < sizeLine; decide +kernel, ?_⟩
      refine ⟨_, rfl, .inl ⟨rfl, _, lstAt W1.2.2.2.1⟩, W1.2.1, fun f2 c2 G2 x2 nn2 t2 nf2 a2 b2 => ?_⟩
      obtain ⟨l2, W2⟩ := W1.step (f := f2) (c := c2) x2 t2 a2 b2
      refine ⟨lst, _, _, rfl, rfl, l2, by show 1 < sizeLine; decide +kernel, ?_⟩
      exact ⟨_, rfl, lst, _, rfl, rfl, rfl, W2⟩
    · obtain ⟨lst, fcs, rfl, rfl, hl5, ex, T1, _, el, hx⟩ := hR
      match fcs, hl5, el, hx with
      | [x1, x2], _, el, hx =>
      have k1 : (defScope st__law_texts).names.lookup ("one" : Str) = some NameKind.cell := by decide +kernel
      have k2 : (defScope st__law_texts).names.lookup ("other" : Str) = some NameKind.cell := by decide +kernel
      have only : ∀ y ∈ (defScope st__law_texts).names, y.2 = NameKind.cell → y.1 = ("one" : Str) ∨ y.1 = ("other" : Str) := by decide +kernel
      obtain ⟨a1, ha1⟩ := J.ok.has "one" (.inl k1)
      obtain ⟨a2, ha2⟩ := J.ok.has "other" (.inl k2)
      have n12 : a1 ≠ a2 := fun z => by
        have := J.ok.inj "one" "other" a1 ha1 (by rw [z]; exact ha2)
        exact absurd this (by decide)
      have l1 : ([(a1, v1), (a2, v2)] : CL).lookup a1 = some v1 := by
        rw [List.lookup_cons]
        simp
      have l2 : ([(a1, v1), (a2, v2)] : CL).lookup a2 = some v2 := by
        rw [List.lookup_cons]
        rw [show (a2 == a1) = false from by simpa using Ne.symm n12, List.lookup_cons]
        simp
      have up : ∀ b o, H' b = some o → lay [(a1, v1), (a2, v2)] H' b = some o := fun b o e => by
        cases z : ([(a1, v1), (a2, v2)] : CL).lookup b with
        | none => exact (lay_no z).trans e
        | some y =>
          exfalso
          rcases of_T z with ⟨rfl, _⟩ | ⟨rfl, _⟩
          · rw [J.freeC "one" _ ha1] at e
            cases e
          · rw [J.freeC "other" _ ha2] at e
            cases e
      have cap : ∀ (i : Nat) (fr : List Str) (ws : List V) (c' : Addr), (∀ y ∈ (lamS (lamT i)).names, y.2 = .free → X.env.scope.names.lookup y.1 = some .cell ∨ X.env.scope.names.lookup y.1 = some .free) → ws.length = fr.length →
          (∀ (j : Nat) (y : Str), fr[j]? = some y → (y, NameKind.free) ∈ (lamS (lamT i)).names ∧ ∃ (a : Addr) (v : V), X.env.cells.lookup y = some a ∧ ([(a1, v1), (a2, v2)] : CL).lookup a = some v ∧ ws[j]? = some v) → Cap (mk i c') fr ws [(a1, v1), (a2, v2)] := fun i fr ws c' hf hl hj => by
        have hfm : ∀ y ∈ (lamS (lamT i)).names, y.2 = .free → ∃ c, X.env.cells.lookup y.1 = some c := fun y hy e => (hf y hy e).elim (fun z => J.ok.has _ (.inl z)) fun z => J.ok.has _ (.inr z)
        refine ⟨hl, fun y c e => ?_, fun x y c ex1 ey1 => J.ok.inj x y c (NdefX.clo_cm hfm ex1) (NdefX.clo_cm hfm ey1), fun j y e => ?_⟩
        · have h1 := NdefX.clo_cm hfm e
          have h2 : (PySem.cellsFrom (s.heap.objs.size + 1) (defScope st__law_texts).names []).lookup y = some c := h1
          rcases cells_kind _ _ _ h2 with z | z
          · rcases only _ z rfl with w1 | w1
            · have w1 : y = ("one" : Str) := w1
              subst w1
              have := ha1.symm.trans h1
              rw [← Option.some.inj this]
              exact ⟨_, l1⟩
            · have w1 : y = ("other" : Str) := w1
              subst w1
              have := ha2.symm.trans h1
              rw [← Option.some.inj this]
              exact ⟨_, l2⟩
          · cases z
        · obtain ⟨m, a, v, e1, e2, e3⟩ := hj j y e
          exact ⟨a, NdefX.clo_has hfm m e1, fun v' ev => by
            rw [e3] at ev
            rw [← Option.some.inj ev]
            exact e2⟩
      have sl : Stand [(a1, v1), (a2, v2)] (lay [(a1, v1), (a2, v2)] H') := Stand.lay _ _
      have liv : ∀ (i : Nat) (x : Addr × Addr), H' x.1 = some (FnL x.1 (mk i x.2)) → H' x.2 = some (CodeO x.2 (mk i x.2).qual) → LiveK x.1 (mk i x.2) [(a1, v1), (a2, v2)] (lay [(a1, v1), (a2, v2)] H') := fun i x e1 e2 => ⟨up _ _ e1, up _ _ e2, sl⟩
      have m1 : LamAt (lamT 1) ["one", "other"] [v1, v2] [(a1, v1), (a2, v2)] x1.1 (lay [(a1, v1), (a2, v2)] H') := by
        obtain ⟨e1, e2⟩ := hx 0 x1 rfl
        refine ⟨_, _, _, liv 1 x1 e1 e2, cap 1 _ _ _ h1 rfl fun j y e => ?_⟩
        match j, e with
        | 0, e =>
          cases Option.some.inj e
          exact ⟨by decide +kernel, a1, v1, ha1, l1, rfl⟩
        | 1, e =>
          cases Option.some.inj e
          exact ⟨by decide +kernel, a2, v2, ha2, l2, rfl⟩
        | j + 2, e => simp at e
      have m2 : LamAt (lamT 2) ["one", "other"] [v1, v2] [(a1, v1), (a2, v2)] x2.1 (lay [(a1, v1), (a2, v2)] H') := by
        obtain ⟨e1, e2⟩ := hx 1 x2 rfl
        refine ⟨_, _, _, liv 2 x2 e1 e2, cap 2 _ _ _ h2 rfl fun j y e => ?_⟩
        match j, e with
        | 0, e =>
          cases Option.some.inj e
          exact ⟨by decide +kernel, a1, v1, ha1, l1, rfl⟩
        | 1, e =>
          cases Option.some.inj e
          exact ⟨by decide +kernel, a2, v2, ha2, l2, rfl⟩
        | j + 2, e => simp at e
      refine ce_lay (X := X) (l := [(a1, v1), (a2, v2)]) (fun _ => rfl) J rfl rfl (fun b y e => ?_) rv (q lst x1.1 x2.1 [(a1, v1), (a2, v2)] _ (fun b o e n => up _ _ (ex b o e n)) (T1.ext up) (up _ _ el) sl m1 m2)
      rcases of_T e with ⟨rfl, rfl⟩ | ⟨rfl, rfl⟩
      · exact ⟨"one", 0, ha1, rfl, rfl, k1⟩
      · exact ⟨"other", 1, ha2, rfl, rfl, k2⟩
end
end RH
set_option Elab.async false
set_option linter.all false
set_option maxRecDepth 100000
set_option maxHeartbeats 2000000
namespace RH
open PySem PySem.Spec PyProof.Rows L2
open NdefX (NScope CellsAt Caps slotAt slotAt_of cells_of startF ncx)
open LamX (Tabs TabS TabB ExtN CodeO codeO_ne)
/-! ### the lambdas are ready -/
theorem era_tups {K : PySem.W.Frag} {l : CL} {H : Hp} (s : Stand l H) : Tups K H (era l H) := fun a xs hs => by
  rcases hs with hs | hs
  · exact .inl (s.rd hs)
  · exact .inr hs
theorem era_keep {l : CL} {H : Hp} (s : Stand l H) {b : Addr} {o : HO} (e : H b = some o) (ne : ∀ v, o ≠ CellO b v) : era l H b = some o := by
  rcases s.cases e with ⟨v, _, z⟩ | ⟨_, z⟩
  · exact absurd z (ne v)
  · exact z
theorem lay_same {l : CL} {H H' : Hp} (s : Stand l H) (e : Same (era l H) H') : Same H (lay l H') := fun b o h => by
  rcases s.cases h with ⟨v, q, z⟩ | ⟨q, z⟩
  · rw [lay_in q, z]
  · rw [lay_no q]
    exact e b o z
theorem era_lst {K : PySem.W.Frag} {l : CL} {H : Hp} (s : Stand l H) {a : Addr} {xs : List V} (h : SqL K H a xs) : SqL K (era l H) a xs := by
  rcases h with (h | ⟨o, h⟩) | h
  · exact .inl (.inl (era_keep s h (fun v z => by unfold CellO at z; cases z)))
  · exact .inl (.inr ⟨o, era_keep s h (fun v z => by unfold CellO at z; cases z)⟩)
  · exact .inr h
section
variable {P : Program} {w : World} {K : PySem.W.Frag} {mg : Str → Option Value} {base : Heap}
section
variable {l : CL} {H : Hp} {v v1 v2 v3 : V} {wo : Option (List V)}
theorem Sw.era (s : Stand l H) (h : Sw K H v) : Sw K (era l H) v := by
  cases h with
  | int i => exact .int i
  | bl b => exact .bl b
  | non => exact .non
  | str z => exact .str z
  | tup h => exact .tup (era_tups s _ _ h)
  | lst h => exact .lst (era_lst s h)
theorem Tk.era (s : Stand l H) (h : Tk K H v wo) : Tk K (era l H) v wo := by
  cases h with
  | int i => exact .int i
  | bl b => exact .bl b
  | non => exact .non
  | str z => exact .str z
  | tup h => exact .tup (era_tups s _ _ h)
  | lst h => exact .lst (era_lst s h)
  | dct h => exact .dct (era_keep s h (fun v z => by unfold CellO at z; cases z))
theorem Wd.era (s : Stand l H) (h : Wd K H v wo) : Wd K (era l H) v wo := ⟨h.t.era s, fun xs z x hm => (h.s xs z x hm).era s, h.l⟩
theorem Hk.era {ho : Option (List (Option (List V)))} (s : Stand l H) (h : Hk K H v ho) : Hk K (era l H) v ho := by
  cases h with
  | tup h hx => exact .tup (era_tups s _ _ h) (hx.imp fun v d z => z.era s)
  | no h => exact .no (h.era s)
end
section
variable {H : Hp} {cl : CL} {f C : Addr} {lam : Expr} {fr : List Str} {us : List V} {sp : Sp} {g : List V → List V} {fn : Str}
/-- the lambda will end with an error that keeps pl -/
def okB (Cb : Addr) (fn : Str) (pl : V) (H : Hp) : Hp → VK → XK → Prop := fun H' _ E => H' = H ∧ bhE Cb fn pl H E
/-- the lambda will end with the error C -/
def okN (C : Addr) (H : Hp) : Hp → VK → XK → Prop := fun H' _ E => H' = H ∧ noE C H E
theorem rdyB {pl : V} (L : ∀ (q : Str) (cl : List (Str × Addr)) (c f : Addr), LOk P w K mg base (L2.CX P w) 9 f ⟨q, lamP lam, lamB lam, lamS lam, cl, c⟩ [] fr (spW sp g)) (La : LamAt lam fr us cl f H) (hsp : ∀ Q E, bhE C fn pl (era cl H) E → sp (g us) (era cl H) Q E) :
    Ready P w K mg base 9 f H (okB C fn pl H) := by
  obtain ⟨q, cl', c, live, cap⟩ := La.ex
  refine ⟨_, _, _, _, _, L q cl' c f, cap, live, fun Q E hE => ⟨us, rfl, rfl, hsp _ _ fun d H' s e gone => ?_⟩⟩
  refine hE.2 d (lay cl H') (lay_same live.st s) ?_
  have : cl.lookup d = none := by
    cases q : cl.lookup d with
    | none => rfl
    | some y =>
      rw [gone d y q] at e
      cases e
  rw [lay_no this]
  exact e
theorem rdyN (L : ∀ (q : Str) (cl : List (Str × Addr)) (c f : Addr), LOk P w K mg base (L2.CX P w) 9 f ⟨q, lamP lam, lamB lam, lamS lam, cl, c⟩ [] fr (spW sp g)) (La : LamAt lam fr us cl f H) (hsp : ∀ Q E, noE C (era cl H) E → sp (g us) (era cl H) Q E) :
    Ready P w K mg base 9 f H (okN C H) := by
  obtain ⟨q, cl', c, live, cap⟩ := La.ex
  exact ⟨_, _, _, _, _, L q cl' c f, cap, live, fun Q E hE => ⟨us, rfl, rfl, hsp _ _ fun H' s gone => hE.2 (lay cl H') (lay_same live.st s)⟩⟩
end
end
end RH
set_option Elab.async false
set_option linter.all false
set_option maxRecDepth 100000
set_option maxHeartbeats 2000000
namespace RH
open PySem PySem.Spec PyProof.Rows L2
open NdefX (NScope CellsAt Caps slotAt slotAt_of cells_of startF ncx)
open LamX (Tabs TabS TabB ExtN CodeO codeO_ne)
/-! ### what an error tells -/
/-- the word of a class, and the name of what it keeps -/
def wordAt : Nat → Str
  | 0 => "habit"
  | 1 => "layout"
  | 2 => "place"
  | 3 => "word"
  | 4 => "number"
  | 5 => "program"
  | _ => "string"
def fldAt : Nat → Option Str
  | 0 => some "place"
  | 5 => some "index"
  | _ => none
structure Knd (K : PySem.W.Frag) (mg : Str → Option Value) (E : Addr) (b : Nat) : Prop where
  few : b < 7
  ex : ExcC K E
  sup : ∃ S, mg "ShelfError" = some (.ref S) ∧ PySem.W.exmOne K (.ref E) (.ref S) = some true
  k0 : ∃ c, mg "BadHabit" = some (.ref c) ∧ PySem.W.kitOne K (.ref E) (.ref c) = some (decide (b = 0))
  k1 : ∃ c, mg "BadLayout" = some (.ref c) ∧ PySem.W.kitOne K (.ref E) (.ref c) = some (decide (b = 1))
  k2 : ∃ c, mg "BadPlace" = some (.ref c) ∧ PySem.W.kitOne K (.ref E) (.ref c) = some (decide (b = 2))
  k3 : ∃ c, mg "BadWord" = some (.ref c) ∧ PySem.W.kitOne K (.ref E) (.ref c) = some (decide (b = 3))
  k4 : ∃ c, mg "BadNumber" = some (.ref c) ∧ PySem.W.kitOne K (.ref E) (.ref c) = some (decide (b = 4))
  k5 : ∃ c, mg "BadProgram" = some (.ref c) ∧ PySem.W.kitOne K (.ref E) (.ref c) = some (decide (b = 5))
  k6 : ∃ c, mg "BadString" = some (.ref c) ∧ PySem.W.kitOne K (.ref E) (.ref c) = some (decide (b = 6))
/-- the classes that the law names -/
structure Five (mg : Str → Option Value) (S c0 c1 c2 c3 c4 c5 c6 : Addr) : Prop where
  s : mg "ShelfError" = some (.ref S)
  h0 : mg "BadHabit" = some (.ref c0)
  h1 : mg "BadLayout" = some (.ref c1)
  h2 : mg "BadPlace" = some (.ref c2)
  h3 : mg "BadWord" = some (.ref c3)
  h4 : mg "BadNumber" = some (.ref c4)
  h5 : mg "BadProgram" = some (.ref c5)
  h6 : mg "BadString" = some (.ref c6)
/-- the class itself, if it keeps something -/
def clsAt (mg : Str → Option Value) (E : Addr) : Nat → Prop
  | 0 => mg "BadHabit" = some (.ref E)
  | 5 => mg "BadProgram" = some (.ref E)
  | _ => True
theorem pl_data {K : PySem.W.Frag} {pl : V} (h : plV pl) : ∃ d : PyData, (∀ H, Dp K H pl d) ∧ (d = .none ∨ ∃ i : Nat, i < 16 ∧ d = .int (i : Int)) := by
  rcases h with rfl | ⟨i, hi, rfl⟩
  · exact ⟨.none, fun H => .non, .inl rfl⟩
  · exact ⟨.int (i : Int), fun H => .int _, .inr ⟨i, hi, rfl⟩⟩
theorem shp0 {d : PyData} (h : d = .none ∨ ∃ i : Nat, i < 16 ∧ d = .int (i : Int)) : SeqAt.shaped (.tuple [.str "habit", d]) = true := by
  rcases h with rfl | ⟨i, hi, rfl⟩
  · decide +kernel
  · rcases few_of hi with rfl | rfl | rfl | rfl | rfl | rfl | rfl | rfl | rfl | rfl | rfl | rfl | rfl | rfl | rfl | rfl <;> decide +kernel
theorem run_ex {X : Cx} {st : List Stmt} {pins : List (Addr × Obj)} {s : Shared} {σ : L2.St} {H : Hp} {D : Ends} (I : Inv X pins σ H s) (h : ∃ t, PSs X st t ∧ t D σ H) : wpAny (model X.prog X.w) X.A (execs st X.env) (SP X pins D) X.xe s := let ⟨_, ht, hq⟩ := h; ht.run pins s σ H D I hq
def RS (K : PySem.W.Frag) (mg : Str → Option Value) (a : Addr) (cls : Value) (d : Option Addr) : TS := fun D σ H => ∃ (v : V) (E : Addr) (b : Nat), σ = [some v, some .non, some (.ref a), none, none] ∧ cls = .ref E ∧ Knd K mg E b ∧
  ((fldAt b = none ∧ d = none ∧ ∀ H3 k1 k2, Same H H3 → D.nx [some v, some (.str (wordAt b)), some (.ref a), some (.ref k1), some (.ref k2)] H3) ∨
    (clsAt mg E b ∧ ∃ (fn : Str) (dd : Addr) (pl : V), fldAt b = some fn ∧ plV pl ∧ d = some dd ∧ H dd = some (.xd [(fn, pl)]) ∧ ∀ H3 k1 k2 t, Same H H3 → H3 t = some (.tup [.str (wordAt b), pl]) → D.nx [some v, some (.ref t), some (.ref a), some (.ref k1), some (.ref k2)] H3))
section
variable {P : Program} {w : World} {K : PySem.W.Frag} {mg : Str → Option Value} {base : Heap}
/-- a lambda that ends with an error: what is told of it -/
def spRefused (P : Program) (w : World) (K : PySem.W.Frag) (mg : Str → Option Value) (base : Heap) : Sp := fun vs H Q _ => ∃ (f E : Addr) (b : Nat), vs = [.ref f] ∧ Knd K mg E b ∧
  ((fldAt b = none ∧ Ready P w K mg base 9 f H (okN E H) ∧ ∀ H3, Same H H3 → Q (.str (wordAt b)) H3) ∨ (clsAt mg E b ∧ ∃ fn pl, fldAt b = some fn ∧ plV pl ∧ Ready P w K mg base 9 f H (okB E fn pl H) ∧ ∀ H3 t, Same H H3 → H3 t = some (.tup [.str (wordAt b), pl]) → Q (.ref t) H3))
theorem ok_refused {S c0 c1 c2 c3 c4 c5 c6 : Addr} (F : Df K mg "_law_refused" st__law_refused ["work"]) (B : Bu mg) (Fv : Five mg S c0 c1 c2 c3 c4 c5 c6) (ex0 : ExcC K c0) (no0 : PySem.W.findIn K (.ref c0) "place" = some none) (ex5 : ExcC K c5) (no5 : PySem.W.findIn K (.ref c5) "index" = some none) : Cal P w K mg base 10 "_law_refused" (spRefused P w K mg base) := by
  refine mkCal F sc__law_refused (fun vs H Q E h => ?_) (fun f cdv A outer s H vs Q E hr h => ?_)
  · obtain ⟨f, Er, b, rfl, _⟩ := h
    rfl
  · obtain ⟨fw, E0, b0, rfl, Kn0, q⟩ := h
    refine ⟨_, pss_cons (ps_set (i := 1) sc__law_refused.nd rfl (.inl rfl) pe_non)
      (pss_cons (ps_try_as (i := 2) (c := .ref S) (tb := fun W => tDrop (tCall0K P w K mg base 9 0 (WE W))) (ts := fun a cls d => RS K mg a cls d) (Wout := fun _ _ _ _ => False) rfl rfl sc__law_refused.nd rfl rfl ⟨rfl, by decide, .inl Fv.s⟩ takes0
        (fun W pn xe tk _ => by exact pss_one (ps_expr (pe_call0K hr (by decide) (fun σ => passAt tk σ) rfl (.inl rfl))))
        (fun a oe cls d pn hz hf => ⟨fun pins s2 σ H2 D I h2 => ?_⟩))
      (pss_one (ps_ret (pv 1)))), ?_⟩
    · obtain ⟨v, Er, b, rfl, rfl, Kn, q2⟩ := h2
      refine run_ex I ⟨_, pss_cons (ps_set (i := 3) sc__law_refused.nd rfl (.inl rfl) (pe_lst pa_nil))
          (pss_cons (ps_expr (pe_bm PySem.F.plainAttrs_list PySem.F.slot_list_append PySem.F.type_list_append mt_append (pv 3) (pa_cons (pe_callB (call_isY (X := (cxOf CX0 P w K mg base ["work", "found", "e", "kinds", "names"] "_law_refused" (defScope st__law_refused) f cdv A outer s H E).nox) (a := a) (pn := pn) hz hf) (by rfl) B.isi (by decide +kernel) (pa_cons (pv 2) (pa_cons (pe_glob (v := .ref c0) (by rfl) Fv.h0 (by rfl)) pa_nil))) pa_nil)))
          (pss_cons (ps_expr (pe_bm PySem.F.plainAttrs_list PySem.F.slot_list_append PySem.F.type_list_append mt_append (pv 3) (pa_cons (pe_callB (call_isY (X := (cxOf CX0 P w K mg base ["work", "found", "e", "kinds", "names"] "_law_refused" (defScope st__law_refused) f cdv A outer s H E).nox) (a := a) (pn := pn) hz hf) (by rfl) B.isi (by decide +kernel) (pa_cons (pv 2) (pa_cons (pe_glob (v := .ref c1) (by rfl) Fv.h1 (by rfl)) pa_nil))) pa_nil)))
          (pss_cons (ps_expr (pe_bm PySem.F.plainAttrs_list PySem.F.slot_list_append PySem.F.type_list_append mt_append (pv 3) (pa_cons (pe_callB (call_isY (X := (cxOf CX0 P w K mg base ["work", "found", "e", "kinds", "names"] "_law_refused" (defScope st__law_refused) f cdv A outer s H E).nox) (a := a) (pn := pn) hz hf) (by rfl) B.isi (by decide +kernel) (pa_cons (pv 2) (pa_cons (pe_glob (v := .ref c2) (by rfl) Fv.h2 (by rfl)) pa_nil))) pa_nil)))
          (pss_cons (ps_expr (pe_bm PySem.F.plainAttrs_list PySem.F.slot_list_append PySem.F.type_list_append mt_append (pv 3) (pa_cons (pe_callB (call_isY (X := (cxOf CX0 P w K mg base ["work", "found", "e", "kinds", "names"] "_law_refused" (defScope st__law_refused) f cdv A outer s H E).nox) (a := a) (pn := pn) hz hf) (by rfl) B.isi (by decide +kernel) (pa_cons (pv 2) (pa_cons (pe_glob (v := .ref c3) (by rfl) Fv.h3 (by rfl)) pa_nil))) pa_nil)))
          (pss_cons (ps_expr (pe_bm PySem.F.plainAttrs_list PySem.F.slot_list_append PySem.F.type_list_append mt_append (pv 3) (pa_cons (pe_callB (call_isY (X := (cxOf CX0 P w K mg base ["work", "found", "e", "kinds", "names"] "_law_refused" (defScope st__law_refused) f cdv A outer s H E).nox) (a := a) (pn := pn) hz hf) (by rfl) B.isi (by decide +kernel) (pa_cons (pv 2) (pa_cons (pe_glob (v := .ref c4) (by rfl) Fv.h4 (by rfl)) pa_nil))) pa_nil)))
          (pss_cons (ps_expr (pe_bm PySem.F.plainAttrs_list PySem.F.slot_list_append PySem.F.type_list_append mt_append (pv 3) (pa_cons (pe_callB (call_isY (X := (cxOf CX0 P w K mg base ["work", "found", "e", "kinds", "names"] "_law_refused" (defScope st__law_refused) f cdv A outer s H E).nox) (a := a) (pn := pn) hz hf) (by rfl) B.isi (by decide +kernel) (pa_cons (pv 2) (pa_cons (pe_glob (v := .ref c5) (by rfl) Fv.h5 (by rfl)) pa_nil))) pa_nil)))
          (pss_cons (ps_expr (pe_bm PySem.F.plainAttrs_list PySem.F.slot_list_append PySem.F.type_list_append mt_append (pv 3) (pa_cons (pe_callB (call_isY (X := (cxOf CX0 P w K mg base ["work", "found", "e", "kinds", "names"] "_law_refused" (defScope st__law_refused) f cdv A outer s H E).nox) (a := a) (pn := pn) hz hf) (by rfl) B.isi (by decide +kernel) (pa_cons (pv 2) (pa_cons (pe_glob (v := .ref c6) (by rfl) Fv.h6 (by rfl)) pa_nil))) pa_nil)))
          (pss_cons (ps_set (i := 4) sc__law_refused.nd rfl (.inl rfl) (pe_lst (pa_cons pe_str (pa_cons pe_str (pa_cons pe_str (pa_cons pe_str (pa_cons pe_str (pa_cons pe_str (pa_cons pe_str pa_nil)))))))))
          (pss_cons (ps_set (i := 1) sc__law_refused.nd rfl (.inl rfl) (pe_ifExp (pt_cmpR op_eq (pe_bm PySem.F.plainAttrs_list PySem.F.slot_list_count PySem.F.type_list_count mt_countF (pv 3) (pa_cons pe_bl pa_nil)) pe_int (nomark _))
            (pe_ix ix_list (pv 4) (pe_bm PySem.F.plainAttrs_list PySem.F.slot_list_index PySem.F.type_list_index mt_index (pv 3) (pa_cons pe_bl pa_nil)) (fun _ _ => rfl)) pe_str))
          (pss_cons (ps_set (i := 1) sc__law_refused.nd rfl (.inl rfl) (pe_ifExp (pt_cmpR op_eq (pv 1) pe_str (nomark _)) (pe_tup (pa_cons pe_str (pa_cons (pe_xf (X := (cxOf CX0 P w K mg base ["work", "found", "e", "kinds", "names"] "_law_refused" (defScope st__law_refused) f cdv A outer s H E).nox) (a := a) (pn := pn) ⟨ex0.hg, ex0.hk, ex0.hs, ex0.hd⟩ no0 hz hf (pv 2)) pa_nil))) (pv 1)))
          (pss_one (ps_set (i := 1) sc__law_refused.nd rfl (.inl rfl) (pe_ifExp (pt_cmpR (op_eqD hr.units) (pv 1) pe_str (nomark _)) (pe_tup (pa_cons pe_str (pa_cons (pe_xf (X := (cxOf CX0 P w K mg base ["work", "found", "e", "kinds", "names"] "_law_refused" (defScope st__law_refused) f cdv A outer s H E).nox) (a := a) (pn := pn) ⟨ex5.hg, ex5.hk, ex5.hs, ex5.hd⟩ no5 hz hf (pv 2)) pa_nil))) (pv 1)))))))))))))), ?_⟩
      obtain ⟨few, ex, _, ⟨e0, m0, k0⟩, ⟨e1, m1, k1⟩, ⟨e2, m2, k2⟩, ⟨e3, m3, k3⟩, ⟨e4, m4, k4⟩, ⟨e5, m5, k5⟩, ⟨e6, m6, k6⟩⟩ := Kn
      obtain rfl : e0 = c0 := Value.ref.inj (Option.some.inj (m0.symm.trans Fv.h0))
      obtain rfl : e1 = c1 := Value.ref.inj (Option.some.inj (m1.symm.trans Fv.h1))
      obtain rfl : e2 = c2 := Value.ref.inj (Option.some.inj (m2.symm.trans Fv.h2))
      obtain rfl : e3 = c3 := Value.ref.inj (Option.some.inj (m3.symm.trans Fv.h3))
      obtain rfl : e4 = c4 := Value.ref.inj (Option.some.inj (m4.symm.trans Fv.h4))
      obtain rfl : e5 = c5 := Value.ref.inj (Option.some.inj (m5.symm.trans Fv.h5))
      obtain rfl : e6 = c6 := Value.ref.inj (Option.some.inj (m6.symm.trans Fv.h6))
      have dk : d = none ∨ ∃ (dd : Addr) (fs : List (Str × V)), d = some dd ∧ H2 dd = some (.xd fs) := by
        rcases q2 with ⟨_, e, _⟩ | ⟨_, fn, dd, pl, _, _, e, e2, _⟩
        · exact .inl e
        · exact .inr ⟨dd, _, e, e2⟩
      refine ⟨Nat.zero_le _, fun kl hkl => ?_⟩
      have dks : ∀ H' : Hp, (∀ bb, bb ≠ kl → H' bb = H2 bb) → (d = none ∨ ∃ (dd : Addr) (fs : List (Str × V)), d = some dd ∧ H' dd = some (.xd fs)) := fun H' hh => by
        rcases dk with e | ⟨dd, fs, e, e2⟩
        · exact .inl e
        · exact .inr ⟨dd, fs, e, (hh dd (ne_of_none e2 hkl)).trans e2⟩
      refine ⟨_, rfl, .inl ⟨rfl, _, lstAt upd_same⟩, _, rfl, Er, e0, _, rfl, dks _ (fun bb nb => by rw [upd_ne nb]), ex, rfl, k0, kl, _, _, rfl, rfl, upd_same, by show 0 < sizeLine; decide +kernel, ?_⟩
      refine ⟨_, rfl, .inl ⟨rfl, _, lstAt upd_same⟩, _, rfl, Er, e1, _, rfl, dks _ (fun bb nb => by rw [upd_ne nb]; rw [upd_ne nb]), ex, rfl, k1, kl, _, _, rfl, rfl, upd_same, by show 1 < sizeLine; decide +kernel, ?_⟩
      refine ⟨_, rfl, .inl ⟨rfl, _, lstAt upd_same⟩, _, rfl, Er, e2, _, rfl, dks _ (fun bb nb => by rw [upd_ne nb]; rw [upd_ne nb]; rw [upd_ne nb]), ex, rfl, k2, kl, _, _, rfl, rfl, upd_same, by show 2 < sizeLine; decide +kernel, ?_⟩
      refine ⟨_, rfl, .inl ⟨rfl, _, lstAt upd_same⟩, _, rfl, Er, e3, _, rfl, dks _ (fun bb nb => by rw [upd_ne nb]; rw [upd_ne nb]; rw [upd_ne nb]; rw [upd_ne nb]), ex, rfl, k3, kl, _, _, rfl, rfl, upd_same, by show 3 < sizeLine; decide +kernel, ?_⟩
      refine ⟨_, rfl, .inl ⟨rfl, _, lstAt upd_same⟩, _, rfl, Er, e4, _, rfl, dks _ (fun bb nb => by rw [upd_ne nb]; rw [upd_ne nb]; rw [upd_ne nb]; rw [upd_ne nb]; rw [upd_ne nb]), ex, rfl, k4, kl, _, _, rfl, rfl, upd_same, by show 4 < sizeLine; decide +kernel, ?_⟩
      refine ⟨_, rfl, .inl ⟨rfl, _, lstAt upd_same⟩, _, rfl, Er, e5, _, rfl, dks _ (fun bb nb => by rw [upd_ne nb]; rw [upd_ne nb]; rw [upd_ne nb]; rw [upd_ne nb]; rw [upd_ne nb]; rw [upd_ne nb]), ex, rfl, k5, kl, _, _, rfl, rfl, upd_same, by show 5 < sizeLine; decide +kernel, ?_⟩
      refine ⟨_, rfl, .inl ⟨rfl, _, lstAt upd_same⟩, _, rfl, Er, e6, _, rfl, dks _ (fun bb nb => by rw [upd_ne nb]; rw [upd_ne nb]; rw [upd_ne nb]; rw [upd_ne nb]; rw [upd_ne nb]; rw [upd_ne nb]; rw [upd_ne nb]), ex, rfl, k6, kl, _, _, rfl, rfl, upd_same, by show 6 < sizeLine; decide +kernel, ?_⟩
      refine ⟨by decide +kernel, fun nl hnl => ?_⟩
      have sn : Same H2 _ := fun bb o e => same_new (o := .lst [.str "habit", .str "layout", .str "place", .str "word", .str "number", .str "program", .str "string"]) hnl bb o (by
        have nb : bb ≠ kl := ne_of_none e hkl
        rw [upd_ne nb, upd_ne nb, upd_ne nb, upd_ne nb, upd_ne nb, upd_ne nb, upd_ne nb, upd_ne nb]
        exact e)
      have nkn : kl ≠ nl := ne_of_none upd_same hnl
      refine ⟨_, rfl, .inl ⟨rfl, _, lstAt (by rw [upd_ne nkn]; exact upd_same)⟩, kl, _, .bl true, rfl, rfl, lstAt (by rw [upd_ne nkn]; exact upd_same), rfl, rfl, rfl, _, rfl, ?_⟩
      have two : b = 0 ∨ b = 1 ∨ b = 2 ∨ b = 3 ∨ b = 4 ∨ b = 5 ∨ b = 6 := by omega
      rcases two with rfl | rfl | rfl | rfl | rfl | rfl | rfl
      · refine ifT (by decide +kernel) ⟨_, rfl, _, rfl, .inl ⟨rfl, _, lstAt (by rw [upd_ne nkn]; exact upd_same)⟩, kl, _, .bl true, 0, .bl true, rfl, rfl, lstAt (by rw [upd_ne nkn]; exact upd_same), rfl, rfl, rfl, rfl, fun m z' hm hz' => ?_, nl, _, _, _, rfl, rfl, lstAt upd_same, rfl, ?_⟩
        · exact absurd hm (Nat.not_lt_zero _)
        · rcases q2 with ⟨z, _⟩ | ⟨mE, fn, dd, pl, hfn, hpl, rfl, hd, q2⟩
          · cases z
          cases hfn
          have mE : mg "BadHabit" = some (.ref Er) := mE
          obtain rfl : Er = e0 := Value.ref.inj (Option.some.inj (mE.symm.trans m0))
          refine ⟨_, rfl, rfl, _, rfl, ifT (by decide +kernel) ⟨_, rfl, rfl, rfl, dd, _, pl, rfl, sn _ _ hd, rfl, by show 2 ≤ sizeLine; decide +kernel, fun t ht => ?_⟩⟩
          obtain ⟨dp, hdp, hds⟩ := pl_data (K := K) hpl
          refine ⟨_, rfl, .tuple [.str "habit", dp], .str "program", .tup (tupAt upd_same) (.cons (.str _) (.cons (hdp _) .nil)), .str _, shp0 hds, by decide +kernel, _, rfl, ifF (by rfl) ⟨_, rfl, ?_⟩⟩
          exact q2 _ kl nl t (sn.trans (same_new ht)) upd_same
      · refine ifT (by decide +kernel) ⟨_, rfl, _, rfl, .inl ⟨rfl, _, lstAt (by rw [upd_ne nkn]; exact upd_same)⟩, kl, _, .bl true, 1, .bl true, rfl, rfl, lstAt (by rw [upd_ne nkn]; exact upd_same), rfl, rfl, rfl, rfl, fun m z' hm hz' => ?_, nl, _, _, _, rfl, rfl, lstAt upd_same, rfl, ?_⟩
        · match m, hm with
          | 0, _ => cases Option.some.inj hz'; rfl
        · rcases q2 with ⟨_, _, q2⟩ | ⟨_, fn, dd, pl, z, _⟩
          · refine ⟨_, rfl, rfl, _, rfl, ifF (by decide +kernel) ⟨_, rfl, ?_⟩⟩
            refine ⟨_, rfl, .str "layout", .str "program", .str _, .str _, by decide +kernel, by decide +kernel, _, rfl, ifF (by decide +kernel) ⟨_, rfl, ?_⟩⟩
            exact q2 _ kl nl sn
          · cases z
      · refine ifT (by decide +kernel) ⟨_, rfl, _, rfl, .inl ⟨rfl, _, lstAt (by rw [upd_ne nkn]; exact upd_same)⟩, kl, _, .bl true, 2, .bl true, rfl, rfl, lstAt (by rw [upd_ne nkn]; exact upd_same), rfl, rfl, rfl, rfl, fun m z' hm hz' => ?_, nl, _, _, _, rfl, rfl, lstAt upd_same, rfl, ?_⟩
        · match m, hm with
          | 0, _ => cases Option.some.inj hz'; rfl
          | 1, _ => cases Option.some.inj hz'; rfl
        · rcases q2 with ⟨_, _, q2⟩ | ⟨_, fn, dd, pl, z, _⟩
          · refine ⟨_, rfl, rfl, _, rfl, ifF (by decide +kernel) ⟨_, rfl, ?_⟩⟩
            refine ⟨_, rfl, .str "place", .str "program", .str _, .str _, by decide +kernel, by decide +kernel, _, rfl, ifF (by decide +kernel) ⟨_, rfl, ?_⟩⟩
            exact q2 _ kl nl sn
          · cases z
      · refine ifT (by decide +kernel) ⟨_, rfl, _, rfl, .inl ⟨rfl, _, lstAt (by rw [upd_ne nkn]; exact upd_same)⟩, kl, _, .bl true, 3, .bl true, rfl, rfl, lstAt (by rw [upd_ne nkn]; exact upd_same), rfl, rfl, rfl, rfl, fun m z' hm hz' => ?_, nl, _, _, _, rfl, rfl, lstAt upd_same, rfl, ?_⟩
        · match m, hm with
          | 0, _ => cases Option.some.inj hz'; rfl
          | 1, _ => cases Option.some.inj hz'; rfl
          | 2, _ => cases Option.some.inj hz'; rfl
        · rcases q2 with ⟨_, _, q2⟩ | ⟨_, fn, dd, pl, z, _⟩
          · refine ⟨_, rfl, rfl, _, rfl, ifF (by decide +kernel) ⟨_, rfl, ?_⟩⟩
            refine ⟨_, rfl, .str "word", .str "program", .str _, .str _, by decide +kernel, by decide +kernel, _, rfl, ifF (by decide +kernel) ⟨_, rfl, ?_⟩⟩
            exact q2 _ kl nl sn
          · cases z
      · refine ifT (by decide +kernel) ⟨_, rfl, _, rfl, .inl ⟨rfl, _, lstAt (by rw [upd_ne nkn]; exact upd_same)⟩, kl, _, .bl true, 4, .bl true, rfl, rfl, lstAt (by rw [upd_ne nkn]; exact upd_same), rfl, rfl, rfl, rfl, fun m z' hm hz' => ?_, nl, _, _, _, rfl, rfl, lstAt upd_same, rfl, ?_⟩
        · match m, hm with
          | 0, _ => cases Option.some.inj hz'; rfl
          | 1, _ => cases Option.some.inj hz'; rfl
          | 2, _ => cases Option.some.inj hz'; rfl
          | 3, _ => cases Option.some.inj hz'; rfl
        · rcases q2 with ⟨_, _, q2⟩ | ⟨_, fn, dd, pl, z, _⟩
          · refine ⟨_, rfl, rfl, _, rfl, ifF (by decide +kernel) ⟨_, rfl, ?_⟩⟩
            refine ⟨_, rfl, .str "number", .str "program", .str _, .str _, by decide +kernel, by decide +kernel, _, rfl, ifF (by decide +kernel) ⟨_, rfl, ?_⟩⟩
            exact q2 _ kl nl sn
          · cases z
      · refine ifT (by decide +kernel) ⟨_, rfl, _, rfl, .inl ⟨rfl, _, lstAt (by rw [upd_ne nkn]; exact upd_same)⟩, kl, _, .bl true, 5, .bl true, rfl, rfl, lstAt (by rw [upd_ne nkn]; exact upd_same), rfl, rfl, rfl, rfl, fun m z' hm hz' => ?_, nl, _, _, _, rfl, rfl, lstAt upd_same, rfl, ?_⟩
        · match m, hm with
          | 0, _ => cases Option.some.inj hz'; rfl
          | 1, _ => cases Option.some.inj hz'; rfl
          | 2, _ => cases Option.some.inj hz'; rfl
          | 3, _ => cases Option.some.inj hz'; rfl
          | 4, _ => cases Option.some.inj hz'; rfl
        · rcases q2 with ⟨z, _⟩ | ⟨mE, fn, dd, pl, hfn, hpl, rfl, hd, q2⟩
          · cases z
          cases hfn
          have mE : mg "BadProgram" = some (.ref Er) := mE
          obtain rfl : Er = e5 := Value.ref.inj (Option.some.inj (mE.symm.trans m5))
          refine ⟨_, rfl, rfl, _, rfl, ifF (by decide +kernel) ⟨_, rfl, ?_⟩⟩
          refine ⟨_, rfl, .str "program", .str "program", .str _, .str _, by decide +kernel, by decide +kernel, _, rfl, ifT (by decide +kernel) ⟨_, rfl, rfl, rfl, dd, _, pl, rfl, sn _ _ hd, rfl, by show 2 ≤ sizeLine; decide +kernel, fun t ht => ?_⟩⟩
          exact q2 _ kl nl t (sn.trans (same_new ht)) upd_same
      · refine ifT (by decide +kernel) ⟨_, rfl, _, rfl, .inl ⟨rfl, _, lstAt (by rw [upd_ne nkn]; exact upd_same)⟩, kl, _, .bl true, 6, .bl true, rfl, rfl, lstAt (by rw [upd_ne nkn]; exact upd_same), rfl, rfl, rfl, rfl, fun m z' hm hz' => ?_, nl, _, _, _, rfl, rfl, lstAt upd_same, rfl, ?_⟩
        · match m, hm with
          | 0, _ => cases Option.some.inj hz'; rfl
          | 1, _ => cases Option.some.inj hz'; rfl
          | 2, _ => cases Option.some.inj hz'; rfl
          | 3, _ => cases Option.some.inj hz'; rfl
          | 4, _ => cases Option.some.inj hz'; rfl
          | 5, _ => cases Option.some.inj hz'; rfl
        · rcases q2 with ⟨_, _, q2⟩ | ⟨_, fn, dd, pl, z, _⟩
          · refine ⟨_, rfl, rfl, _, rfl, ifF (by decide +kernel) ⟨_, rfl, ?_⟩⟩
            refine ⟨_, rfl, .str "string", .str "program", .str _, .str _, by decide +kernel, by decide +kernel, _, rfl, ifF (by decide +kernel) ⟨_, rfl, ?_⟩⟩
            exact q2 _ kl nl sn
          · cases z
    · obtain ⟨S', gS, hS⟩ := Kn0.sup
      obtain rfl : S' = S := Value.ref.inj (Option.some.inj (gS.symm.trans Fv.s))
      rcases q with ⟨nb, R, q⟩ | ⟨mE, fn, pl, hfn, hpl, R, q⟩
      · exact ⟨fw, _, rfl, R, rfl, fun H2 s2 => ⟨true, hS, fun _ a ha => ⟨.ref fw, E0, b0, rfl, rfl, Kn0, .inl ⟨nb, rfl, fun H3 k1 k2 s3 => ⟨_, rfl, q H3 (s2.trans s3)⟩⟩⟩, fun z => nomatch z⟩⟩
      · exact ⟨fw, _, rfl, R, rfl, fun d H2 s2 hd => ⟨true, hS, fun _ a ha => ⟨.ref fw, E0, b0, rfl, rfl, Kn0, .inr ⟨mE, fn, d, pl, hfn, hpl, rfl, hd, fun H3 k1 k2 t s3 ht => ⟨_, rfl, q H3 t (s2.trans s3) ht⟩⟩⟩, fun z => nomatch z⟩⟩
end
end RH
set_option Elab.async false
set_option linter.all false
set_option maxRecDepth 100000
set_option maxHeartbeats 2000000
namespace RH
open PySem PySem.Spec PyProof.Rows L2
theorem lay_yes {n : Nat} {L : List Int} (h : L.Perm (rg n)) : isLay n L = true := by
  unfold isLay
  exact List.isPerm_iff.mpr h
theorem perm_len {n : Nat} {L : List Int} (h : L.Perm (rg n)) : L.length = n := by
  have := h.length_eq
  rw [this]
  unfold rg
  rw [List.length_map, List.length_range]
theorem catT_ok {K : PySem.W.Frag} {H : Hp} {a b : Addr} {xs ys : List V} {Q : VK} (ha : SqT K H a xs) (hb : SqT K H b ys) (hl : xs.length + ys.length ≤ 1000) (q : ∀ r H', Same H H' → SqT K H' r (xs ++ ys) → Q (.ref r) H') : rCatA K (.ref a) (.ref b) H Q := by
  refine ⟨a, b, xs, ys, rfl, rfl, ha, hb, Nat.le_of_lt (small1000 hl), fun e => ?_, fun _ e => ?_, fun _ _ p hp => q p _ (same_new hp) (tupAt upd_same)⟩
  · subst e
    exact q b H (Same.refl H) hb
  · subst e
    exact q a H (Same.refl H) (by rw [List.append_nil]; exact ha)
theorem cl_listOf {X : Cx} (K : PySem.W.Frag) (h : X.K = K := by rfl) : CallR X (.type "list") (fun xs H Q => ∃ p ys, xs = [.ref p] ∧ (SqL K H p ys ∨ SqT K H p ys) ∧ ∀ l, H l = none → Q (.ref l) (upd H l (.lst ys))) := by
  subst h
  exact call_list_of
theorem Each.app {α : Type} {R : V → α → Prop} : ∀ {xs ys : List V} {ds es : List α}, Each R xs ds → Each R ys es → Each R (xs ++ ys) (ds ++ es)
  | _, _, _, _, .nil, h => h
  | _, _, _, _, .cons k t, h => .cons k (t.app h)
theorem Each.take {α : Type} {R : V → α → Prop} : ∀ {xs : List V} {ds : List α} (k : Nat), Each R xs ds → Each R (xs.take k) (ds.take k)
  | _, _, 0, _ => .nil
  | _, _, _ + 1, .nil => .nil
  | _, _, k + 1, .cons h t => .cons h (t.take k)
theorem Each.drop {α : Type} {R : V → α → Prop} : ∀ {xs : List V} {ds : List α} (k : Nat), Each R xs ds → Each R (xs.drop k) (ds.drop k)
  | _, _, 0, h => h
  | _, _, _ + 1, .nil => .nil
  | _, _, k + 1, .cons _ t => t.drop k
/-! ### what is none -/
section
variable {K : PySem.W.Frag} {H H' : Hp} {n : Nat} {v pl : V}
/-- no layout -/
def NoL (K : PySem.W.Frag) (H : Hp) (n : Nat) (v : V) : Prop := ∃ wo, Wd K H v wo ∧ layW n wo = false
theorem NoL.on (e : Same H H') (h : NoL K H n v) : NoL K H' n v := by
  obtain ⟨wo, a, b⟩ := h
  exact ⟨wo, a.on e, b⟩
theorem lst_but {p a : Addr} {xs : List V} (B : But p H H') (R' : Row K H' p) (h : SqL K H a xs) : ∃ ys, SqL K H' a ys := by
  by_cases e : a = p
  · subst e
    obtain ⟨rs, hrs⟩ := R'.lst
    exact ⟨rs, lstAt hrs⟩
  · rcases h with (h | ⟨o, h⟩) | h
    · exact ⟨xs, .inl (.inl (B _ _ h e))⟩
    · exact ⟨xs, .inl (.inr ⟨o, B _ _ h e⟩)⟩
    · exact ⟨xs, .inr h⟩
theorem Sw.but {p : Addr} (B : But p H H') (R : Row K H p) (R' : Row K H' p) (h : Sw K H v) : Sw K H' v := by
  cases h with
  | int i => exact .int i
  | bl bb => exact .bl bb
  | non => exact .non
  | str z => exact .str z
  | tup h => exact .tup ((R.fix B).tups _ _ h)
  | lst h =>
    obtain ⟨ys, h⟩ := lst_but B R' h
    exact .lst h
theorem Tk.but {p : Addr} {wo : Option (List V)} (B : But p H H') (R : Row K H p) (R' : Row K H' p) (h : Tk K H v wo) : Tk K H' v wo := by
  cases h with
  | int i => exact .int i
  | bl bb => exact .bl bb
  | non => exact .non
  | str z => exact .str z
  | tup h => exact .tup ((R.fix B).tups _ _ h)
  | lst h =>
    obtain ⟨ys, h⟩ := lst_but B R' h
    exact .lst h
  | dct h =>
    obtain ⟨rs, hrs⟩ := R.lst
    exact .dct (B _ _ h (ne_of h hrs (fun z => nomatch z)))
theorem Wd.but {p : Addr} {wo : Option (List V)} (B : But p H H') (R : Row K H p) (R' : Row K H' p) (h : Wd K H v wo) : Wd K H' v wo := ⟨h.t.but B R R', fun xs z x hm => (h.s xs z x hm).but B R R', h.l⟩
theorem Hk.but {p : Addr} {ho : Option (List (Option (List V)))} (B : But p H H') (R : Row K H p) (R' : Row K H' p) (h : Hk K H v ho) : Hk K H' v ho := by
  cases h with
  | tup h hx => exact .tup ((R.fix B).tups _ _ h) (hx.imp fun v d z => z.but B R R')
  | no h => exact .no (h.but B R R')
theorem NoL.but {p : Addr} (B : But p H H') (R : Row K H p) (R' : Row K H' p) (h : NoL K H n v) : NoL K H' n v := by
  obtain ⟨wo, a, b⟩ := h
  exact ⟨wo, a.but B R R', b⟩
theorem wd_ints {a : Addr} {ns : List Int} (h : SqT K H a (ns.map V.int)) (hl : ns.length < 64) : Wd K H (.ref a) (some (ns.map V.int)) :=
  ⟨.tup h, fun xs z x hm => by cases z; obtain ⟨i, _, rfl⟩ := List.mem_map.mp hm; exact .int i, fun xs z => by cases z; rwa [List.length_map]⟩
theorem wd_head {a : Addr} {x : V} {ns : List Int} (h : SqT K H a (x :: ns.map V.int)) (hx : Sw K H x) (hl : ns.length < 63) : Wd K H (.ref a) (some (x :: ns.map V.int)) :=
  ⟨.tup h, fun xs z y hm => by
    cases z
    rcases List.mem_cons.mp hm with rfl | hm
    · exact hx
    · obtain ⟨i, _, rfl⟩ := List.mem_map.mp hm
      exact .int i, fun xs z => by cases z; rw [List.length_cons, List.length_map]; omega⟩
theorem lay_len {xs : List V} (h : xs.length ≠ n) : layW n (some xs) = false := by
  show (xs.all _ && isLay n (xs.map valI)) = false
  have : isLay n (xs.map valI) = false := by
    unfold isLay
    refine Bool.eq_false_iff.mpr fun z => h ?_
    have := (List.isPerm_iff.mp z).length_eq
    rw [List.length_map] at this
    rw [this]
    unfold rg
    rw [List.length_map, List.length_range]
  rw [this, Bool.and_false]
theorem lay_head {x : V} {xs : List V} (h : inV2 0 ((n : Int) - 1) x = false) : layW n (some (x :: xs)) = false := by
  show ((x :: xs).all _ && isLay n ((x :: xs).map valI)) = false
  rw [List.all_cons, h, Bool.false_and, Bool.false_and]
theorem lay_ok {ns : List Int} (h : ns.Perm (rg n)) : layW n (some (ns.map V.int)) = true := by
  have e1 : ((ns.map V.int).map valI) = ns := by
    rw [List.map_map]
    exact List.map_id' ns
  show ((ns.map V.int).all _ && isLay n ((ns.map V.int).map valI)) = true
  rw [e1, lay_yes h, Bool.and_true, List.all_eq_true]
  intro v hv
  obtain ⟨i, hi, rfl⟩ := List.mem_map.mp hv
  have := rg_mem.mp (h.mem_iff.mp hi)
  exact inV2_yes0 this.1 this.2
theorem lay_zeros (h2 : 2 ≤ n) (h5 : n ≤ 5) : layW n (some ((List.replicate n (0 : Int)).map V.int)) = false := by
  have : n = 2 ∨ n = 3 ∨ n = 4 ∨ n = 5 := by omega
  rcases this with rfl | rfl | rfl | rfl <;> decide +kernel
/-- no habit, of the place pl -/
def NoH (K : PySem.W.Frag) (H : Hp) (v pl : V) : Prop := ∃ ho, Hk K H v ho ∧ hbBad ho = some pl
theorem NoH.on (e : Same H H') (h : NoH K H v pl) : NoH K H' v pl := by
  obtain ⟨wo, a, b⟩ := h
  exact ⟨wo, a.on e, b⟩
theorem NoH.but {p : Addr} (B : But p H H') (R : Row K H p) (R' : Row K H' p) (h : NoH K H v pl) : NoH K H' v pl := by
  obtain ⟨wo, a, b⟩ := h
  exact ⟨wo, a.but B R R', b⟩
/-- a pair: what is no habit, and its place -/
def Pr (K : PySem.W.Frag) (H : Hp) (v : V) : Prop := ∃ (t : Addr) (x pl : V), v = .ref t ∧ SqT K H t [x, pl] ∧ NoH K H x pl
theorem Pr.on (e : Same H H') (h : Pr K H v) : Pr K H' v := by
  obtain ⟨t, x, pl, rfl, a, b⟩ := h
  exact ⟨t, x, pl, rfl, onT e a, b.on e⟩
theorem Pr.but {p : Addr} (B : But p H H') (R : Row K H p) (R' : Row K H' p) (h : Pr K H v) : Pr K H' v := by
  obtain ⟨t, x, pl, rfl, a, b⟩ := h
  exact ⟨t, x, pl, rfl, (R.fix B).tups _ _ a, b.but B R R'⟩
theorem hk_of {h : List (List Int)} (hT : TII K H v h) (hb : Hb n h) : Hk K H v (some (h.map fun ns => some (ns.map V.int))) := by
  obtain ⟨a, xs, rfl, hS, hE⟩ := hT
  refine .tup hS ?_
  have hp := hb.perm
  have hi := hb.hi
  clear hS hb
  induction hE with
  | nil => exact .nil
  | @cons x ns xs h hx hE ih =>
    obtain ⟨b, rfl, hB⟩ := hx
    refine .cons (wd_ints hB ?_) (ih fun ns hm => hp ns (List.mem_cons_of_mem _ hm))
    rw [perm_len (hp ns (List.mem_cons_self ..))]
    omega
theorem hb_ok {h : List (List Int)} (hb : Hb n h) : hbBad (some (h.map fun ns => some (ns.map V.int))) = none := by
  have hl := hb.len
  have h2 := hb.lo
  have h5 := hb.hi
  unfold hbBad
  dsimp only
  rw [List.length_map, hl, decide_eq_true h2, decide_eq_true h5]
  have : ((h.map fun ns => some (ns.map V.int)).findIdx? fun wo => !layW n wo) = none := by
    rw [List.findIdx?_eq_none_iff]
    intro wo hm
    obtain ⟨ns, hn, rfl⟩ := List.mem_map.mp hm
    rw [lay_ok (hb.perm ns hn)]
    rfl
  rw [this]
  rfl
/-- no place, no word, no number -/
def NoP (K : PySem.W.Frag) (H : Hp) (n : Nat) (v : V) : Prop := Sw K H v ∧ inV2 0 ((n : Int) - 1) v = false
def NoW (K : PySem.W.Frag) (H : Hp) (n : Nat) (v : V) : Prop := ∃ wo, Ww K H v wo ∧ wrdW n wo = false
def NoN (K : PySem.W.Frag) (H : Hp) (v : V) : Prop := Sw K H v ∧ inV2 2 5 v = false
theorem NoP.but {p : Addr} (B : But p H H') (R : Row K H p) (R' : Row K H' p) (h : NoP K H n v) : NoP K H' n v := ⟨h.1.but B R R', h.2⟩
theorem NoN.but {p : Addr} (B : But p H H') (R : Row K H p) (R' : Row K H' p) (h : NoN K H v) : NoN K H' v := ⟨h.1.but B R R', h.2⟩
theorem NoW.but {p : Addr} (B : But p H H') (R : Row K H p) (R' : Row K H' p) (h : NoW K H n v) : NoW K H' n v := by
  obtain ⟨wo, a, b⟩ := h
  exact ⟨wo, ⟨a.t.but B R R', fun z => (a.w z).but B R R'⟩, b⟩
end
open NdefX (NScope CellsAt Caps slotAt slotAt_of cells_of startF ncx)
open LamX (Tabs TabS TabB ExtN CodeO codeO_ne)
/-! ### what the law holds -/
theorem rep_zeros (n : Nat) : (List.replicate n [V.int 0]).flatten = (List.replicate n (0 : Int)).map V.int := by
  induction n with
  | zero => rfl
  | succ n ih =>
    rw [List.replicate_succ, List.replicate_succ, List.flatten_cons, ih]
    rfl
theorem extN_tups {K : PySem.W.Frag} {H H' : Hp} (e : ExtN H H') : Tups K H H' := fun a xs hs => by
  rcases hs with (hs | ⟨o, hs⟩) | hs
  · exact .inl (.inl (e _ _ hs (fun ps z => nomatch z)))
  · exact .inl (.inr ⟨o, e _ _ hs (fun ps z => nomatch z)⟩)
  · exact .inr hs
theorem Fix.tabs {T : List (Addr × Str)} {H H' : Hp} (f : Fix H H') (t : Tabs T H) : Tabs T H' := fun p hp => by
  obtain ⟨ps, h1, h2, h3⟩ := t p hp
  refine ⟨ps, f _ _ h1 (fun xs z => nomatch z), h2, fun pos cv hc => ?_⟩
  obtain ⟨c, e1, e2⟩ := h3 pos cv hc
  exact ⟨c, e1, f _ _ e2 (fun xs z => by unfold CodeO at z; cases z)⟩
section
variable {K : PySem.W.Frag} {H H' : Hp} {n : Nat} {v v1 v2 pl : V}
theorem Row.ext {p : Addr} (e : ExtN H H') (h : Row K H p) : Row K H' p := by
  obtain ⟨a, ns, i, r, c, h⟩ := h
  refine ⟨a, ns, i, r, c, e _ _ h.at_ (fun ps z => nomatch z), ?_, h.pos⟩
  rcases h.fz with ⟨o, z⟩ | z
  · exact .inl ⟨o, e _ _ z (fun ps z => nomatch z)⟩
  · exact .inr z
theorem Sw.ext (e : ExtN H H') (h : Sw K H v) : Sw K H' v := by
  cases h with
  | int i => exact .int i
  | bl bb => exact .bl bb
  | non => exact .non
  | str z => exact .str z
  | tup h => exact .tup (extN_tups e _ _ h)
  | @lst a xs h =>
    refine .lst (xs := xs) ?_
    rcases h with (h | ⟨o, h⟩) | h
    · exact .inl (.inl (e _ _ h (fun ps z => nomatch z)))
    · exact .inl (.inr ⟨o, e _ _ h (fun ps z => nomatch z)⟩)
    · exact .inr h
theorem Tk.ext {wo : Option (List V)} (e : ExtN H H') (h : Tk K H v wo) : Tk K H' v wo := by
  cases h with
  | int i => exact .int i
  | bl bb => exact .bl bb
  | non => exact .non
  | str z => exact .str z
  | tup h => exact .tup (extN_tups e _ _ h)
  | dct h => exact .dct (e _ _ h (fun ps z => nomatch z))
  | @lst a xs h =>
    refine .lst (xs := xs) ?_
    rcases h with (h | ⟨o, h⟩) | h
    · exact .inl (.inl (e _ _ h (fun ps z => nomatch z)))
    · exact .inl (.inr ⟨o, e _ _ h (fun ps z => nomatch z)⟩)
    · exact .inr h
theorem Wd.ext {wo : Option (List V)} (e : ExtN H H') (h : Wd K H v wo) : Wd K H' v wo := ⟨h.t.ext e, fun xs z x hm => (h.s xs z x hm).ext e, h.l⟩
theorem NoL.ext (e : ExtN H H') (h : NoL K H n v) : NoL K H' n v := by
  obtain ⟨wo, a, b⟩ := h
  exact ⟨wo, a.ext e, b⟩
theorem NoP.ext (e : ExtN H H') (h : NoP K H n v) : NoP K H' n v := ⟨h.1.ext e, h.2⟩
theorem NoN.ext (e : ExtN H H') (h : NoN K H v) : NoN K H' v := ⟨h.1.ext e, h.2⟩
theorem NoW.ext (e : ExtN H H') (h : NoW K H n v) : NoW K H' n v := by
  obtain ⟨wo, a, b⟩ := h
  exact ⟨wo, ⟨a.t.ext e, fun z => (a.w z).ext e⟩, b⟩
theorem NoH.ext (e : ExtN H H') (h : NoH K H v pl) : NoH K H' v pl := by
  obtain ⟨ho, a, b⟩ := h
  refine ⟨ho, ?_, b⟩
  cases a with
  | tup h hx => exact .tup (extN_tups e _ _ h) (hx.imp fun v d z => z.ext e)
  | no h => exact .no (h.ext e)
theorem same_ext (e : Same H H') : ExtN H H' := fun b o q _ => e b o q
theorem NoL.no (h : Tk K H v none) : NoL K H n v := ⟨none, ⟨h, (fun _ z => nomatch z), (fun _ z => nomatch z)⟩, rfl⟩
theorem NoL.ints {a : Addr} {ns : List Int} (h : SqT K H a (ns.map V.int)) (hl : ns.length < 64) (hne : ns.length ≠ n) : NoL K H n (.ref a) := ⟨_, wd_ints h hl, lay_len (by rw [List.length_map]; exact hne)⟩
theorem NoL.head {a : Addr} {x : V} {ns : List Int} (h : SqT K H a (x :: ns.map V.int)) (hx : Sw K H x) (bad : inV2 0 ((n : Int) - 1) x = false) (hl : ns.length < 63) : NoL K H n (.ref a) := ⟨_, wd_head h hx hl, lay_head bad⟩
theorem NoL.zeros {a : Addr} (h : SqT K H a ((List.replicate n (0 : Int)).map V.int)) (h2 : 2 ≤ n) (h5 : n ≤ 5) : NoL K H n (.ref a) := ⟨_, wd_ints h (by rw [List.length_replicate]; omega), lay_zeros h2 h5⟩
theorem inV2_n : inV2 0 ((n : Int) - 1) (.int (n : Int)) = false := by
  show (decide ((0 : Int) ≤ (n : Int)) && decide ((n : Int) ≤ (n : Int) - 1)) = false
  rw [decide_eq_false (p := (n : Int) ≤ (n : Int) - 1) (by omega), Bool.and_false]
theorem each_wd {xs : List V} {h : List (List Int)} (hE : Each (TI K H) xs h) (hb : Hb n h) : Each (Wd K H) xs (h.map fun ns => some (ns.map V.int)) := by
  have hp := hb.perm
  have hi := hb.hi
  clear hb
  induction hE with
  | nil => exact .nil
  | @cons x ns xs h hx hE ih =>
    obtain ⟨b, rfl, hB⟩ := hx
    refine .cons (wd_ints hB ?_) (ih fun ns hm => hp ns (List.mem_cons_of_mem _ hm))
    rw [perm_len (hp ns (List.mem_cons_self ..))]
    omega
theorem NoW.no (h : Tk K H v none) : NoW K H n v := ⟨none, ⟨h, fun z => by cases z⟩, rfl⟩
theorem NoW.one {a : Addr} {x : V} (h : SqT K H a [x]) (hx : Sw K H x) (bad : inV2 0 ((n : Int) - 1) x = false) : NoW K H n (.ref a) := by
  refine ⟨some [x], ⟨.tup h, fun _ => ⟨.tup h, fun xs z y hm => ?_, fun xs z => ?_⟩⟩, ?_⟩
  · cases z
    rw [List.mem_singleton.mp hm]
    exact hx
  · cases z
    show 1 < 64
    decide
  · show (rowW 0 400 (some [x]) && plsW n (some [x])) = false
    have : plsW n (some [x]) = false := by
      show ([x].all (inV2 0 ((n : Int) - 1))) = false
      rw [List.all_cons, bad, Bool.false_and]
    rw [this, Bool.and_false]
theorem NoW.long {a : Addr} {xs : List V} (h : SqT K H a xs) (bad : rowW 0 400 (some xs) = false) : NoW K H n (.ref a) := by
  refine ⟨some xs, ⟨.tup h, fun z => by rw [bad] at z; cases z⟩, ?_⟩
  show (rowW 0 400 (some xs) && plsW n (some xs)) = false
  rw [bad, Bool.false_and]
theorem NoN.on (e : Same H H') (h : NoN K H v) : NoN K H' v := ⟨h.1.on e, h.2⟩
/-- the row, the habit, the layout -/
structure St (K : PySem.W.Frag) (T : List (Addr × Str)) (H : Hp) (p : Addr) (vH : V) (qL : Addr) (n : Nat) (h : List (List Int)) (L : List Int) : Prop where
  row : Row K H p
  hT : TII K H vH h
  hb : Hb n h
  fL : FT H qL L
  pm : L.Perm (rg n)
  tb : Tabs T H
variable {T : List (Addr × Str)} {p qL : Addr} {vH : V} {h : List (List Int)} {L : List Int}
theorem St.ext (S : St K T H p vH qL n h L) (e : ExtN H H') (t : Tabs T H') : St K T H' p vH qL n h L := by
  obtain ⟨ob, e3, d⟩ := S.fL
  exact ⟨S.row.ext e, S.hT.on (extN_tups e), S.hb, ⟨ob, e _ _ e3 (fun xs z => nomatch z), d⟩, S.pm, t⟩
theorem St.same (S : St K T H p vH qL n h L) (e : Same H H') : St K T H' p vH qL n h L := S.ext (same_ext e) (S.tb.ext fun b o q => e b o q)
theorem St.but (S : St K T H p vH qL n h L) (e : But p H H') (r : Row K H' p) : St K T H' p vH qL n h L := by
  have fx := S.row.fix e
  obtain ⟨ob, e3, d⟩ := S.fL
  exact ⟨r, S.hT.on fx.tups, S.hb, ⟨ob, fx _ _ e3 (fun xs z => nomatch z), d⟩, S.pm, fx.tabs S.tb⟩
theorem St.good (S : St K T H p vH qL n h L) : goodHL K H vH (.ref qL) n :=
  ⟨_, _, hk_of S.hT S.hb, hb_ok S.hb, by rw [List.length_map]; exact S.hb.len, wd_ints (.inl S.fL.kx) (by rw [perm_len S.pm]; have := S.hb.hi; omega), lay_ok S.pm⟩
theorem St.hk (S : St K T H p vH qL n h L) : ∃ wos, Hk K H vH (some wos) ∧ hbBad (some wos) = none ∧ wos.length = n := ⟨_, hk_of S.hT S.hb, hb_ok S.hb, by rw [List.length_map]; exact S.hb.len⟩
theorem St.neq (S : St K T H p vH qL n h L) {l : Addr} (hl : H l = none) : l ≠ p := by
  obtain ⟨rs, hrs⟩ := S.row.lst
  exact (ne_of_none hrs hl).symm
theorem NoH.last {r : Addr} {xs : List V} (hE : Each (TI K H) xs h) (hb : Hb n h) (hr : SqT K H r (xs.drop 1 ++ [.non])) : NoH K H (.ref r) (.int ((n - 1 : Nat) : Int)) := by
  refine ⟨some (((h.map fun (ns : List Int) => some (ns.map V.int)).drop 1) ++ [none]), .tup hr (((each_wd hE hb).drop 1).app (.cons ⟨.non, (fun _ z => nomatch z), (fun _ z => nomatch z)⟩ .nil)), ?_⟩
  have hl := hb.len
  have h2 := hb.lo
  have h5 := hb.hi
  have dl : ((h.map fun (ns : List Int) => some (ns.map V.int)).drop 1).length = n - 1 := by rw [List.length_drop, List.length_map, hl]
  have el : (((h.map fun (ns : List Int) => some (ns.map V.int)).drop 1) ++ [none]).length = n := by
    rw [List.length_append, dl, List.length_singleton]
    omega
  unfold hbBad
  dsimp only
  rw [el, decide_eq_true h2, decide_eq_true h5]
  have : ((((h.map fun (ns : List Int) => some (ns.map V.int)).drop 1) ++ [none]).findIdx? fun wo => !layW n wo) = some (n - 1) := by
    rw [List.findIdx?_eq_some_iff_getElem]
    refine ⟨by rw [el]; omega, ?_, fun j hj => ?_⟩
    · rw [List.getElem_append_right (by omega)]
      simp [dl, layW]
    · rw [List.getElem_append_left (by omega), List.getElem_drop, List.getElem_map, lay_ok (hb.perm _ (List.getElem_mem _))]
      decide
  rw [this]
  rfl
/-- at a statement's end: what the names hold -/
def GS (K : PySem.W.Frag) (T : List (Addr × Str)) (a0 : Addr) (R : Addr → Nat → Hp → List (Option V) → Prop) (σ : L2.St) (H : Hp) : Prop := ∃ (p : Addr) (n : Nat) (vH : V) (qL : Addr) (h : List (List Int)) (L : List Int) (y5 y6 y7 y8 y9 y10 : Option V),
  σ = [some (.ref a0), some (.ref p), some (.int (n : Int)), some vH, some (.ref qL), y5, y6, y7, y8, y9, y10, none] ∧ St K T H p vH qL n h L ∧ R p n H [y5, y6, y7, y8, y9, y10]
end
/-! ### lists of what is refused -/
section
variable {P : Program} {w : World} {K : PySem.W.Frag} {mg : Str → Option Value} {base : Heap} {Cb : Addr}
theorem dp_rep {H : Hp} {d : PyData} : ∀ {ys : List V}, (∀ y ∈ ys, Dp K H y d) → DpAll K H ys (List.replicate ys.length d)
  | [], _ => .nil
  | y :: ys, h => .cons (h y (List.mem_cons_self ..)) (dp_rep fun z hz => h z (List.mem_cons_of_mem _ hz))
theorem lc_ref {y0 y1 y2 y3 y4 y5 y6 y7 y8 y9 y10 : Option V} {H1 : Hp} {D lst : Addr} {xs : List V} {Qd : Hp → Prop} (G : Hp → V → Prop) (mono : ∀ H H' v, Fix H H' → G H v → G H' v) (hl : SqL K H1 lst xs) (hm : xs.length ≤ 1000) (hD : H1 D = none)
    (each : ∀ (i : Nat) (x : V) (H' : Hp), xs[i]? = some x → Same H1 H' → ∀ (Q : VK) (Ex : XK), (∀ H3 y, Same H' H3 → G H3 y → Q y H3) → spRefused P w K mg base [x] H' Q Ex) (fin : ∀ H' ys, Same H1 H' → H' D = some (.lst ys) → ys.length = xs.length → (∀ y ∈ ys, G H' y) → Qd H') :
    ∃ W : Nat → Nat → Hp → Prop, (∃ m, W 0 m (upd H1 D (.lst []))) ∧ ∀ i m H, W i m H → ((Itl K lst).stop i H ∧ Qd H) ∨ ((Itl K lst).go i H ∧ ∃ Nx : Hp → Prop, (∀ H', Nx H' → ∃ m', m' < m ∧ W (i + 1) m' H') ∧
      ∀ x H', (Itl K lst).yld i H x H' → gName 11 x (wipe [y0, y1, y2, y3, y4, y5, y6, y7, y8, y9, y10, none] ([11] : List Nat)) H' fun σ2 H2 => wipe σ2 ([11] : List Nat) = wipe [y0, y1, y2, y3, y4, y5, y6, y7, y8, y9, y10, none] ([11] : List Nat) ∧
        tYes σ2 H2 fun b H3 => if b = true then (tCall (spRefused P w K mg base) [] E0 (tCons (tVar 11) tNil)) σ2 H3 fun y H4 => ∃ acc, H4 D = some (.lst acc) ∧ acc.length < sizeLine ∧ Nx (upd H4 D (.lst (acc ++ [y]))) else Nx H3) := by
  refine lc_list (xs := xs) (fun i H' => Same H1 H' ∧ ∃ ys, H' D = some (.lst ys) ∧ ys.length = i ∧ i ≤ xs.length ∧ ∀ y ∈ ys, G H' y) ⟨same_new hD, [], upd_same, rfl, Nat.zero_le _, fun y hy => by cases hy⟩ (fun i H' _ h' => h'.1.seq hl) (fun i x H' hx h' => ?_) (fun H' h' => ?_)
  · obtain ⟨sm, ys, eD, len, _, all⟩ := h'
    have hi := (List.getElem?_eq_some_iff.mp hx).1
    refine ⟨rfl, _, rfl, ?_⟩
    have r := each i x H' hx sm (fun y H4 => ∃ acc, H4 D = some (.lst acc) ∧ acc.length < sizeLine ∧ Same H1 (upd H4 D (.lst (acc ++ [y]))) ∧ ∃ ys, upd H4 D (.lst (acc ++ [y])) D = some (.lst ys) ∧ ys.length = i + 1 ∧ i + 1 ≤ xs.length ∧ ∀ z ∈ ys, G (upd H4 D (.lst (acc ++ [y]))) z) E0 ?_
    · exact r
    refine (fun H3 y s3 g => ⟨ys, s3 _ _ eD, small1000 (by omega), ?_, ys ++ [y], upd_same, by rw [List.length_append, len]; rfl, by omega, fun z hz => ?_⟩)
    · intro b o e
      rw [upd_ne (ne_of_none e hD)]
      exact s3 _ _ (sm _ _ e)
    · have fx : Fix H3 (upd H3 D (.lst (ys ++ [y]))) := Fix.lst (s3 _ _ eD)
      rcases List.mem_append.mp hz with hz | hz
      · exact mono _ _ _ ((Fix.same s3).trans fx) (all z hz)
      · rw [List.mem_singleton.mp hz]
        exact mono _ _ _ fx g
  · obtain ⟨sm, ys, eD, len, _, all⟩ := h'
    exact fin H' ys sm eD len all
theorem LamAt.same {lam : Expr} {fr : List Str} {ws : List V} {l : CL} {f : Addr} {H H' : Hp} (L : LamAt lam fr ws l f H) (e : Same H H') : LamAt lam fr ws l f H' := by
  obtain ⟨q, cl, c, live, cap⟩ := L.ex
  exact ⟨q, cl, c, live.same e, cap⟩
/-- a refused lambda tells the word of its error -/
theorem ref_word {H' : Hp} {f E : Addr} {b : Nat} {z : Str} {Q : VK} {Ex : XK} (hz : wordAt b = z) (hb : fldAt b = none) (k : Knd K mg E b) (r : Ready P w K mg base 9 f H' (okN E H')) (hq : ∀ H3 y, Same H' H3 → y = .str z → Q y H3) : spRefused P w K mg base [.ref f] H' Q Ex :=
  ⟨f, E, b, rfl, k, .inl ⟨hb, r, fun H3 s => by rw [hz]; exact hq H3 _ s rfl⟩⟩
/-- a list of the same words -/
theorem word_data (m : Nat) (z : Str) (h : SeqAt.shaped (.list (List.replicate m (.str z))) = true ∧ PyData.eqv (.list (List.replicate m (.str z))) (.list (List.replicate m (.str z))) = true) {H : Hp} {D l2 : Addr} {ys zs : List V} (eD : SqL K H D ys) (len : ys.length = m) (all : ∀ y ∈ ys, y = .str z) (el : SqL K H l2 zs) (len2 : zs.length = m) (all2 : ∀ y ∈ zs, y = .str z) :
    ∃ d, Dp K H (.ref D) d ∧ Dp K H (.ref l2) d ∧ SeqAt.shaped d = true ∧ PyData.eqv d d = true := by
  refine ⟨.list (List.replicate m (.str z)), .lst eD ?_, .lst el ?_, h.1, h.2⟩
  · have := dp_rep (K := K) (H := H) (d := .str z) (ys := ys) fun y hy => by rw [all y hy]; exact .str z
    rwa [len] at this
  · have := dp_rep (K := K) (H := H) (d := .str z) (ys := zs) fun y hy => by rw [all2 y hy]; exact .str z
    rwa [len2] at this
/-- a refused lambda tells the word of its error, and what it keeps -/
theorem ref_pair {H' : Hp} {f E : Addr} {b : Nat} {z fn : Str} {pl : V} {Q : VK} {Ex : XK} (hz : wordAt b = z) (hb : fldAt b = some fn) (hc : clsAt mg E b) (hp : plV pl) (k : Knd K mg E b) (r : Ready P w K mg base 9 f H' (okB E fn pl H')) (hq : ∀ H3 y, Same H' H3 → (∃ t, y = .ref t ∧ SqT K H3 t [.str z, pl]) → Q y H3) : spRefused P w K mg base [.ref f] H' Q Ex :=
  ⟨f, E, b, rfl, k, .inr ⟨hc, fn, pl, hb, hp, r, fun H3 t s ht => hq H3 _ s ⟨t, rfl, tupAt (by rw [hz] at ht; exact ht)⟩⟩⟩
/-- a list of the same pairs -/
theorem pair_data (m : Nat) (z : Str) {pl : V} (hp : plV pl) (sh : ∀ d : PyData, (d = .none ∨ ∃ i : Nat, i < 16 ∧ d = .int (i : Int)) → SeqAt.shaped (.list (List.replicate m (.tuple [.str z, d]))) = true ∧ PyData.eqv (.list (List.replicate m (.tuple [.str z, d]))) (.list (List.replicate m (.tuple [.str z, d]))) = true)
    {H : Hp} {D l2 : Addr} {ys zs : List V} (eD : SqL K H D ys) (len : ys.length = m) (all : ∀ y ∈ ys, ∃ t, y = .ref t ∧ SqT K H t [.str z, pl]) (el : SqL K H l2 zs) (len2 : zs.length = m) (all2 : ∀ y ∈ zs, ∃ t, y = .ref t ∧ SqT K H t [.str z, pl]) :
    ∃ d, Dp K H (.ref D) d ∧ Dp K H (.ref l2) d ∧ SeqAt.shaped d = true ∧ PyData.eqv d d = true := by
  obtain ⟨d, hd, hs⟩ := pl_data (K := K) hp
  have dpt : ∀ {t : Addr}, SqT K H t [.str z, pl] → Dp K H (.ref t) (.tuple [.str z, d]) := fun z => .tup z (.cons (.str _) (.cons (hd _) .nil))
  have a1 := dp_rep (K := K) (H := H) (d := .tuple [.str z, d]) (ys := ys) fun y hy => (show Dp K H y _ from by
    obtain ⟨t', rfl, z⟩ := all y hy
    exact dpt z)
  have a2 := dp_rep (K := K) (H := H) (d := .tuple [.str z, d]) (ys := zs) fun y hy => (show Dp K H y _ from by
    obtain ⟨t', rfl, z⟩ := all2 y hy
    exact dpt z)
  rw [len] at a1
  rw [len2] at a2
  exact ⟨.list (List.replicate m (.tuple [.str z, d])), .lst eD a1, .lst el a2, (sh d hs).1, (sh d hs).2⟩
/-- one pair -/
theorem one_data (z : Str) {pl : V} (hp : plV pl) (sh : ∀ d : PyData, (d = .none ∨ ∃ i : Nat, i < 16 ∧ d = .int (i : Int)) → SeqAt.shaped (.tuple [.str z, d]) = true ∧ PyData.eqv (.tuple [.str z, d]) (.tuple [.str z, d]) = true)
    {H : Hp} {a b : Addr} (h1 : SqT K H a [.str z, pl]) (h2 : SqT K H b [.str z, pl]) : ∃ d, Dp K H (.ref a) d ∧ Dp K H (.ref b) d ∧ SeqAt.shaped d = true ∧ PyData.eqv d d = true := by
  obtain ⟨d, hd, hs⟩ := pl_data (K := K) hp
  exact ⟨_, .tup h1 (.cons (.str _) (.cons (hd _) .nil)), .tup h2 (.cons (.str _) (.cons (hd _) .nil)), (sh d hs).1, (sh d hs).2⟩
end
theorem sh4h {d : PyData} (h : d = .none ∨ ∃ i : Nat, i < 16 ∧ d = .int (i : Int)) : SeqAt.shaped (.list (List.replicate 4 (.tuple [.str "habit", d]))) = true ∧ PyData.eqv (.list (List.replicate 4 (.tuple [.str "habit", d]))) (.list (List.replicate 4 (.tuple [.str "habit", d]))) = true := by
  rcases h with rfl | ⟨i, hi, rfl⟩
  · exact ⟨by decide +kernel, by decide +kernel⟩
  · rcases few_of hi with rfl | rfl | rfl | rfl | rfl | rfl | rfl | rfl | rfl | rfl | rfl | rfl | rfl | rfl | rfl | rfl <;> exact ⟨by decide +kernel, by decide +kernel⟩
theorem sh1p {d : PyData} (h : d = .none ∨ ∃ i : Nat, i < 16 ∧ d = .int (i : Int)) : SeqAt.shaped (.tuple [.str "program", d]) = true ∧ PyData.eqv (.tuple [.str "program", d]) (.tuple [.str "program", d]) = true := by
  rcases h with rfl | ⟨i, hi, rfl⟩
  · exact ⟨by decide +kernel, by decide +kernel⟩
  · rcases few_of hi with rfl | rfl | rfl | rfl | rfl | rfl | rfl | rfl | rfl | rfl | rfl | rfl | rfl | rfl | rfl | rfl <;> exact ⟨by decide +kernel, by decide +kernel⟩
end RH
set_option Elab.async false
set_option linter.all false
set_option maxRecDepth 100000
set_option maxHeartbeats 2000000
namespace RH
open PySem PySem.Spec PyProof.Rows L2
open NdefX (NScope CellsAt Caps slotAt slotAt_of cells_of startF ncx)
open LamX (Tabs TabS TabB ExtN CodeO codeO_ne)
/-- a statement's way on, as the reading tells it -/
theorem ps_cutR {X : Cx} {st : Stmt} {t : TS} (h : PS X st t) : PS X st (fun D σ H => ∃ G : L2.St → Hp → Prop, (∀ σ' H', G σ' H' → D.nx σ' H') ∧ t { D with nx := G } σ H) := by
  refine ⟨fun pins s σ H D I hw => ?_⟩
  obtain ⟨G, hG, hw⟩ := hw
  refine thn (h.run pins s σ H { D with nx := G } I hw) fun fl s1 q => ?_
  cases fl with
  | next =>
    obtain ⟨σ', H', I', q⟩ := q
    exact ⟨σ', H', I', hG _ _ q⟩
  | ret v => exact q
  | brk => exact q
  | cont => exact q
section
variable {P : Program} {w : World} {K : PySem.W.Frag} {mg : Str → Option Value} {base : Heap} {Cb Cl Cp Cw Cn Cg Cs : Addr}
abbrev NLaw : List Str := ["script", "row", "places", "habit", "layout", "bad", "wrong", "word", "spot", "number", "value", "work"]
def tabsL (P1 P2 : Addr) : List (Addr × Str) := [(P1, lamQ "_law_works"), (P2, lamQ "_law_texts")]
def spLaw (K : PySem.W.Frag) (T : List (Addr × Str)) : Sp := fun vs H Q _ => ∃ (a : Addr) (ns : List Int), vs = [.ref a] ∧ Fz K H a (ns.map V.int) ∧ Tabs T H ∧ ∀ H', Q (.bl true) H'
section
variable {H : Hp} {cl : CL} {n : Nat} {v1 v2 v3 v4 pl : V} {E : XK}
theorem hl_h (s : Stand cl H) (h : NoH K H v1 pl) (e : bhE Cb "place" pl (era cl H) E) : badHL K Cb Cl (era cl H) v1 v2 E := by
  obtain ⟨ho, a, b⟩ := h
  exact .inl ⟨ho, pl, a.era s, b, e⟩
theorem hl_l (s : Stand cl H) (g : ∃ wos, Hk K H v1 (some wos) ∧ hbBad (some wos) = none ∧ wos.length = n) (h : NoL K H n v2) (e : noE Cl (era cl H) E) : badHL K Cb Cl (era cl H) v1 v2 E := by
  obtain ⟨wos, a, b, rfl⟩ := g
  obtain ⟨w2, c, d⟩ := h
  exact .inr ⟨wos, w2, a.era s, b, c.era s, d, e⟩
theorem good_era (s : Stand cl H) (g : goodHL K H v1 v2 n) : goodHL K (era cl H) v1 v2 n := by
  obtain ⟨wos, w2, a, b, c, d, e⟩ := g
  exact ⟨wos, w2, a.era s, b, c, d.era s, e⟩
theorem Ww.era {v : V} {wo : Option (List V)} (s : Stand cl H) (h : Ww K H v wo) : Ww K (era cl H) v wo := ⟨h.t.era s, fun z => (h.w z).era s⟩
theorem hl_w (s : Stand cl H) (g : goodHL K H v1 v2 n) (h : NoW K H n v3) (e : noE Cw (era cl H) E) : badHL K Cb Cl (era cl H) v1 v2 E ∨ ∃ n, goodHL K (era cl H) v1 v2 n ∧ rWord K Cw n v3 (era cl H) E := by
  obtain ⟨wo, a, b⟩ := h
  exact .inr ⟨n, good_era s g, wo, a.era s, b, e⟩
theorem NoSt.era (s : Stand cl H) (h : NoSt K H v1) : NoSt K (era cl H) v1 := by
  obtain ⟨a, wo, b⟩ := h
  exact ⟨a, wo, b.era s⟩
end
theorem wrd0 {n : Nat} (h : 2 ≤ n) : wrdW n (some [.int 0]) = true := by
  unfold wrdW
  have : plsW n (some [.int 0]) = true := by
    show ([V.int 0].all (inV2 0 ((n : Int) - 1))) = true
    rw [List.all_cons, inV2_yes0 (Int.le_refl _) (by omega)]
    rfl
  rw [this]
  rfl
theorem if_both {c : Prop} [Decidable c] {A R : Prop} (hA : A) (hR : A → R) : if c then A else R := by
  split
  · exact hA
  · exact hR hA
theorem in_places {n : Nat} (h2 : 2 ≤ n) (h5 : n ≤ 5) : inV2 2 5 (.int (n : Int)) = true := by
  show (decide ((2 : Int) ≤ (n : Int)) && decide ((n : Int) ≤ 5)) = true
  rw [decide_eq_true (by omega), decide_eq_true (by omega)]
  rfl
theorem NoSt.ext {H H' : Hp} {v : V} (e : ExtN H H') (h : NoSt K H v) : NoSt K H' v := by
  obtain ⟨a, wo, b⟩ := h
  exact ⟨a, wo, b.ext e⟩
theorem NoSt.but {H H' : Hp} {v : V} {p : Addr} (B : But p H H') (R : Row K H p) (R' : Row K H' p) (h : NoSt K H v) : NoSt K H' v := by
  obtain ⟨a, wo, b⟩ := h
  exact ⟨a, wo, b.but B R R'⟩
/-- no program of n places, and its index -/
def NoG (K : PySem.W.Frag) (H : Hp) (n : Nat) (v pl : V) : Prop := plV pl ∧ ∃ ho, Hk K H v ho ∧ pgBad (n : Int) 4000 true ho = some pl
/-- a pair: no program, and its index -/
def Pg (K : PySem.W.Frag) (H : Hp) (n : Nat) (v : V) : Prop := ∃ (t : Addr) (x pl : V), v = .ref t ∧ SqT K H t [x, pl] ∧ NoG K H n x pl
theorem Hk.ext {H H' : Hp} {v : V} {ho : Option (List (Option (List V)))} (e : ExtN H H') (h : Hk K H v ho) : Hk K H' v ho := by
  cases h with
  | tup h hx => exact .tup (extN_tups e _ _ h) (hx.imp fun v d z => z.ext e)
  | no h => exact .no (h.ext e)
theorem NoG.ext {H H' : Hp} {n : Nat} {v pl : V} (e : ExtN H H') (h : NoG K H n v pl) : NoG K H' n v pl := by
  obtain ⟨p, ho, a, b⟩ := h
  exact ⟨p, ho, a.ext e, b⟩
theorem Pg.ext {H H' : Hp} {n : Nat} {v : V} (e : ExtN H H') (h : Pg K H n v) : Pg K H' n v := by
  obtain ⟨t, x, pl, rfl, a, b⟩ := h
  exact ⟨t, x, pl, rfl, extN_tups e _ _ a, b.ext e⟩
theorem Pg.but {H H' : Hp} {n : Nat} {v : V} {p : Addr} (B : But p H H') (R : Row K H p) (R' : Row K H' p) (h : Pg K H n v) : Pg K H' n v := by
  obtain ⟨t, x, pl, rfl, a, q, ho, b, c⟩ := h
  exact ⟨t, x, pl, rfl, (R.fix B).tups _ _ a, q, ho, b.but B R R', c⟩
theorem ins_get {n : Nat} {cnt : Int} {rl : Bool} : insW (n : Int) cnt rl (some [.str "get", .int (n : Int)]) = false := by
  show (!inZ "get" bareZ && (if inZ "get" jumpZ then inV2 0 cnt (.int (n : Int)) else if ("get" : Str) == "put" then inV2 (-1000000) 1000000 (.int (n : Int)) else (inZ "get" accZ || (("get" : Str) == "touch" && rl)) && inV2 0 ((n : Int) - 1) (.int (n : Int)))) = false
  rw [inV2_n, Bool.and_false, if_neg (by decide +kernel), if_neg (by decide +kernel), Bool.and_false]
theorem pg_get {n : Nat} : pgBad (n : Int) 4000 true (some [some [.str "get", .int (n : Int)]]) = some (.int 0) := by
  unfold pgBad
  dsimp only
  rw [if_pos (by rfl)]
  have : ([some [.str "get", .int (n : Int)]] : List (Option (List V))).findIdx? (fun wo => !insW (n : Int) (([some [.str "get", .int (n : Int)]] : List (Option (List V))).length : Int) true wo) = some 0 := by
    rw [List.findIdx?_cons, ins_get]
    rfl
  rw [this]
  rfl
theorem pg_hop {n : Nat} : pgBad (n : Int) 4000 true (some [some [.str "say"], some [.str "hop", .int 0]]) = some (.int 1) := by
  unfold pgBad
  dsimp only
  rw [if_pos (by rfl)]
  have e1 : ∀ c, insW (n : Int) c true (some [.str "say"]) = true := fun c => by
    show inZ "say" bareZ = true
    decide +kernel
  have e2 : ∀ c, insW (n : Int) c true (some [.str "hop", .int 0]) = false := fun c => by
    show (!inZ "hop" bareZ && (if inZ "hop" jumpZ then inV2 0 c (.int 0) else if ("hop" : Str) == "put" then inV2 (-1000000) 1000000 (.int 0) else (inZ "hop" accZ || (("hop" : Str) == "touch" && true)) && inV2 0 ((n : Int) - 1) (.int 0))) = false
    rw [if_neg (by decide +kernel), if_neg (by decide +kernel)]
    have : (inZ "hop" accZ || (("hop" : Str) == "touch" && true)) = false := by decide +kernel
    rw [this, Bool.false_and, Bool.and_false]
  have : ([some [.str "say"], some [.str "hop", .int 0]] : List (Option (List V))).findIdx? (fun wo => !insW (n : Int) (([some [.str "say"], some [.str "hop", .int 0]] : List (Option (List V))).length : Int) true wo) = some 1 := by
    rw [List.findIdx?_cons, e1, List.findIdx?_cons, e2]
    rfl
  rw [this]
  rfl
theorem ok_law {P1 P2 : Addr} {f : Addr} {fd : FuncData} (F : Fun K "law" "law" st_law f fd) (B : Bu mg) (CT : Cal P w K mg base 1 "_law_taken" (spTaken K)) (CPk : Cal P w K mg base 2 "_law_pick" (spPick K)) (CO : Cal P w K mg base 2 "_law_order" (spOrder K)) (CH : Cal P w K mg base 3 "_law_habit" (spHabit K))
    (CW : Cal P w K mg base 1 "_law_works" (spWorks (tabsL P1 P2))) (CX : Cal P w K mg base 1 "_law_texts" (spTexts (tabsL P1 P2))) (CR : Cal P w K mg base 10 "_law_refused" (spRefused P w K mg base))
    (A1 : CalX P w K mg base 8 "books_of" (spHL3 K Cb Cl (rWord K Cw))) (A2 : CalX P w K mg base 8 "hidden_losses" (spHL3 K Cb Cl (rWord K Cw))) (A3 : CalX P w K mg base 8 "book_at" (spHL4 K Cb Cl Cw (fun n _ => rPlace K Cp n)))
    (A4 : CalX P w K mg base 8 "loss_shown" (spHL4 K Cb Cl Cw (fun _ v3 v4 H E => (∃ (a : Addr) (x : V), v3 = .ref a ∧ SqT K H a [x]) ∧ Sw K H v4 ∧ inV2 0 0 v4 = false ∧ noE Cn H E))) (A5 : CalX P w K mg base 5 "read_program" (spRd K Cn Cs)) (A6 : CalX P w K mg base 7 "write_program" (spPg K Cn Cg 4000 true))
    (gB : mg "BadHabit" = some (.ref Cb)) (gG : mg "BadProgram" = some (.ref Cg)) (K0 : Knd K mg Cb 0) (K1 : Knd K mg Cl 1) (K2 : Knd K mg Cp 2) (K3 : Knd K mg Cw 3) (K4 : Knd K mg Cn 4) (K5 : Knd K mg Cg 5) (K6 : Knd K mg Cs 6) : FnOk P w K mg base CX0 11 f fd ["script"] (spLaw K (tabsL P1 P2)) := by
  refine F.ok sc_law (fun vs H Q E h => ?_) (fun cdv A outer s H vs Q E hr h => ?_)
  · obtain ⟨a, ns, rfl, _⟩ := h
    rfl
  · obtain ⟨a, scr, rfl, hZ, hTb, q⟩ := h
    refine ⟨_, PSs.nox (pss_cons (ps_set (i := 1) sc_law.nd rfl (.inl rfl) (pe_lst (pa_cons (pv 0) (pa_cons pe_int (pa_cons pe_int (pa_cons pe_int pa_nil))))))
      (pss_cons (ps_set (i := 2) sc_law.nd rfl (.inl rfl) (pe_op op_add pe_int (pc CT hr (pa_cons (pv 1) (pa_cons pe_int pa_nil)))))
      (pss_cons (ps_par (i := 3) (j := 4) rfl sc_law.nd rfl rfl (by decide) rfl rfl (pa_cons (pc CH hr (pa_cons (pv 1) (pa_cons (pv 2) pa_nil))) (pa_cons (pc CO hr (pa_cons (pv 1) (pa_cons (pv 2) pa_nil))) pa_nil)) rfl)
      (pss_cons (ps_cutR (ps_set (i := 5) sc_law.nd rfl (.inl rfl) (pc CPk hr (pa_cons (pv 1) (pa_cons (pe_lst (pa_cons (pe_tup (pa_cons pe_non (pa_cons pe_non pa_nil))) (pa_cons (pe_tup (pa_cons (pe_callTy (cl_listOf K) (by rfl) B.list (by decide +kernel) (pa_cons (pv 3) pa_nil)) (pa_cons pe_non pa_nil))) (pa_cons (pe_tup (pa_cons (pe_tup (pa_cons (pe_tup (pa_cons pe_int pa_nil)) pa_nil)) (pa_cons pe_non pa_nil))) (pa_cons (pe_tup (pa_cons (pe_op op_catA (pe_slice sl_tupA (pv 3) (po_some pe_int) po_none) (pe_tup (pa_cons pe_non pa_nil))) (pa_cons (pe_op op_sub (pv 2) pe_int) pa_nil))) pa_nil))))) pa_nil)))))
      (pss_cons (ps_cutR (ps_if (PW.pt (pw_or (pt_cmpR op_gt (pv 2) pe_int (nomark _)) (pw_or1 (pt_cmpR op_isN (pe_ix (ixT K) (pv 5) pe_int (fun _ _ => rfl)) pe_non (nomark _))))) (pss_one (ps_if (pt_cmpR (op_neD hr.units) (pe_lc (own := [("work", 11)]) (g := gName 11) (tt := tYes) rfl sc_law.nd (pi_list (pc CW hr (pa_cons (pe_ix (ixT K) (pv 5) pe_int (fun _ _ => rfl)) (pa_cons pe_non (pa_cons pe_non (pa_cons pe_non pa_nil)))))) (blkOk_by (N := NLaw) (sc := defScope st_law) (by decide +kernel)) (fun _ _ _ _ _ => pg_name (i := 11) sc_law.nd rfl (Or.inl rfl)) (fun _ _ _ _ _ => pts_nil) (fun _ _ _ _ _ => (pc CR hr (pa_cons (pv 11) pa_nil))))
          (pe_op op_rep (pe_lst (pa_cons (pe_tup (pa_cons pe_str (pa_cons (pe_ix (ixT K) (pv 5) pe_int (fun _ _ => rfl)) pa_nil))) pa_nil)) pe_int) (nomark _)) (pss_one (ps_ret pe_bl)) pss_nil)) pss_nil))
      (pss_cons (ps_cutR (ps_set (i := 6) sc_law.nd rfl (.inl rfl) (pc CPk hr (pa_cons (pv 1) (pa_cons (pe_lst (pa_cons pe_non (pa_cons (pe_callTy (cl_listOf K) (by rfl) B.list (by decide +kernel) (pa_cons (pv 4) pa_nil)) (pa_cons (pe_slice sl_tupA (pv 4) (po_some pe_int) po_none) (pa_cons (pe_op op_repT (pe_tup (pa_cons pe_int pa_nil)) (pv 2)) (pa_cons pe_dnewK pa_nil)))))) pa_nil)))))
      (pss_cons (ps_cutR (ps_if (pt_cmpR (op_neD hr.units) (pe_lc (own := [("work", 11)]) (g := gName 11) (tt := tYes) rfl sc_law.nd (pi_list (pc CW hr (pa_cons (pv 3) (pa_cons (pv 6) (pa_cons pe_non (pa_cons pe_non pa_nil)))))) (blkOk_by (N := NLaw) (sc := defScope st_law) (by decide +kernel)) (fun _ _ _ _ _ => pg_name (i := 11) sc_law.nd rfl (Or.inl rfl)) (fun _ _ _ _ _ => pts_nil) (fun _ _ _ _ _ => (pc CR hr (pa_cons (pv 11) pa_nil))))
          (pe_op op_rep (pe_lst (pa_cons pe_str pa_nil)) pe_int) (nomark _)) (pss_one (ps_ret pe_bl)) pss_nil))
      (pss_cons (ps_cutR (ps_set (i := 7) sc_law.nd rfl (.inl rfl) (pc CPk hr (pa_cons (pv 1) (pa_cons (pe_lst (pa_cons pe_non (pa_cons (pe_lst (pa_cons pe_int pa_nil)) (pa_cons (pe_tup (pa_cons (pv 2) pa_nil)) (pa_cons (pe_tup (pa_cons pe_bl pa_nil)) (pa_cons (pe_tup (pa_cons pe_str pa_nil)) (pa_cons (pe_tup (pa_cons (pe_op op_sub pe_int pe_int) pa_nil)) (pa_cons (pe_op op_repT (pe_tup (pa_cons pe_int pa_nil)) pe_int) (pa_cons pe_int (pa_cons pe_dnewK pa_nil)))))))))) pa_nil)))))
      (pss_cons (ps_cutR (ps_if (pt_cmpR (op_neD hr.units) (pe_lc (own := [("work", 11)]) (g := gName 11) (tt := tYes) rfl sc_law.nd (pi_list (pc CW hr (pa_cons (pv 3) (pa_cons (pv 4) (pa_cons (pv 7) (pa_cons pe_non pa_nil)))))) (blkOk_by (N := NLaw) (sc := defScope st_law) (by decide +kernel)) (fun _ _ _ _ _ => pg_name (i := 11) sc_law.nd rfl (Or.inl rfl)) (fun _ _ _ _ _ => pts_nil) (fun _ _ _ _ _ => (pc CR hr (pa_cons (pv 11) pa_nil))))
          (pe_op op_rep (pe_lst (pa_cons pe_str pa_nil)) pe_int) (nomark _)) (pss_one (ps_ret pe_bl)) pss_nil))
      (pss_cons (ps_cutR (ps_set (i := 8) sc_law.nd rfl (.inl rfl) (pc CPk hr (pa_cons (pv 1) (pa_cons (pe_lst (pa_cons pe_non (pa_cons pe_bl (pa_cons (pe_op op_sub pe_int pe_int) (pa_cons (pv 2) (pa_cons pe_str (pa_cons (pe_tup (pa_cons pe_int pa_nil)) pa_nil))))))) pa_nil)))))
      (pss_cons (ps_cutR (ps_if (pt_cmpR op_ne (pc CR hr (pa_cons (pe_ix ix_list (pc CW hr (pa_cons (pv 3) (pa_cons (pv 4) (pa_cons (pe_tup (pa_cons pe_int pa_nil)) (pa_cons (pv 8) pa_nil))))) pe_int (fun _ _ => rfl)) pa_nil)) pe_str (nomark _)) (pss_one (ps_ret pe_bl)) pss_nil))
      (pss_cons (ps_cutR (ps_set (i := 8) sc_law.nd rfl (.inl rfl) (pc CPk hr (pa_cons (pv 1) (pa_cons (pe_lst (pa_cons pe_non (pa_cons pe_bl (pa_cons (pe_op op_sub pe_int pe_int) (pa_cons pe_int (pa_cons pe_str (pa_cons (pe_tup (pa_cons pe_int pa_nil)) pa_nil))))))) pa_nil)))))
      (pss_cons (ps_cutR (ps_if (pt_cmpR op_ne (pc CR hr (pa_cons (pe_ix ix_list (pc CW hr (pa_cons (pv 3) (pa_cons (pv 4) (pa_cons (pe_tup (pa_cons pe_int pa_nil)) (pa_cons (pv 8) pa_nil))))) pe_int (fun _ _ => rfl)) pa_nil)) pe_str (nomark _)) (pss_one (ps_ret pe_bl)) pss_nil))
      (pss_cons (ps_cutR (ps_set (i := 9) sc_law.nd rfl (.inl rfl) (pc CPk hr (pa_cons (pv 1) (pa_cons (pe_lst (pa_cons pe_non (pa_cons pe_bl (pa_cons pe_int (pa_cons pe_int (pa_cons pe_str (pa_cons (pe_tup (pa_cons pe_int pa_nil)) pa_nil))))))) pa_nil)))))
      (pss_cons (ps_cutR (ps_if (pt_cmpR (op_neD hr.units) (pe_lc (own := [("work", 11)]) (g := gName 11) (tt := tYes) rfl sc_law.nd (pi_list (pc CX hr (pa_cons (pv 9) (pa_cons pe_non pa_nil)))) (blkOk_by (N := NLaw) (sc := defScope st_law) (by decide +kernel)) (fun _ _ _ _ _ => pg_name (i := 11) sc_law.nd rfl (Or.inl rfl)) (fun _ _ _ _ _ => pts_nil) (fun _ _ _ _ _ => (pc CR hr (pa_cons (pv 11) pa_nil))))
          (pe_op op_rep (pe_lst (pa_cons pe_str pa_nil)) pe_int) (nomark _)) (pss_one (ps_ret pe_bl)) pss_nil))
      (pss_cons (ps_cutR (ps_set (i := 10) sc_law.nd rfl (.inl rfl) (pc CPk hr (pa_cons (pv 1) (pa_cons (pe_lst (pa_cons pe_non (pa_cons pe_int (pa_cons pe_bl (pa_cons (pe_tup (pa_cons pe_str pa_nil)) (pa_cons (pe_lst (pa_cons pe_str pa_nil)) (pa_cons pe_dnewK pa_nil))))))) pa_nil)))))
      (pss_cons (ps_cutR (ps_if (pt_cmpR op_ne (pc CR hr (pa_cons (pe_ix ix_list (pc CX hr (pa_cons (pv 2) (pa_cons (pv 10) pa_nil))) pe_int (fun _ _ => rfl)) pa_nil)) pe_str (nomark _)) (pss_one (ps_ret pe_bl)) pss_nil))
      (pss_cons (ps_cutR (ps_set (i := 5) sc_law.nd rfl (.inl rfl) (pe_lst (pa_cons (pe_tup (pa_cons pe_non (pa_cons pe_non pa_nil))) (pa_cons (pe_tup (pa_cons (pe_tup pa_nil) (pa_cons pe_non pa_nil))) (pa_cons (pe_tup (pa_cons (pe_tup (pa_cons (pe_tup (pa_cons pe_str (pa_cons (pv 2) pa_nil))) pa_nil)) (pa_cons pe_int pa_nil))) (pa_cons (pe_tup (pa_cons (pe_tup (pa_cons (pe_tup (pa_cons pe_str pa_nil)) (pa_cons (pe_tup (pa_cons pe_str (pa_cons pe_int pa_nil))) pa_nil))) (pa_cons pe_int pa_nil))) (pa_cons (pe_tup (pa_cons pe_str (pa_cons pe_non pa_nil))) pa_nil))))))))
      (pss_cons (ps_cutR (ps_set (i := 5) sc_law.nd rfl (.inl rfl) (pc CPk hr (pa_cons (pv 1) (pa_cons (pv 5) pa_nil)))))
      (pss_one (ps_ret (pe_cmpR (op_eqD hr.units) (pc CR hr (pa_cons (pe_ix ix_list (pc CX hr (pa_cons (pv 2) (pa_cons (pe_ix (ixT K) (pv 5) pe_int (fun _ _ => rfl)) pa_nil))) pe_int (fun _ _ => rfl)) pa_nil)) (pe_tup (pa_cons pe_str (pa_cons (pe_ix (ixT K) (pv 5) pe_int (fun _ _ => rfl)) pa_nil))) (nomark _))))))))))))))))))))))), ?_⟩
    -- row, places, habit, layout
    refine ⟨_, rfl, by show 4 ≤ sizeLine; decide, fun p hp => ?_⟩
    have hR1 : Row K (upd H p (.lst [.ref a, .int 0, .int 5019, .int 0])) p := ⟨a, scr, 0, 5019, 0, upd_same, hZ.on (Fix.same (same_new hp)), Int.le_refl _⟩
    have tb1 : Tabs (tabsL P1 P2) (upd H p (.lst [.ref a, .int 0, .int 5019, .int 0])) := hTb.ext fun b o e => same_new hp b o e
    refine ⟨_, rfl, p, 4, rfl, hR1, by decide, by decide, fun k H2 k0 k1 hB2 hR2 => ⟨2, k, rfl, rfl, ?_⟩⟩
    obtain ⟨n, hn⟩ : ∃ n : Nat, 2 + k = (n : Int) := ⟨(2 + k).toNat, by omega⟩
    show gName 2 (V.int (2 + k)) _ _ _
    rw [hn]
    have n2 : 2 ≤ n := by omega
    have n5 : n ≤ 5 := by omega
    have tb2 := (hR1.fix hB2).tabs tb1
    refine ⟨_, rfl, _, rfl, p, n, rfl, hR2, n2, n5, fun H3 vH h hb hB3 hR3 hT3 => ?_⟩
    have tb3 := (hR2.fix hB3).tabs tb2
    refine ⟨_, rfl, _, rfl, p, n, rfl, hR3, by omega, fun H4 qL L hL hB4 hR4 _ fL4 => ⟨_, _, rfl, ?_⟩⟩
    have S4 : St K (tabsL P1 P2) H4 p vH qL n h L := ⟨hR4, hT3.on (hR3.fix hB4).tups, hb, fL4, hL, (hR3.fix hB4).tabs tb3⟩
    clear hL fL4 hB4 hR4 hT3 hR3 hB3 hR2 hB2 tb3 tb2 tb1 hR1 hn k0 k1 n2 n5 hb
    -- what is no habit
    refine ⟨GS K (tabsL P1 P2) a (fun p n H ys => ∃ v, ys[0]? = some (some v) ∧ Pr K H v), fun σ5 H5 g5 => ?_, ?_⟩
    case refine_2 =>
      have hb := S4.hb
      have n2 := hb.lo
      have n5 := hb.hi
      obtain ⟨ah, xs, rfl, hS, hE⟩ := S4.hT
      have hxl : xs.length = n := hE.len.trans hb.len
      refine ⟨_, rfl, by show 2 ≤ sizeLine; decide, fun t1 ht1 => ?_⟩
      have s1 := same_new (o := .tup [.non, .non]) ht1
      refine ⟨_, rfl, ah, xs, rfl, .inr (onT s1 hS), fun l1 hl1 => ⟨by show 2 ≤ sizeLine; decide, fun t2 ht2 => ⟨by show 1 ≤ sizeLine; decide, fun t3 ht3 => ⟨by show 1 ≤ sizeLine; decide, fun t4 ht4 => ⟨by show 2 ≤ sizeLine; decide, fun t5 ht5 => ⟨_, rfl, 1, rfl, ?_⟩⟩⟩⟩⟩⟩
      have s2 := same_new (o := .lst xs) hl1
      have s3 := same_new (o := .tup [.ref l1, .non]) ht2
      have s4 := same_new (o := .tup [.int 0]) ht3
      have s5 := same_new (o := .tup [.ref t3]) ht4
      have s6 := same_new (o := .tup [.ref t4, .non]) ht5
      have s15 := s1.trans (s2.trans (s3.trans (s4.trans (s5.trans s6))))
      unfold tNoPart
      dsimp only
      refine slT_from 1 1 rfl (onT s15 hS) fun b1 H6 s7 h7 => ⟨by show 1 ≤ sizeLine; decide, fun t6 ht6 => ?_⟩
      have s8 := same_new (o := .tup [.non]) ht6
      refine catT_ok (onT s8 h7) (tupAt upd_same) (by rw [List.length_drop, List.length_singleton]; omega) fun r1 H7 s9 h9 => ?_
      refine ⟨_, rfl, (n : Int), 1, rfl, rfl, by show 2 ≤ sizeLine; decide, fun t7 ht7 => ⟨by show 4 ≤ sizeLine; decide, fun lo hlo => ?_⟩⟩
      have en : (n : Int) - 1 = ((n - 1 : Nat) : Int) := by omega
      have s10 := same_new (o := .tup [.ref r1, .int ((n : Int) - 1)]) ht7
      have s11 := same_new (o := .lst [.ref t1, .ref t2, .ref t5, .ref t7]) hlo
      have s711 := s7.trans (s8.trans (s9.trans (s10.trans s11)))
      have sB := s15.trans (s7.trans (s8.trans (s9.trans s10)))
      have sF := sB.trans s11
      have S7 := S4.same sF
      refine ⟨p, lo, _, rfl, S7.row, upd_same, (S4.same sB).neq hlo, by show 0 < 4; decide, by show 4 ≤ 1000; decide, fun iw wx H2 hwx hB2 hR2 => ?_⟩
      have hE' := hE.imp fun _ _ z => z.on (Same.tups sF)
      have np : ∀ v ∈ [V.ref t1, .ref t2, .ref t5, .ref t7], Pr K _ v := fun v hv => by
        rcases List.mem_cons.mp hv with rfl | hv
        · exact ⟨t1, .non, .non, rfl, tupAt ((s2.trans (s3.trans (s4.trans (s5.trans (s6.trans s711))))) _ _ upd_same), none, .no .non, rfl⟩
        rcases List.mem_cons.mp hv with rfl | hv
        · exact ⟨t2, .ref l1, .non, rfl, tupAt ((s4.trans (s5.trans (s6.trans s711))) _ _ upd_same), none, .no (.lst (lstAt ((s3.trans (s4.trans (s5.trans (s6.trans s711)))) _ _ upd_same))), rfl⟩
        rcases List.mem_cons.mp hv with rfl | hv
        · exact ⟨t5, .ref t4, .non, rfl, tupAt (s711 _ _ upd_same), some [some [.int 0]], .tup (xs := [.ref t3]) (tupAt ((s6.trans s711) _ _ upd_same)) (.cons (wd_ints (ns := [0]) (tupAt ((s5.trans (s6.trans s711)) _ _ upd_same)) (by decide)) .nil), rfl⟩
        rw [List.mem_singleton.mp hv]
        exact ⟨t7, .ref r1, .int ((n : Int) - 1), rfl, tupAt (s11 _ _ upd_same), by rw [en]; exact .last hE' hb (onT (s10.trans s11) h9)⟩
      exact ⟨p, n, _, qL, h, L, _, _, _, _, _, _, rfl, S7.but hB2 hR2, wx, rfl, (np wx (List.mem_of_getElem? hwx)).but hB2 S7.row hR2⟩
    clear S4
    obtain ⟨p, n, vH, qL, h, L, y5, y6, y7, y8, y9, y10, rfl, S5, v, e5, pr⟩ := g5
    obtain rfl : y5 = some v := Option.some.inj e5
    refine ⟨GS K (tabsL P1 P2) a (fun _ _ _ _ => True), fun σ6 H6 g6 => ?_, ?_⟩
    case refine_2 =>
      obtain ⟨t0, x, pl, rfl, hS0, nh⟩ := pr
      have hpl : plV pl := by
        obtain ⟨ho, _, hb⟩ := nh
        exact hbBad_pl hb
      refine ⟨_, rfl, (n : Int), 2, rfl, rfl, _, rfl, if_both (ifT rfl ?_) (fun body => ?_)⟩
      case refine_2 =>
        refine ⟨_, rfl, t0, _, 1, pl, rfl, rfl, hS0, rfl, rfl, _, rfl, ?_⟩
        generalize decide (pl = V.non) = b2
        cases b2 with
        | true => exact body
        | false => exact ifF rfl ⟨p, n, _, qL, h, L, _, _, _, _, _, _, rfl, S5, True.intro⟩
      refine ⟨_, rfl, t0, _, 0, x, rfl, rfl, hS0, rfl, x, .non, .non, .non, rfl, S5.tb, fun lst f1 f2 f3 f4 cl H1 ext tb1 hl st m1 m2 m3 m4 => ?_⟩
      have S1 := S5.ext ext tb1
      have nh1 := nh.ext ext
      have hS1 := extN_tups ext _ _ hS0
      refine ⟨lst, rfl, ⟨_, lstAt hl⟩, fun D hD => ?_⟩
      refine lc_ref (fun H v => ∃ t, v = .ref t ∧ SqT K H t [.str "habit", pl]) (fun H H' v f ⟨t, e, z⟩ => ⟨t, e, f.tups _ _ z⟩) (lstAt hl) (by show 4 ≤ 1000; decide) hD (fun i x H' hx sm Q Ex hq => ?_) (fun H' ys sm eD len all => ?_)
      · have st2 := st.same sm
        have nh2 := nh1.on sm
        match i, hx with
        | 0, hx =>
          cases Option.some.inj hx
          exact ref_pair (b := 0) rfl rfl gB hpl K0 (rdyB (lokW1 A1) (m1.same sm) (fun Q E e => ⟨x, .non, .non, rfl, .inl (hl_h st2 nh2 e)⟩)) hq
        | 1, hx =>
          cases Option.some.inj hx
          exact ref_pair (b := 0) rfl rfl gB hpl K0 (rdyB (lokW2 A2) (m2.same sm) (fun Q E e => ⟨x, .non, .non, rfl, .inl (hl_h st2 nh2 e)⟩)) hq
        | 2, hx =>
          cases Option.some.inj hx
          exact ref_pair (b := 0) rfl rfl gB hpl K0 (rdyB (lokW3 A3) (m3.same sm) (fun Q E e => ⟨x, .non, .non, .non, rfl, .inl (.inl (hl_h st2 nh2 e))⟩)) hq
        | 3, hx =>
          cases Option.some.inj hx
          exact ref_pair (b := 0) rfl rfl gB hpl K0 (rdyB (lokW4 A4) (m4.same sm) (fun Q E e => ⟨x, .non, .non, .non, rfl, .inl (.inl (hl_h st2 nh2 e))⟩)) hq
        | i + 4, hx => simp at hx
      · have S2 := S1.same sm
        refine ⟨_, rfl, t0, _, 1, pl, rfl, rfl, onT sm hS1, rfl, by show 2 ≤ sizeLine; decide, fun t ht => ⟨by show 1 ≤ sizeLine; decide, fun l hl' => ?_⟩⟩
        have s3 := same_new (o := .tup [.str "habit", pl]) ht
        have s4 := same_new (o := .lst [.ref t]) hl'
        refine ⟨l, 4, [.ref t], rfl, rfl, upd_same, by decide, by decide, by show 1 * 4 ≤ sizeLine; decide +kernel, fun l2 hl2 => ?_⟩
        have s5 := same_new (o := .lst (List.replicate ((4 : Int)).toNat [V.ref t]).flatten) hl2
        have s35 := s3.trans (s4.trans s5)
        have ht2 := tupAt (K := K) ((s4.trans s5) _ _ (upd_same (a := t)))
        obtain ⟨d, d1, d2, shd, ee⟩ := pair_data (K := K) 4 "habit" hpl (fun d h => sh4h h) (lstAt (s35 _ _ eD)) len (fun y hy => (show ∃ t, y = .ref t ∧ SqT K _ t [.str "habit", pl] from by
          obtain ⟨t', e, z⟩ := all y hy
          exact ⟨t', e, onT s35 z⟩)) (zs := [V.ref t, V.ref t, V.ref t, V.ref t]) (lstAt (upd_same (a := l2))) rfl (fun y hy => ⟨t, by simpa using hy, ht2⟩)
        refine ⟨d, d, d1, d2, shd, shd, _, rfl, ifF (by rw [ee]; rfl) ?_⟩
        exact ⟨p, n, _, qL, h, L, _, _, _, _, _, _, rfl, S2.same s35, True.intro⟩
    clear S5 pr e5
    obtain ⟨p, n, vH, qL, h, L, y5, y6, y7, y8, y9, y10, rfl, S6, _⟩ := g6
    have n2 := S6.hb.lo
    have n5 := S6.hb.hi
    -- what is no layout
    refine ⟨GS K (tabsL P1 P2) a (fun p n H ys => ∃ v, ys[1]? = some (some v) ∧ NoL K H n v), fun σ7 H7 g7 => ?_, ?_⟩
    case refine_2 =>
      have hM : SqT K H6 qL (L.map V.int) := .inl S6.fL.kx
      have hnl := perm_len S6.pm
      refine ⟨_, rfl, _, rfl, qL, _, rfl, .inr hM, fun l1 hl1 => ⟨_, rfl, 1, rfl, ?_⟩⟩
      have s1 := same_new (o := .lst (L.map V.int)) hl1
      unfold tNoPart
      dsimp only
      refine slT_from 1 1 rfl (onT s1 hM) fun b1 H2 s2 h2 => ?_
      refine ⟨by show 1 ≤ sizeLine; decide, fun t3 ht3 => ?_⟩
      have s3 := same_new (o := .tup [.int 0]) ht3
      refine ⟨_, rfl, t3, (n : Int), [.int 0], rfl, rfl, tupAt upd_same, by simp, by omega, by omega, by show 1 ≤ 1000; decide, fun r3 hr3 => ?_⟩
      have ez : (List.replicate ((n : Int)).toNat [V.int 0]).flatten = (List.replicate n (0 : Int)).map V.int := by rw [Int.toNat_natCast, rep_zeros]
      have s4 := same_new (o := .tup (List.replicate ((n : Int)).toNat [V.int 0]).flatten) hr3
      intro d hd
      have s5 := same_new (o := .dK []) hd
      refine ⟨by show 5 ≤ sizeLine; decide, fun lo hlo => ?_⟩
      have s6 := same_new (o := .lst [.non, .ref l1, .ref b1, .ref r3, .ref d]) hlo
      have s36 := s3.trans (s4.trans (s5.trans s6))
      have sB := s1.trans (s2.trans (s3.trans (s4.trans s5)))
      have S3 := S6.same (sB.trans s6)
      refine ⟨p, lo, _, rfl, S3.row, upd_same, (S6.same sB).neq hlo, by show 0 < 5; decide, by show 5 ≤ 1000; decide, fun iw wx H5 hwx hB2 hR2 => ?_⟩
      have e1 := onT s36 h2
      rw [← List.map_drop] at e1
      have np : ∀ v ∈ [V.non, .ref l1, .ref b1, .ref r3, .ref d], NoL K _ n v := fun v hv => by
        rcases List.mem_cons.mp hv with rfl | hv
        · exact .no .non
        rcases List.mem_cons.mp hv with rfl | hv
        · exact .no (.lst (lstAt ((s2.trans s36) _ _ upd_same)))
        rcases List.mem_cons.mp hv with rfl | hv
        · exact .ints e1 (by rw [List.length_drop]; omega) (by rw [List.length_drop]; omega)
        rcases List.mem_cons.mp hv with rfl | hv
        · exact .zeros (by rw [← ez]; exact tupAt ((s5.trans s6) _ _ upd_same)) n2 n5
        rw [List.mem_singleton.mp hv]
        exact .no (.dct (s6 _ _ upd_same))
      exact ⟨p, n, _, qL, h, L, _, _, _, _, _, _, rfl, S3.but hB2 hR2, wx, rfl, (np wx (List.mem_of_getElem? hwx)).but hB2 S3.row hR2⟩
    clear S6 n2 n5
    obtain ⟨p, n, vH, qL, h, L, y5, y6, y7, y8, y9, y10, rfl, S7, v, e7, nl⟩ := g7
    obtain rfl : y6 = some v := Option.some.inj e7
    refine ⟨GS K (tabsL P1 P2) a (fun _ _ _ _ => True), fun σ8 H8 g8 => ?_, ?_⟩
    case refine_2 =>
      refine ⟨_, rfl, _, rfl, vH, v, .non, .non, rfl, S7.tb, fun lst f1 f2 f3 f4 cl H1 ext tb1 hl st m1 m2 m3 m4 => ?_⟩
      have S1 := S7.ext ext tb1
      have nl1 := nl.ext ext
      refine ⟨lst, rfl, ⟨_, lstAt hl⟩, fun D hD => ?_⟩
      refine lc_ref (fun _ v => v = .str "layout") (fun H H' v f z => z) (lstAt hl) (by show 4 ≤ 1000; decide) hD (fun i x H' hx sm Q Ex hq => ?_) (fun H' ys sm eD len all => ?_)
      · have st2 := st.same sm
        have nl2 := nl1.on sm
        have gk := (S1.same sm).hk
        match i, hx with
        | 0, hx =>
          cases Option.some.inj hx
          exact ref_word (b := 1) rfl rfl K1 (rdyN (lokW1 A1) (m1.same sm) (fun Q E e => ⟨vH, v, .non, rfl, .inl (hl_l st2 gk nl2 e)⟩)) hq
        | 1, hx =>
          cases Option.some.inj hx
          exact ref_word (b := 1) rfl rfl K1 (rdyN (lokW2 A2) (m2.same sm) (fun Q E e => ⟨vH, v, .non, rfl, .inl (hl_l st2 gk nl2 e)⟩)) hq
        | 2, hx =>
          cases Option.some.inj hx
          exact ref_word (b := 1) rfl rfl K1 (rdyN (lokW3 A3) (m3.same sm) (fun Q E e => ⟨vH, v, .non, .non, rfl, .inl (.inl (hl_l st2 gk nl2 e))⟩)) hq
        | 3, hx =>
          cases Option.some.inj hx
          exact ref_word (b := 1) rfl rfl K1 (rdyN (lokW4 A4) (m4.same sm) (fun Q E e => ⟨vH, v, .non, .non, rfl, .inl (.inl (hl_l st2 gk nl2 e))⟩)) hq
        | i + 4, hx => simp at hx
      · have S2 := S1.same sm
        refine ⟨by show 1 ≤ sizeLine; decide, fun l hl' => ?_⟩
        have s4 := same_new (o := .lst [.str "layout"]) hl'
        refine ⟨l, 4, [.str "layout"], rfl, rfl, upd_same, by decide, by decide, by show 1 * 4 ≤ sizeLine; decide +kernel, fun l2 hl2 => ?_⟩
        have s5 := same_new (o := .lst (List.replicate ((4 : Int)).toNat [V.str "layout"]).flatten) hl2
        have s35 := s4.trans s5
        obtain ⟨d, d1, d2, shd, ee⟩ := word_data (K := K) 4 "layout" ⟨by decide +kernel, by decide +kernel⟩ (lstAt (s35 _ _ eD)) len all (zs := [V.str "layout", V.str "layout", V.str "layout", V.str "layout"]) (lstAt (upd_same (a := l2))) rfl (fun y hy => by simpa using hy)
        refine ⟨d, d, d1, d2, shd, shd, _, rfl, ifF (by rw [ee]; rfl) ?_⟩
        exact ⟨p, n, _, qL, h, L, _, _, _, _, _, _, rfl, S2.same s35, True.intro⟩
    clear S7 nl e7
    obtain ⟨p, n, vH, qL, h, L, y5, y6, y7, y8, y9, y10, rfl, S8, _⟩ := g8
    -- no word
    refine ⟨GS K (tabsL P1 P2) a (fun p n H ys => ∃ v, ys[2]? = some (some v) ∧ NoW K H n v), fun σ9 H9 g9 => ?_, ?_⟩
    case refine_2 =>
      refine ⟨_, rfl, by show 1 ≤ sizeLine; decide, fun l1 hl1 => ?_⟩
      have s1 := same_new (o := .lst [.int 0]) hl1
      refine ⟨_, rfl, by show 1 ≤ sizeLine; decide, fun t1 ht1 => ⟨by show 1 ≤ sizeLine; decide, fun t2 ht2 => ⟨by show 1 ≤ sizeLine; decide, fun t3 ht3 => ?_⟩⟩⟩
      have s2 := same_new (o := .tup [.int (n : Int)]) ht1
      have s3 := same_new (o := .tup [.bl true]) ht2
      have s4 := same_new (o := .tup [.str "0"]) ht3
      refine ⟨0, 1, rfl, rfl, by show 1 ≤ sizeLine; decide, fun t4 ht4 => ⟨by show 1 ≤ sizeLine; decide, fun t5 ht5 => ?_⟩⟩
      have s5 := same_new (o := .tup [.int (0 - 1)]) ht4
      have s6 := same_new (o := .tup [.int 0]) ht5
      refine ⟨t5, 401, [.int 0], rfl, rfl, tupAt upd_same, by simp, by decide, by decide, by decide, fun t6 ht6 => ?_⟩
      have s7 := same_new (o := .tup (List.replicate ((401 : Int)).toNat [V.int 0]).flatten) ht6
      intro d hd
      have s8 := same_new (o := .dK []) hd
      refine ⟨by show 9 ≤ sizeLine; decide, fun lo hlo => ?_⟩
      have s10 := same_new (o := .lst [.non, .ref l1, .ref t1, .ref t2, .ref t3, .ref t4, .ref t6, .int 0, .ref d]) hlo
      have s510 := s5.trans (s6.trans (s7.trans (s8.trans s10)))
      have sB := s1.trans (s2.trans (s3.trans (s4.trans (s5.trans (s6.trans (s7.trans s8))))))
      have S3 := S8.same (sB.trans s10)
      refine ⟨p, lo, _, rfl, S3.row, upd_same, (S8.same sB).neq hlo, by show 0 < 9; decide, by show 9 ≤ 1000; decide, fun iw wx H2 hwx hB2 hR2 => ?_⟩
      have np : ∀ v ∈ [V.non, .ref l1, .ref t1, .ref t2, .ref t3, .ref t4, .ref t6, .int 0, .ref d], NoW K _ n v := fun v hv => by
        rcases List.mem_cons.mp hv with rfl | hv
        · exact .no .non
        rcases List.mem_cons.mp hv with rfl | hv
        · exact .no (.lst (lstAt ((s2.trans (s3.trans (s4.trans s510))) _ _ upd_same)))
        rcases List.mem_cons.mp hv with rfl | hv
        · exact .one (tupAt ((s3.trans (s4.trans s510)) _ _ upd_same)) (.int _) inV2_n
        rcases List.mem_cons.mp hv with rfl | hv
        · exact .one (tupAt ((s4.trans s510) _ _ upd_same)) (.bl _) rfl
        rcases List.mem_cons.mp hv with rfl | hv
        · exact .one (tupAt (s510 _ _ upd_same)) (.str _) rfl
        rcases List.mem_cons.mp hv with rfl | hv
        · exact .one (tupAt ((s6.trans (s7.trans (s8.trans s10))) _ _ upd_same)) (.int _) (by show (decide ((0 : Int) ≤ 0 - 1) && decide ((0 - 1 : Int) ≤ (n : Int) - 1)) = false; rfl)
        rcases List.mem_cons.mp hv with rfl | hv
        · exact .long (tupAt ((s8.trans s10) _ _ upd_same)) (by decide +kernel)
        rcases List.mem_cons.mp hv with rfl | hv
        · exact .no (.int _)
        rw [List.mem_singleton.mp hv]
        exact .no (.dct (s10 _ _ upd_same))
      exact ⟨p, n, _, qL, h, L, _, _, _, _, _, _, rfl, S3.but hB2 hR2, wx, rfl, (np wx (List.mem_of_getElem? hwx)).but hB2 S3.row hR2⟩
    clear S8
    obtain ⟨p, n, vH, qL, h, L, y5, y6, y7, y8, y9, y10, rfl, S9, v, e9, nw⟩ := g9
    obtain rfl : y7 = some v := Option.some.inj e9
    refine ⟨GS K (tabsL P1 P2) a (fun _ _ _ _ => True), fun σ10 H10 g10 => ?_, ?_⟩
    case refine_2 =>
      refine ⟨_, rfl, _, rfl, _, rfl, vH, .ref qL, v, .non, rfl, S9.tb, fun lst f1 f2 f3 f4 cl H1 ext tb1 hl st m1 m2 m3 m4 => ?_⟩
      have S1 := S9.ext ext tb1
      have nw1 := nw.ext ext
      refine ⟨lst, rfl, ⟨_, lstAt hl⟩, fun D hD => ?_⟩
      refine lc_ref (fun _ v => v = .str "word") (fun H H' v f z => z) (lstAt hl) (by show 4 ≤ 1000; decide) hD (fun i x H' hx sm Q Ex hq => ?_) (fun H' ys sm eD len all => ?_)
      · have st2 := st.same sm
        have nw2 := nw1.ext (same_ext sm)
        have gd := (S1.same sm).good
        match i, hx with
        | 0, hx =>
          cases Option.some.inj hx
          exact ref_word (b := 3) rfl rfl K3 (rdyN (lokW1 A1) (m1.same sm) (fun Q E e => ⟨vH, .ref qL, v, rfl, hl_w st2 gd nw2 e⟩)) hq
        | 1, hx =>
          cases Option.some.inj hx
          exact ref_word (b := 3) rfl rfl K3 (rdyN (lokW2 A2) (m2.same sm) (fun Q E e => ⟨vH, .ref qL, v, rfl, hl_w st2 gd nw2 e⟩)) hq
        | 2, hx =>
          cases Option.some.inj hx
          exact ref_word (b := 3) rfl rfl K3 (rdyN (lokW3 A3) (m3.same sm) (fun Q E e => ⟨vH, .ref qL, v, .non, rfl, .inl (hl_w st2 gd nw2 e)⟩)) hq
        | 3, hx =>
          cases Option.some.inj hx
          exact ref_word (b := 3) rfl rfl K3 (rdyN (lokW4 A4) (m4.same sm) (fun Q E e => ⟨vH, .ref qL, v, .non, rfl, .inl (hl_w st2 gd nw2 e)⟩)) hq
        | i + 4, hx => simp at hx
      · have S2 := S1.same sm
        refine ⟨by show 1 ≤ sizeLine; decide, fun l hl' => ?_⟩
        have s4 := same_new (o := .lst [.str "word"]) hl'
        refine ⟨l, 4, [.str "word"], rfl, rfl, upd_same, by decide, by decide, by show 1 * 4 ≤ sizeLine; decide +kernel, fun l2 hl2 => ?_⟩
        have s5 := same_new (o := .lst (List.replicate ((4 : Int)).toNat [V.str "word"]).flatten) hl2
        have s35 := s4.trans s5
        obtain ⟨d, d1, d2, shd, ee⟩ := word_data (K := K) 4 "word" ⟨by decide +kernel, by decide +kernel⟩ (lstAt (s35 _ _ eD)) len all (zs := [V.str "word", V.str "word", V.str "word", V.str "word"]) (lstAt (upd_same (a := l2))) rfl (fun y hy => by simpa using hy)
        refine ⟨d, d, d1, d2, shd, shd, _, rfl, ifF (by rw [ee]; rfl) ?_⟩
        exact ⟨p, n, _, qL, h, L, _, _, _, _, _, _, rfl, S2.same s35, True.intro⟩
    clear S9 nw e9
    obtain ⟨p, n, vH, qL, h, L, y5, y6, y7, y8, y9, y10, rfl, S10, _⟩ := g10
    refine ⟨GS K (tabsL P1 P2) a (fun p n H ys => ∃ v, ys[3]? = some (some v) ∧ NoP K H n v), fun σ11 H11 g11 => ?_, ?_⟩
    case refine_2 =>
      refine ⟨_, rfl, 0, 1, rfl, rfl, _, rfl, by show 1 ≤ sizeLine; decide, fun t1 ht1 => ⟨by show 6 ≤ sizeLine; decide, fun lo hlo => ?_⟩⟩
      have s1 := same_new (o := .tup [.int 0]) ht1
      have s2 := same_new (o := .lst [.non, .bl true, .int (0 - 1), .int (n : Int), .str "0", .ref t1]) hlo
      have S3 := S10.same (s1.trans s2)
      refine ⟨p, lo, _, rfl, S3.row, upd_same, (S10.same s1).neq hlo, by show 0 < 6; decide, by show 6 ≤ 1000; decide, fun iw wx H2 hwx hB2 hR2 => ?_⟩
      have np : ∀ v ∈ [V.non, .bl true, .int (0 - 1), .int (n : Int), .str "0", .ref t1], NoP K _ n v := fun v hv => by
        rcases List.mem_cons.mp hv with rfl | hv
        · exact ⟨.non, rfl⟩
        rcases List.mem_cons.mp hv with rfl | hv
        · exact ⟨.bl _, rfl⟩
        rcases List.mem_cons.mp hv with rfl | hv
        · exact ⟨.int _, (by show (decide ((0 : Int) ≤ 0 - 1) && decide ((0 - 1 : Int) ≤ (n : Int) - 1)) = false; rfl)⟩
        rcases List.mem_cons.mp hv with rfl | hv
        · exact ⟨.int _, inV2_n⟩
        rcases List.mem_cons.mp hv with rfl | hv
        · exact ⟨.str _, rfl⟩
        rw [List.mem_singleton.mp hv]
        exact ⟨.tup (tupAt (s2 _ _ upd_same)), rfl⟩
      exact ⟨p, n, _, qL, h, L, _, _, _, _, _, _, rfl, S3.but hB2 hR2, wx, rfl, (np wx (List.mem_of_getElem? hwx)).but hB2 S3.row hR2⟩
    clear S10
    obtain ⟨p, n, vH, qL, h, L, y5, y6, y7, y8, y9, y10, rfl, T11, v, e11, ns⟩ := g11
    obtain rfl : y8 = some v := Option.some.inj e11
    refine ⟨GS K (tabsL P1 P2) a (fun _ _ _ _ => True), fun σ12 H12 g12 => ?_, ?_⟩
    case refine_2 =>
      have n2 := T11.hb.lo
      refine ⟨_, rfl, _, rfl, by show 1 ≤ sizeLine; decide, fun t1 ht1 => ⟨_, rfl, ?_⟩⟩
      have s1 := same_new (o := .tup [.int 0]) ht1
      refine ⟨vH, .ref qL, .ref t1, v, rfl, (T11.same s1).tb, fun lst f1 f2 f3 f4 cl H1 ext tb1 hl st m1 m2 m3 m4 => ?_⟩
      have S1 := (T11.same s1).ext ext tb1
      have gd := S1.good
      have hW : SqT K H1 t1 [.int 0] := extN_tups ext _ _ (tupAt upd_same)
      have hw : Wd K H1 (.ref t1) (some [.int 0]) := wd_ints (ns := [0]) hW (by decide)
      have ns1 : NoP K H1 n v := (NoP.ext ext (⟨ns.1.on s1, ns.2⟩ : NoP K _ n v))
      refine ⟨lst, _, 2, .ref f3, rfl, rfl, lstAt hl, rfl, ?_⟩
      refine ⟨f3, Cp, 2, rfl, K2, .inl ⟨rfl, rdyN (lokW3 A3) m3 (fun Q E e => ⟨vH, .ref qL, .ref t1, v, rfl, .inr ⟨n, some [.int 0], good_era st gd, ⟨hw.t.era st, fun _ => hw.era st⟩, wrd0 n2, ns1.1.era st, ns1.2, e⟩⟩), fun H3 s3 => ?_⟩⟩
      exact ⟨rfl, _, rfl, ifF (by decide +kernel) ⟨p, n, _, qL, h, L, _, _, _, _, _, _, rfl, S1.same s3, True.intro⟩⟩
    clear T11 ns e11
    obtain ⟨p, n, vH, qL, h, L, y5, y6, y7, y8, y9, y10, rfl, S12, _⟩ := g12
    refine ⟨GS K (tabsL P1 P2) a (fun p n H ys => ∃ v, ys[3]? = some (some v) ∧ (Sw K H v ∧ inV2 0 0 v = false)), fun σ13 H13 g13 => ?_, ?_⟩
    case refine_2 =>
      refine ⟨_, rfl, 0, 1, rfl, rfl, by show 1 ≤ sizeLine; decide, fun t1 ht1 => ⟨by show 6 ≤ sizeLine; decide, fun lo hlo => ?_⟩⟩
      have s1 := same_new (o := .tup [.int 0]) ht1
      have s2 := same_new (o := .lst [.non, .bl true, .int (0 - 1), .int 1, .str "0", .ref t1]) hlo
      have S3 := S12.same (s1.trans s2)
      refine ⟨p, lo, _, rfl, S3.row, upd_same, (S12.same s1).neq hlo, by show 0 < 6; decide, by show 6 ≤ 1000; decide, fun iw wx H2 hwx hB2 hR2 => ?_⟩
      have np : ∀ v ∈ [V.non, .bl true, .int (0 - 1), .int 1, .str "0", .ref t1], (Sw K _ v ∧ inV2 0 0 v = false) := fun v hv => by
        rcases List.mem_cons.mp hv with rfl | hv
        · exact ⟨.non, rfl⟩
        rcases List.mem_cons.mp hv with rfl | hv
        · exact ⟨.bl _, rfl⟩
        rcases List.mem_cons.mp hv with rfl | hv
        · exact ⟨.int _, (by decide)⟩
        rcases List.mem_cons.mp hv with rfl | hv
        · exact ⟨.int _, (by decide)⟩
        rcases List.mem_cons.mp hv with rfl | hv
        · exact ⟨.str _, rfl⟩
        rw [List.mem_singleton.mp hv]
        exact ⟨.tup (tupAt (s2 _ _ upd_same)), rfl⟩
      exact ⟨p, n, _, qL, h, L, _, _, _, _, _, _, rfl, S3.but hB2 hR2, wx, rfl, ⟨(np wx (List.mem_of_getElem? hwx)).1.but hB2 S3.row hR2, (np wx (List.mem_of_getElem? hwx)).2⟩⟩
    clear S12
    obtain ⟨p, n, vH, qL, h, L, y5, y6, y7, y8, y9, y10, rfl, T13, v, e13, ns⟩ := g13
    obtain rfl : y8 = some v := Option.some.inj e13
    refine ⟨GS K (tabsL P1 P2) a (fun _ _ _ _ => True), fun σ14 H14 g14 => ?_, ?_⟩
    case refine_2 =>
      have n2 := T13.hb.lo
      refine ⟨_, rfl, _, rfl, by show 1 ≤ sizeLine; decide, fun t1 ht1 => ⟨_, rfl, ?_⟩⟩
      have s1 := same_new (o := .tup [.int 0]) ht1
      refine ⟨vH, .ref qL, .ref t1, v, rfl, (T13.same s1).tb, fun lst f1 f2 f3 f4 cl H1 ext tb1 hl st m1 m2 m3 m4 => ?_⟩
      have S1 := (T13.same s1).ext ext tb1
      have gd := S1.good
      have hW : SqT K H1 t1 [.int 0] := extN_tups ext _ _ (tupAt upd_same)
      have hw : Wd K H1 (.ref t1) (some [.int 0]) := wd_ints (ns := [0]) hW (by decide)
      have ns1 : Sw K H1 v ∧ inV2 0 0 v = false := ⟨(ns.1.on s1).ext ext, ns.2⟩
      refine ⟨lst, _, 3, .ref f4, rfl, rfl, lstAt hl, rfl, ?_⟩
      refine ⟨f4, Cn, 4, rfl, K4, .inl ⟨rfl, rdyN (lokW4 A4) m4 (fun Q E e => ⟨vH, .ref qL, .ref t1, v, rfl, .inr ⟨n, some [.int 0], good_era st gd, ⟨hw.t.era st, fun _ => hw.era st⟩, wrd0 n2, ⟨t1, _, rfl, era_tups st _ _ hW⟩, ns1.1.era st, ns1.2, e⟩⟩), fun H3 s3 => ?_⟩⟩
      exact ⟨rfl, _, rfl, ifF (by decide +kernel) ⟨p, n, _, qL, h, L, _, _, _, _, _, _, rfl, S1.same s3, True.intro⟩⟩
    clear T13 ns e13
    obtain ⟨p, n, vH, qL, h, L, y5, y6, y7, y8, y9, y10, rfl, S14, _⟩ := g14
    refine ⟨GS K (tabsL P1 P2) a (fun p n H ys => ∃ v, ys[4]? = some (some v) ∧ NoN K H v), fun σ15 H15 g15 => ?_, ?_⟩
    case refine_2 =>
      refine ⟨_, rfl, by show 1 ≤ sizeLine; decide, fun t1 ht1 => ⟨by show 6 ≤ sizeLine; decide, fun lo hlo => ?_⟩⟩
      have s1 := same_new (o := .tup [.int 3]) ht1
      have s2 := same_new (o := .lst [.non, .bl true, .int 1, .int 6, .str "3", .ref t1]) hlo
      have S3 := S14.same (s1.trans s2)
      refine ⟨p, lo, _, rfl, S3.row, upd_same, (S14.same s1).neq hlo, by show 0 < 6; decide, by show 6 ≤ 1000; decide, fun iw wx H2 hwx hB2 hR2 => ?_⟩
      have np : ∀ v ∈ [V.non, .bl true, .int 1, .int 6, .str "3", .ref t1], NoN K _ v := fun v hv => by
        rcases List.mem_cons.mp hv with rfl | hv
        · exact ⟨.non, rfl⟩
        rcases List.mem_cons.mp hv with rfl | hv
        · exact ⟨.bl _, rfl⟩
        rcases List.mem_cons.mp hv with rfl | hv
        · exact ⟨.int _, by decide⟩
        rcases List.mem_cons.mp hv with rfl | hv
        · exact ⟨.int _, by decide⟩
        rcases List.mem_cons.mp hv with rfl | hv
        · exact ⟨.str _, rfl⟩
        rw [List.mem_singleton.mp hv]
        exact ⟨.tup (tupAt (s2 _ _ upd_same)), rfl⟩
      exact ⟨p, n, _, qL, h, L, _, _, _, _, _, _, rfl, S3.but hB2 hR2, wx, rfl, (np wx (List.mem_of_getElem? hwx)).but hB2 S3.row hR2⟩
    clear S14
    obtain ⟨p, n, vH, qL, h, L, y5, y6, y7, y8, y9, y10, rfl, S15, v, e15, nn⟩ := g15
    obtain rfl : y9 = some v := Option.some.inj e15
    refine ⟨GS K (tabsL P1 P2) a (fun _ _ _ _ => True), fun σ16 H16 g16 => ?_, ?_⟩
    case refine_2 =>
      refine ⟨_, rfl, v, .non, rfl, S15.tb, fun lst f1 f2 cl H1 ext tb1 hl st m1 m2 => ?_⟩
      have S1 := S15.ext ext tb1
      have nn1 := nn.ext ext
      refine ⟨lst, rfl, ⟨_, lstAt hl⟩, fun D hD => ?_⟩
      refine lc_ref (fun _ v => v = .str "number") (fun H H' v f z => z) (lstAt hl) (by show 2 ≤ 1000; decide) hD (fun i x H' hx sm Q Ex hq => ?_) (fun H' ys sm eD len all => ?_)
      · have st2 := st.same sm
        have nn2 : NoN K H' v := ⟨nn1.1.on sm, nn1.2⟩
        match i, hx with
        | 0, hx =>
          cases Option.some.inj hx
          exact ref_word (b := 4) rfl rfl K4 (rdyN (lokT1 A5) (m1.same sm) (fun Q E e => ⟨v, .non, rfl, nn2.1.era st2, .inl ⟨nn2.2, e⟩⟩)) hq
        | 1, hx =>
          cases Option.some.inj hx
          exact ref_word (b := 4) rfl rfl K4 (rdyN (lokT2 A6) (m2.same sm) (fun Q E e => ⟨v, .non, rfl, nn2.1.era st2, .inl ⟨nn2.2, e⟩⟩)) hq
        | i + 2, hx => simp at hx
      · have S2 := S1.same sm
        refine ⟨by show 1 ≤ sizeLine; decide, fun l hl' => ?_⟩
        have s4 := same_new (o := .lst [.str "number"]) hl'
        refine ⟨l, 2, [.str "number"], rfl, rfl, upd_same, by decide, by decide, by show 1 * 2 ≤ sizeLine; decide +kernel, fun l2 hl2 => ?_⟩
        have s5 := same_new (o := .lst (List.replicate ((2 : Int)).toNat [V.str "number"]).flatten) hl2
        have s35 := s4.trans s5
        obtain ⟨d, d1, d2, shd, ee⟩ := word_data (K := K) 2 "number" ⟨by decide +kernel, by decide +kernel⟩ (lstAt (s35 _ _ eD)) len all (zs := [V.str "number", V.str "number"]) (lstAt (upd_same (a := l2))) rfl (fun y hy => by simpa using hy)
        refine ⟨d, d, d1, d2, shd, shd, _, rfl, ifF (by rw [ee]; rfl) ?_⟩
        exact ⟨p, n, _, qL, h, L, _, _, _, _, _, _, rfl, S2.same s35, True.intro⟩
    clear S15 nn e15
    obtain ⟨p, n, vH, qL, h, L, y5, y6, y7, y8, y9, y10, rfl, S16, _⟩ := g16
    refine ⟨GS K (tabsL P1 P2) a (fun p n H ys => ∃ v, ys[5]? = some (some v) ∧ NoSt K H v), fun σ17 H17 g17 => ?_, ?_⟩
    case refine_2 =>
      refine ⟨_, rfl, by show 1 ≤ sizeLine; decide, fun t1 ht1 => ⟨by show 1 ≤ sizeLine; decide, fun l1 hl1 => ?_⟩⟩
      have s1 := same_new (o := .tup [.str "say"]) ht1
      have s2 := same_new (o := .lst [.str "say"]) hl1
      intro d hd
      have s3 := same_new (o := .dK []) hd
      refine ⟨by show 6 ≤ sizeLine; decide, fun lo hlo => ?_⟩
      have s4 := same_new (o := .lst [.non, .int 0, .bl true, .ref t1, .ref l1, .ref d]) hlo
      have sB := s1.trans (s2.trans s3)
      have S3 := S16.same (sB.trans s4)
      refine ⟨p, lo, _, rfl, S3.row, upd_same, (S16.same sB).neq hlo, by show 0 < 6; decide, by show 6 ≤ 1000; decide, fun iw wx H2 hwx hB2 hR2 => ?_⟩
      have np : ∀ v ∈ [V.non, .int 0, .bl true, .ref t1, .ref l1, .ref d], NoSt K _ v := fun v hv => by
        rcases List.mem_cons.mp hv with rfl | hv
        · exact ⟨rfl, none, .non⟩
        rcases List.mem_cons.mp hv with rfl | hv
        · exact ⟨rfl, none, .int _⟩
        rcases List.mem_cons.mp hv with rfl | hv
        · exact ⟨rfl, none, .bl _⟩
        rcases List.mem_cons.mp hv with rfl | hv
        · exact ⟨rfl, _, .tup (tupAt ((s2.trans (s3.trans s4)) _ _ upd_same))⟩
        rcases List.mem_cons.mp hv with rfl | hv
        · exact ⟨rfl, none, .lst (lstAt ((s3.trans s4) _ _ upd_same))⟩
        rw [List.mem_singleton.mp hv]
        exact ⟨rfl, none, .dct (s4 _ _ upd_same)⟩
      exact ⟨p, n, _, qL, h, L, _, _, _, _, _, _, rfl, S3.but hB2 hR2, wx, rfl, (np wx (List.mem_of_getElem? hwx)).but hB2 S3.row hR2⟩
    clear S16
    obtain ⟨p, n, vH, qL, h, L, y5, y6, y7, y8, y9, y10, rfl, S17, v, e17, nt⟩ := g17
    obtain rfl : y10 = some v := Option.some.inj e17
    refine ⟨GS K (tabsL P1 P2) a (fun _ _ _ _ => True), fun σ18 H18 g18 => ?_, ?_⟩
    case refine_2 =>
      have n2 := S17.hb.lo
      have n5 := S17.hb.hi
      refine ⟨_, rfl, _, rfl, .int (n : Int), v, rfl, S17.tb, fun lst f1 f2 cl H1 ext tb1 hl st m1 m2 => ?_⟩
      have S1 := S17.ext ext tb1
      have nt1 := nt.ext ext
      refine ⟨lst, _, 0, .ref f1, rfl, rfl, lstAt hl, rfl, ?_⟩
      refine ⟨f1, Cs, 6, rfl, K6, .inl ⟨rfl, rdyN (lokT1 A5) m1 (fun Q E e => ⟨.int (n : Int), v, rfl, .int _, .inr ⟨in_places n2 n5, nt1.era st, e⟩⟩), fun H3 s3 => ?_⟩⟩
      exact ⟨rfl, _, rfl, ifF (by decide +kernel) ⟨p, n, _, qL, h, L, _, _, _, _, _, _, rfl, S1.same s3, True.intro⟩⟩
    clear S17 nt e17
    obtain ⟨p, n, vH, qL, h, L, y5, y6, y7, y8, y9, y10, rfl, S18, _⟩ := g18
    refine ⟨GS K (tabsL P1 P2) a (fun p n H ys => ∃ (o : Addr) (xs : List V), ys[0]? = some (some (.ref o)) ∧ H o = some (.lst xs) ∧ o ≠ p ∧ xs.length = 5 ∧ ∀ v ∈ xs, Pg K H n v), fun σ19 H19 g19 => ?_, ?_⟩
    case refine_2 =>
      refine ⟨by show 2 ≤ sizeLine; decide, fun t1 ht1 => ⟨by show 0 ≤ sizeLine; decide, fun t2 ht2 => ⟨by show 2 ≤ sizeLine; decide, fun t3 ht3 => ⟨_, rfl, by show 2 ≤ sizeLine; decide, fun t4 ht4 => ⟨by show 1 ≤ sizeLine; decide, fun t5 ht5 => ⟨by show 2 ≤ sizeLine; decide, fun t6 ht6 => ?_⟩⟩⟩⟩⟩⟩
      have s1 := same_new (o := .tup [.non, .non]) ht1
      have s2 := same_new (o := .tup []) ht2
      have s3 := same_new (o := .tup [.ref t2, .non]) ht3
      have s4 := same_new (o := .tup [.str "get", .int (n : Int)]) ht4
      have s5 := same_new (o := .tup [.ref t4]) ht5
      have s6 := same_new (o := .tup [.ref t5, .int 0]) ht6
      refine ⟨by show 1 ≤ sizeLine; decide, fun t7 ht7 => ⟨by show 2 ≤ sizeLine; decide, fun t8 ht8 => ⟨by show 2 ≤ sizeLine; decide, fun t9 ht9 => ⟨by show 2 ≤ sizeLine; decide, fun t10 ht10 => ⟨by show 2 ≤ sizeLine; decide, fun t11 ht11 => ⟨by show 5 ≤ sizeLine; decide, fun lo hlo => ?_⟩⟩⟩⟩⟩⟩
      have s7 := same_new (o := .tup [.str "say"]) ht7
      have s8 := same_new (o := .tup [.str "hop", .int 0]) ht8
      have s9 := same_new (o := .tup [.ref t7, .ref t8]) ht9
      have s10 := same_new (o := .tup [.ref t9, .int 1]) ht10
      have s11 := same_new (o := .tup [.str "say", .non]) ht11
      have s12 := same_new (o := .lst [.ref t1, .ref t3, .ref t6, .ref t10, .ref t11]) hlo
      have s1012 := s10.trans (s11.trans s12)
      have s712 := s7.trans (s8.trans (s9.trans s1012))
      have s412 := s4.trans (s5.trans (s6.trans s712))
      have sB := s1.trans (s2.trans (s3.trans (s4.trans (s5.trans (s6.trans (s7.trans (s8.trans (s9.trans (s10.trans s11)))))))))
      have w4 : Wd K _ (.ref t4) (some [.str "get", .int (n : Int)]) := wd_head (ns := [(n : Int)]) (tupAt ((s5.trans (s6.trans s712)) _ _ upd_same)) (.str _) (by show 1 < 63; decide)
      have w7 : Wd K _ (.ref t7) (some [.str "say"]) := wd_head (ns := []) (tupAt ((s8.trans (s9.trans s1012)) _ _ upd_same)) (.str _) (by show 0 < 63; decide)
      have w8 : Wd K _ (.ref t8) (some [.str "hop", .int 0]) := wd_head (ns := [0]) (tupAt ((s9.trans s1012) _ _ upd_same)) (.str _) (by show 1 < 63; decide)
      have np : ∀ v ∈ [V.ref t1, .ref t3, .ref t6, .ref t10, .ref t11], Pg K _ n v := fun v hv => by
        rcases List.mem_cons.mp hv with rfl | hv
        · exact ⟨t1, .non, .non, rfl, tupAt ((s2.trans (s3.trans s412)) _ _ upd_same), .inl rfl, none, .no .non, rfl⟩
        rcases List.mem_cons.mp hv with rfl | hv
        · exact ⟨t3, .ref t2, .non, rfl, tupAt (s412 _ _ upd_same), .inl rfl, some [], .tup (xs := []) (tupAt ((s3.trans s412) _ _ upd_same)) .nil, rfl⟩
        rcases List.mem_cons.mp hv with rfl | hv
        · exact ⟨t6, .ref t5, .int 0, rfl, tupAt (s712 _ _ upd_same), .inr ⟨0, by decide, rfl⟩, some [some [.str "get", .int (n : Int)]], .tup (xs := [.ref t4]) (tupAt ((s6.trans s712) _ _ upd_same)) (.cons w4 .nil), pg_get⟩
        rcases List.mem_cons.mp hv with rfl | hv
        · exact ⟨t10, .ref t9, .int 1, rfl, tupAt ((s11.trans s12) _ _ upd_same), .inr ⟨1, by decide, rfl⟩, some [some [.str "say"], some [.str "hop", .int 0]], .tup (xs := [.ref t7, .ref t8]) (tupAt (s1012 _ _ upd_same)) (.cons w7 (.cons w8 .nil)), pg_hop⟩
        rw [List.mem_singleton.mp hv]
        exact ⟨t11, .str "say", .non, rfl, tupAt (s12 _ _ upd_same), .inl rfl, none, .no (.str _), rfl⟩
      exact ⟨p, n, _, qL, h, L, _, _, _, _, _, _, rfl, S18.same (sB.trans s12), lo, _, rfl, upd_same, (S18.same sB).neq hlo, rfl, np⟩
    clear S18
    obtain ⟨p, n, vH, qL, h, L, y5, y6, y7, y8, y9, y10, rfl, S19, o, xs, e19, el, np, len, all⟩ := g19
    obtain rfl : y5 = some (.ref o) := Option.some.inj e19
    refine ⟨GS K (tabsL P1 P2) a (fun p n H ys => ∃ v, ys[0]? = some (some v) ∧ Pg K H n v), fun σ20 H20 g20 => ?_, ?_⟩
    case refine_2 =>
      refine ⟨_, rfl, _, rfl, p, o, xs, rfl, S19.row, el, np, by omega, by omega, fun iw wx H2 hwx hB2 hR2 => ?_⟩
      exact ⟨p, n, _, qL, h, L, _, _, _, _, _, _, rfl, S19.but hB2 hR2, wx, rfl, (all wx (List.mem_of_getElem? hwx)).but hB2 S19.row hR2⟩
    clear S19 el np len all e19
    obtain ⟨p, n, vH, qL, h, L, y5, y6, y7, y8, y9, y10, rfl, S20, v, e20, pg⟩ := g20
    obtain rfl : y5 = some v := Option.some.inj e20
    · obtain ⟨t0, x, pl, rfl, hS0, hpl, ho, hk, hb⟩ := pg
      have n2 := S20.hb.lo
      have n5 := S20.hb.hi
      refine ⟨_, rfl, _, rfl, t0, _, 0, x, rfl, rfl, hS0, rfl, .int (n : Int), x, rfl, S20.tb, fun lst f1 f2 cl H1 ext tb1 hl st m1 m2 => ?_⟩
      have hS1 := extN_tups ext _ _ hS0
      have hk1 := hk.ext ext
      refine ⟨lst, _, 1, .ref f2, rfl, rfl, lstAt hl, rfl, ?_⟩
      refine ⟨f2, Cg, 5, rfl, K5, .inr ⟨gG, "index", pl, rfl, hpl, rdyB (lokT2 A6) m2 (fun Q E e => ⟨.int (n : Int), x, rfl, .int _, .inr ⟨(n : Int), ho, pl, rfl, in_places n2 n5, hk1.era st, hb, hpl, e⟩⟩), fun H3 t3 s3 ht3 => ?_⟩⟩
      refine ⟨_, rfl, t0, _, 1, pl, rfl, rfl, onT s3 hS1, rfl, by show 2 ≤ sizeLine; decide, fun t4 ht4 => ?_⟩
      have s4 := same_new (o := .tup [.str "program", pl]) ht4
      obtain ⟨d, d1, d2, shd, ee⟩ := one_data (K := K) "program" hpl (fun d h => sh1p h) (tupAt (s4 _ _ ht3)) (tupAt (upd_same (a := t4)))
      refine ⟨d, d, d1, d2, shd, shd, ?_⟩
      rw [ee]
      exact q _
end
end RH
set_option Elab.async false
set_option linter.all false
set_option maxRecDepth 100000
set_option maxHeartbeats 2000000
namespace RH
open PySem PySem.Spec PyProof.Rows L2
open LamX (Tabs TabS TabB ExtN CodeO codeO_ne)
/-! ### what the top has left -/
theorem df_mk {K : PySem.W.Frag} {h : Heap} {mg : Str → Option Value} (X : K.In h) (G : h.Ns mainGlobals mg) {x : Str} {st : Stmt} {ps : List Str} {f : Addr} {od an : Option Addr} {sl : Array (Option Value)} {oc kV dc pm cd ct : Value}
    (a : PySem.W.nsIn K mainGlobals x = some (some (.ref f))) (l : K.lookup f = some ⟨oc, od, .func (PySem.W.fnOf x x (defArgs st) (defBody st) (defScope st) .none kV dc pm an cd ct), sl⟩) (c : PySem.W.codeIn K cd x = true) (k : PySem.W.keepIn K (.ref f) = true)
    (b : ∀ (kV doc pm : Value) (an : Option Addr) (cdv ct : Value) (us : List Value), us.length = ps.length → bindArgs (PySem.W.fnOf x x (defArgs st) (defBody st) (defScope st) .none kV doc pm an cdv ct) ⟨us, []⟩ = pure (ps.zip us)) : Df K mg x st ps := by
  have F := fun_mk (st := st) l c k
  exact ⟨f, _, F, PySem.W.mg_of X G a, F.binds b⟩
theorem dfc_mk {K : PySem.W.Frag} {h : Heap} {mg : Str → Option Value} (X : K.In h) (G : h.Ns mainGlobals mg) {x : Str} {st : Stmt} {ps : List Str} {f c : Addr} {od an : Option Addr} {sl : Array (Option Value)} {oc kV dc pm ct : Value}
    (a : PySem.W.nsIn K mainGlobals x = some (some (.ref f))) (l : K.lookup f = some ⟨oc, od, .func (PySem.W.fnOf x x (defArgs st) (defBody st) (defScope st) .none kV dc pm an (.ref c) ct), sl⟩) (cc : PySem.W.codeIn K (.ref c) x = true) (k : PySem.W.keepIn K (.ref f) = true)
    (b : ∀ (kV doc pm : Value) (an : Option Addr) (cdv ct : Value) (us : List Value), us.length = ps.length → bindArgs (PySem.W.fnOf x x (defArgs st) (defBody st) (defScope st) .none kV doc pm an cdv ct) ⟨us, []⟩ = pure (ps.zip us)) : DfC K mg x st ps c := by
  have F := fun_mk (st := st) l cc k
  exact ⟨f, oc, od, kV, dc, pm, an, ct, sl, l, cc, k, PySem.W.mg_of X G a, F.binds b⟩
/-- where a code object's table stands -/
def tabOf (o : Obj) : Option Value := match o.data with
  | .fields vs => vs.toList[11]?
  | _ => none
/-- a maker: its code object, its table -/
structure Mkr (K : PySem.W.Frag) (h : Heap) (mg : Str → Option Value) (x : Str) (st : Stmt) (ps : List Str) (c p : Addr) : Prop where
  df : DfC K mg x st ps c
  hd : PySem.W.CodeHd h c p
  no : K.lookup p = none
  tab : h.get? p = some (PySem.W.tabObj #[])
theorem mkr {K : PySem.W.Frag} {h : Heap} {mg : Str → Option Value} (X : K.In h) (G : h.Ns mainGlobals mg) {x : Str} {st : Stmt} {ps : List Str} {f c p : Addr} {od an : Option Addr} {sl : Array (Option Value)} {oc kV dc pm ct : Value} {o : Obj}
    (a : PySem.W.nsIn K mainGlobals x = some (some (.ref f))) (l : K.lookup f = some ⟨oc, od, .func (PySem.W.fnOf x x (defArgs st) (defBody st) (defScope st) .none kV dc pm an (.ref c) ct), sl⟩) (cc : PySem.W.codeIn K (.ref c) x = true) (k : PySem.W.keepIn K (.ref f) = true)
    (lc : K.lookup c = some o) (t : tabOf o = some (.ref p)) (d : ∀ K' : PySem.W.Frag, K'.lookup c = some o → PySem.W.codeHdIn K' c p = true) (e : K.lookup p = none) (g : h.get? p = some (PySem.W.tabObj #[]))
    (b : ∀ (kV doc pm : Value) (an : Option Addr) (cdv ct : Value) (us : List Value), us.length = ps.length → bindArgs (PySem.W.fnOf x x (defArgs st) (defBody st) (defScope st) .none kV doc pm an cdv ct) ⟨us, []⟩ = pure (ps.zip us)) :
    Mkr K h mg x st ps c p := ⟨dfc_mk X G a l cc k b, PySem.W.codeHd_of_K X (d K lc), e, g⟩
theorem two {A B : Addr → Addr → Prop} {c p c2 p2 : Addr} (a : A c p) (b : B c2 p2) (n : (p != p2) = true) : ∃ c p c2 p2, A c p ∧ B c2 p2 ∧ p ≠ p2 := ⟨c, p, c2, p2, a, b, fun z => by
  rw [z] at n
  simp at n⟩
/-- the written part that is meant -/
abbrev kOf {K : PySem.W.Frag} {h : Heap} (_ : K.In h) : PySem.W.Frag := K
theorem const_mk {K : PySem.W.Frag} {h : Heap} {mg : Str → Option Value} (X : K.In h) (G : h.Ns mainGlobals mg) {x : Str} {i : Int} {t : Tok} (a : PySem.W.nsIn K mainGlobals x = some (some (.int i t))) : ∃ t, mg x = some (.int i t) := ⟨t, PySem.W.mg_of X G a⟩
/-- what the end asks of the law -/
def spEnd (K : PySem.W.Frag) (T : List (Addr × Str)) : Sp := fun vs H Q _ => ∃ (a : Addr) (ns : List Int), vs = [.ref a] ∧ SqL K H a (ns.map V.int) ∧ Tabs T H ∧ ∀ H', Q (.bl true) H'
/-- a list that no one writes may be told by its very object -/
theorem frozen {P : Program} {w : World} {K : PySem.W.Frag} {mg : Str → Option Value} {base : Heap} {k : Nat} {f : Addr} {fd : FuncData} {T : List (Addr × Str)} (F : FnOk P w K mg base CX0 k f fd ["script"] (spLaw K T)) : FnOk P w K mg base CX0 k f fd ["script"] (spEnd K T) := by
  refine ⟨fun vs H Q E h => ?_, fun A outer s H args us vs Q E hr e0 hb r h => ?_⟩
  · obtain ⟨a, ns, rfl, _⟩ := h
    rfl
  obtain ⟨a, ns, rfl, hS, hT, q⟩ := h
  rcases hS with (hS | ⟨o, hS⟩) | hS
  · obtain ⟨z, its, n, rv, ho⟩ := (show ObjOk P w H s.heap a (.lst (ns.map V.int)) from e0.hok a _ hS)
    have hne : ∀ b, H b = none ↔ upd H a (.frz { cls := .type "list", data := .seq its.toArray n } (.lst (ns.map V.int))) b = none := fun b => by
      by_cases e : b = a
      · subst e
        rw [hS, upd_same]
        exact ⟨fun z => (nomatch z), fun z => (nomatch z)⟩
      · rw [upd_ne e]
    have ext : ∀ b u, H b = some u → (∀ xs, u ≠ .lst xs) → upd H a (.frz { cls := .type "list", data := .seq its.toArray n } (.lst (ns.map V.int))) b = some u := fun b u e nu => by
      rw [upd_ne (fun z => by subst z; rw [hS] at e; exact nu _ (Option.some.inj e).symm)]
      exact e
    have hok : HOk P w (upd H a (.frz { cls := .type "list", data := .seq its.toArray n } (.lst (ns.map V.int)))) s.heap := fun b u e => by
      by_cases eb : b = a
      · subst eb
        rw [upd_same] at e
        cases e
        exact ⟨ho, z, its, n, rv, ho⟩
      · rw [upd_ne eb] at e
        exact (e0.hok b u e).stay (fun c v _ h => h) (fun c h => ext _ _ h (fun xs z => nomatch z)) (fun c xs h => ext _ _ h (fun xs z => nomatch z))
    have e1 : Env0 P w K mg base A outer s (upd H a (.frz { cls := .type "list", data := .seq its.toArray n } (.lst (ns.map V.int)))) :=
      ⟨e0.frames, e0.mod, fun b o e => ⟨(e0.bs b o e).1, (hne b).mp (e0.bs b o e).2⟩, e0.bsz, e0.funs, fun b h => (hne b).mp (e0.frf b h), hok, e0.bare⟩
    have hT1 : Tabs T (upd H a (.frz { cls := .type "list", data := .seq its.toArray n } (.lst (ns.map V.int)))) := Fix.tabs (fun b u e nu => ext b u e nu) hT
    refine codeAny_mono (F.run A outer s _ args us [.ref a] Q E hr e1 hb r ⟨a, ns, rfl, .inl ⟨_, upd_same⟩, hT1, q⟩) fun rr s' h => ?_
    cases rr with
    | error e => exact h
    | ok fl =>
      cases fl with
      | ret u =>
        obtain ⟨v, H', os, bare, un, hok', r', q'⟩ := h
        refine ⟨v, H', os, bare, ⟨fun b o e n => un.keep b o e ((hne b).mp n), fun b o e n => un.slot b o e ((hne b).mp n), fun b o e n => un.free b o e ((hne b).mp n), un.there, fun b xs e => un.tups b xs (ext b _ e (fun ys z => nomatch z)), fun b o u e => un.frzs b o u (ext b _ e (fun ys z => nomatch z)), fun b ps e => un.tbls b ps (ext b _ e (fun ys z => nomatch z))⟩, hok', r', q'⟩
      | next => exact h
      | brk => exact h
      | cont => exact h
  · exact F.run A outer s H args us [.ref a] Q E hr e0 hb r ⟨a, ns, rfl, .inl ⟨o, hS⟩, hT, q⟩
  · exact F.run A outer s H args us [.ref a] Q E hr e0 hb r ⟨a, ns, rfl, .inr fun H' => .inr hS, hT, q⟩
theorem ctup_mk {K : PySem.W.Frag} {h : Heap} {mg : Str → Option Value} (X : K.In h) (G : h.Ns mainGlobals mg) {x : Str} {zs : List Str} {a : Addr} {o : Obj} {its : List Value} {n : Nat} (ha : PySem.W.nsIn K mainGlobals x = some (some (.ref a))) (l : K.lookup a = some o) (c : o.cls = .type "tuple") (d : o.data = .seq its.toArray n) (s : its.length ≤ 100) (v : Vals (zs.map V.str) its) : CTup K mg x zs :=
  ⟨a, o, its.toArray, n, PySem.W.mg_of X G ha, l, c, d, by have : (100 : Nat) ≤ sizeLine := (by rw [sizeLine_eq]; decide +kernel); simpa using Nat.le_trans s this, by simpa using v⟩
/-- the code object's file is the law's -/
def fileV (P : Program) : Option Value → Bool
  | some (Value.str file _) => (P.main.file : Str) == file
  | _ => false
def fileOk (P : Program) (o : Obj) : Bool := match o.data with
  | Data.fields vs => fileV P vs[2]?
  | _ => false
theorem fileOk_ex {P : Program} {K : PySem.W.Frag} {c : Addr} {o : Obj} (l : K.lookup c = some o) (h : fileOk P o = true) : ∃ (ccl : Value) (cdd : Option Addr) (vs : Array Value) (ccs : Array (Option Value)) (file : Str) (tf : Tok), K.lookup c = some ⟨ccl, cdd, .fields vs, ccs⟩ ∧ vs[2]? = some (.str file tf) ∧ ((P.main.file : Str) == file) = true := by
  obtain ⟨a, b, d, e⟩ := o
  unfold fileOk at h
  dsimp only at h
  split at h
  · rename_i vs0 vs
    cases hv : vs[2]? with
    | none =>
      rw [hv] at h
      cases h
    | some u =>
      rw [hv] at h
      cases u <;> first | (cases h; done) | skip
      rename_i file tf
      exact ⟨a, b, vs, e, file, tf, l, hv, h⟩
  · cases h
/-- the errors, as the top has left them -/
theorem errs_mk {K : PySem.W.Frag} {h : Heap} {mg : Str → Option Value} (P : Program) (X : K.In h) (G : h.Ns mainGlobals mg) {S c0 c1 c2 c3 c4 c5 c6 : Addr} (aS : PySem.W.nsIn K mainGlobals "ShelfError" = some (some (.ref S)))
    (a0 : PySem.W.nsIn K mainGlobals "BadHabit" = some (some (.ref c0)))
    (a1 : PySem.W.nsIn K mainGlobals "BadLayout" = some (some (.ref c1)))
    (a2 : PySem.W.nsIn K mainGlobals "BadPlace" = some (some (.ref c2)))
    (a3 : PySem.W.nsIn K mainGlobals "BadWord" = some (some (.ref c3)))
    (a4 : PySem.W.nsIn K mainGlobals "BadNumber" = some (some (.ref c4)))
    (a5 : PySem.W.nsIn K mainGlobals "BadProgram" = some (some (.ref c5)))
    (a6 : PySem.W.nsIn K mainGlobals "BadString" = some (some (.ref c6)))
    (kp0 : PySem.W.keepIn K (.ref c0) = true) (b0 : PySem.W.subIn K (.ref c0) (.type "BaseException") = some true) (t0 : PySem.W.typeIn K (.ref c0) = some (.type "type"))
    (xg0 : PySem.W.findIn K (.ref c0) "__getattribute__" = some (some (.builtin "BaseException.__getattribute__"))) (xk0 : PySem.W.findIn K (.ref c0) "__getattr__" = some none) (xd0 : PySem.W.hasDictIn K c0 = true) (xa0 : PySem.W.findIn K (.ref c0) "__class__" = some (some (.builtin "object.__class__"))) (xm0 : PySem.W.mroIn K c0 (.type "object") = some true) (es0 : PySem.W.exmOne K (.ref c0) (.ref S) = some true)
    (o0_0 : PySem.W.kitOne K (.ref c0) (.ref c0) = some true)
    (o0_1 : PySem.W.kitOne K (.ref c0) (.ref c1) = some false)
    (o0_2 : PySem.W.kitOne K (.ref c0) (.ref c2) = some false)
    (o0_3 : PySem.W.kitOne K (.ref c0) (.ref c3) = some false)
    (o0_4 : PySem.W.kitOne K (.ref c0) (.ref c4) = some false)
    (o0_5 : PySem.W.kitOne K (.ref c0) (.ref c5) = some false)
    (o0_6 : PySem.W.kitOne K (.ref c0) (.ref c6) = some false)
    (q1 : PySem.W.excIn K c1 [.type "ValueError", .type "Exception", .type "BaseException", .type "object"] "ValueError.__new__" = true)
    (kp1 : PySem.W.keepIn K (.ref c1) = true) (b1 : PySem.W.subIn K (.ref c1) (.type "BaseException") = some true) (t1 : PySem.W.typeIn K (.ref c1) = some (.type "type"))
    (xg1 : PySem.W.findIn K (.ref c1) "__getattribute__" = some (some (.builtin "BaseException.__getattribute__"))) (xk1 : PySem.W.findIn K (.ref c1) "__getattr__" = some none) (xd1 : PySem.W.hasDictIn K c1 = true) (xa1 : PySem.W.findIn K (.ref c1) "__class__" = some (some (.builtin "object.__class__"))) (xm1 : PySem.W.mroIn K c1 (.type "object") = some true) (es1 : PySem.W.exmOne K (.ref c1) (.ref S) = some true)
    (o1_0 : PySem.W.kitOne K (.ref c1) (.ref c0) = some false)
    (o1_1 : PySem.W.kitOne K (.ref c1) (.ref c1) = some true)
    (o1_2 : PySem.W.kitOne K (.ref c1) (.ref c2) = some false)
    (o1_3 : PySem.W.kitOne K (.ref c1) (.ref c3) = some false)
    (o1_4 : PySem.W.kitOne K (.ref c1) (.ref c4) = some false)
    (o1_5 : PySem.W.kitOne K (.ref c1) (.ref c5) = some false)
    (o1_6 : PySem.W.kitOne K (.ref c1) (.ref c6) = some false)
    (q2 : PySem.W.excIn K c2 [.type "ValueError", .type "Exception", .type "BaseException", .type "object"] "ValueError.__new__" = true)
    (kp2 : PySem.W.keepIn K (.ref c2) = true) (b2 : PySem.W.subIn K (.ref c2) (.type "BaseException") = some true) (t2 : PySem.W.typeIn K (.ref c2) = some (.type "type"))
    (xg2 : PySem.W.findIn K (.ref c2) "__getattribute__" = some (some (.builtin "BaseException.__getattribute__"))) (xk2 : PySem.W.findIn K (.ref c2) "__getattr__" = some none) (xd2 : PySem.W.hasDictIn K c2 = true) (xa2 : PySem.W.findIn K (.ref c2) "__class__" = some (some (.builtin "object.__class__"))) (xm2 : PySem.W.mroIn K c2 (.type "object") = some true) (es2 : PySem.W.exmOne K (.ref c2) (.ref S) = some true)
    (o2_0 : PySem.W.kitOne K (.ref c2) (.ref c0) = some false)
    (o2_1 : PySem.W.kitOne K (.ref c2) (.ref c1) = some false)
    (o2_2 : PySem.W.kitOne K (.ref c2) (.ref c2) = some true)
    (o2_3 : PySem.W.kitOne K (.ref c2) (.ref c3) = some false)
    (o2_4 : PySem.W.kitOne K (.ref c2) (.ref c4) = some false)
    (o2_5 : PySem.W.kitOne K (.ref c2) (.ref c5) = some false)
    (o2_6 : PySem.W.kitOne K (.ref c2) (.ref c6) = some false)
    (q3 : PySem.W.excIn K c3 [.type "ValueError", .type "Exception", .type "BaseException", .type "object"] "ValueError.__new__" = true)
    (kp3 : PySem.W.keepIn K (.ref c3) = true) (b3 : PySem.W.subIn K (.ref c3) (.type "BaseException") = some true) (t3 : PySem.W.typeIn K (.ref c3) = some (.type "type"))
    (xg3 : PySem.W.findIn K (.ref c3) "__getattribute__" = some (some (.builtin "BaseException.__getattribute__"))) (xk3 : PySem.W.findIn K (.ref c3) "__getattr__" = some none) (xd3 : PySem.W.hasDictIn K c3 = true) (xa3 : PySem.W.findIn K (.ref c3) "__class__" = some (some (.builtin "object.__class__"))) (xm3 : PySem.W.mroIn K c3 (.type "object") = some true) (es3 : PySem.W.exmOne K (.ref c3) (.ref S) = some true)
    (o3_0 : PySem.W.kitOne K (.ref c3) (.ref c0) = some false)
    (o3_1 : PySem.W.kitOne K (.ref c3) (.ref c1) = some false)
    (o3_2 : PySem.W.kitOne K (.ref c3) (.ref c2) = some false)
    (o3_3 : PySem.W.kitOne K (.ref c3) (.ref c3) = some true)
    (o3_4 : PySem.W.kitOne K (.ref c3) (.ref c4) = some false)
    (o3_5 : PySem.W.kitOne K (.ref c3) (.ref c5) = some false)
    (o3_6 : PySem.W.kitOne K (.ref c3) (.ref c6) = some false)
    (q4 : PySem.W.excIn K c4 [.type "ValueError", .type "Exception", .type "BaseException", .type "object"] "ValueError.__new__" = true)
    (kp4 : PySem.W.keepIn K (.ref c4) = true) (b4 : PySem.W.subIn K (.ref c4) (.type "BaseException") = some true) (t4 : PySem.W.typeIn K (.ref c4) = some (.type "type"))
    (xg4 : PySem.W.findIn K (.ref c4) "__getattribute__" = some (some (.builtin "BaseException.__getattribute__"))) (xk4 : PySem.W.findIn K (.ref c4) "__getattr__" = some none) (xd4 : PySem.W.hasDictIn K c4 = true) (xa4 : PySem.W.findIn K (.ref c4) "__class__" = some (some (.builtin "object.__class__"))) (xm4 : PySem.W.mroIn K c4 (.type "object") = some true) (es4 : PySem.W.exmOne K (.ref c4) (.ref S) = some true)
    (o4_0 : PySem.W.kitOne K (.ref c4) (.ref c0) = some false)
    (o4_1 : PySem.W.kitOne K (.ref c4) (.ref c1) = some false)
    (o4_2 : PySem.W.kitOne K (.ref c4) (.ref c2) = some false)
    (o4_3 : PySem.W.kitOne K (.ref c4) (.ref c3) = some false)
    (o4_4 : PySem.W.kitOne K (.ref c4) (.ref c4) = some true)
    (o4_5 : PySem.W.kitOne K (.ref c4) (.ref c5) = some false)
    (o4_6 : PySem.W.kitOne K (.ref c4) (.ref c6) = some false)
    (kp5 : PySem.W.keepIn K (.ref c5) = true) (b5 : PySem.W.subIn K (.ref c5) (.type "BaseException") = some true) (t5 : PySem.W.typeIn K (.ref c5) = some (.type "type"))
    (xg5 : PySem.W.findIn K (.ref c5) "__getattribute__" = some (some (.builtin "BaseException.__getattribute__"))) (xk5 : PySem.W.findIn K (.ref c5) "__getattr__" = some none) (xd5 : PySem.W.hasDictIn K c5 = true) (xa5 : PySem.W.findIn K (.ref c5) "__class__" = some (some (.builtin "object.__class__"))) (xm5 : PySem.W.mroIn K c5 (.type "object") = some true) (es5 : PySem.W.exmOne K (.ref c5) (.ref S) = some true)
    (o5_0 : PySem.W.kitOne K (.ref c5) (.ref c0) = some false)
    (o5_1 : PySem.W.kitOne K (.ref c5) (.ref c1) = some false)
    (o5_2 : PySem.W.kitOne K (.ref c5) (.ref c2) = some false)
    (o5_3 : PySem.W.kitOne K (.ref c5) (.ref c3) = some false)
    (o5_4 : PySem.W.kitOne K (.ref c5) (.ref c4) = some false)
    (o5_5 : PySem.W.kitOne K (.ref c5) (.ref c5) = some true)
    (o5_6 : PySem.W.kitOne K (.ref c5) (.ref c6) = some false)
    (q6 : PySem.W.excIn K c6 [.type "ValueError", .type "Exception", .type "BaseException", .type "object"] "ValueError.__new__" = true)
    (kp6 : PySem.W.keepIn K (.ref c6) = true) (b6 : PySem.W.subIn K (.ref c6) (.type "BaseException") = some true) (t6 : PySem.W.typeIn K (.ref c6) = some (.type "type"))
    (xg6 : PySem.W.findIn K (.ref c6) "__getattribute__" = some (some (.builtin "BaseException.__getattribute__"))) (xk6 : PySem.W.findIn K (.ref c6) "__getattr__" = some none) (xd6 : PySem.W.hasDictIn K c6 = true) (xa6 : PySem.W.findIn K (.ref c6) "__class__" = some (some (.builtin "object.__class__"))) (xm6 : PySem.W.mroIn K c6 (.type "object") = some true) (es6 : PySem.W.exmOne K (.ref c6) (.ref S) = some true)
    (o6_0 : PySem.W.kitOne K (.ref c6) (.ref c0) = some false)
    (o6_1 : PySem.W.kitOne K (.ref c6) (.ref c1) = some false)
    (o6_2 : PySem.W.kitOne K (.ref c6) (.ref c2) = some false)
    (o6_3 : PySem.W.kitOne K (.ref c6) (.ref c3) = some false)
    (o6_4 : PySem.W.kitOne K (.ref c6) (.ref c4) = some false)
    (o6_5 : PySem.W.kitOne K (.ref c6) (.ref c5) = some false)
    (o6_6 : PySem.W.kitOne K (.ref c6) (.ref c6) = some true)
    (xn : PySem.W.specialIn K (.builtin "object.__class__") "__get__" = some (some (.builtin "getset_descriptor.__get__"))) (xt : PySem.W.takesIn K (.builtin "object.__class__") = some true)
    {nm0 q0 : Str} {N0 : Addr} {bs0 bm0 : List Value} {sn0 : List Str} {sub0 : List Value} {ab0 : Bool} {col0 : Option Bool} {dd0 : Option Addr} {m0_0 m1_0 m2_0 m3_0 m5_0 : Option Value} {f0 cc0 cda0 : Addr} {oc0 kV0 dc0 pm0 ct0 ccl0 : Value} {od0 an0 cdd0 : Option Addr} {sl0 csl0 : Array (Option Value)} {oo0 : Obj}
    (yL0 : K.lookup c0 = some (excClassObj nm0 q0 c0 N0 bs0 bm0 true sn0 sub0 ab0 col0 dd0 m0_0 m1_0 m2_0 m3_0 m5_0 "ValueError.__new__")) (yR0 : PySem.HandSPX.refsVE bm0 = true) (ysa0 : PySem.W.findIn K (.ref c0) "__setattr__" = some (some (.builtin "object.__setattr__"))) (yno0 : PySem.W.findIn K (.ref c0) "place" = some none)
    (yi0 : PySem.W.findIn K (.ref c0) "__init__" = some (some (.ref f0))) (yt0 : PySem.W.typeIn K (.ref f0) = some (.type "function")) (yl0 : K.lookup f0 = some ⟨oc0, od0, .func (PySem.W.fnX "__init__" "BadHabit.__init__" (defArgs st_e_BadHabit) (defBody st_e_BadHabit) (defScope st_e_BadHabit) [("__class__", cc0)] .none kV0 dc0 pm0 an0 (.ref cda0) ct0), sl0⟩) (yc0 : PySem.W.codeIn K (.ref cda0) "BadHabit.__init__" = true)
    (yo0 : K.lookup cda0 = some oo0) (yf0 : fileOk P oo0 = true) (yk0 : K.lookup cc0 = some ⟨ccl0, cdd0, .cell (some (.ref c0)), csl0⟩) (ym0 : PySem.W.mroIn K c0 (.ref c0) = some true)
    (ys0 : PySem.W.ks_superIn K c0 c0 "__init__" = some (some (.builtin "ValueError.__init__"))) (yv0 : PySem.W.subIn K (.ref c0) (.type "ValueError") = some true)
    {nm5 q5 : Str} {N5 : Addr} {bs5 bm5 : List Value} {sn5 : List Str} {sub5 : List Value} {ab5 : Bool} {col5 : Option Bool} {dd5 : Option Addr} {m0_5 m1_5 m2_5 m3_5 m5_5 : Option Value} {f5 cc5 cda5 : Addr} {oc5 kV5 dc5 pm5 ct5 ccl5 : Value} {od5 an5 cdd5 : Option Addr} {sl5 csl5 : Array (Option Value)} {oo5 : Obj}
    (yL5 : K.lookup c5 = some (excClassObj nm5 q5 c5 N5 bs5 bm5 true sn5 sub5 ab5 col5 dd5 m0_5 m1_5 m2_5 m3_5 m5_5 "ValueError.__new__")) (yR5 : PySem.HandSPX.refsVE bm5 = true) (ysa5 : PySem.W.findIn K (.ref c5) "__setattr__" = some (some (.builtin "object.__setattr__"))) (yno5 : PySem.W.findIn K (.ref c5) "index" = some none)
    (yi5 : PySem.W.findIn K (.ref c5) "__init__" = some (some (.ref f5))) (yt5 : PySem.W.typeIn K (.ref f5) = some (.type "function")) (yl5 : K.lookup f5 = some ⟨oc5, od5, .func (PySem.W.fnX "__init__" "BadProgram.__init__" (defArgs st_e_BadProgram) (defBody st_e_BadProgram) (defScope st_e_BadProgram) [("__class__", cc5)] .none kV5 dc5 pm5 an5 (.ref cda5) ct5), sl5⟩) (yc5 : PySem.W.codeIn K (.ref cda5) "BadProgram.__init__" = true)
    (yo5 : K.lookup cda5 = some oo5) (yf5 : fileOk P oo5 = true) (yk5 : K.lookup cc5 = some ⟨ccl5, cdd5, .cell (some (.ref c5)), csl5⟩) (ym5 : PySem.W.mroIn K c5 (.ref c5) = some true)
    (ys5 : PySem.W.ks_superIn K c5 c5 "__init__" = some (some (.builtin "ValueError.__init__"))) (yv5 : PySem.W.subIn K (.ref c5) (.type "ValueError") = some true)
    (ya : PySem.W.nsIn K cStatics "thirdparty.any" = some none) (yg : PySem.W.nsIn K mainGlobals "super" = some none) (yp : (P.main.scope.names.lookup ("super" : Str)).isSome = false)
    : ∃ S c0 c1 c2 c3 c4 c5 c6, Five mg S c0 c1 c2 c3 c4 c5 c6 ∧ ExcC K c0 ∧ PySem.W.findIn K (.ref c0) "place" = some none ∧ (∀ w base, BhX P w K mg base "BadHabit" "place" c0 (spBI "place" c0)) ∧ ExcC K c5 ∧ PySem.W.findIn K (.ref c5) "index" = some none ∧ (∀ w base, BhX P w K mg base "BadProgram" "index" c5 (spBI "index" c5)) ∧ ExO K mg "BadLayout" c1 ∧ ExO K mg "BadPlace" c2 ∧ ExO K mg "BadWord" c3 ∧ ExO K mg "BadNumber" c4 ∧ ExO K mg "BadString" c6 ∧ Knd K mg c0 0 ∧ Knd K mg c1 1 ∧ Knd K mg c2 2 ∧ Knd K mg c3 3 ∧ Knd K mg c4 4 ∧ Knd K mg c5 5 ∧ Knd K mg c6 6 := by
  have mS := PySem.W.mg_of X G aS
  have m0 := PySem.W.mg_of X G a0
  have m1 := PySem.W.mg_of X G a1
  have m2 := PySem.W.mg_of X G a2
  have m3 := PySem.W.mg_of X G a3
  have m4 := PySem.W.mg_of X G a4
  have m5 := PySem.W.mg_of X G a5
  have m6 := PySem.W.mg_of X G a6
  have x0 : ExcC K c0 := ⟨xg0, xk0, b0, xd0, xa0, xn, xt, xm0⟩
  have x1 : ExcC K c1 := ⟨xg1, xk1, b1, xd1, xa1, xn, xt, xm1⟩
  have x2 : ExcC K c2 := ⟨xg2, xk2, b2, xd2, xa2, xn, xt, xm2⟩
  have x3 : ExcC K c3 := ⟨xg3, xk3, b3, xd3, xa3, xn, xt, xm3⟩
  have x4 : ExcC K c4 := ⟨xg4, xk4, b4, xd4, xa4, xn, xt, xm4⟩
  have x5 : ExcC K c5 := ⟨xg5, xk5, b5, xd5, xa5, xn, xt, xm5⟩
  have x6 : ExcC K c6 := ⟨xg6, xk6, b6, xd6, xa6, xn, xt, xm6⟩
  have ox0 : OexC K c0 := ⟨⟨_, _, _, _, _, _, _, _, _, _, _, _, _, _, _, yL0, yR0⟩, ysa0, b0, t0, kp0⟩
  have M0 : SupC P K mg c0 "BadHabit.__init__" st_e_BadHabit f0 _ cc0 cda0 := ⟨ox0, ⟨_, _, _, _, _, _, _, _, rfl, yl0⟩, yc0, fileOk_ex yo0 yf0, ⟨_, _, _, yk0⟩, ym0, ya, ys0, yv0, PySem.W.mg_none_of X G yg, yp⟩
  have bh0 : ∀ w base, BhX P w K mg base "BadHabit" "place" c0 (spBI "place" c0) := fun w base => ⟨ox0, m0, f0, _, ok_BadHabit M0 yno0, yi0, yt0, .all fun us hl => match us, hl with | [_, _], _ => rfl⟩
  have ox5 : OexC K c5 := ⟨⟨_, _, _, _, _, _, _, _, _, _, _, _, _, _, _, yL5, yR5⟩, ysa5, b5, t5, kp5⟩
  have M5 : SupC P K mg c5 "BadProgram.__init__" st_e_BadProgram f5 _ cc5 cda5 := ⟨ox5, ⟨_, _, _, _, _, _, _, _, rfl, yl5⟩, yc5, fileOk_ex yo5 yf5, ⟨_, _, _, yk5⟩, ym5, ya, ys5, yv5, PySem.W.mg_none_of X G yg, yp⟩
  have bh5 : ∀ w base, BhX P w K mg base "BadProgram" "index" c5 (spBI "index" c5) := fun w base => ⟨ox5, m5, f5, _, ok_BadProgram M5 yno5, yi5, yt5, .all fun us hl => match us, hl with | [_, _], _ => rfl⟩
  exact ⟨S, c0, c1, c2, c3, c4, c5, c6, ⟨mS, m0, m1, m2, m3, m4, m5, m6⟩, x0, yno0, bh0, x5, yno5, bh5, ⟨q1, m1, kp1, b1, t1⟩, ⟨q2, m2, kp2, b2, t2⟩, ⟨q3, m3, kp3, b3, t3⟩, ⟨q4, m4, kp4, b4, t4⟩, ⟨q6, m6, kp6, b6, t6⟩, ⟨by decide, x0, ⟨S, mS, es0⟩, ⟨c0, m0, o0_0⟩, ⟨c1, m1, o0_1⟩, ⟨c2, m2, o0_2⟩, ⟨c3, m3, o0_3⟩, ⟨c4, m4, o0_4⟩, ⟨c5, m5, o0_5⟩, ⟨c6, m6, o0_6⟩⟩, ⟨by decide, x1, ⟨S, mS, es1⟩, ⟨c0, m0, o1_0⟩, ⟨c1, m1, o1_1⟩, ⟨c2, m2, o1_2⟩, ⟨c3, m3, o1_3⟩, ⟨c4, m4, o1_4⟩, ⟨c5, m5, o1_5⟩, ⟨c6, m6, o1_6⟩⟩, ⟨by decide, x2, ⟨S, mS, es2⟩, ⟨c0, m0, o2_0⟩, ⟨c1, m1, o2_1⟩, ⟨c2, m2, o2_2⟩, ⟨c3, m3, o2_3⟩, ⟨c4, m4, o2_4⟩, ⟨c5, m5, o2_5⟩, ⟨c6, m6, o2_6⟩⟩, ⟨by decide, x3, ⟨S, mS, es3⟩, ⟨c0, m0, o3_0⟩, ⟨c1, m1, o3_1⟩, ⟨c2, m2, o3_2⟩, ⟨c3, m3, o3_3⟩, ⟨c4, m4, o3_4⟩, ⟨c5, m5, o3_5⟩, ⟨c6, m6, o3_6⟩⟩, ⟨by decide, x4, ⟨S, mS, es4⟩, ⟨c0, m0, o4_0⟩, ⟨c1, m1, o4_1⟩, ⟨c2, m2, o4_2⟩, ⟨c3, m3, o4_3⟩, ⟨c4, m4, o4_4⟩, ⟨c5, m5, o4_5⟩, ⟨c6, m6, o4_6⟩⟩, ⟨by decide, x5, ⟨S, mS, es5⟩, ⟨c0, m0, o5_0⟩, ⟨c1, m1, o5_1⟩, ⟨c2, m2, o5_2⟩, ⟨c3, m3, o5_3⟩, ⟨c4, m4, o5_4⟩, ⟨c5, m5, o5_5⟩, ⟨c6, m6, o5_6⟩⟩, ⟨by decide, x6, ⟨S, mS, es6⟩, ⟨c0, m0, o6_0⟩, ⟨c1, m1, o6_1⟩, ⟨c2, m2, o6_2⟩, ⟨c3, m3, o6_3⟩, ⟨c4, m4, o6_4⟩, ⟨c5, m5, o6_5⟩, ⟨c6, m6, o6_6⟩⟩⟩
theorem top {P : Program} {w : World} {K : PySem.W.Frag} {mg : Str → Option Value} {fa : Addr} (hfa : mg "law" = some (.ref fa)) (B : Bu mg) (c_FEWEST_PLACES : ∃ t, mg "FEWEST_PLACES" = some (.int 2 t)) (c_MOST_PLACES : ∃ t, mg "MOST_PLACES" = some (.int 5 t)) (c_MOST_TOUCHES : ∃ t, mg "MOST_TOUCHES" = some (.int 400 t)) (c_MOST_RESTLESS : ∃ t, mg "MOST_RESTLESS" = some (.int 4000 t)) (c_GREATEST : ∃ t, mg "GREATEST" = some (.int 1000000 t)) (t_BARE : CTup K mg "BARE" bareZ) (t_JUMPS : CTup K mg "JUMPS" jumpZ) (t_ACCESSES : CTup K mg "ACCESSES" accZ)
    {k1 p1 k2 p2 : Addr} (hpp : p1 ≠ p2)
    {S c0 c1 c2 c3 c4 c5 c6 : Addr} (Fv : Five mg S c0 c1 c2 c3 c4 c5 c6) (x0 : ExcC K c0) (no0 : PySem.W.findIn K (.ref c0) "place" = some none) (bh0 : ∀ base, BhX P w K mg base "BadHabit" "place" c0 (spBI "place" c0)) (x5 : ExcC K c5) (no5 : PySem.W.findIn K (.ref c5) "index" = some none) (bh5 : ∀ base, BhX P w K mg base "BadProgram" "index" c5 (spBI "index" c5)) (X1 : ExO K mg "BadLayout" c1) (X2 : ExO K mg "BadPlace" c2) (X3 : ExO K mg "BadWord" c3) (X4 : ExO K mg "BadNumber" c4) (X6 : ExO K mg "BadString" c6)
    (K0 : Knd K mg c0 0) (K1 : Knd K mg c1 1) (K2 : Knd K mg c2 2) (K3 : Knd K mg c3 3) (K4 : Knd K mg c4 4) (K5 : Knd K mg c5 5) (K6 : Knd K mg c6 6)
    (F_is_integer : Df K mg "is_integer" st_is_integer ["value"])
    (F_is_number : Df K mg "is_number" st_is_number ["value", "low", "high"])
    (F_is_row : Df K mg "is_row" st_is_row ["value", "low", "high"])
    (F_is_place : Df K mg "is_place" st_is_place ["value", "places"])
    (F_are_places : Df K mg "are_places" st_are_places ["value", "places"])
    (F_is_layout : Df K mg "is_layout" st_is_layout ["value", "places"])
    (F_is_word : Df K mg "is_word" st_is_word ["value", "places"])
    (F_is_instruction : Df K mg "is_instruction" st_is_instruction ["value", "places", "count", "is_restless"])
    (F_check_number : Df K mg "check_number" st_check_number ["value", "low", "high"])
    (F_check_string : Df K mg "check_string" st_check_string ["text"])
    (F_check_places : Df K mg "check_places" st_check_places ["places"])
    (F_check_habit : Df K mg "check_habit" st_check_habit ["habit"])
    (F_check_layout : Df K mg "check_layout" st_check_layout ["layout", "places"])
    (F_check_place : Df K mg "check_place" st_check_place ["place", "places"])
    (F_check_word : Df K mg "check_word" st_check_word ["word", "places"])
    (F_check_program : Df K mg "check_program" st_check_program ["program", "places", "most", "is_restless"])
    (F_check_restless : Df K mg "check_restless" st_check_restless ["program", "places"])
    (F_book_at : Df K mg "book_at" st_book_at ["habit", "layout", "word", "place"])
    (F_books_of : Df K mg "books_of" st_books_of ["habit", "layout", "word"])
    (F_loss_shown : Df K mg "loss_shown" st_loss_shown ["habit", "layout", "word", "spot"])
    (F_hidden_losses : Df K mg "hidden_losses" st_hidden_losses ["habit", "layout", "word"])
    (F_check_word_on_shelf : Df K mg "check_word_on_shelf" st_check_word_on_shelf ["habit", "layout", "word"])
    (F_lines_in : Df K mg "lines_in" st_lines_in ["text"])
    (F_write_program : Df K mg "write_program" st_write_program ["places", "program"])
    (F_read_program : Df K mg "read_program" st_read_program ["places", "text"])
    (F__law_taken : Df K mg "_law_taken" st__law_taken ["row", "many"])
    (F__law_order : Df K mg "_law_order" st__law_order ["row", "many"])
    (F__law_habit : Df K mg "_law_habit" st__law_habit ["row", "places"])
    (F__law_pick : Df K mg "_law_pick" st__law_pick ["row", "things"])
    (F__law_refused : Df K mg "_law_refused" st__law_refused ["work"])
    (F__law_works : DfC K mg "_law_works" st__law_works ["one", "other", "third", "fourth"] k1)
    (F__law_texts : DfC K mg "_law_texts" st__law_texts ["one", "other"] k2)
    (F_law : Df K mg "law" st_law ["script"])
    : ∃ fd : FuncData, (∀ (s : Shared) (v : Value), BindsTo s fd ⟨[v], []⟩ [("script", v)]) ∧ ∀ base : Heap, TabB base mg k1 p1 → TabB base mg k2 p2 → FnOk P w K mg base CX0 11 fa fd ["script"] (spEnd K (tabsL p1 p2)) := by
  obtain ⟨f, fd, F, g, b⟩ := F_law.ex
  have e := hfa.symm.trans g
  cases e
  refine ⟨fd, fun s v => ?_, fun base T1 T2 => ?_⟩
  · obtain ⟨oc, od, kV, doc, pm, an, cdv, ct, osl, rfl, _⟩ := F.ex
    exact .of_eq rfl
  · have C1 := ok_is_integerW (P := P) (w := w) (K := K) (base := base) F_is_integer B
    have C2 := ok_is_numberW F_is_number C1
    have CR := ok_is_rowW (P := P) (w := w) (K := K) (base := base) F_is_row B
    have C3 := ok_is_placeW F_is_place C2
    have C4 := ok_are_placesW F_are_places B C3
    have C5 := ok_is_layoutW F_is_layout B C4
    have CWd := ok_is_wordW F_is_word c_MOST_TOUCHES CR C4
    have CI := ok_is_insW F_is_instruction B t_BARE t_JUMPS t_ACCESSES c_GREATEST CR C2 C3
    have CH := ok_check_habitX F_check_habit B c_FEWEST_PLACES c_MOST_PLACES (bh0 base) CR C5
    have CL := ok_check_layoutX F_check_layout X1 C5
    have CP := ok_check_placeX F_check_place X2 C3
    have CW := ok_check_wordX F_check_word X3 CWd
    have CPs := ok_check_placesX F_check_places c_FEWEST_PLACES c_MOST_PLACES (ok_check_numberX F_check_number X4 C2)
    have CN0 := ok_check_number0 F_check_number X4 C2
    have CPg := ok_check_programX F_check_program B (bh5 base) CR CI
    have CPr := ok_check_restlessX F_check_restless c_MOST_RESTLESS CPg
    have CS := ok_check_stringX (P := P) (w := w) (base := base) F_check_string B X6
    have CLi := ok_lines_inX F_lines_in CS
    have CSh := ok_shelfX F_check_word_on_shelf B CH CL CW
    have CT := ok_taken (P := P) (w := w) (K := K) (base := base) F__law_taken B
    have COd := ok_order F__law_order B CT
    have u1 : ∀ p ∈ tabsL p1 p2, p.1 = p1 → p.2 = lamQ "_law_works" := fun p hp e => by
      rcases List.mem_cons.mp hp with rfl | hp
      · rfl
      · rw [List.mem_singleton.mp hp] at e
        exact absurd e.symm hpp
    have u2 : ∀ p ∈ tabsL p1 p2, p.1 = p2 → p.2 = lamQ "_law_texts" := fun p hp e => by
      rcases List.mem_cons.mp hp with rfl | hp
      · exact absurd e hpp
      · rw [List.mem_singleton.mp hp]
    exact frozen (ok_law F B CT (ok_pick F__law_pick B CT) COd (ok_habit F__law_habit B CT COd) (ok_works (List.Mem.head _) u1 F__law_works T1) (ok_texts (List.Mem.tail _ (List.Mem.head _)) u2 F__law_texts T2) (ok_refused F__law_refused B Fv x0 no0 x5 no5)
      (ok_books_ofX F_books_of CSh) (ok_hiddenX F_hidden_losses CSh) (ok_book_atX F_book_at B CSh CP) (ok_lossX F_loss_shown B CSh CN0) (ok_readX F_read_program B CPs CLi) (ok_writeX F_write_program CPs CPr) Fv.h0 Fv.h5 K0 K1 K2 K3 K4 K5 K6)
end RH
set_option Elab.async false
set_option linter.all false
open PySem PySem.W PyProof.Rows
set_option maxRecDepth 100000 in
set_option maxHeartbeats 0 in
theorem PySem.Challenge.cw_restlesshelf_k19_looks_refused_holds : PySem.Challenge.rw_restlesshelf_k19_looks_refused.Holds := by
  w_on; o_law; k_head; (case hw => w_witness2)
  k_fill
  refine LamX.walk_ofTs (l := PySem.Challenge.rw_restlesshelf_k19_looks_refused) (n := 63) (k := 11) (x := "script") (CX := fun _ => L2.CX0) rfl (by decide) rfl ⟨rfl, by decide, by decide⟩ (fun w h Y => PySem.W.km_in_of Y) ?F (fun _ _ _ _ _ h => h)
  case F =>
    intro w mg fa h Y KX G hmg
    have TT := PySem.W.km_tabs_of Y
    have B : RH.Bu mg := by
      refine' RH.Bu.mk (PySem.W.mg_none_of KX G ?z0) (PySem.W.mg_none_of KX G ?z1) (PySem.W.mg_none_of KX G ?z2) (PySem.W.mg_none_of KX G ?z3) (PySem.W.mg_none_of KX G ?z4) (PySem.W.mg_none_of KX G ?z5) (PySem.W.mg_none_of KX G ?z6) (PySem.W.mg_none_of KX G ?z7) (PySem.W.mg_none_of KX G ?z8) (PySem.W.mg_none_of KX G ?z9) (PySem.W.mg_none_of KX G ?z10) (PySem.W.mg_none_of KX G ?z11) (PySem.W.mg_none_of KX G ?z12)
      (case z0 => k_is); (case z1 => k_is); (case z2 => k_is); (case z3 => k_is); (case z4 => k_is); (case z5 => k_is); (case z6 => k_is); (case z7 => k_is); (case z8 => k_is); (case z9 => k_is); (case z10 => k_is); (case z11 => k_is); (case z12 => k_is)
    have c_FEWEST_PLACES : ∃ t, mg "FEWEST_PLACES" = some (.int 2 t) := by
      refine' RH.const_mk KX G ?a
      (case a => k_is)
    have c_MOST_PLACES : ∃ t, mg "MOST_PLACES" = some (.int 5 t) := by
      refine' RH.const_mk KX G ?a
      (case a => k_is)
    have c_MOST_TOUCHES : ∃ t, mg "MOST_TOUCHES" = some (.int 400 t) := by
      refine' RH.const_mk KX G ?a
      (case a => k_is)
    have c_MOST_RESTLESS : ∃ t, mg "MOST_RESTLESS" = some (.int 4000 t) := by
      refine' RH.const_mk KX G ?a
      (case a => k_is)
    have c_GREATEST : ∃ t, mg "GREATEST" = some (.int 1000000 t) := by
      refine' RH.const_mk KX G ?a
      (case a => k_is)
    have t_BARE : RH.CTup (RH.kOf KX) mg "BARE" RH.bareZ := by
      refine' RH.ctup_mk KX G ?a ?l ?c ?d ?s ?v
      (case a => k_is); (case l => k_is); (case c => exact rfl); (case d => exact rfl); (case v => exact (.cons ⟨_, rfl⟩ (.cons ⟨_, rfl⟩ (.cons ⟨_, rfl⟩ .nil)))); (case s => decide)
    have t_JUMPS : RH.CTup (RH.kOf KX) mg "JUMPS" RH.jumpZ := by
      refine' RH.ctup_mk KX G ?a ?l ?c ?d ?s ?v
      (case a => k_is); (case l => k_is); (case c => exact rfl); (case d => exact rfl); (case v => exact (.cons ⟨_, rfl⟩ (.cons ⟨_, rfl⟩ .nil))); (case s => decide)
    have t_ACCESSES : RH.CTup (RH.kOf KX) mg "ACCESSES" RH.accZ := by
      refine' RH.ctup_mk KX G ?a ?l ?c ?d ?s ?v
      (case a => k_is); (case l => k_is); (case c => exact rfl); (case d => exact rfl); (case v => exact (.cons ⟨_, rfl⟩ (.cons ⟨_, rfl⟩ (.cons ⟨_, rfl⟩ (.cons ⟨_, rfl⟩ .nil))))); (case s => decide)
    have F_is_integer : RH.Df (RH.kOf KX) mg "is_integer" RH.st_is_integer ["value"] := by
      refine' RH.df_mk KX G ?a ?l ?c ?k (fun _ _ _ _ _ _ us hl => match us, hl with | [_], _ => rfl)
      (case a => k_is); (case l => k_is); (case c => k_is); (case k => k_is)
    have F_is_number : RH.Df (RH.kOf KX) mg "is_number" RH.st_is_number ["value", "low", "high"] := by
      refine' RH.df_mk KX G ?a ?l ?c ?k (fun _ _ _ _ _ _ us hl => match us, hl with | [_, _, _], _ => rfl)
      (case a => k_is); (case l => k_is); (case c => k_is); (case k => k_is)
    have F_is_row : RH.Df (RH.kOf KX) mg "is_row" RH.st_is_row ["value", "low", "high"] := by
      refine' RH.df_mk KX G ?a ?l ?c ?k (fun _ _ _ _ _ _ us hl => match us, hl with | [_, _, _], _ => rfl)
      (case a => k_is); (case l => k_is); (case c => k_is); (case k => k_is)
    have F_is_place : RH.Df (RH.kOf KX) mg "is_place" RH.st_is_place ["value", "places"] := by
      refine' RH.df_mk KX G ?a ?l ?c ?k (fun _ _ _ _ _ _ us hl => match us, hl with | [_, _], _ => rfl)
      (case a => k_is); (case l => k_is); (case c => k_is); (case k => k_is)
    have F_are_places : RH.Df (RH.kOf KX) mg "are_places" RH.st_are_places ["value", "places"] := by
      refine' RH.df_mk KX G ?a ?l ?c ?k (fun _ _ _ _ _ _ us hl => match us, hl with | [_, _], _ => rfl)
      (case a => k_is); (case l => k_is); (case c => k_is); (case k => k_is)
    have F_is_layout : RH.Df (RH.kOf KX) mg "is_layout" RH.st_is_layout ["value", "places"] := by
      refine' RH.df_mk KX G ?a ?l ?c ?k (fun _ _ _ _ _ _ us hl => match us, hl with | [_, _], _ => rfl)
      (case a => k_is); (case l => k_is); (case c => k_is); (case k => k_is)
    have F_is_word : RH.Df (RH.kOf KX) mg "is_word" RH.st_is_word ["value", "places"] := by
      refine' RH.df_mk KX G ?a ?l ?c ?k (fun _ _ _ _ _ _ us hl => match us, hl with | [_, _], _ => rfl)
      (case a => k_is); (case l => k_is); (case c => k_is); (case k => k_is)
    have F_is_instruction : RH.Df (RH.kOf KX) mg "is_instruction" RH.st_is_instruction ["value", "places", "count", "is_restless"] := by
      refine' RH.df_mk KX G ?a ?l ?c ?k (fun _ _ _ _ _ _ us hl => match us, hl with | [_, _, _, _], _ => rfl)
      (case a => k_is); (case l => k_is); (case c => k_is); (case k => k_is)
    have F_check_number : RH.Df (RH.kOf KX) mg "check_number" RH.st_check_number ["value", "low", "high"] := by
      refine' RH.df_mk KX G ?a ?l ?c ?k (fun _ _ _ _ _ _ us hl => match us, hl with | [_, _, _], _ => rfl)
      (case a => k_is); (case l => k_is); (case c => k_is); (case k => k_is)
    have F_check_string : RH.Df (RH.kOf KX) mg "check_string" RH.st_check_string ["text"] := by
      refine' RH.df_mk KX G ?a ?l ?c ?k (fun _ _ _ _ _ _ us hl => match us, hl with | [_], _ => rfl)
      (case a => k_is); (case l => k_is); (case c => k_is); (case k => k_is)
    have F_check_places : RH.Df (RH.kOf KX) mg "check_places" RH.st_check_places ["places"] := by
      refine' RH.df_mk KX G ?a ?l ?c ?k (fun _ _ _ _ _ _ us hl => match us, hl with | [_], _ => rfl)
      (case a => k_is); (case l => k_is); (case c => k_is); (case k => k_is)
    have F_check_habit : RH.Df (RH.kOf KX) mg "check_habit" RH.st_check_habit ["habit"] := by
      refine' RH.df_mk KX G ?a ?l ?c ?k (fun _ _ _ _ _ _ us hl => match us, hl with | [_], _ => rfl)
      (case a => k_is); (case l => k_is); (case c => k_is); (case k => k_is)
    have F_check_layout : RH.Df (RH.kOf KX) mg "check_layout" RH.st_check_layout ["layout", "places"] := by
      refine' RH.df_mk KX G ?a ?l ?c ?k (fun _ _ _ _ _ _ us hl => match us, hl with | [_, _], _ => rfl)
      (case a => k_is); (case l => k_is); (case c => k_is); (case k => k_is)
    have F_check_place : RH.Df (RH.kOf KX) mg "check_place" RH.st_check_place ["place", "places"] := by
      refine' RH.df_mk KX G ?a ?l ?c ?k (fun _ _ _ _ _ _ us hl => match us, hl with | [_, _], _ => rfl)
      (case a => k_is); (case l => k_is); (case c => k_is); (case k => k_is)
    have F_check_word : RH.Df (RH.kOf KX) mg "check_word" RH.st_check_word ["word", "places"] := by
      refine' RH.df_mk KX G ?a ?l ?c ?k (fun _ _ _ _ _ _ us hl => match us, hl with | [_, _], _ => rfl)
      (case a => k_is); (case l => k_is); (case c => k_is); (case k => k_is)
    have F_check_program : RH.Df (RH.kOf KX) mg "check_program" RH.st_check_program ["program", "places", "most", "is_restless"] := by
      refine' RH.df_mk KX G ?a ?l ?c ?k (fun _ _ _ _ _ _ us hl => match us, hl with | [_, _, _, _], _ => rfl)
      (case a => k_is); (case l => k_is); (case c => k_is); (case k => k_is)
    have F_check_restless : RH.Df (RH.kOf KX) mg "check_restless" RH.st_check_restless ["program", "places"] := by
      refine' RH.df_mk KX G ?a ?l ?c ?k (fun _ _ _ _ _ _ us hl => match us, hl with | [_, _], _ => rfl)
      (case a => k_is); (case l => k_is); (case c => k_is); (case k => k_is)
    have F_book_at : RH.Df (RH.kOf KX) mg "book_at" RH.st_book_at ["habit", "layout", "word", "place"] := by
      refine' RH.df_mk KX G ?a ?l ?c ?k (fun _ _ _ _ _ _ us hl => match us, hl with | [_, _, _, _], _ => rfl)
      (case a => k_is); (case l => k_is); (case c => k_is); (case k => k_is)
    have F_books_of : RH.Df (RH.kOf KX) mg "books_of" RH.st_books_of ["habit", "layout", "word"] := by
      refine' RH.df_mk KX G ?a ?l ?c ?k (fun _ _ _ _ _ _ us hl => match us, hl with | [_, _, _], _ => rfl)
      (case a => k_is); (case l => k_is); (case c => k_is); (case k => k_is)
    have F_loss_shown : RH.Df (RH.kOf KX) mg "loss_shown" RH.st_loss_shown ["habit", "layout", "word", "spot"] := by
      refine' RH.df_mk KX G ?a ?l ?c ?k (fun _ _ _ _ _ _ us hl => match us, hl with | [_, _, _, _], _ => rfl)
      (case a => k_is); (case l => k_is); (case c => k_is); (case k => k_is)
    have F_hidden_losses : RH.Df (RH.kOf KX) mg "hidden_losses" RH.st_hidden_losses ["habit", "layout", "word"] := by
      refine' RH.df_mk KX G ?a ?l ?c ?k (fun _ _ _ _ _ _ us hl => match us, hl with | [_, _, _], _ => rfl)
      (case a => k_is); (case l => k_is); (case c => k_is); (case k => k_is)
    have F_check_word_on_shelf : RH.Df (RH.kOf KX) mg "check_word_on_shelf" RH.st_check_word_on_shelf ["habit", "layout", "word"] := by
      refine' RH.df_mk KX G ?a ?l ?c ?k (fun _ _ _ _ _ _ us hl => match us, hl with | [_, _, _], _ => rfl)
      (case a => k_is); (case l => k_is); (case c => k_is); (case k => k_is)
    have F_lines_in : RH.Df (RH.kOf KX) mg "lines_in" RH.st_lines_in ["text"] := by
      refine' RH.df_mk KX G ?a ?l ?c ?k (fun _ _ _ _ _ _ us hl => match us, hl with | [_], _ => rfl)
      (case a => k_is); (case l => k_is); (case c => k_is); (case k => k_is)
    have F_write_program : RH.Df (RH.kOf KX) mg "write_program" RH.st_write_program ["places", "program"] := by
      refine' RH.df_mk KX G ?a ?l ?c ?k (fun _ _ _ _ _ _ us hl => match us, hl with | [_, _], _ => rfl)
      (case a => k_is); (case l => k_is); (case c => k_is); (case k => k_is)
    have F_read_program : RH.Df (RH.kOf KX) mg "read_program" RH.st_read_program ["places", "text"] := by
      refine' RH.df_mk KX G ?a ?l ?c ?k (fun _ _ _ _ _ _ us hl => match us, hl with | [_, _], _ => rfl)
      (case a => k_is); (case l => k_is); (case c => k_is); (case k => k_is)
    have F__law_taken : RH.Df (RH.kOf KX) mg "_law_taken" RH.st__law_taken ["row", "many"] := by
      refine' RH.df_mk KX G ?a ?l ?c ?k (fun _ _ _ _ _ _ us hl => match us, hl with | [_, _], _ => rfl)
      (case a => k_is); (case l => k_is); (case c => k_is); (case k => k_is)
    have F__law_order : RH.Df (RH.kOf KX) mg "_law_order" RH.st__law_order ["row", "many"] := by
      refine' RH.df_mk KX G ?a ?l ?c ?k (fun _ _ _ _ _ _ us hl => match us, hl with | [_, _], _ => rfl)
      (case a => k_is); (case l => k_is); (case c => k_is); (case k => k_is)
    have F__law_habit : RH.Df (RH.kOf KX) mg "_law_habit" RH.st__law_habit ["row", "places"] := by
      refine' RH.df_mk KX G ?a ?l ?c ?k (fun _ _ _ _ _ _ us hl => match us, hl with | [_, _], _ => rfl)
      (case a => k_is); (case l => k_is); (case c => k_is); (case k => k_is)
    have F__law_pick : RH.Df (RH.kOf KX) mg "_law_pick" RH.st__law_pick ["row", "things"] := by
      refine' RH.df_mk KX G ?a ?l ?c ?k (fun _ _ _ _ _ _ us hl => match us, hl with | [_, _], _ => rfl)
      (case a => k_is); (case l => k_is); (case c => k_is); (case k => k_is)
    have F__law_refused : RH.Df (RH.kOf KX) mg "_law_refused" RH.st__law_refused ["work"] := by
      refine' RH.df_mk KX G ?a ?l ?c ?k (fun _ _ _ _ _ _ us hl => match us, hl with | [_], _ => rfl)
      (case a => k_is); (case l => k_is); (case c => k_is); (case k => k_is)
    have F_law : RH.Df (RH.kOf KX) mg "law" RH.st_law ["script"] := by
      refine' RH.df_mk KX G ?a ?l ?c ?k (fun _ _ _ _ _ _ us hl => match us, hl with | [_], _ => rfl)
      (case a => k_is); (case l => k_is); (case c => k_is); (case k => k_is)
    obtain ⟨S, c0, c1, c2, c3, c4, c5, c6, Fv, x0, no0, bh0, x5, no5, bh5, X1, X2, X3, X4, X6, K0, K1, K2, K3, K4, K5, K6⟩ : ∃ S c0 c1 c2 c3 c4 c5 c6, RH.Five mg S c0 c1 c2 c3 c4 c5 c6 ∧ L2.ExcC (RH.kOf KX) c0 ∧ PySem.W.findIn (RH.kOf KX) (.ref c0) "place" = some none ∧ (∀ w base, RH.BhX (PySem.Challenge.rw_restlesshelf_k19_looks_refused).prog w (RH.kOf KX) mg base "BadHabit" "place" c0 (RH.spBI "place" c0)) ∧ L2.ExcC (RH.kOf KX) c5 ∧ PySem.W.findIn (RH.kOf KX) (.ref c5) "index" = some none ∧ (∀ w base, RH.BhX (PySem.Challenge.rw_restlesshelf_k19_looks_refused).prog w (RH.kOf KX) mg base "BadProgram" "index" c5 (RH.spBI "index" c5)) ∧ RH.ExO (RH.kOf KX) mg "BadLayout" c1 ∧ RH.ExO (RH.kOf KX) mg "BadPlace" c2 ∧ RH.ExO (RH.kOf KX) mg "BadWord" c3 ∧ RH.ExO (RH.kOf KX) mg "BadNumber" c4 ∧ RH.ExO (RH.kOf KX) mg "BadString" c6 ∧ RH.Knd (RH.kOf KX) mg c0 0 ∧ RH.Knd (RH.kOf KX) mg c1 1 ∧ RH.Knd (RH.kOf KX) mg c2 2 ∧ RH.Knd (RH.kOf KX) mg c3 3 ∧ RH.Knd (RH.kOf KX) mg c4 4 ∧ RH.Knd (RH.kOf KX) mg c5 5 ∧ RH.Knd (RH.kOf KX) mg c6 6 := by
      refine' Exists.elim (RH.errs_mk (PySem.Challenge.rw_restlesshelf_k19_looks_refused).prog KX G ?aS ?a0 ?a1 ?a2 ?a3 ?a4 ?a5 ?a6 ?kp0 ?b0 ?t0 ?xg0 ?xk0 ?xd0 ?xa0 ?xm0 ?es0 ?o0_0 ?o0_1 ?o0_2 ?o0_3 ?o0_4 ?o0_5 ?o0_6 ?q1 ?kp1 ?b1 ?t1 ?xg1 ?xk1 ?xd1 ?xa1 ?xm1 ?es1 ?o1_0 ?o1_1 ?o1_2 ?o1_3 ?o1_4 ?o1_5 ?o1_6 ?q2 ?kp2 ?b2 ?t2 ?xg2 ?xk2 ?xd2 ?xa2 ?xm2 ?es2 ?o2_0 ?o2_1 ?o2_2 ?o2_3 ?o2_4 ?o2_5 ?o2_6 ?q3 ?kp3 ?b3 ?t3 ?xg3 ?xk3 ?xd3 ?xa3 ?xm3 ?es3 ?o3_0 ?o3_1 ?o3_2 ?o3_3 ?o3_4 ?o3_5 ?o3_6 ?q4 ?kp4 ?b4 ?t4 ?xg4 ?xk4 ?xd4 ?xa4 ?xm4 ?es4 ?o4_0 ?o4_1 ?o4_2 ?o4_3 ?o4_4 ?o4_5 ?o4_6 ?kp5 ?b5 ?t5 ?xg5 ?xk5 ?xd5 ?xa5 ?xm5 ?es5 ?o5_0 ?o5_1 ?o5_2 ?o5_3 ?o5_4 ?o5_5 ?o5_6 ?q6 ?kp6 ?b6 ?t6 ?xg6 ?xk6 ?xd6 ?xa6 ?xm6 ?es6 ?o6_0 ?o6_1 ?o6_2 ?o6_3 ?o6_4 ?o6_5 ?o6_6 ?xn ?xt ?yL0 ?yR0 ?ysa0 ?yno0 ?yi0 ?yt0 ?yl0 ?yc0 ?yo0 ?yf0 ?yk0 ?ym0 ?ys0 ?yv0 ?yL5 ?yR5 ?ysa5 ?yno5 ?yi5 ?yt5 ?yl5 ?yc5 ?yo5 ?yf5 ?yk5 ?ym5 ?ys5 ?yv5 ?ya ?yg ?yp) (fun C hC => ⟨C, hC⟩)
      (case aS => k_is); (case a0 => k_is); (case a1 => k_is); (case a2 => k_is); (case a3 => k_is); (case a4 => k_is); (case a5 => k_is); (case a6 => k_is)
      (case kp0 => k_is); (case b0 => k_is); (case t0 => k_is); (case xg0 => k_is); (case xk0 => k_is); (case xd0 => k_is); (case xa0 => k_is); (case xm0 => k_is)
      (case es0 => kts_exm); (case o0_0 => kit_is); (case o0_1 => kit_is); (case o0_2 => kit_is); (case o0_3 => kit_is); (case o0_4 => kit_is); (case o0_5 => kit_is); (case o0_6 => kit_is)
      (case q1 => k_exc); (case kp1 => k_is); (case b1 => k_is); (case t1 => k_is); (case xg1 => k_is); (case xk1 => k_is); (case xd1 => k_is); (case xa1 => k_is)
      (case xm1 => k_is); (case es1 => kts_exm); (case o1_0 => kit_is); (case o1_1 => kit_is); (case o1_2 => kit_is); (case o1_3 => kit_is); (case o1_4 => kit_is); (case o1_5 => kit_is)
      (case o1_6 => kit_is); (case q2 => k_exc); (case kp2 => k_is); (case b2 => k_is); (case t2 => k_is); (case xg2 => k_is); (case xk2 => k_is); (case xd2 => k_is)
      (case xa2 => k_is); (case xm2 => k_is); (case es2 => kts_exm); (case o2_0 => kit_is); (case o2_1 => kit_is); (case o2_2 => kit_is); (case o2_3 => kit_is); (case o2_4 => kit_is)
      (case o2_5 => kit_is); (case o2_6 => kit_is); (case q3 => k_exc); (case kp3 => k_is); (case b3 => k_is); (case t3 => k_is); (case xg3 => k_is); (case xk3 => k_is)
      (case xd3 => k_is); (case xa3 => k_is); (case xm3 => k_is); (case es3 => kts_exm); (case o3_0 => kit_is); (case o3_1 => kit_is); (case o3_2 => kit_is); (case o3_3 => kit_is)
      (case o3_4 => kit_is); (case o3_5 => kit_is); (case o3_6 => kit_is); (case q4 => k_exc); (case kp4 => k_is); (case b4 => k_is); (case t4 => k_is); (case xg4 => k_is)
      (case xk4 => k_is); (case xd4 => k_is); (case xa4 => k_is); (case xm4 => k_is); (case es4 => kts_exm); (case o4_0 => kit_is); (case o4_1 => kit_is); (case o4_2 => kit_is)
      (case o4_3 => kit_is); (case o4_4 => kit_is); (case o4_5 => kit_is); (case o4_6 => kit_is); (case kp5 => k_is); (case b5 => k_is); (case t5 => k_is); (case xg5 => k_is)
      (case xk5 => k_is); (case xd5 => k_is); (case xa5 => k_is); (case xm5 => k_is); (case es5 => kts_exm); (case o5_0 => kit_is); (case o5_1 => kit_is); (case o5_2 => kit_is)
      (case o5_3 => kit_is); (case o5_4 => kit_is); (case o5_5 => kit_is); (case o5_6 => kit_is); (case q6 => k_exc); (case kp6 => k_is); (case b6 => k_is); (case t6 => k_is)
      (case xg6 => k_is); (case xk6 => k_is); (case xd6 => k_is); (case xa6 => k_is); (case xm6 => k_is); (case es6 => kts_exm); (case o6_0 => kit_is); (case o6_1 => kit_is)
      (case o6_2 => kit_is); (case o6_3 => kit_is); (case o6_4 => kit_is); (case o6_5 => kit_is); (case o6_6 => kit_is); (case xn => k_is); (case xt => k_is); (case yL0 => k_is)
      (case yR0 => first | rfl | decide +kernel | kernel_rfl); (case ysa0 => k_is); (case yno0 => k_is); (case yi0 => k_is); (case yt0 => k_is); (case yl0 => k_is); (case yc0 => k_is); (case yo0 => k_is)
      (case yf0 => first | rfl | decide +kernel | kernel_rfl); (case yk0 => k_is); (case ym0 => k_is); (case ys0 => ks_is); (case yv0 => k_is); (case yL5 => k_is); (case yR5 => first | rfl | decide +kernel | kernel_rfl); (case ysa5 => k_is)
      (case yno5 => k_is); (case yi5 => k_is); (case yt5 => k_is); (case yl5 => k_is); (case yc5 => k_is); (case yo5 => k_is); (case yf5 => first | rfl | decide +kernel | kernel_rfl); (case yk5 => k_is)
      (case ym5 => k_is); (case ys5 => ks_is); (case yv5 => k_is); (case ya => k_is); (case yg => k_is); (case yp => first | rfl | decide +kernel | kernel_rfl)
    obtain ⟨k1, p1, k2, p2, M1, M2, hpp⟩ : ∃ k1 p1 k2 p2, RH.Mkr (RH.kOf KX) h mg "_law_works" RH.st__law_works ["one", "other", "third", "fourth"] k1 p1 ∧ RH.Mkr (RH.kOf KX) h mg "_law_texts" RH.st__law_texts ["one", "other"] k2 p2 ∧ p1 ≠ p2 := by
      refine' RH.two (RH.mkr KX G ?a ?l ?c ?k ?lc ?t ?d ?e ?g (fun _ _ _ _ _ _ us hl => match us, hl with | [_, _, _, _], _ => rfl)) (RH.mkr KX G ?a2 ?l2 ?c2 ?k2 ?lc2 ?t2 ?d2 ?e2 ?g2 (fun _ _ _ _ _ _ us hl => match us, hl with | [_, _], _ => rfl)) ?n
      (case a => k_is); (case l => k_is); (case c => k_is); (case k => k_is); (case lc => k_is); (case t => rfl); (case e => first | rfl | kernel_rfl | (with_unfolding_all rfl)); (case g => exact TT _ (by decide)); (case d => exact fun K' e => by unfold PySem.W.codeHdIn; rw [e]; rfl)
      (case a2 => k_is); (case l2 => k_is); (case c2 => k_is); (case k2 => k_is); (case lc2 => k_is); (case t2 => rfl); (case e2 => first | rfl | kernel_rfl | (with_unfolding_all rfl)); (case g2 => exact TT _ (by decide)); (case d2 => exact fun K' e => by unfold PySem.W.codeHdIn; rw [e]; rfl)
      (case n => decide)
    obtain ⟨F__law_works, hk1, hl1, hm1⟩ := M1
    obtain ⟨F__law_texts, hk2, hl2, hm2⟩ := M2
    obtain ⟨fd, hb, hF⟩ := RH.top (P := (PySem.Challenge.rw_restlesshelf_k19_looks_refused).prog) (w := w) hmg B c_FEWEST_PLACES c_MOST_PLACES c_MOST_TOUCHES c_MOST_RESTLESS c_GREATEST t_BARE t_JUMPS t_ACCESSES hpp Fv x0 no0 (bh0 w) x5 no5 (bh5 w) X1 X2 X3 X4 X6 K0 K1 K2 K3 K4 K5 K6 F_is_integer F_is_number F_is_row F_is_place F_are_places F_is_layout F_is_word F_is_instruction F_check_number F_check_string F_check_places F_check_habit F_check_layout F_check_place F_check_word F_check_program F_check_restless F_book_at F_books_of F_loss_shown F_hidden_losses F_check_word_on_shelf F_lines_in F_write_program F_read_program F__law_taken F__law_order F__law_habit F__law_pick F__law_refused F__law_works F__law_texts F_law
    refine ⟨fd, [(k1, p1), (k2, p2)], RH.spEnd (RH.kOf KX) (RH.tabsL p1 p2), ?_, ?_, ?_, hb, ?_, ?_⟩
    · intro p hp
      rcases List.mem_cons.mp hp with e | hp
      · rw [e]; exact hm1
      · rw [List.mem_singleton.mp hp]; exact hm2
    · intro p hp
      rcases List.mem_cons.mp hp with e | hp
      · rw [e]; exact hl1
      · rw [List.mem_singleton.mp hp]; exact hl2
    · intro p hp
      rcases List.mem_cons.mp hp with e | hp
      · rw [e]; exact hk1
      · rw [List.mem_singleton.mp hp]; exact hk2
    · intro H a ns _ _ hH hS
      refine ⟨a, ns, rfl, hS, fun p hp => ?_, fun _ => rfl⟩
      rcases List.mem_cons.mp hp with e | hp
      · rw [e]; exact LamX.TabS.nil (hH (k1, p1) (List.mem_cons_self ..))
      · rw [List.mem_singleton.mp hp]; exact LamX.TabS.nil (hH (k2, p2) (List.mem_cons_of_mem _ (List.mem_singleton.mpr rfl)))
    · intro base _ _ TB
      exact hF base (TB (k1, p1) (List.mem_cons_self ..)) (TB (k2, p2) (List.mem_cons_of_mem _ (List.mem_singleton.mpr rfl)))
